/- There and back, by whatever description that is right: CodecBack answers true, where what came in is of bulk at most 1048576. -/
import Derived.Test.YtdipnhghdajplaaGreatDoorP13
import Derived.Test.YtdipnhghdajplaaGreatDoorQ36
import Derived.Test.YtdipnhghdajplaaGreatDoorP17
import Derived.Test.YtdipnhghdajplaaGreatDoorQ37
import Derived.Carry
import Derived.ChangeMaps5
import Derived.Deep.DeepHandedRow
import Derived.Test.YtdipnhghdajplaaGreatDoorRows
import Derived.Test.YtdipnhghdajplaaGreatDoorTie
import Derived.Test.YtdipnhghdajplaaGreatDoorCards
import Derived.SevenTiedAt
import Derived.Lib.SmallJoins
import Derived.ProofKit
import Derived.Lay
import Derived.LaidMore
import Derived.OpenShut
import Derived.Stop.Joined
namespace Go.Proofs.YtdipnhghdajplaaGreatDoor
open Go.ChangeMaps Go.ChangeShapes Go.WideShapes Go.ChangeAt Go.RowKit Go.Joins Go.Deep
set_option linter.unusedSimpArgs false
set_option linter.unusedVariables false
theorem Tryz.own : ownKnob Tryz.prog.godebug = none := by kernel_rfl
theorem law_post {H : Type} {enc : TypeId × Value → H} {P : Program} {f : Func} {s : ChangeSpec} {W W' : World} {args : Array Value} {v : Value} {ds gs : List (DataW H)} {before : List MemPlace}
   (hW : DataW.Whole enc P f.params.toList s.vars false W args.toList ds gs before) (hb : Fr W W')
   (hres : ∀ (b : Nat) (sp : Nat → Bool) (hd : Bool), DataW.TrodAll enc P W' b sp hd f.resultTypes.toList (v.resultList f.resultTypes.size) (s.fn H (ds ++ gs)).results [])
   (hargs : ∀ sp : Nat → Bool, (∀ p ∈ before, sp p.block = true) → DataW.TrodAll enc P W' 0 sp true f.params.toList args.toList (s.fn H (ds ++ gs)).args before)
   (hvars : ∀ sp : Nat → Bool, DataW.TrodVars enc P W' sp s.vars (s.fn H (ds ++ gs)).vars []) :
   s.post enc P f false true false false W args v W' := by
 have old : ∀ p ∈ before, p.block < W.heap.size := fun p hp => hW.lt p hp
 have in0 : ∀ p ∈ before, (fun b => decide (b < W.heap.size)) p.block = true := fun p hp => by have := old p hp; simpa using this
 exact ⟨ds, gs, before, [], before, [], hW, hres _ _ _, hargs _ in0, hvars _, Below.frame hb _, fun h => absurd h (by decide)⟩
theorem laid_met (os : Os) (args : Array Value) : laidMetH Tryz.prog Rows.codecBackUptoRow.laid ((World.laidAll Tryz.prog os Rows.codecBackUptoRow.laid).forCall (fun _ _ => 0) ⟨#[], args, []⟩).memory := by
 rw [MakeChecks.laidMetH_plain _ _ _ (by kernel_rfl)]; exact laidMet_laidAll _ (by kernel_rfl) (by kernel_rfl)
theorem Tryz.laidOut : laidOutB Tryz.prog = true := by kernel_rfl
theorem cells_u8q : Tryz.prog.cellsOf 5 = 1 := by kernel_rfl
theorem opens_byte {H : Type} {enc : TypeId × Value → H} {W : World} (m N : Nat) : OpensB enc Tryz.prog W 5 ByC m N := by
 intro n cs x b o _ h _ hl hc
 obtain ⟨k, e, hw⟩ := open_fint Tryz.underlying5 ⟨x, h⟩
 subst e
 have hr : 0 ≤ k ∧ k < 256 := by
   simp [Lit.wf, IntKind.min, IntKind.max, IntKind.signed, IntKind.bits] at hw; omega
 refine ⟨k.toNat, by omega, ?_⟩
 have := hc 0 _ rfl
 rw [show ((k.toNat : Nat) : Int) = k by omega]
 simpa using this
theorem cells_insn : Tryz.prog.cellsOf 48 = 2 := by kernel_rfl
theorem open_insn {H : Type} {enc : TypeId × Value → H} {W : World} {N fuel : Nat} {cs : List Value} {x : DataW H × List MemPlace} (h : DataW.trod enc Tryz.prog W 0 (fun _ => true) true fuel 48 cs = some x) (hN : Rows.uptoBulk x.1 ≤ N) :
   ∃ (n : Int) (V : Option Addr) (vs : List Int) (vc : Nat), cs = [.int .i64 n, .slice V vs.length vc] ∧ I64 n ∧ vs.length ≤ vc ∧ vc ≤ maxLen ∧ vs.length ≤ N ∧ RowOf IntAt 1 W V vs := by
 obtain ⟨n', _, hl, hf⟩ := open_fieldsB Tryz.underlying48 h
 rw [cells_insn] at hl
 match cs, hl with
 | [c0, c1], _ =>
   obtain ⟨n0, e0, w0⟩ := open_fint Tryz.underlying3 (hfx hf 0 _ 0 1 _ rfl rfl cells_int rfl)
   obtain ⟨y1, z1, b1⟩ := hf 1 _ 1 1 _ rfl rfl cells_ints rfl
   obtain ⟨A1, l1, k1, e1, u1, v1, m1, r1⟩ := OpensB.row Tryz.underlying46 cells_int (by decide) (opensB_int n' N) (Nat.le_refl _) z1 (Nat.le_trans b1 hN)
   simp only [List.drop_zero, List.drop_succ_cons, List.take_succ_cons, List.take_zero, List.cons.injEq, and_true] at e0 e1
   subst e0 e1
   exact ⟨n0, A1, l1, k1, rfl, I64.of_wf w0, u1, v1, m1, r1⟩
theorem witness_row_shaped {H : Type} {enc : TypeId × Value → H} {C : Checked} {os : Os} {f : FuncId} {fn : Func} {s : OpenSpec} {conds : List PathCond} {apart : Bool} {laid : List (String × DataW Unit)} (modest : Bool) (w0 : World) (args : Array Value) (hos : w0.os = os)
   (hsh : (w0.forCall (fun _ _ => 0) ⟨#[], args, []⟩).Shaped C.prog)
   (hok : Input.okWideB C.prog (w0.forCall (fun _ _ => 0) ⟨#[], args, []⟩) f ⟨#[], args, []⟩ = true)
   (hrow : s.preRow enc C.prog fn conds apart laid (w0.forCall (fun _ _ => 0) ⟨#[], args, []⟩).memory args) :
   ∃ (w : World) (tape : Tape) (i : Input), w.os = os ∧ (w.forCall tape i).Shaped C.prog ∧ i.vars = [] ∧ Input.okWide C.prog (w.forCall tape i) .any w.heap.size f i ∧
     s.preRow enc C.prog fn conds apart laid (w.forCall tape i).memory i.args ∧ ({ modest := modest } : Assume).holds C.prog (lone (Frame.enter C.prog f i.args .normal) [] (w.forCall tape i)) :=
 ⟨w0, fun _ _ => 0, ⟨#[], args, []⟩, hos, hsh, (Input.okWide_of_okWideB (base := 0) hok).1, (Input.okWide_of_okWideB hok).2, hrow, by
   simp only [Assume.holds]
   exact ⟨by simp, by simp, fun _ => Modest.zero, by simp, by simp⟩⟩
theorem back_reads (os : Os) {H : Type} (enc : TypeId × Value → H) : ∃ places, DataW.whole enc Tryz.prog ((World.laidAll Tryz.prog os Rows.codecBackUptoRow.laid).forCall (fun _ _ => 0) ⟨#[], #[.agg #[.string ⟨#[]⟩, .int .i64 0, .slice none 0 0, .slice none 0 0, .slice none 0 0, .slice none 0 0, .slice none 0 0, .slice none 0 0, .slice none 0 0, .slice none 0 0, .slice none 0 0, .slice none 0 0, .slice none 0 0], .agg #[.int .i64 0, .slice none 0 0], .slice none 0 0], []⟩).memory Tryz.f4.params.toList Rows.codecBackSpec.vars false
     #[Value.agg #[.string ⟨#[]⟩, .int .i64 0, .slice none 0 0, .slice none 0 0, .slice none 0 0, .slice none 0 0, .slice none 0 0, .slice none 0 0, .slice none 0 0, .slice none 0 0, .slice none 0 0, .slice none 0 0, .slice none 0 0], .agg #[.int .i64 0, .slice none 0 0], .slice none 0 0].toList 8 = some ([.agg [.lit (.string []), .lit (.int .i64 0), .nil, .nil, .nil, .nil, .nil, .nil, .nil, .nil, .nil, .nil, .nil], .agg [.lit (.int .i64 0), .nil], .nil], [], places) :=
 ⟨[], by kernel_rfl⟩
set_option maxHeartbeats 6400000 in
set_option maxRecDepth 100000 in
theorem codecBack_lifted (os : Os) (started : os.Started) (H : Type) (enc : TypeId × Value → H) (F : Stop.Interp) :
   ReturnsInHanded {} Tryz.checked os 4 .any ((Rows.OpenSpec.upto Rows.codecBackSpec).preRow enc Tryz.prog Tryz.f4 Rows.codecBackUptoRow.domain false Rows.codecBackUptoRow.laid)
     (((Rows.OpenSpec.upto Rows.codecBackSpec).at F).post enc Tryz.prog Tryz.f4 false true false false) := by
 obtain ⟨places, hx⟩ := back_reads os enc
 refine returnsInHanded_of_row (C := Tryz.checked) (s := Rows.OpenSpec.upto Rows.codecBackSpec) Tryz.own started (by kernel_rfl) Tryz.func4
   (witness_row_shaped (enc := enc) (C := Tryz.checked) false (World.laidAll Tryz.prog os Rows.codecBackUptoRow.laid) _ (World.laidAll_os _ _ _) (World.shaped_of_ZipB (by kernel_rfl) (by kernel_rfl)) (by kernel_rfl)
     (OpenSpec.preRow_of_cond 8 hx (by kernel_rfl) (fun k hk => by cases hk; kernel_rfl) (by kernel_rfl) (laid_met os _))) ?_
 intro W base args ds gs before hval0 hW _ hcond hsz0 hL _ _
 have hval : ∀ (j : Nat) t v, Tryz.f4.params[j]? = some t → args[j]? = some v → Value.okWide Tryz.prog W .any base t v := hval0
 have hW' := hW
 obtain ⟨p, q, hA0, hV, rfl, hfz, hnd⟩ := hW
 have hA : DataW.TrodAll enc Tryz.prog W 0 (fun _ => true) true Tryz.f4.params.toList args.toList ds p := hA0
 rw [Tryz.params4] at hA hval
 obtain ⟨v0, v1, v2, d0, d1, d2, p0, p1, p2, rfl, rfl, rfl, h0, h1, h2⟩ := trodAll_three hA
 obtain ⟨rfl, rfl⟩ := trodVars_none hV
 obtain ⟨cs0, rfl, _⟩ := okWide_struct Tryz.underlying33 (hval 0 33 v0 rfl rfl)
 obtain ⟨cs1, rfl, _⟩ := okWide_struct Tryz.underlying48 (hval 1 48 v1 rfl rfl)
 obtain ⟨a2, len2, cap2, rfl⟩ := okWide_slice Tryz.underlying34 (hval 2 34 v2 rfl rfl)
 have hk : Rows.uptoSmall H ([d0, d1, d2] ++ []) = true := hcond _ rfl
 have hb := of_decide_eq_true hk
 simp only [List.append_nil, Rows.uptoBulkAll, Nat.add_zero] at hb
 have h0' := h0
 have h1' := h1
 have h2' := h2
 obtain ⟨fu0, q0⟩ := h0
 obtain ⟨fu1, q1⟩ := h1
 obtain ⟨fu2, q2⟩ := h2
 clear hA0 hval0 hval hA
 simp only [List.append_nil] at hW'
 have hlt : ∀ x ∈ p0 ++ p1 ++ p2, x.block < W.heap.size := fun x hx => hW'.lt x (by simpa using hx)
 have hlt0 : ∀ x ∈ p0, x.block < W.heap.size := fun x hx => hlt x (by simp [hx])
 have hlt1 : ∀ x ∈ p1, x.block < W.heap.size := fun x hx => hlt x (by simp [hx])
 have hlt2 : ∀ x ∈ p2, x.block < W.heap.size := fun x hx => hlt x (by simp [hx])
 obtain ⟨D, hD, hS, hL2, hX⟩ := open_descC (N := 1048576) q0 (by simp only; omega)
 have hD : DescAt W D cs0 := hD
 obtain ⟨n, V, vs, vc, hv1, hn, hVc, hVx, hVm, hV⟩ := open_insn (N := 1048576) q1 (by simp only; omega)
 obtain ⟨Y, bs, yc, hcs, hbc, hcm, hbl, hrow⟩ := OpensB.row (N := 1048576) Tryz.underlying34 cells_u8q (by decide) (opens_byte fu2 1048576) (Nat.le_refl _) q2 (by simp only; omega)
 simp only [Value.cells, List.cons.injEq, and_true, Value.slice.injEq] at hcs
 obtain ⟨rfl, rfl, rfl⟩ := hcs
 have hv2 : cs1.toList = (#[.int .i64 n, .slice V vs.length vc] : Array Value).toList := hv1
 obtain rfl := Array.toList_inj.1 hv2
 refine (back_walk hD hS (fun f hf => ⟨(hL2 f hf).1, (hL2 f hf).2⟩) hX n hn vc hV hVm hVc hVx cap2 hrow hbl hbc hcm alive6).mono fun e W' ⟨he, hw⟩ => ?_
 subst he
 exact ⟨_, rfl, law_post (gs := []) hW' hw (fun _ _ _ => trodAll_mk1 (shut_bool Tryz.underlying4 _))
   (fun sp hsp => by
     have h := trodAll_mk3 (WideElems.Trod_stays Tryz.laidOut (by kernel_rfl) (of_decide_eq_true (by kernel_rfl)) h0' (fun x hx => Below.same hw (hlt0 x hx)) (fun x hx => hsp x (by simp [hx])))
       (WideElems.Trod_stays Tryz.laidOut (by kernel_rfl) (of_decide_eq_true (by kernel_rfl)) h1' (fun x hx => Below.same hw (hlt1 x hx)) (fun x hx => hsp x (by simp [hx])))
       (WideElems.Trod_stays Tryz.laidOut (by kernel_rfl) (of_decide_eq_true (by kernel_rfl)) h2' (fun x hx => Below.same hw (hlt2 x hx)) (fun x hx => hsp x (by simp [hx])))
     (try simp only [List.append_nil, List.append_assoc] at h ⊢)
     exact h) (fun _ => rfl)⟩
theorem cbk_joined : joinedFacts Tryz.prog 4 Tryz.f4 (Rows.OpenSpec.upto Rows.codecBackSpec).bare Rows.codecBackUptoRow = true := by
 unfold joinedFacts
 rw [cbk_inPlace, cbk_unfollowed, cbk_recurses, cbk_named]
 kernel_rfl
theorem codecBack_holds : Rows.CodecBackUptoSaid :=
 OpenClaim.holds_of_cond 4 Tryz.f4 rfl rfl rfl rfl rfl rfl rfl ⟨rfl, rfl, rfl, rfl, rfl⟩ rfl rfl rfl rfl rfl (by kernel_rfl) Tryz.func4 cbk_joined
   (of_decide_eq_true (by kernel_rfl)) (by unfold Func.isWrapper; first | (rw [if_pos (by decide +kernel)]; kernel_rfl) | (rw [if_neg (by decide +kernel)]; exact ⟨rfl, rfl⟩))
   (fun os started H enc _ F => by rw [OpenClaim.pre_eq_preRow]; exact codecBack_lifted os started H enc F)
theorem codecBack_card : Rows.CodecBackUptoCardSaid :=
 Claim7.holds_tied_plain_at .later [] _ _ _ _
   codecBack_holds (fun _ h => by cases h) (by kernel_rfl) (fun _ h => by cases h) codecBackUpto_row_tie rfl ⟨rfl, rfl⟩ (by kernel_rfl) rfl
   (fun f fn hf hfn => by
     obtain rfl : f = 4 := Option.some.inj ((show Tryz.prog.funcNamed "dovetail/dovetaillaw06.CodecBack" = some 4 by kernel_rfl).symm.trans hf) |>.symm
     obtain rfl : fn = Tryz.f4 := (Option.some.inj (Tryz.func4.symm.trans hfn)).symm
     exact ⟨by kernel_rfl, fun j t ht => by
       rw [Tryz.params4] at ht
       have h0 : t = 33 ∨ t = 48 ∨ t = 34 := by
         rcases j with _ | _ | _ | j
         · exact .inl (by simpa using ht.symm)
         · exact .inr (.inl (by simpa using ht.symm))
         · exact .inr (.inr (by simpa using ht.symm))
         · simp at ht
       rcases h0 with rfl | rfl | rfl
       · exact (show Tryz.prog.wantsStandIn 33 = false by kernel_rfl)
       · exact (show Tryz.prog.wantsStandIn 48 = false by kernel_rfl)
       · exact (show Tryz.prog.wantsStandIn 34 = false by kernel_rfl)⟩)
   (by kernel_rfl)
#print axioms codecBack_card
end Go.Proofs.YtdipnhghdajplaaGreatDoor
