/- IsacheckWidths answers true, whatever the description, the form and the term; no condition. -/
import Derived.Test.YtcndmiolaheaeabGreatDoorEy
import Derived.Test.YtcndmiolaheaeabGreatDoorVp
import Derived.ChangeMaps5
import Derived.Deep.DeepHandedRow
import Derived.Test.YtcndmiolaheaeabGreatDoorRows
import Derived.Test.YtcndmiolaheaeabGreatDoorTie
import Derived.Test.YtcndmiolaheaeabGreatDoorCards
import Derived.SevenTiedAt
import Derived.Lib.SmallJoins
import Derived.ProofKit
import Derived.Lay
import Derived.LaidMore
import Derived.OpenShut
import Derived.Stop.Joined
namespace Go.Proofs.YtcndmiolaheaeabGreatDoor
open Go.ChangeMaps Go.ChangeShapes Go.WideShapes Go.ChangeAt Go.RowKit Go.Joins Go.Deep
set_option linter.unusedSimpArgs false
set_option linter.unusedVariables false

theorem Tryz.own : ownKnob Tryz.prog.godebug = none := by kernel_rfl
/-- The end of a law: results that read as the specification has them, arguments that read so in every world that keeps the old one. -/
theorem law_post {H : Type} {enc : TypeId × Value → H} {P : Program} {f : Func} {s : ChangeSpec} {W W' : World} {args : Array Value} {v : Value} {ds gs : List (DataW H)} {before : List MemPlace}
    (hW : DataW.Whole enc P f.params.toList s.vars false W args.toList ds gs before) (hb : Fr W W')
    (hres : ∀ (b : Nat) (sp : Nat → Bool) (hd : Bool), DataW.TrodAll enc P W' b sp hd f.resultTypes.toList (v.resultList f.resultTypes.size) (s.fn H (ds ++ gs)).results [])
    (hargs : ∀ sp : Nat → Bool, (∀ p ∈ before, sp p.block = true) → DataW.TrodAll enc P W' 0 sp true f.params.toList args.toList (s.fn H (ds ++ gs)).args before)
    (hvars : ∀ sp : Nat → Bool, DataW.TrodVars enc P W' sp s.vars (s.fn H (ds ++ gs)).vars []) :
    s.post enc P f false true false false W args v W' := by
  have old : ∀ p ∈ before, p.block < W.heap.size := fun p hp => hW.lt p hp
  have in0 : ∀ p ∈ before, (fun b => decide (b < W.heap.size)) p.block = true := fun p hp => by have := old p hp; simpa using this
  exact ⟨ds, gs, before, [], before, [], hW, hres _ _ _, hargs _ in0, hvars _, Below.frame hb _, fun h => absurd h (by decide)⟩

/-- A world with the listed tables laid meets the condition. -/
theorem laid_met (os : Os) (args : Array Value) : laidMetH Tryz.prog Rows.isacheckWidthsRow.laid ((World.laidAll Tryz.prog os Rows.isacheckWidthsRow.laid).forCall (fun _ _ => 0) ⟨#[], args, []⟩).memory := by
  rw [MakeChecks.laidMetH_plain _ _ _ (by kernel_rfl)]; exact laidMet_laidAll _ (by kernel_rfl) (by kernel_rfl)

theorem Tryz.laidOut : laidOutB Tryz.prog = true := by kernel_rfl
theorem open_termv {H : Type} {enc : TypeId × Value → H} {W : World} {fuel : Nat} {cs : List Value} {x : DataW H × List MemPlace} (h : DataW.trod enc Tryz.prog W 0 (fun _ => true) true fuel 42 cs = some x) :
    ∃ op wd a b A ks c, cs = [.int .i64 op, .int .i64 wd, .int .i64 a, .int .i64 b, .slice A ks.length c] ∧ TmL W A ks := by
  obtain ⟨n, rfl, hl, _⟩ := open_fields Tryz.underlying42 h
  rw [cells_term] at hl
  obtain ⟨op, wd, a, b, A, ks, c, h1, _, h2⟩ := open_term5 (opens_term n) (Nat.le_refl n) h hl
  exact ⟨op, wd, a, b, A, ks, c, h1, h2⟩
set_option maxHeartbeats 6400000 in
set_option maxRecDepth 100000 in
theorem isacheckWidths_lifted (os : Os) (started : os.Started) (H : Type) (enc : TypeId × Value → H) :
    ReturnsInHanded {} Tryz.checked os 4 .any (fun w args => (Rows.isacheckWidthsSpec.pre enc Tryz.prog Tryz.f4 [] false w args ∧ laidMetH Tryz.prog Rows.isacheckWidthsRow.laid w) ∧ sizedMet enc Tryz.prog Tryz.f4 (OpenSpec.ofChange Rows.isacheckWidthsSpec) false w args)
      (Rows.isacheckWidthsSpec.post enc Tryz.prog Tryz.f4 false true false false) := by
  refine returnsInHanded_of_change_and (C := Tryz.checked) (X := fun w _ => laidMetH Tryz.prog Rows.isacheckWidthsRow.laid w) (fun _ _ _ hh h => h.of_heap hh) Tryz.own started (by kernel_rfl) Tryz.func4
    (ChangeSpec.witness_shaped (enc := enc) (C := Tryz.checked) (os := os) (X := fun w _ => laidMetH Tryz.prog Rows.isacheckWidthsRow.laid w) false (World.laidAll Tryz.prog os Rows.isacheckWidthsRow.laid) #[.agg #[.string ⟨#[]⟩, .int .i64 0, .slice none 0 0, .slice none 0 0, .slice none 0 0, .slice none 0 0, .slice none 0 0, .slice none 0 0, .slice none 0 0, .slice none 0 0, .slice none 0 0, .slice none 0 0, .slice none 0 0], .int .i64 0, .agg #[.int .i64 0, .int .i64 0, .int .i64 0, .int .i64 0, .slice none 0 0]] 8 (World.laidAll_os _ _ _) (World.shaped_of_ZipB (by kernel_rfl) (by kernel_rfl)) (by kernel_rfl) (by kernel_rfl) (by kernel_rfl) (laid_met os _)) ?_
  intro W base args ds gs before hval0 hW _ _ hL _
  have hval : ∀ (j : Nat) t v, Tryz.f4.params[j]? = some t → args[j]? = some v → Value.okWide Tryz.prog W .any base t v := hval0
  have hW' := hW
  obtain ⟨p, q, hA0, hV, rfl, hfz, hnd⟩ := hW
  have hA : DataW.TrodAll enc Tryz.prog W 0 (fun _ => true) true Tryz.f4.params.toList args.toList ds p := hA0
  rw [Tryz.params4] at hA hval
  obtain ⟨v0, v1, v2, d0, d1, d2, p0, p1, p2, rfl, rfl, rfl, h0, h1, h2⟩ := trodAll_three hA
  obtain ⟨rfl, rfl⟩ := trodVars_none hV
  obtain ⟨cs0, rfl, _⟩ := okWide_struct Tryz.underlying34 (hval 0 34 v0 rfl rfl)
  obtain ⟨cs2, rfl, _⟩ := okWide_struct Tryz.underlying42 (hval 2 42 v2 rfl rfl)
  obtain ⟨x, rfl, rfl, rfl, wf1⟩ := open_int Tryz.underlying3 (hval 1 3 v1 rfl rfl) h1
  have h0' := h0
  have h2' := h2
  obtain ⟨fu0, q0⟩ := h0
  obtain ⟨fu2, q2⟩ := h2
  clear hA0 hval0 hval hA
  simp only [List.append_nil] at hW'
  have hlt : ∀ x ∈ p0 ++ ([] ++ p2), x.block < W.heap.size := fun x hx => hW'.lt x (by simpa using hx)
  have hlt0 : ∀ x ∈ p0, x.block < W.heap.size := fun x hx => hlt x (by simp [hx])
  have hlt2 : ∀ x ∈ p2, x.block < W.heap.size := fun x hx => hlt x (by simp [hx])
  obtain ⟨s0, z1, Fa, files, fc, B3, l3, c3, Ga, ng, gc, Ca, classes, cc, Ma, fs, mc, B7, B8, B9, B10, B11, B12, l7, c7, l8, c8, l9, c9, l10, c10, l11, c11, l12, c12, e0, hF, hC, hM⟩ := open_desc q0
  obtain ⟨op, wd, a, b, A, ks, c, e2, hT⟩ := open_termv q2
  have e0' : cs0 = #[.string s0, .int .i64 z1, .slice Fa files.length fc, .slice B3 l3 c3, .slice Ga ng gc, .slice Ca classes.length cc, .slice Ma fs.length mc, .slice B7 l7 c7, .slice B8 l8 c8, .slice B9 l9 c9, .slice B10 l10 c10, .slice B11 l11 c11, .slice B12 l12 c12] := by
    apply Array.toList_inj.1; exact e0
  have e2' : cs2 = #[.int .i64 op, .int .i64 wd, .int .i64 a, .int .i64 b, .slice A ks.length c] := by
    apply Array.toList_inj.1; exact e2
  subst e0' e2'
  have main : Calls Tryz.prog 4 #[.agg #[.string s0, .int .i64 z1, .slice Fa files.length fc, .slice B3 l3 c3, .slice Ga ng gc, .slice Ca classes.length cc, .slice Ma fs.length mc, .slice B7 l7 c7, .slice B8 l8 c8, .slice B9 l9 c9, .slice B10 l10 c10, .slice B11 l11 c11, .slice B12 l12 c12], .int .i64 x, .agg #[.int .i64 op, .int .i64 wd, .int .i64 a, .int .i64 b, .slice A ks.length c]] W fun e w' => e = .returned (.bool true) ∧ Fr W w' := by
    cases hx : plB x fs.length with
    | false => exact widths_no x op wd a b A ks c hx alive5
    | true =>
      obtain ⟨i, rfl, hi⟩ := plB_ex hx
      exact widths_at hi hM hF hC op wd a b A ks c hT alive5
  refine main.mono fun e W' ⟨he, hw⟩ => ?_
  subst he
  exact ⟨_, rfl, law_post (gs := []) hW' hw (fun _ _ _ => trodAll_mk1 (shut_bool Tryz.underlying4 _))
    (fun sp hsp => trodAll_mk3 (WideElems.Trod_stays Tryz.laidOut (by kernel_rfl) (of_decide_eq_true (by kernel_rfl)) h0' (fun x hx => Below.same hw (hlt0 x hx)) (fun x hx => hsp x (by simp [hx])))
      (shut_int Tryz.underlying3 wf1) (WideElems.Trod_stays Tryz.laidOut (by kernel_rfl) (of_decide_eq_true (by kernel_rfl)) h2' (fun x hx => Below.same hw (hlt2 x hx)) (fun x hx => hsp x (by simp [hx])))) (fun _ => rfl)⟩

theorem isacheckWidths_holds : Rows.IsacheckWidthsSaid :=
  OpenClaim.holds_of_wide 4 Tryz.f4 rfl rfl rfl rfl rfl rfl rfl ⟨rfl, rfl, rfl, rfl, rfl⟩ rfl rfl rfl rfl rfl (by kernel_rfl) Tryz.func4 (by kernel_rfl)
    (of_decide_eq_true (by kernel_rfl)) (by unfold Func.isWrapper; first | (rw [if_pos (by decide +kernel)]; kernel_rfl) | (rw [if_neg (by decide +kernel)]; exact ⟨rfl, rfl⟩))
    (fun os started H enc _ => isacheckWidths_lifted os started H enc)

theorem isacheckWidths_card : Rows.IsacheckWidthsCardSaid :=
  Claim7.holds_tied_plain_at .later [] [.data, .pinned] true (true, "6605178d6e5598ca37d5a31ec04c22e8a34633c7d69d98c8a334027faa79f445") false
    isacheckWidths_holds (fun _ h => by cases h) (by kernel_rfl) (fun _ h => by cases h) isacheckWidths_row_tie rfl ⟨rfl, rfl⟩ (by kernel_rfl) rfl
    (fun f fn hf hfn => by
      obtain rfl : f = 4 := Option.some.inj ((show Tryz.prog.funcNamed "dovetail/dovetaillaw05.IsacheckWidths" = some 4 by kernel_rfl).symm.trans hf) |>.symm
      obtain rfl : fn = Tryz.f4 := (Option.some.inj (Tryz.func4.symm.trans hfn)).symm
      exact ⟨by kernel_rfl, fun j t ht => by
        rw [Tryz.params4] at ht
        have h0 : t = 34 ∨ t = 3 ∨ t = 42 := by
          rcases j with _ | _ | _ | j
          · exact .inl (by simpa using ht.symm)
          · exact .inr (.inl (by simpa using ht.symm))
          · exact .inr (.inr (by simpa using ht.symm))
          · simp at ht
        rcases h0 with rfl | rfl | rfl
        · exact (show Tryz.prog.wantsStandIn 34 = false by kernel_rfl)
        · exact (show Tryz.prog.wantsStandIn 3 = false by kernel_rfl)
        · exact (show Tryz.prog.wantsStandIn 42 = false by kernel_rfl)⟩)
    (by kernel_rfl)
#print axioms isacheckWidths_card
end Go.Proofs.YtcndmiolaheaeabGreatDoor
