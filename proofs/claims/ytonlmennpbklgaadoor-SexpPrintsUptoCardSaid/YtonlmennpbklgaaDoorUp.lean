/- Trees that came in: what they are, and how many. A law's last step, and what the row's condition gives the walks. SexpPrints answers true for any trees, where what came in is of bulk at most 1048576. SexpPrints' tied card, where what came in is of bulk at most 1048576. -/
import Derived.Test.YtonlmennpbklgaaDoorUl
import Derived.Test.YtonlmennpbklgaaDoorRows
import Derived.Lib.SmallJoins
import Derived.ProofKit
import Derived.Carry
import Derived.Test.YtonlmennpbklgaaDoorSk
import Derived.LaidMore
import Derived.OpenShut
import Derived.Stop.Joined
import Derived.Lib.LaidTab
import Derived.Stop.LaidErr
import Derived.ChangeMaps5
import Derived.Deep.DeepWitnessRowRef
import Derived.Deep.DeepHandedRow
import Derived.Test.YtonlmennpbklgaaDoorTie
import Derived.Test.YtonlmennpbklgaaDoorCards
import Derived.SevenTiedAt
namespace Go.Proofs.YtonlmennpbklgaaDoor
open Go.ChangeShapes Go.WideShapes Go.ChangeAt Go.RowKit Go.Joins Go.Deep
set_option linter.unusedSimpArgs false
set_option linter.unusedVariables false

theorem treeDesc : ∃ f0 f1 f2 f3 : Field, Tryd.prog.underlying 38 = some (.struct #[f0, f1, f2, f3]) ∧ f0.type = 3 ∧ f1.type = 9 ∧ f2.type = 3 ∧ f3.type = 23 ∧ oneCellFields Tryd.prog #[f0, f1, f2, f3] = true :=
  ⟨_, _, _, _, Tryd.underlying38, rfl, rfl, rfl, rfl, by kernel_rfl⟩
theorem cellsTr : Tryd.prog.cellsOf 38 = 4 := by kernel_rfl
mutual
/-- How many trees and letters there are. -/
def wtL : List T → Nat
  | [] => 0
  | t :: r => wtT t + wtL r
def wtT : T → Nat
  | .node _ s _ ks => 1 + s.size + wtL ks
end
mutual
theorem cnt_wt : ∀ l : List T, cntL l ≤ wtL l
  | [] => by simp [cntL]
  | t :: r => by have h1 := cntT_wt t; have h2 := cnt_wt r; simp [cntL, wtL]; omega
theorem cntT_wt : ∀ t : T, cntT t ≤ wtT t
  | .node k s n ks => by have h1 := cnt_wt ks; simp [cntT, wtT]; omega
end
mutual
theorem sm_wt (m : Nat) : ∀ l : List T, wtL l ≤ m → smL m l
  | [], _ => by unfold smL; trivial
  | t :: r, h => by
    simp only [wtL] at h
    unfold smL
    exact ⟨smT_wt m t (by omega), sm_wt m r (by omega)⟩
theorem smT_wt (m : Nat) : ∀ t : T, wtT t ≤ m → smT m t
  | .node k s n ks, h => by
    simp only [wtT] at h
    unfold smT
    exact ⟨by omega, sm_wt m ks (by omega)⟩
end
instance : Inhabited T := ⟨.node 0 ⟨#[]⟩ 0 []⟩
theorem rdL_of {w : World} {F : Nat → Prop} {b : Nat} (hb : F b) : ∀ {l : List T} {o : Nat}, (∀ (i : Nat) (h : i < l.length), RdT w F b (o + 4 * i) l[i]) → RdL w F (some ⟨b, o, none⟩) l
  | [], _, _ => by unfold RdL; trivial
  | t :: r, o, h => by
    unfold RdL
    refine ⟨b, o, rfl, hb, by have := h 0 (by simp); rw [Nat.mul_zero, Nat.add_zero] at this; exact this, rdL_of hb fun i hi => ?_⟩
    have := h (i + 1) (by simpa using hi)
    rw [show o + 4 * (i + 1) = o + 4 + 4 * i by omega] at this
    simpa using this
theorem bulk_one {H : Type} (d : DataW H) : 1 ≤ Rows.uptoBulk d := by
  cases d with
  | lit l => cases l <;> simp [Rows.uptoBulk]
  | nil => simp [Rows.uptoBulk]
  | ptr d => simp [Rows.uptoBulk]
  | slice elems spare => simp [Rows.uptoBulk]
  | agg parts => simp [Rows.uptoBulk]
  | iface t d => simp [Rows.uptoBulk]
  | map entries => simp [Rows.uptoBulk]
  | held h => simp [Rows.uptoBulk]
theorem bulk_part {H : Type} {d : DataW H} {l : List (DataW H)} (h : d ∈ l) : Rows.uptoBulk d ≤ Rows.uptoBulkAll l := by
  induction l with
  | nil => cases h
  | cons x r ih =>
    simp only [Rows.uptoBulkAll]
    rcases List.mem_cons.1 h with e | e
    · subst e; omega
    · have := ih e; omega
theorem wt_bulk {H : Type} (f : Nat → T) (D : Nat → DataW H) : ∀ (xs : List Nat), (∀ i ∈ xs, wtT (f i) ≤ Rows.uptoBulk (D i)) → wtL (xs.map f) ≤ Rows.uptoBulkAll (xs.map D)
  | [], _ => by simp [wtL]
  | i :: r, h => by
    have h1 := h i (by simp)
    have h2 := wt_bulk f D r fun j hj => h j (by simp [hj])
    simp only [List.map_cons, wtL, Rows.uptoBulkAll]; omega
theorem add_off (b o k : Nat) : (⟨b, o, none⟩ : Addr).add k = ⟨b, o + k, none⟩ := by
  unfold Addr.add; by_cases h0 : k = 0 <;> simp [h0]
set_option maxRecDepth 100000 in
/-- Trees that came in. -/
theorem open_trees {H : Type} {enc : TypeId × Value → H} {W : World} : ∀ (N fuel : Nat) (cs : List Value) (x : DataW H × List MemPlace), DataW.trod enc Tryd.prog W 0 (fun _ => true) true fuel 23 cs = some x → Rows.uptoBulk x.1 ≤ N →
    ∃ (A : Option Addr) (l : List T) (c : Nat), cs = [.slice A l.length c] ∧ l.length ≤ c ∧ RdL W (fun b => b < W.heap.size) A l ∧ wtL l ≤ Rows.uptoBulk x.1 := by
  obtain ⟨f0, f1, f2, f3, hst, t0, t1, t2, t3, hone⟩ := treeDesc
  obtain ⟨o0, k0⟩ := hone_of hone 0 f0 rfl
  obtain ⟨o1, k1⟩ := hone_of hone 1 f1 rfl
  obtain ⟨o2, k2⟩ := hone_of hone 2 f2 rfl
  obtain ⟨o3, k3⟩ := hone_of hone 3 f3 rfl
  intro N
  induction N with
  | zero => intro fuel cs x _ h; have := bulk_one x.1; omega
  | succ N ih =>
    intro fuel cs x h hN
    rcases open_slice Tryd.underlying23 h with ⟨rfl, rfl⟩ | ⟨a, len, cap, m, n, D, Pl, rfl, _, hlc, _, hm, rfl, hel⟩
    · exact ⟨none, [], 0, rfl, Nat.le_refl _, by unfold RdL; trivial, by simp [wtL]⟩
    · simp only [if_true] at hm
      have hbulk : Rows.uptoBulkAll ((List.range len).map D) + 1 ≤ N + 1 := by
        simp only [Rows.uptoBulk] at hN; omega
      have hspot : 0 < len → a.spot = none := by
        intro h0
        obtain ⟨cs', h1, _⟩ := hel 0 (by omega)
        rw [cellsTr] at h1
        obtain ⟨_, hl4, hc⟩ := World.cells?_some h1
        have hc0 := hc 0 (by omega)
        rw [List.getElem?_eq_getElem (by omega)] at hc0
        simpa [Addr.add] using World.cell?_spot hc0
      have hex : ∀ i, i < len → ∃ t : T, a.block < W.heap.size ∧ RdT W (fun b => b < W.heap.size) a.block (a.off + 4 * i) t ∧ wtT t ≤ Rows.uptoBulk (D i) := by
        intro i hi
        obtain ⟨cs', h1, h2⟩ := hel i (by omega)
        rw [cellsTr] at h1
        obtain ⟨_, hl4, hc⟩ := World.cells?_some h1
        obtain ⟨y0, y1, y2, y3, n', hx, _, z0, z1, z2, z3⟩ := trod_struct4 hst h2
        match cs', hl4 with
        | [c0, c1, c2, c3], _ =>
          rw [o0, k0, t0] at z0
          rw [o1, k1, t1] at z1
          rw [o2, k2, t2] at z2
          rw [o3, k3, t3] at z3
          simp only [List.drop_zero, List.drop_succ_cons, List.take_succ_cons, List.take_zero] at z0 z1 z2 z3
          obtain ⟨kd, e0, _, _⟩ := DataW.trod_int Tryd.underlying3 z0
          obtain ⟨s, e1, w1, _⟩ := DataW.trod_string Tryd.underlying9 z1
          obtain ⟨nn, e2, _, _⟩ := DataW.trod_int Tryd.underlying3 z2
          simp only [Prod.mk.injEq] at hx
          have hD : D i ∈ (List.range len).map D := List.mem_map.2 ⟨i, List.mem_range.2 hi, rfl⟩
          have hp := bulk_part hD
          have hb3 : Rows.uptoBulk y3.1 + Rows.uptoBulk y1.1 + 1 ≤ Rows.uptoBulk (D i) := by
            rw [hx.1]; simp only [Rows.uptoBulk, Rows.uptoBulkAll]; omega
          have hb1 : Rows.uptoBulk y1.1 = s.size + 1 := by rw [w1]; simp [Rows.uptoBulk]
          obtain ⟨A2, kk, c4, e3, hkc, hrd, hwt⟩ := ih n' [c3] y3 z3 (by omega)
          injection e0 with e0 _
          injection e1 with e1 _
          injection e2 with e2 _
          injection e3 with e3 _
          subst e0 e1 e2 e3
          have g0 := hc 0 (by omega)
          have g1 := hc 1 (by omega)
          have g2 := hc 2 (by omega)
          have g3 := hc 3 (by omega)
          obtain ⟨b, off, spot⟩ := a
          have hspot : spot = none := hspot (by omega)
          subst hspot
          rw [add_off, add_off] at g0 g1 g2 g3
          simp only [List.getElem?_cons_zero, List.getElem?_cons_succ, Nat.add_zero] at g0 g1 g2 g3
          rw [Nat.mul_comm i 4] at g0 g1 g2 g3
          refine ⟨.node kd s nn kk, lt_of_cell g0, ?_, by simp only [wtT]; omega⟩
          unfold RdT
          exact ⟨A2, c4, hkc, g0, g1, g2, g3, hrd⟩
      obtain ⟨f, hf⟩ := choose_lt hex
      have hlen : ((List.range len).map f).length = len := by simp
      refine ⟨some a, (List.range len).map f, cap, by rw [hlen], by rw [hlen]; exact hlc, ?_, ?_⟩
      · by_cases h0 : len = 0
        · subst h0; simp [RdL]
        · obtain ⟨s2, _, _⟩ := hf 0 (by omega)
          have s1 := hspot (by omega)
          obtain ⟨b, off, spot⟩ := a
          simp only at s1
          subst s1
          refine rdL_of (F := fun b => b < W.heap.size) s2 fun i hi => ?_
          rw [hlen] at hi
          obtain ⟨_, s3, _⟩ := hf i hi
          simpa using s3
      · have := wt_bulk f D (List.range len) fun i hi => (hf i (List.mem_range.1 hi)).2.2
        simp only [Rows.uptoBulk]; omega
end Go.Proofs.YtonlmennpbklgaaDoor
namespace Go.Proofs.YtonlmennpbklgaaDoor
open Go.ChangeShapes Go.WideShapes Go.ChangeAt Go.RowKit Go.Joins
set_option linter.unusedSimpArgs false
set_option linter.unusedVariables false

theorem Tryd.own : ownKnob Tryd.prog.godebug = none := by kernel_rfl
theorem Tryd.laidOut : laidOutB Tryd.prog = true := by kernel_rfl

/-- The end of a law: results that read as the specification has them, arguments that read so in every world that keeps the old one. -/
theorem law_post {H : Type} {enc : TypeId × Value → H} {P : Program} {f : Func} {s : ChangeSpec} {W W' : World} {args : Array Value} {v : Value} {ds gs : List (DataW H)} {before : List MemPlace}
    (hW : DataW.Whole enc P f.params.toList s.vars false W args.toList ds gs before) (hb : Fr W W')
    (hres : ∀ (b : Nat) (sp : Nat → Bool) (hd : Bool), DataW.TrodAll enc P W' b sp hd f.resultTypes.toList (v.resultList f.resultTypes.size) (s.fn H (ds ++ gs)).results [])
    (hargs : ∀ sp : Nat → Bool, (∀ p ∈ before, sp p.block = true) → DataW.TrodAll enc P W' 0 sp true f.params.toList args.toList (s.fn H (ds ++ gs)).args before)
    (hvars : ∀ sp : Nat → Bool, DataW.TrodVars enc P W' sp s.vars (s.fn H (ds ++ gs)).vars []) :
    s.post enc P f false true false false W args v W' := by
  have old : ∀ p ∈ before, p.block < W.heap.size := fun p hp => hW.lt p hp
  have in0 : ∀ p ∈ before, (fun b => decide (b < W.heap.size)) p.block = true := fun p hp => by have := old p hp; simpa using this
  exact ⟨ds, gs, before, [], before, [], hW, hres _ _ _, hargs _ in0, hvars _, Below.frame hb _, fun h => absurd h (by decide)⟩

theorem gTab : Tryd.prog.globalNamed "internal/strconv.uint64pow10" = some 1 := by kernel_rfl
theorem gBruijn : Tryd.prog.globalNamed "math/bits.deBruijn64tab" = some 5 := by kernel_rfl
theorem gSyn : Tryd.prog.globalNamed "strconv.ErrSyntax" = some 2 := by kernel_rfl
theorem gRan : Tryd.prog.globalNamed "strconv.ErrRange" = some 3 := by kernel_rfl
theorem errStar : "*" ++ "errors.errorString" = "*errors.errorString" := by decide
theorem errRow (u : TypeId) (h : Tryd.prog.typeName? 3 u = some "*errors.errorString") : u = 113 :=
  typeName_ptr_named (nm := "errors.errorString") (by rw [errStar]; kernel_rfl) (by kernel_rfl) (by decide) u (by rw [errStar]; exact h)

/-- The door's own heap meets the condition: three closed facts. -/
theorem door_met (os : Os) (args : Array Value) : laidMetH Tryd.prog Rows.sexpPrintsUptoRow.laid ((World.doorLaid Tryd.prog 400 os).forCall (fun _ _ => 0) ⟨#[], args, []⟩).memory :=
  laidMetH_of_parts3 (fuel := 8) (laidMet_of_run' 8 (by kernel_rfl) (by kernel_rfl)) (by kernel_rfl) (by kernel_rfl)

theorem var_lt {P : Program} {W : World} {n : String} {g : Nat} {cs : Array Value} (hg : P.globalNamed n = some g) (h : W.var? P n = some cs) : g < W.heap.size := by
  unfold World.var? at h
  simp only [hg, Option.bind_some] at h
  rcases Nat.lt_or_ge g W.heap.size with h' | h'
  · exact h'
  · simp [Array.getElem?_eq_none h'] at h
theorem iface_cell {W : World} {n : String} {g : Nat} {t : TypeId} {v : Value} (hg : Tryd.prog.globalNamed n = some g) (h : W.var? Tryd.prog n = some #[.iface t v]) : W.cell? ⟨g, 0, none⟩ = some (.iface t v) := by
  simpa using World.var?_cell hg h 0

/-- What the condition gives the walks. -/
theorem of_laid {W : World} (h : laidMetH Tryd.prog Rows.sexpPrintsUptoRow.laid W) : Laid W ∧ 5 < W.heap.size := by
  rw [MakeChecks.laidMetH_plain _ _ _ (by kernel_rfl)] at h
  have h1 := laidMet.tail h
  have h2 := laidMet.tail h1
  have h3 := laidMet.tail h2
  have h4 := laidMet.tail h3
  have eT : Rows.laid_internal_strconv_uint64pow10 = (Lib.tabData .u64 Lib.pow10Tab : DataW Unit) := by kernel_rfl
  rw [eT] at h2
  have hT := Lib.tabIs_of_head (t := 101) (e := 88) (n := 20) gTab (by kernel_rfl) (by kernel_rfl) (by kernel_rfl) (by kernel_rfl) (by kernel_rfl) h2
  obtain ⟨a, s, hR, _⟩ := laid_sentinel (tp := 113) (te := 115) (ts := 9) h3 gRan (by kernel_rfl) Tryd.underlying73 errRow Tryd.underlying113 Tryd.underlying115 rfl rfl (by kernel_rfl) (by kernel_rfl) (by kernel_rfl)
  obtain ⟨a', s', hS, _⟩ := laid_sentinel (tp := 113) (te := 115) (ts := 9) h4 gSyn (by kernel_rfl) Tryd.underlying73 errRow Tryd.underlying113 Tryd.underlying115 rfl rfl (by kernel_rfl) (by kernel_rfl) (by kernel_rfl)
  obtain ⟨_, ⟨g, _, cs, _, _, _, hg, _, hv, _⟩, _⟩ := h1
  obtain rfl := Option.some.inj (gBruijn.symm.trans hg)
  exact ⟨⟨⟨_, _, iface_cell gSyn hS⟩, ⟨_, _, iface_cell gRan hR⟩, hT⟩, var_lt gBruijn hv⟩
end Go.Proofs.YtonlmennpbklgaaDoor
namespace Go.Proofs.YtonlmennpbklgaaDoor
open Go.ChangeMaps Go.ChangeShapes Go.WideShapes Go.ChangeAt Go.RowKit Go.Joins
set_option linter.unusedSimpArgs false
set_option linter.unusedVariables false

theorem prints_reads (os : Os) {H : Type} (enc : TypeId × Value → H) : ∃ places, DataW.whole enc Tryd.prog ((World.doorLaid Tryd.prog 400 os).forCall (fun _ _ => 0) ⟨#[], #[.slice none 0 0], []⟩).memory Tryd.f4.params.toList Rows.sexpPrintsSpec.vars false #[Value.slice none 0 0].toList 8 = some ([.nil], [], places) :=
  ⟨[], by kernel_rfl⟩

set_option maxHeartbeats 1600000 in
set_option maxRecDepth 100000 in
theorem sexpPrints_lifted (os : Os) (started : os.Started) (H : Type) (enc : TypeId × Value → H) (F : Stop.Interp) :
    ReturnsInHanded {} Tryd.checked os 4 .any ((Rows.OpenSpec.upto Rows.sexpPrintsSpec).preRow enc Tryd.prog Tryd.f4 Rows.sexpPrintsUptoRow.domain false Rows.sexpPrintsUptoRow.laid)
      (((Rows.OpenSpec.upto Rows.sexpPrintsSpec).at F).post enc Tryd.prog Tryd.f4 false true false false) := by
  obtain ⟨places, hx⟩ := prints_reads os enc
  refine returnsInHanded_of_row (C := Tryd.checked) (s := Rows.OpenSpec.upto Rows.sexpPrintsSpec) Tryd.own started (by kernel_rfl) Tryd.func4
    (witness_row_atRef (enc := enc) (C := Tryd.checked) false (World.doorLaid Tryd.prog 400 os) #[.slice none 0 0] rfl (by kernel_rfl) (by kernel_rfl) (by kernel_rfl)
      (OpenSpec.preRow_of_cond 8 hx (by kernel_rfl) (fun k hk => by cases hk; kernel_rfl) (by kernel_rfl) (door_met os _))) ?_
  intro W base args ds gs before hval0 hW _ hcond hsz0 hL _ _
  have hval : ∀ (j : Nat) t v, Tryd.f4.params[j]? = some t → args[j]? = some v → Value.okWide Tryd.prog W .any base t v := hval0
  have hW' := hW
  obtain ⟨p, q, hA0, hV, rfl, hfz, hnd⟩ := hW
  have hA : DataW.TrodAll enc Tryd.prog W 0 (fun _ => true) true Tryd.f4.params.toList args.toList ds p := hA0
  rw [Tryd.params4] at hA hval
  obtain ⟨v0, d0, rfl, rfl, h0⟩ := trodAll_one hA
  obtain ⟨rfl, rfl⟩ := trodVars_none hV
  obtain ⟨a0, len, cap, rfl⟩ := okWide_slice Tryd.underlying23 (hval 0 23 v0 rfl rfl)
  have hk : Rows.uptoSmall H ([d0] ++ []) = true := hcond _ rfl
  have hb := of_decide_eq_true hk
  simp only [List.append_nil, Rows.uptoBulkAll, Nat.add_zero] at hb
  obtain ⟨fuel, hf⟩ := h0
  obtain ⟨A, l, c, hcs, hlc, hrd, hwt⟩ := open_trees (Rows.uptoBulk d0) fuel _ _ hf (Nat.le_refl _)
  simp only [Value.cells, List.cons.injEq, and_true, Value.slice.injEq] at hcs
  obtain ⟨rfl, rfl, rfl⟩ := hcs
  clear hA0 hval0
  simp only [List.append_nil] at hW'
  have hlt : ∀ x ∈ p, x.block < W.heap.size := fun x hx => hW'.lt x (by simpa using hx)
  obtain ⟨hla, hw5⟩ := of_laid hL
  have hwt' : wtL l ≤ 1100000 := Nat.le_trans hwt (Nat.le_trans hb (by decide))
  refine (prints_walk l a0 cap _ W (sm_wt _ l hwt') (Nat.le_trans (cnt_wt l) hwt') hrd (fun _ h => h) hw5 hla).mono fun e W' ⟨he, hw⟩ => ?_
  subst he
  exact ⟨_, rfl, law_post (gs := []) hW' hw (fun _ _ _ => trodAll_mk1 (shut_bool Tryd.underlying4 _)) (fun sp hsp => trodAll_mk1 (WideElems.Trod_stays Tryd.laidOut (by kernel_rfl) (of_decide_eq_true (by kernel_rfl)) ⟨fuel, hf⟩ (fun x hx => Below.same hw (hlt x hx)) (fun x hx => hsp x hx))) (fun _ => rfl)⟩

theorem sexpPrints_holds : Rows.SexpPrintsUptoSaid :=
  OpenClaim.holds_of_cond 4 Tryd.f4 rfl rfl rfl rfl rfl rfl rfl ⟨rfl, rfl, rfl, rfl, rfl⟩ rfl rfl rfl rfl rfl (by kernel_rfl) Tryd.func4 (by kernel_rfl)
    (of_decide_eq_true (by kernel_rfl)) (by unfold Func.isWrapper; first | (rw [if_pos (by decide +kernel)]; kernel_rfl) | (rw [if_neg (by decide +kernel)]; exact ⟨rfl, rfl⟩))
    (fun os started H enc _ F => by rw [OpenClaim.pre_eq_preRow]; exact sexpPrints_lifted os started H enc F)
#print axioms sexpPrints_holds
end Go.Proofs.YtonlmennpbklgaaDoor
namespace Go.Proofs.YtonlmennpbklgaaDoor
open Go
set_option linter.unusedSimpArgs false
set_option linter.unusedVariables false

theorem sexpPrints_card : Rows.SexpPrintsUptoCardSaid :=
  Claim7.holds_tied_plain_at .later [] _ _ _ _
    sexpPrints_holds (fun _ h => by cases h) (by kernel_rfl) (fun _ h => by cases h) sexpPrintsUpto_row_tie rfl ⟨rfl, rfl⟩ (by kernel_rfl) rfl
    (fun f fn hf hfn => by
      obtain rfl : f = 4 := Option.some.inj ((show Tryd.prog.funcNamed "dovetail/dovetaillaw03.SexpPrints" = some 4 by kernel_rfl).symm.trans hf) |>.symm
      obtain rfl : fn = Tryd.f4 := (Option.some.inj (Tryd.func4.symm.trans hfn)).symm
      exact ⟨by kernel_rfl, fun j t ht => by
        rw [Tryd.params4] at ht
        have h0 : t = 23 := by
          rcases j with _ | j
          · simpa using ht.symm
          · simp at ht
        subst h0
        exact (show Tryd.prog.wantsStandIn 23 = false by kernel_rfl)⟩)
    (by kernel_rfl)
#print axioms sexpPrints_card
end Go.Proofs.YtonlmennpbklgaaDoor
