/- For any sum, ExprPrints answers true, what came in being of bulk at most 1048576; its tied card in that form. -/
import Derived.Test.YtbnaakognnkhdaaGreatDoorNm
import Derived.Test.YtbnaakognnkhdaaGreatDoorZb
import Derived.Test.YtbnaakognnkhdaaGreatDoorZy
import Derived.Test.YtbnaakognnkhdaaGreatDoorZrd
import Derived.Test.YtbnaakognnkhdaaGreatDoorTie
import Derived.Test.YtbnaakognnkhdaaGreatDoorCards
import Derived.SevenTiedAt
import Derived.ChangeMaps5
import Derived.Deep.DeepWitnessRowRef
import Derived.Deep.DeepHandedRow
namespace Go.Proofs.YtbnaakognnkhdaaGreatDoor
open Go.ChangeMaps Go.ChangeShapes Go.WideShapes Go.ChangeAt Go.RowKit Go.Joins Go.Deep
set_option linter.unusedSimpArgs false
set_option linter.unusedVariables false

theorem bulk_one {H : Type} (d : DataW H) : 1 ≤ Rows.uptoBulk d := by
  cases d with
  | lit l => cases l <;> simp [Rows.uptoBulk]
  | nil => simp [Rows.uptoBulk]
  | ptr d => simp [Rows.uptoBulk]
  | slice elems spare => simp [Rows.uptoBulk]
  | agg parts => simp [Rows.uptoBulk]
  | iface t d => simp [Rows.uptoBulk]
  | map entries => simp [Rows.uptoBulk]
  | held h => simp [Rows.uptoBulk]
theorem bulk_len {H : Type} : ∀ l : List (DataW H), l.length ≤ Rows.uptoBulkAll l
  | [] => by simp [Rows.uptoBulkAll]
  | x :: r => by have h1 := bulk_one x; have h2 := bulk_len r; simp only [List.length_cons, Rows.uptoBulkAll]; omega
theorem bulk_part {H : Type} {d : DataW H} {l : List (DataW H)} (h : d ∈ l) : Rows.uptoBulk d ≤ Rows.uptoBulkAll l := by
  induction l with
  | nil => cases h
  | cons x r ih =>
    simp only [Rows.uptoBulkAll]
    rcases List.mem_cons.1 h with e | e
    · subst e; omega
    · have := ih e; omega
/-- A row of one-cell things that came in. -/
theorem open_rdB {P : Program} {H : Type} {enc : TypeId × Value → H} {W : World} {N : Nat} {α : Type} {f : α → Value} {t e : TypeId} (Q : α → Prop) (ht : P.underlying t = some (.slice e)) (hc1 : P.cellsOf e = 1) 
    (ho : ∀ (n : Nat) (cs : List Value) (x : DataW H × List MemPlace), DataW.trod enc P W 0 (fun _ => true) true n e cs = some x → Rows.uptoBulk x.1 ≤ N → ∃ y : α, cs = [f y] ∧ Q y)
    {fuel : Nat} {cs : List Value} {x : DataW H × List MemPlace} (h : DataW.trod enc P W 0 (fun _ => true) true fuel t cs = some x) (hw : Rows.uptoBulk x.1 ≤ N) :
    ∃ (A : Option Addr) (l : List α) (c : Nat), cs = [.slice A l.length c] ∧ Rd f W A l ∧ l.length ≤ N ∧ ∀ y ∈ l, Q y := by
  rcases DataW.trod_slice ht h with ⟨rfl, rfl⟩ | ⟨a, len, cap, elems, rest, n', rfl, rfl, rfl, hb, hlc, hcm, hlen, hel, _, _⟩
  · exact ⟨none, [], 0, rfl, Rd.nil, by simp, fun r hr => by simp at hr⟩
  · have hspot : 0 < len → a.spot = none := by
      intro h0
      have h1 := hel 0 h0
      rw [List.getElem?_eq_getElem (by omega)] at h1
      obtain ⟨cs', h2, h3⟩ := Option.bind_eq_some_iff.1 h1
      obtain ⟨_, hl4, hc⟩ := World.cells?_some h2
      have h4 := hc 0 (by rw [hc1]; omega)
      rw [List.getElem?_eq_getElem (by rw [hc1] at hl4; omega)] at h4
      simpa [Addr.add] using World.cell?_spot h4
    have key : ∀ i, i < len → ∃ y : α, ∃ b o, a = ⟨b, o, none⟩ ∧ W.cell? ⟨b, o + i, none⟩ = some (f y) ∧ Q y := by
      intro i hi
      have h1 := hel i hi
      rw [List.getElem?_eq_getElem (by omega)] at h1
      obtain ⟨cs', h2, h3⟩ := Option.bind_eq_some_iff.1 h1
      obtain ⟨_, hl4, hc⟩ := World.cells?_some h2
      have hs := hspot (by omega)
      obtain ⟨b, o, spot⟩ := a
      simp only at hs
      subst hs
      have hmem : elems[i] ∈ elems := List.getElem_mem _
      obtain ⟨y, rfl, hq⟩ := ho _ _ _ h3 (by
        have h5 := bulk_part (List.mem_map.2 ⟨elems[i], hmem, rfl⟩ : (elems[i]).1 ∈ elems.map (·.1))
        simp only [Rows.uptoBulk] at hw
        omega)
      refine ⟨y, b, o, rfl, ?_, hq⟩
      have := hc 0 (by rw [hc1]; omega)
      rw [off_add, off_add, hc1] at this
      simpa using this
    obtain ⟨l, hl, hq⟩ := list_of_ex len key
    subst hl
    refine ⟨some a, l, cap, rfl, fun h0 => ?_, ?_, fun r hr => ?_⟩
    · obtain ⟨b, o, rfl, hcell, _⟩ := hq 0 h0
      refine ⟨b, o, rfl, lt_of_cell hcell, fun i hi => ?_⟩
      obtain ⟨b', o', e', hx, _⟩ := hq i hi
      injection e' with e1 e2; subst e1 e2
      exact hx
    · have h5 := bulk_len (elems.map (·.1))
      simp only [List.length_map] at h5
      simp only [Rows.uptoBulk] at hw
      omega
    · obtain ⟨i, hi, rfl⟩ := List.getElem_of_mem hr
      obtain ⟨_, _, _, _, h3⟩ := hq i hi
      exact h3
set_option maxRecDepth 100000 in
/-- A sum that came in. -/
theorem open_linB {H : Type} {enc : TypeId × Value → H} {W : World} {fuel : Nat} {cs : List Value} {x : DataW H × List MemPlace} (h : DataW.trod enc Tryz.prog W 0 (fun _ => true) true fuel 25 cs = some x) (hw : ∀ z ∈ x.1.weights Tryz.prog 25, z ≤ reachBytes) (hbk : Rows.uptoBulk x.1 ≤ 1048576) :
    ∃ a : Ln, a.Sm ∧ Sml a ∧ a.At (fun g => g < W.heap.size) W (.agg cs.toArray) := by
  obtain ⟨xs, n', rfl, rfl, hl, hx, hf⟩ := DataW.trod_struct Tryz.underlying25 h
  rw [cells_lin] at hl
  match cs, hl with
  | [c0, c1, c2], _ =>
    have f0 := hf 0 _ rfl
    have f1 := hf 1 _ rfl
    have f2 := hf 2 _ rfl
    have hx3 : xs.length = 3 := hx
    rw [List.getElem?_eq_getElem (by omega)] at f0 f1 f2
    have f0' : DataW.trod enc Tryz.prog W 0 (fun _ => true) true n' 22 [c0] = some xs[0] := by rw [← f0]; simp [cells_strs1]
    have f1' : DataW.trod enc Tryz.prog W 0 (fun _ => true) true n' 23 [c1] = some xs[1] := by rw [← f1]; simp [cells_ints1]
    have f2' : DataW.trod enc Tryz.prog W 0 (fun _ => true) true n' 3 [c2] = some xs[2] := by rw [← f2]; simp [cells_int1]
    have hb0 : Rows.uptoBulk (xs[0]).1 ≤ 1048576 := by
      have h5 := bulk_part (List.mem_map.2 ⟨xs[0], List.getElem_mem _, rfl⟩ : (xs[0]).1 ∈ xs.map (·.1))
      simp only [Rows.uptoBulk] at hbk
      omega
    have w1 : ∀ z ∈ (xs[1]).1.weights Tryz.prog 23, z ≤ reachBytes := fun z hz => hw z (by
      have hm2 : (xs.map (·.1))[1]? = some (xs[1]).1 := by simp [List.getElem?_eq_getElem (show 1 < xs.length by omega)]
      simp only [DataW.weights, Tryz.underlying25]
      exact DataW.weights_mem_each (j := 1) (by rfl) hm2 _ hz)
    obtain ⟨A, l, c, e0, r0, s0, q0⟩ := open_rdB (f := strv) (N := 1048576) (fun s => s.size ≤ 1048576) Tryz.underlying22 cells_str1 (fun n cs x hx hz => by
      obtain ⟨s, rfl, e, _⟩ := DataW.trod_string Tryz.underlying9 hx
      refine ⟨s, rfl, ?_⟩
      rw [e] at hz
      simp only [Rows.uptoBulk] at hz
      have e : s.data.toList.length = s.size := by simp
      omega) f0' hb0
    obtain ⟨B, m, d, e1, r1, s1⟩ := open_ints1 f1' w1
    obtain ⟨k, e2, _, hk⟩ := DataW.trod_int Tryz.underlying3 f2'
    injection e0 with e0
    injection e1 with e1
    injection e2 with e2
    subst e0 e1 e2
    exact ⟨⟨l, m, k⟩, ⟨⟨by show l.length * 16 ≤ 140737488351232; omega, fun y hy => Nat.le_trans (q0 y hy) (by decide)⟩, s1, int_of_wf hk⟩, q0, A, B, c, d, rfl, r0, r1, rd_inF r0, rd_inF r1⟩
theorem prints_reads (os : Os) {H : Type} (enc : TypeId × Value → H) : ∃ places, DataW.whole enc Tryz.prog ((World.doorLaid Tryz.prog 400 os).forCall (fun _ _ => 0) ⟨#[], #[.agg #[.slice none 0 0, .slice none 0 0, .int .i64 0]], []⟩).memory Tryz.f4.params.toList Rows.exprPrintsSpec.vars false (#[.agg #[.slice none 0 0, .slice none 0 0, .int .i64 0]] : Array Value).toList 8 = some ([.agg [.nil, .nil, .lit (.int .i64 0)]], [], places) :=
  ⟨[], by kernel_rfl⟩
set_option maxHeartbeats 3200000 in
set_option maxRecDepth 100000 in
theorem exprPrints_lifted (os : Os) (started : os.Started) (H : Type) (enc : TypeId × Value → H) (F : Stop.Interp) :
    ReturnsInHanded {} Tryz.checked os 4 .any ((Rows.OpenSpec.upto Rows.exprPrintsSpec).preRow enc Tryz.prog Tryz.f4 Rows.exprPrintsUptoRow.domain false Rows.exprPrintsUptoRow.laid)
      (((Rows.OpenSpec.upto Rows.exprPrintsSpec).at F).post enc Tryz.prog Tryz.f4 false true false false) := by
  obtain ⟨places, hx⟩ := prints_reads os enc
  refine returnsInHanded_of_row (C := Tryz.checked) (s := Rows.OpenSpec.upto Rows.exprPrintsSpec) Tryz.own started (by kernel_rfl) Tryz.func4
    (witness_row_atRef (enc := enc) (C := Tryz.checked) false (World.doorLaid Tryz.prog 400 os) #[.agg #[.slice none 0 0, .slice none 0 0, .int .i64 0]] rfl (by kernel_rfl) (by kernel_rfl) (by kernel_rfl)
      (OpenSpec.preRow_of_cond 8 hx (by kernel_rfl) (fun k hk => by cases hk; kernel_rfl) (by kernel_rfl) (door_met os _))) ?_
  intro W base args ds gs before hval0 hW _ hcond hsz0 hL _ _
  have hval : ∀ (j : Nat) t v, Tryz.f4.params[j]? = some t → args[j]? = some v → Value.okWide Tryz.prog W .any base t v := hval0
  have hsz : (DataW.weightsEach Tryz.prog (Tryz.f4.params.toList ++ Rows.exprPrintsSpec.plain.varTypes Tryz.prog) (ds ++ gs)).all (· ≤ reachBytes) = true := hsz0
  have hW' := hW
  obtain ⟨p, q, hA0, hV, rfl, hfz, hnd⟩ := hW
  have hA : DataW.TrodAll enc Tryz.prog W 0 (fun _ => true) true Tryz.f4.params.toList args.toList ds p := hA0
  rw [Tryz.params4] at hA hval hsz
  obtain ⟨v0, d0, rfl, rfl, h0⟩ := trodAll_one hA
  obtain ⟨rfl, rfl⟩ := trodVars_none hV
  have hk : Rows.uptoSmall H ([d0] ++ []) = true := hcond _ rfl
  have hb := of_decide_eq_true hk
  simp only [List.append_nil, Rows.uptoBulkAll, Nat.add_zero] at hb
  have hlt : ∀ x ∈ p, x.block < W.heap.size := fun x hx => hW'.lt x (by simpa using hx)
  have h0' := h0
  obtain ⟨fu0, q0⟩ := h0
  have hw0 : ∀ z ∈ d0.weights Tryz.prog 25, z ≤ reachBytes := fun z hz => by
    have := List.all_eq_true.1 hsz _ (DataW.weights_mem_each (j := 0) (t := 25) rfl rfl z hz)
    simpa using this
  obtain ⟨cs0, rfl, _⟩ := okWide_struct Tryz.underlying25 (hval 0 25 v0 rfl rfl)
  obtain ⟨a, ha, hq, hat⟩ := open_linB q0 hw0 hb
  have hat' : a.At (fun g => g < W.heap.size) W (.agg cs0) := by simpa [Value.cells] using hat
  clear hA0 hval0 hA q0 hat
  simp only [List.append_nil] at hW'
  have hla := of_laid hL
  refine (prints_walk Laid Sml alive_c print_c read_c a _ W (fun w' k => hla.fr k) hq ha hat').mono fun e W' ⟨he, hw⟩ => ?_
  subst he
  exact ⟨_, rfl, law_post (gs := []) hW' hw (fun _ _ _ => trodAll_mk1 (shut_bool Tryz.underlying4 _)) (trodAll_mk1 (Below.trod Tryz.laid (by kernel_rfl) (of_decide_eq_true (by kernel_rfl)) h0' hw hlt)) (fun _ => rfl)⟩
theorem exprPrints_holds : Rows.ExprPrintsUptoSaid :=
  OpenClaim.holds_of_cond 4 Tryz.f4 rfl rfl rfl rfl rfl rfl rfl ⟨rfl, rfl, rfl, rfl, rfl⟩ rfl rfl rfl rfl rfl (by kernel_rfl) Tryz.func4 (by kernel_rfl)
    (of_decide_eq_true (by kernel_rfl)) (by unfold Func.isWrapper; first | (rw [if_pos (by decide +kernel)]; kernel_rfl) | (rw [if_neg (by decide +kernel)]; exact ⟨rfl, rfl⟩))
    (fun os started H enc _ F => by rw [OpenClaim.pre_eq_preRow]; exact exprPrints_lifted os started H enc F)
theorem exprPrints_card : Rows.ExprPrintsUptoCardSaid :=
  Claim7.holds_tied_plain_at .later [] _ _ _ _
    exprPrints_holds (fun _ h => by cases h) (by kernel_rfl) (fun _ h => by cases h) exprPrintsUpto_row_tie rfl ⟨rfl, rfl⟩ (by kernel_rfl) rfl
    (fun f fn hf hfn => by
      obtain rfl : f = 4 := Option.some.inj ((show Tryz.prog.funcNamed "dovetail/dovetaillaw12.ExprPrints" = some 4 by kernel_rfl).symm.trans hf) |>.symm
      obtain rfl : fn = Tryz.f4 := (Option.some.inj (Tryz.func4.symm.trans hfn)).symm
      exact ⟨by kernel_rfl, fun j t ht => by
        rw [Tryz.params4] at ht
        have h0 : t = 25 := by
          rcases j with _ | j
          · simpa using ht.symm
          · simp at ht
        subst h0
        exact (show Tryz.prog.wantsStandIn 25 = false by kernel_rfl)⟩)
    (by kernel_rfl)
#print axioms exprPrints_card
end Go.Proofs.YtbnaakognnkhdaaGreatDoor
