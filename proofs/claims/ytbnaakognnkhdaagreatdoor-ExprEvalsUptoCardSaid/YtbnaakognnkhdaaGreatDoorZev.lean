/- For any two sums and any values, ExprEvals answers true, what came in being of bulk at most 1048576; its tied card in that form. -/
import Derived.Test.YtbnaakognnkhdaaGreatDoorNm
import Derived.Test.YtbnaakognnkhdaaGreatDoorZb
import Derived.Test.YtbnaakognnkhdaaGreatDoorZy
import Derived.Test.YtbnaakognnkhdaaGreatDoorZt
import Derived.Test.YtbnaakognnkhdaaGreatDoorTie
import Derived.Test.YtbnaakognnkhdaaGreatDoorCards
import Derived.SevenTiedAt
import Derived.ChangeMaps5
import Derived.Deep.DeepWitnessRowRef
import Derived.Deep.DeepHandedRow
namespace Go.Proofs.YtbnaakognnkhdaaGreatDoor
open Go.ChangeMaps Go.ChangeShapes Go.WideShapes Go.ChangeAt Go.RowKit Go.Joins Go.Deep
set_option linter.unusedSimpArgs false
set_option linter.unusedVariables false

theorem bulk_one {H : Type} (d : DataW H) : 1 ≤ Rows.uptoBulk d := by
  cases d with
  | lit l => cases l <;> simp [Rows.uptoBulk]
  | nil => simp [Rows.uptoBulk]
  | ptr d => simp [Rows.uptoBulk]
  | slice elems spare => simp [Rows.uptoBulk]
  | agg parts => simp [Rows.uptoBulk]
  | iface t d => simp [Rows.uptoBulk]
  | map entries => simp [Rows.uptoBulk]
  | held h => simp [Rows.uptoBulk]
theorem bulk_len {H : Type} : ∀ l : List (DataW H), l.length ≤ Rows.uptoBulkAll l
  | [] => by simp [Rows.uptoBulkAll]
  | x :: r => by have h1 := bulk_one x; have h2 := bulk_len r; simp only [List.length_cons, Rows.uptoBulkAll]; omega
theorem bulk_part {H : Type} {d : DataW H} {l : List (DataW H)} (h : d ∈ l) : Rows.uptoBulk d ≤ Rows.uptoBulkAll l := by
  induction l with
  | nil => cases h
  | cons x r ih =>
    simp only [Rows.uptoBulkAll]
    rcases List.mem_cons.1 h with e | e
    · subst e; omega
    · have := ih e; omega
set_option maxRecDepth 100000 in
/-- How many symbols a sum that came in has. -/
theorem lin_bulk {H : Type} {enc : TypeId × Value → H} {W : World} {fuel n c : Nat} {A : Option Addr} {u1 u2 : Value} {x : DataW H × List MemPlace} (h : DataW.trod enc Tryz.prog W 0 (fun _ => true) true fuel 25 [.slice A n c, u1, u2] = some x) : n ≤ Rows.uptoBulk x.1 := by
  obtain ⟨xs, n', rfl, rfl, hl, hx, hf⟩ := DataW.trod_struct Tryz.underlying25 h
  have f0 := hf 0 _ rfl
  have hx3 : xs.length = 3 := hx
  rw [List.getElem?_eq_getElem (by omega)] at f0
  have f0' : DataW.trod enc Tryz.prog W 0 (fun _ => true) true n' 22 [.slice A n c] = some xs[0] := by rw [← f0]; simp [cells_strs1]
  have hm : (xs[0]).1 ∈ xs.map (·.1) := List.mem_map.2 ⟨_, List.getElem_mem _, rfl⟩
  have hb := bulk_part hm
  have h1 : n ≤ Rows.uptoBulk (xs[0]).1 := by
    rcases DataW.trod_slice Tryz.underlying22 f0' with ⟨e, _⟩ | ⟨a, len, cap, elems, rest, n', _, e, e2, _, _, _, hlen, _⟩
    · simp only [List.cons.injEq, Value.slice.injEq, and_true] at e
      omega
    · simp only [List.cons.injEq, Value.slice.injEq, and_true] at e
      rw [e2]
      have h2 := bulk_len (elems.map (·.1))
      simp only [List.length_map] at h2
      simp only [Rows.uptoBulk]
      omega
  simp only [Rows.uptoBulk]
  omega
theorem evals_reads (os : Os) {H : Type} (enc : TypeId × Value → H) : ∃ places, DataW.whole enc Tryz.prog ((World.doorLaid Tryz.prog 400 os).forCall (fun _ _ => 0) ⟨#[], #[.agg #[.slice none 0 0, .slice none 0 0, .int .i64 0], .agg #[.slice none 0 0, .slice none 0 0, .int .i64 0], .slice none 0 0], []⟩).memory Tryz.f5.params.toList Rows.exprEvalsSpec.vars false (#[.agg #[.slice none 0 0, .slice none 0 0, .int .i64 0], .agg #[.slice none 0 0, .slice none 0 0, .int .i64 0], .slice none 0 0] : Array Value).toList 8 = some ([.agg [.nil, .nil, .lit (.int .i64 0)], .agg [.nil, .nil, .lit (.int .i64 0)], .nil], [], places) :=
  ⟨[], by kernel_rfl⟩
set_option maxHeartbeats 3200000 in
set_option maxRecDepth 100000 in
theorem exprEvals_lifted (os : Os) (started : os.Started) (H : Type) (enc : TypeId × Value → H) (F : Stop.Interp) :
    ReturnsInHanded {} Tryz.checked os 5 .any ((Rows.OpenSpec.upto Rows.exprEvalsSpec).preRow enc Tryz.prog Tryz.f5 Rows.exprEvalsUptoRow.domain false Rows.exprEvalsUptoRow.laid)
      (((Rows.OpenSpec.upto Rows.exprEvalsSpec).at F).post enc Tryz.prog Tryz.f5 false true false false) := by
  obtain ⟨places, hx⟩ := evals_reads os enc
  refine returnsInHanded_of_row (C := Tryz.checked) (s := Rows.OpenSpec.upto Rows.exprEvalsSpec) Tryz.own started (by kernel_rfl) Tryz.func5
    (witness_row_atRef (enc := enc) (C := Tryz.checked) false (World.doorLaid Tryz.prog 400 os) #[.agg #[.slice none 0 0, .slice none 0 0, .int .i64 0], .agg #[.slice none 0 0, .slice none 0 0, .int .i64 0], .slice none 0 0] rfl (by kernel_rfl) (by kernel_rfl) (by kernel_rfl)
      (OpenSpec.preRow_of_cond 8 hx (by kernel_rfl) (fun k hk => by cases hk; kernel_rfl) (by kernel_rfl) (door_met os _))) ?_
  intro W base args ds gs before hval0 hW _ hcond hsz0 hL _ _
  have hval : ∀ (j : Nat) t v, Tryz.f5.params[j]? = some t → args[j]? = some v → Value.okWide Tryz.prog W .any base t v := hval0
  have hsz : (DataW.weightsEach Tryz.prog (Tryz.f5.params.toList ++ Rows.exprEvalsSpec.plain.varTypes Tryz.prog) (ds ++ gs)).all (· ≤ reachBytes) = true := hsz0
  have hW' := hW
  obtain ⟨p, q, hA0, hV, rfl, hfz, hnd⟩ := hW
  have hA : DataW.TrodAll enc Tryz.prog W 0 (fun _ => true) true Tryz.f5.params.toList args.toList ds p := hA0
  rw [Tryz.params5] at hA hval hsz
  obtain ⟨v0, v1, v2, d0, d1, d2, p0, p1, p2, rfl, rfl, rfl, h0, h1, h2⟩ := trodAll_three hA
  obtain ⟨rfl, rfl⟩ := trodVars_none hV
  have hk : Rows.uptoSmall H ([d0, d1, d2] ++ []) = true := hcond _ rfl
  have hb := of_decide_eq_true hk
  simp only [List.append_nil, Rows.uptoBulkAll, Nat.add_zero] at hb
  have hlt : ∀ x ∈ p0 ++ (p1 ++ p2), x.block < W.heap.size := fun x hx => hW'.lt x (by simpa using hx)
  have hlt0 : ∀ x ∈ p0, x.block < W.heap.size := fun x hx => hlt x (by simp [hx])
  have hlt1 : ∀ x ∈ p1, x.block < W.heap.size := fun x hx => hlt x (by simp [hx])
  have hlt2 : ∀ x ∈ p2, x.block < W.heap.size := fun x hx => hlt x (by simp [hx])
  have h0' := h0
  have h1' := h1
  have h2' := h2
  obtain ⟨fu0, q0⟩ := h0
  obtain ⟨fu1, q1⟩ := h1
  obtain ⟨fu2, q2⟩ := h2
  have hw0 : ∀ z ∈ d0.weights Tryz.prog 25, z ≤ reachBytes := fun z hz => by
    have := List.all_eq_true.1 hsz _ (DataW.weights_mem_each (j := 0) (t := 25) rfl rfl z hz)
    simpa using this
  have hw1 : ∀ z ∈ d1.weights Tryz.prog 25, z ≤ reachBytes := fun z hz => by
    have := List.all_eq_true.1 hsz _ (DataW.weights_mem_each (j := 1) (t := 25) rfl rfl z hz)
    simpa using this
  have hw2 : ∀ z ∈ d2.weights Tryz.prog 23, z ≤ reachBytes := fun z hz => by
    have := List.all_eq_true.1 hsz _ (DataW.weights_mem_each (j := 2) (t := 23) rfl rfl z hz)
    simpa using this
  obtain ⟨cs0, rfl, _⟩ := okWide_struct Tryz.underlying25 (hval 0 25 v0 rfl rfl)
  obtain ⟨cs1, rfl, _⟩ := okWide_struct Tryz.underlying25 (hval 1 25 v1 rfl rfl)
  obtain ⟨a2, n2, c2, rfl⟩ := okWide_slice Tryz.underlying23 (hval 2 23 v2 rfl rfl)
  obtain ⟨a, ha, hat⟩ := open_lin q0 hw0
  obtain ⟨b, hb1, hbt⟩ := open_lin q1 hw1
  obtain ⟨V, vals, cv, e2, hV2, hvs⟩ := open_ints1 q2 hw2
  simp only [Value.cells, List.cons.injEq, and_true, Value.slice.injEq] at e2
  obtain ⟨rfl, rfl, rfl⟩ := e2
  have hat' : a.At (fun g => g < W.heap.size) W (.agg cs0) := by simpa [Value.cells] using hat
  have hbt' : b.At (fun g => g < W.heap.size) W (.agg cs1) := by simpa [Value.cells] using hbt
  have ln0 : a.ss.length ≤ Rows.uptoBulk d0 := by
    obtain ⟨A, B, c, d, e, _⟩ := hat
    have e' : (Value.cells (.agg cs0)).toList = [.slice A a.ss.length c, .slice B a.ts.length d, .int .i64 a.off] := by
      injection e with e
      have e := congrArg Array.toList e
      simpa using e
    rw [e'] at q0
    exact lin_bulk q0
  have ln1 : b.ss.length ≤ Rows.uptoBulk d1 := by
    obtain ⟨A, B, c, d, e, _⟩ := hbt
    have e' : (Value.cells (.agg cs1)).toList = [.slice A b.ss.length c, .slice B b.ts.length d, .int .i64 b.off] := by
      injection e with e
      have e := congrArg Array.toList e
      simpa using e
    rw [e'] at q1
    exact lin_bulk q1
  clear hA0 hval0 hA q0 q1 q2 hat hbt
  simp only [List.append_nil] at hW'
  refine (evals_walk alive_c add_c times_c eval_c a b _ _ vals a2 c2 _ W ha hb1 hvs rfl (by omega) hat' hbt' hV2).mono fun e W' ⟨he, hw⟩ => ?_
  subst he
  exact ⟨_, rfl, law_post (gs := []) hW' hw (fun _ _ _ => trodAll_mk1 (shut_bool Tryz.underlying4 _)) (by have h := trodAll_mk3 (Below.trod Tryz.laid (by kernel_rfl) (of_decide_eq_true (by kernel_rfl)) h0' hw hlt0) (Below.trod Tryz.laid (by kernel_rfl) (of_decide_eq_true (by kernel_rfl)) h1' hw hlt1) (Below.trod Tryz.laid (by kernel_rfl) (of_decide_eq_true (by kernel_rfl)) h2' hw hlt2); rw [List.append_assoc]; exact h) (fun _ => rfl)⟩
theorem exprEvals_holds : Rows.ExprEvalsUptoSaid :=
  OpenClaim.holds_of_cond 5 Tryz.f5 rfl rfl rfl rfl rfl rfl rfl ⟨rfl, rfl, rfl, rfl, rfl⟩ rfl rfl rfl rfl rfl (by kernel_rfl) Tryz.func5 (by kernel_rfl)
    (of_decide_eq_true (by kernel_rfl)) (by unfold Func.isWrapper; first | (rw [if_pos (by decide +kernel)]; kernel_rfl) | (rw [if_neg (by decide +kernel)]; exact ⟨rfl, rfl⟩))
    (fun os started H enc _ F => by rw [OpenClaim.pre_eq_preRow]; exact exprEvals_lifted os started H enc F)
theorem exprEvals_card : Rows.ExprEvalsUptoCardSaid :=
  Claim7.holds_tied_plain_at .later [] _ _ _ _
    exprEvals_holds (fun _ h => by cases h) (by kernel_rfl) (fun _ h => by cases h) exprEvalsUpto_row_tie rfl ⟨rfl, rfl⟩ (by kernel_rfl) rfl
    (fun f fn hf hfn => by
      obtain rfl : f = 5 := Option.some.inj ((show Tryz.prog.funcNamed "dovetail/dovetaillaw12.ExprEvals" = some 5 by kernel_rfl).symm.trans hf) |>.symm
      obtain rfl : fn = Tryz.f5 := (Option.some.inj (Tryz.func5.symm.trans hfn)).symm
      exact ⟨by kernel_rfl, fun j t ht => by
        rw [Tryz.params5] at ht
        have h0 : t = 25 ∨ t = 23 := by
          rcases j with _ | _ | _ | j
          · exact .inl (by simpa using ht.symm)
          · exact .inl (by simpa using ht.symm)
          · exact .inr (by simpa using ht.symm)
          · simp at ht
        rcases h0 with rfl | rfl
        · exact (show Tryz.prog.wantsStandIn 25 = false by kernel_rfl)
        · exact (show Tryz.prog.wantsStandIn 23 = false by kernel_rfl)⟩)
    (by kernel_rfl)
#print axioms exprEvals_card
end Go.Proofs.YtbnaakognnkhdaaGreatDoor
