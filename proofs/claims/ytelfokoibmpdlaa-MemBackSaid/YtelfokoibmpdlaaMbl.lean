/- For any regions, any thing done and any place to look, MemBack answers true; no condition. -/
import Derived.Test.YtelfokoibmpdlaaMr
import Derived.Test.YtelfokoibmpdlaaMs
namespace Go.Proofs.Ytelfokoibmpdlaa
open Go.ChangeShapes Go.WideShapes Go.ChangeAt Go.RowKit Go.Joins
set_option linter.unusedSimpArgs false
set_option linter.unusedVariables false

theorem open_op {H : Type} {enc : TypeId × Value → H} {W : World} {fuel : Nat} {cs : List Value} {x : DataW H × List MemPlace} (h : DataW.trod enc Try.prog W 0 (fun _ => true) true fuel 34 cs = some x) (hl : cs.length = 4) :
    ∃ (kd : Int) (a : Nat) (n : Int) (v : Nat), cs = [.int .i64 kd, .int .u64 (a : Int), .int .i64 n, .int .u64 (v : Int)] ∧ a < 18446744073709551616 ∧ v < 18446744073709551616 ∧ -9223372036854775808 ≤ n ∧ n ≤ 9223372036854775807 ∧ -9223372036854775808 ≤ kd ∧ kd ≤ 9223372036854775807 := by
  obtain ⟨n', rfl, _, hf⟩ := open_fields Try.underlying34 h
  match cs, hl with
  | [c0, c1, c2, c3], _ =>
    obtain ⟨k0, e0, w0⟩ := open_fint Try.underlying3 (hf 0 _ 0 1 _ rfl rfl cells_int rfl)
    obtain ⟨k1, e1, w1⟩ := open_fint Try.underlying32 (hf 1 _ 1 1 _ rfl rfl cells_u64 rfl)
    obtain ⟨k2, e2, w2⟩ := open_fint Try.underlying3 (hf 2 _ 2 1 _ rfl rfl cells_int rfl)
    obtain ⟨k3, e3, w3⟩ := open_fint Try.underlying32 (hf 3 _ 3 1 _ rfl rfl cells_u64 rfl)
    simp only [List.drop_zero, List.drop_succ_cons, List.take_succ_cons, List.take_zero, List.cons.injEq, and_true] at e0 e1 e2 e3
    subst e0 e1 e2 e3
    obtain ⟨a0, a1⟩ := int_of_wf w0
    obtain ⟨b0, b1⟩ := word_of_wf w1
    obtain ⟨d0, d1⟩ := int_of_wf w2
    obtain ⟨f0, f1⟩ := word_of_wf w3
    exact ⟨k0, k1.toNat, k2, k3.toNat, by rw [Int.toNat_of_nonneg b0, Int.toNat_of_nonneg f0], by omega, by omega, d0, d1, a0, a1⟩
theorem cells_op : Try.prog.cellsOf 34 = 4 := by kernel_rfl
set_option maxHeartbeats 3200000 in
set_option maxRecDepth 100000 in
theorem memBack_lifted (os : Os) (started : os.Started) (H : Type) (enc : TypeId × Value → H) :
    ReturnsInHanded {} Try.checked os 5 .any (Rows.memBackSpec.pre6 enc Try.prog Try.f5 Rows.memBackRow.domain false) (Rows.memBackSpec.post enc Try.prog Try.f5 false true false false) := by
  refine returnsInHanded_of_change_sized (C := Try.checked) Try.own started (by kernel_rfl) Try.func5
    (ChangeSpec.witness6 (enc := enc) (C := Try.checked) false ⟨#[], #[.slice none 0 0, .agg #[.int .i64 0, .int .u64 0, .int .i64 0, .int .u64 0], .int .u64 0], []⟩ 8 (by kernel_rfl) (by kernel_rfl) (by kernel_rfl) (by kernel_rfl)) ?_
  intro W base args ds gs before hval0 hW _ hsz0 _
  have hval : ∀ (j : Nat) t v, Try.f5.params[j]? = some t → args[j]? = some v → Value.okWide Try.prog W .any base t v := hval0
  have hsz : (DataW.weightsEach Try.prog (Try.f5.params.toList ++ Rows.memBackSpec.plain.varTypes Try.prog) (ds ++ gs)).all (· ≤ reachBytes) = true := hsz0
  have hW' := hW
  obtain ⟨p, q, hA0, hV, rfl, hfz, hnd⟩ := hW
  have hA : DataW.TrodAll enc Try.prog W 0 (fun _ => true) true Try.f5.params.toList args.toList ds p := hA0
  rw [Try.params5] at hA hval hsz
  obtain ⟨v0, v1, v2, d0, d1, d2, p0, p1, p2, rfl, rfl, rfl, h0, h1, h2⟩ := trodAll_three hA
  obtain ⟨rfl, rfl⟩ := trodVars_none hV
  have hlt : ∀ x ∈ p0 ++ (p1 ++ p2), x.block < W.heap.size := fun x hx => hW'.lt x (by simpa using hx)
  have hlt0 : ∀ x ∈ p0, x.block < W.heap.size := fun x hx => hlt x (by simp [hx])
  have hlt1 : ∀ x ∈ p1, x.block < W.heap.size := fun x hx => hlt x (by simp [hx])
  have h0' := h0
  have h1' := h1
  obtain ⟨fu0, q0⟩ := h0
  obtain ⟨fu1, q1⟩ := h1
  have hw0 : ∀ z ∈ d0.weights Try.prog 23, z ≤ reachBytes := fun z hz => by
    have := List.all_eq_true.1 hsz _ (DataW.weights_mem_each (j := 0) (t := 23) rfl rfl z hz)
    simpa using this
  obtain ⟨a0, len, cap, rfl⟩ := okWide_slice Try.underlying23 (hval 0 23 v0 rfl rfl)
  obtain ⟨A, l, c, e0, hrow, hlen, hby⟩ := open_rgs q0 hlt0 hw0
  obtain ⟨cs1, rfl, hc1⟩ := okWide_struct Try.underlying34 (hval 1 34 v1 rfl rfl)
  obtain ⟨kd, a, n, v, e1, ha, hv, hn0, hn1, _, _⟩ := open_op q1 (by obtain ⟨_, _, hl, _⟩ := open_fields Try.underlying34 q1; rw [cells_op] at hl; exact hl)
  have e1' : cs1 = #[.int .i64 kd, .int .u64 (a : Int), .int .i64 n, .int .u64 (v : Int)] := by apply Array.toList_inj.1; exact e1
  subst e1'
  have e0' : Value.slice a0 len cap = .slice A l.length c := by
    have : [Value.slice a0 len cap] = [.slice A l.length c] := e0
    injection this
  rw [e0'] at h0' hW' hval ⊢
  obtain ⟨look, rfl, rfl, rfl, wf2⟩ := open_int Try.underlying32 (hval 2 32 v2 rfl rfl) h2
  obtain ⟨k0, k1⟩ := word_of_wf wf2
  obtain ⟨lk, rfl⟩ : ∃ lk : Nat, look = (lk : Int) := ⟨look.toNat, by omega⟩
  clear hA0 hval0 hA q0 q1
  simp only [List.append_nil] at hW'
  refine (back_walk A c l kd a n v lk W hrow hlen hby ha hv (by omega) hn0 hn1).mono fun e W' ⟨he, hw⟩ => ?_
  subst he
  exact ⟨_, rfl, law_post (gs := []) hW' hw (fun _ _ _ => trodAll_mk1 (shut_bool Try.underlying4 _)) (by have h := trodAll_mk3 (Below.trod Try.laid (by kernel_rfl) (of_decide_eq_true (by kernel_rfl)) h0' hw hlt0) (Below.trod Try.laid (by kernel_rfl) (of_decide_eq_true (by kernel_rfl)) h1' hw hlt1) (shut_int Try.underlying32 wf2); simp only [List.append_nil] at h; exact h) (fun _ => rfl)⟩
theorem memBack_holds : Rows.MemBackSaid :=
  OpenClaim.holds_of_wide 5 Try.f5 rfl rfl rfl rfl rfl rfl rfl ⟨rfl, rfl, rfl, rfl, rfl⟩ rfl rfl rfl rfl rfl (by kernel_rfl) Try.func5 (by kernel_rfl)
    (of_decide_eq_true (by kernel_rfl)) (by unfold Func.isWrapper; first | (rw [if_pos (by decide +kernel)]; kernel_rfl) | (rw [if_neg (by decide +kernel)]; exact ⟨rfl, rfl⟩))
    (fun os started H enc _ => memBack_lifted os started H enc)
#print axioms memBack_holds
end Go.Proofs.Ytelfokoibmpdlaa
