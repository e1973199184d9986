/- For any regions and any things done, MemRuns answers true; no condition. -/
import Derived.Test.YtelfokoibmpdlaaJn
import Derived.Test.YtelfokoibmpdlaaMs
namespace Go.Proofs.Ytelfokoibmpdlaa
open Go.ChangeShapes Go.WideShapes Go.ChangeAt Go.RowKit Go.Joins
set_option linter.unusedSimpArgs false
set_option linter.unusedVariables false

theorem open_op4 {H : Type} {enc : TypeId × Value → H} {W : World} {fuel : Nat} {cs : List Value} {x : DataW H × List MemPlace} (h : DataW.trod enc Try.prog W 0 (fun _ => true) true fuel 34 cs = some x) (hl : cs.length = 4) :
    ∃ (kd : Int) (a : Nat) (n : Int) (v : Nat), cs = [.int .i64 kd, .int .u64 (a : Int), .int .i64 n, .int .u64 (v : Int)] ∧ a < 18446744073709551616 ∧ v < 18446744073709551616 ∧ -9223372036854775808 ≤ n ∧ n ≤ 9223372036854775807 ∧ -9223372036854775808 ≤ kd ∧ kd ≤ 9223372036854775807 := by
  obtain ⟨n', rfl, _, hf⟩ := open_fields Try.underlying34 h
  match cs, hl with
  | [c0, c1, c2, c3], _ =>
    obtain ⟨k0, e0, w0⟩ := open_fint Try.underlying3 (hf 0 _ 0 1 _ rfl rfl cells_int rfl)
    obtain ⟨k1, e1, w1⟩ := open_fint Try.underlying32 (hf 1 _ 1 1 _ rfl rfl cells_u64 rfl)
    obtain ⟨k2, e2, w2⟩ := open_fint Try.underlying3 (hf 2 _ 2 1 _ rfl rfl cells_int rfl)
    obtain ⟨k3, e3, w3⟩ := open_fint Try.underlying32 (hf 3 _ 3 1 _ rfl rfl cells_u64 rfl)
    simp only [List.drop_zero, List.drop_succ_cons, List.take_succ_cons, List.take_zero, List.cons.injEq, and_true] at e0 e1 e2 e3
    subst e0 e1 e2 e3
    obtain ⟨a0, a1⟩ := int_of_wf w0
    obtain ⟨b0, b1⟩ := word_of_wf w1
    obtain ⟨d0, d1⟩ := int_of_wf w2
    obtain ⟨f0, f1⟩ := word_of_wf w3
    exact ⟨k0, k1.toNat, k2, k3.toNat, by rw [Int.toNat_of_nonneg b0, Int.toNat_of_nonneg f0], by omega, by omega, d0, d1, a0, a1⟩
theorem cells_op4 : Try.prog.cellsOf 34 = 4 := by kernel_rfl
theorem open_opC {H : Type} {enc : TypeId × Value → H} {W : World} (m : Nat) : Opens enc Try.prog W 34 OpC m := fun n cs x b o _ h hl hc => by
  obtain ⟨kd, a, n, v, rfl, ha, hv, h0, _⟩ := open_op4 h (by rw [hl, cells_op4])
  exact ⟨⟨kd, a, n, v⟩, hc 0 _ rfl, hc 1 _ rfl, hc 2 _ rfl, hc 3 _ rfl, ha, hv, h0⟩
set_option maxHeartbeats 3200000 in
set_option maxRecDepth 100000 in
theorem memRuns_lifted (os : Os) (started : os.Started) (H : Type) (enc : TypeId × Value → H) :
    ReturnsInHanded {} Try.checked os 4 .any (Rows.memRunsSpec.pre6 enc Try.prog Try.f4 Rows.memRunsRow.domain false) (Rows.memRunsSpec.post enc Try.prog Try.f4 false true false false) := by
  refine returnsInHanded_of_change_sized (C := Try.checked) Try.own started (by kernel_rfl) Try.func4
    (ChangeSpec.witness6 (enc := enc) (C := Try.checked) false ⟨#[], #[.slice none 0 0, .slice none 0 0], []⟩ 8 (by kernel_rfl) (by kernel_rfl) (by kernel_rfl) (by kernel_rfl)) ?_
  intro W base args ds gs before hval0 hW _ hsz0 _
  have hval : ∀ (j : Nat) t v, Try.f4.params[j]? = some t → args[j]? = some v → Value.okWide Try.prog W .any base t v := hval0
  have hsz : (DataW.weightsEach Try.prog (Try.f4.params.toList ++ Rows.memRunsSpec.plain.varTypes Try.prog) (ds ++ gs)).all (· ≤ reachBytes) = true := hsz0
  have hW' := hW
  obtain ⟨p, q, hA0, hV, rfl, hfz, hnd⟩ := hW
  have hA : DataW.TrodAll enc Try.prog W 0 (fun _ => true) true Try.f4.params.toList args.toList ds p := hA0
  rw [Try.params4] at hA hval hsz
  obtain ⟨v0, v1, d0, d1, p0, p1, rfl, rfl, rfl, h0, h1⟩ := trodAll_two hA
  obtain ⟨rfl, rfl⟩ := trodVars_none hV
  have hlt : ∀ x ∈ p0 ++ p1, x.block < W.heap.size := fun x hx => hW'.lt x (by simpa using hx)
  have hlt0 : ∀ x ∈ p0, x.block < W.heap.size := fun x hx => hlt x (by simp [hx])
  have hlt1 : ∀ x ∈ p1, x.block < W.heap.size := fun x hx => hlt x (by simp [hx])
  have h0' := h0
  have h1' := h1
  obtain ⟨fu0, q0⟩ := h0
  obtain ⟨fu1, q1⟩ := h1
  have hw0 : ∀ z ∈ d0.weights Try.prog 23, z ≤ reachBytes := fun z hz => by
    have := List.all_eq_true.1 hsz _ (DataW.weights_mem_each (j := 0) (t := 23) rfl rfl z hz)
    simpa using this
  obtain ⟨a0, len, cap, rfl⟩ := okWide_slice Try.underlying23 (hval 0 23 v0 rfl rfl)
  obtain ⟨A, l, c, e0, hrow, hlen, hby⟩ := open_rgs q0 hlt0 hw0
  obtain ⟨a1, len1, cap1, rfl⟩ := okWide_slice Try.underlying24 (hval 1 24 v1 rfl rfl)
  obtain ⟨B, ops, d, e1, hl1, hl2, hrow1⟩ := Opens.row Try.underlying24 cells_op4 (by decide) (open_opC fu1) (Nat.le_refl _) q1
  have e0' : Value.slice a0 len cap = .slice A l.length c := by
    have : [Value.slice a0 len cap] = [.slice A l.length c] := e0
    injection this
  have e1' : Value.slice a1 len1 cap1 = .slice B ops.length d := by
    have : [Value.slice a1 len1 cap1] = [.slice B ops.length d] := e1
    injection this
  rw [e0'] at h0' hW' hval ⊢
  rw [e1'] at h1' hW' hval ⊢
  clear hA0 hval0 hA q0 q1
  simp only [List.append_nil] at hW'
  refine (runs_walk A c l B d ops W hrow hrow1 (Nat.le_trans hl1 hl2) hlen hby).mono fun e W' ⟨he, hw⟩ => ?_
  subst he
  exact ⟨_, rfl, law_post (gs := []) hW' hw (fun _ _ _ => trodAll_mk1 (shut_bool Try.underlying4 _)) (by have h := trodAll_mk2 (Below.trod Try.laid (by kernel_rfl) (of_decide_eq_true (by kernel_rfl)) h0' hw hlt0) (Below.trod Try.laid (by kernel_rfl) (of_decide_eq_true (by kernel_rfl)) h1' hw hlt1); first | exact h | simpa using h) (fun _ => rfl)⟩
theorem memRuns_holds : Rows.MemRunsSaid :=
  OpenClaim.holds_of_wide 4 Try.f4 rfl rfl rfl rfl rfl rfl rfl ⟨rfl, rfl, rfl, rfl, rfl⟩ rfl rfl rfl rfl rfl (by kernel_rfl) Try.func4 (by kernel_rfl)
    (of_decide_eq_true (by kernel_rfl)) (by unfold Func.isWrapper; first | (rw [if_pos (by decide +kernel)]; kernel_rfl) | (rw [if_neg (by decide +kernel)]; exact ⟨rfl, rfl⟩))
    (fun os started H enc _ => memRuns_lifted os started H enc)
#print axioms memRuns_holds
end Go.Proofs.Ytelfokoibmpdlaa
