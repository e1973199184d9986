/- Sums that came in: what they are, where they lie. -/
import Derived.Test.YtbnaakognnkhdaaGreatDoorNh
import Derived.Test.YtbnaakognnkhdaaGreatDoorMo
import Derived.Test.YtbnaakognnkhdaaGreatDoorLawp
import Derived.SizedLaws
import Derived.ChangeSlices
namespace Go.Proofs.YtbnaakognnkhdaaGreatDoor
open Go.ChangeShapes Go.WideShapes Go.ChangeAt Go.RowKit Go.Joins
set_option linter.unusedSimpArgs false
set_option linter.unusedVariables false

section
variable {H : Type} {enc : TypeId × Value → H} {W : World}
theorem weights_all {P : Program} {e : TypeId} {z : Nat} : ∀ (l : List (DataW H)) (d : DataW H), d ∈ l → z ∈ d.weights P e → z ∈ DataW.weightsAll P e l := by
  intro l
  induction l with
  | nil => intro d hd; simp at hd
  | cons y l ih =>
    intro d hd hz
    simp only [DataW.weightsAll, List.mem_append]
    rcases List.mem_cons.1 hd with rfl | hd
    · exact .inl hz
    · exact .inr (ih d hd hz)
/-- A row of one-cell things that came in. -/
theorem open_rd {P : Program} {α : Type} {f : α → Value} {t e : TypeId} {m : Nat} (Q : α → Prop) (ht : P.underlying t = some (.slice e)) (hc1 : P.cellsOf e = 1) (hb1 : P.bytesOf e = m)
    (ho : ∀ (n : Nat) (cs : List Value) (x : DataW H × List MemPlace), DataW.trod enc P W 0 (fun _ => true) true n e cs = some x → (∀ z ∈ x.1.weights P e, z ≤ reachBytes) → ∃ y : α, cs = [f y] ∧ Q y)
    {fuel : Nat} {cs : List Value} {x : DataW H × List MemPlace} (h : DataW.trod enc P W 0 (fun _ => true) true fuel t cs = some x) (hw : ∀ z ∈ x.1.weights P t, z ≤ reachBytes) :
    ∃ (A : Option Addr) (l : List α) (c : Nat), cs = [.slice A l.length c] ∧ Rd f W A l ∧ l.length * m ≤ 140737488351232 ∧ ∀ y ∈ l, Q y := by
  rcases DataW.trod_slice ht h with ⟨rfl, rfl⟩ | ⟨a, len, cap, elems, rest, n', rfl, rfl, rfl, hb, hlc, hcm, hlen, hel, _, _⟩
  · exact ⟨none, [], 0, rfl, Rd.nil, by simp, fun r hr => by simp at hr⟩
  · have hspot : 0 < len → a.spot = none := by
      intro h0
      have h1 := hel 0 h0
      rw [List.getElem?_eq_getElem (by omega)] at h1
      obtain ⟨cs', h2, h3⟩ := Option.bind_eq_some_iff.1 h1
      obtain ⟨_, hl4, hc⟩ := World.cells?_some h2
      have h4 := hc 0 (by rw [hc1]; omega)
      rw [List.getElem?_eq_getElem (by rw [hc1] at hl4; omega)] at h4
      simpa [Addr.add] using World.cell?_spot h4
    have key : ∀ i, i < len → ∃ y : α, ∃ b o, a = ⟨b, o, none⟩ ∧ W.cell? ⟨b, o + i, none⟩ = some (f y) ∧ Q y := by
      intro i hi
      have h1 := hel i hi
      rw [List.getElem?_eq_getElem (by omega)] at h1
      obtain ⟨cs', h2, h3⟩ := Option.bind_eq_some_iff.1 h1
      obtain ⟨_, hl4, hc⟩ := World.cells?_some h2
      have hs := hspot (by omega)
      obtain ⟨b, o, spot⟩ := a
      simp only at hs
      subst hs
      have hmem : elems[i] ∈ elems := List.getElem_mem _
      obtain ⟨y, rfl, hq⟩ := ho _ _ _ h3 (fun z hz => hw z (by
        simp only [DataW.weights, ht, List.mem_cons, List.mem_append]
        right; left
        exact weights_all _ _ (List.mem_map.2 ⟨elems[i], hmem, rfl⟩) hz))
      refine ⟨y, b, o, rfl, ?_, hq⟩
      have := hc 0 (by rw [hc1]; omega)
      rw [off_add, off_add, hc1] at this
      simpa using this
    obtain ⟨l, hl, hq⟩ := list_of_ex len key
    subst hl
    have hrb : reachBytes = 140737488351232 := by decide
    refine ⟨some a, l, cap, rfl, fun h0 => ?_, ?_, fun r hr => ?_⟩
    · obtain ⟨b, o, rfl, hcell, _⟩ := hq 0 h0
      refine ⟨b, o, rfl, lt_of_cell hcell, fun i hi => ?_⟩
      obtain ⟨b', o', e', hx, _⟩ := hq i hi
      injection e' with e1 e2; subst e1 e2
      exact hx
    · have := hw ((l.length + rest.length) * m) (by simp [DataW.weights, ht, hb1, hlen])
      rw [hrb] at this
      rw [Nat.add_mul] at this; omega
    · obtain ⟨i, hi, rfl⟩ := List.getElem_of_mem hr
      obtain ⟨_, _, _, _, h3⟩ := hq i hi
      exact h3
theorem cells_str1 : Tryz.prog.cellsOf 9 = 1 := by kernel_rfl
theorem cells_int1 : Tryz.prog.cellsOf 3 = 1 := by kernel_rfl
theorem bytes_str1 : Tryz.prog.bytesOf 9 = 16 := by kernel_rfl
theorem bytes_int1 : Tryz.prog.bytesOf 3 = 8 := by kernel_rfl
theorem cells_strs1 : Tryz.prog.cellsOf 22 = 1 := by kernel_rfl
theorem cells_ints1 : Tryz.prog.cellsOf 23 = 1 := by kernel_rfl
theorem cells_lin : Tryz.prog.cellsOf 25 = 3 := by kernel_rfl
theorem open_strs {fuel : Nat} {cs : List Value} {x : DataW H × List MemPlace} (h : DataW.trod enc Tryz.prog W 0 (fun _ => true) true fuel 22 cs = some x) (hw : ∀ z ∈ x.1.weights Tryz.prog 22, z ≤ reachBytes) :
    ∃ (A : Option Addr) (l : List ByteArray) (c : Nat), cs = [.slice A l.length c] ∧ Rd strv W A l ∧ SmS l := by
  obtain ⟨A, l, c, e, h1, h2, h3⟩ := open_rd (f := strv) (fun s => s.size ≤ 140737488351232) Tryz.underlying22 cells_str1 bytes_str1 (fun n cs x hx hz => by
    obtain ⟨s, rfl, rfl, _⟩ := DataW.trod_string Tryz.underlying9 hx
    refine ⟨s, rfl, ?_⟩
    have := hz s.data.toList.length (by simp [DataW.weights])
    have e : s.data.toList.length = s.size := by simp
    have hrb : reachBytes = 140737488351232 := by decide
    omega) h hw
  exact ⟨A, l, c, e, h1, h2, h3⟩
theorem open_ints1 {fuel : Nat} {cs : List Value} {x : DataW H × List MemPlace} (h : DataW.trod enc Tryz.prog W 0 (fun _ => true) true fuel 23 cs = some x) (hw : ∀ z ∈ x.1.weights Tryz.prog 23, z ≤ reachBytes) :
    ∃ (A : Option Addr) (l : List Int) (c : Nat), cs = [.slice A l.length c] ∧ Rd intv W A l ∧ SmT l := by
  obtain ⟨A, l, c, e, h1, h2, h3⟩ := open_rd (f := intv) I64 Tryz.underlying23 cells_int1 bytes_int1 (fun n cs x hx hz => by
    obtain ⟨k, rfl, _, hk⟩ := DataW.trod_int Tryz.underlying3 hx
    exact ⟨k, rfl, int_of_wf hk⟩) h hw
  exact ⟨A, l, c, e, h1, h2, h3⟩
theorem rd_inF {α : Type} {f : α → Value} {A : Option Addr} {l : List α} (h : Rd f W A l) : InF (fun g => g < W.heap.size) A l.length := fun hl => by
  obtain ⟨g, o, e, hg, _⟩ := h hl
  exact ⟨g, o, none, e, hg⟩
set_option maxRecDepth 100000 in
/-- A sum that came in. -/
theorem open_lin {fuel : Nat} {cs : List Value} {x : DataW H × List MemPlace} (h : DataW.trod enc Tryz.prog W 0 (fun _ => true) true fuel 25 cs = some x) (hw : ∀ z ∈ x.1.weights Tryz.prog 25, z ≤ reachBytes) :
    ∃ a : Ln, a.Sm ∧ a.At (fun g => g < W.heap.size) W (.agg cs.toArray) := by
  obtain ⟨xs, n', rfl, rfl, hl, hx, hf⟩ := DataW.trod_struct Tryz.underlying25 h
  rw [cells_lin] at hl
  match cs, hl with
  | [c0, c1, c2], _ =>
    have f0 := hf 0 _ rfl
    have f1 := hf 1 _ rfl
    have f2 := hf 2 _ rfl
    have hx3 : xs.length = 3 := hx
    rw [List.getElem?_eq_getElem (by omega)] at f0 f1 f2
    have f0' : DataW.trod enc Tryz.prog W 0 (fun _ => true) true n' 22 [c0] = some xs[0] := by rw [← f0]; simp [cells_strs1]
    have f1' : DataW.trod enc Tryz.prog W 0 (fun _ => true) true n' 23 [c1] = some xs[1] := by rw [← f1]; simp [cells_ints1]
    have f2' : DataW.trod enc Tryz.prog W 0 (fun _ => true) true n' 3 [c2] = some xs[2] := by rw [← f2]; simp [cells_int1]
    have w0 : ∀ z ∈ (xs[0]).1.weights Tryz.prog 22, z ≤ reachBytes := fun z hz => hw z (by
      have hm2 : (xs.map (·.1))[0]? = some (xs[0]).1 := by simp [List.getElem?_eq_getElem (show 0 < xs.length by omega)]
      simp only [DataW.weights, Tryz.underlying25]
      exact DataW.weights_mem_each (j := 0) (by rfl) hm2 _ hz)
    have w1 : ∀ z ∈ (xs[1]).1.weights Tryz.prog 23, z ≤ reachBytes := fun z hz => hw z (by
      have hm2 : (xs.map (·.1))[1]? = some (xs[1]).1 := by simp [List.getElem?_eq_getElem (show 1 < xs.length by omega)]
      simp only [DataW.weights, Tryz.underlying25]
      exact DataW.weights_mem_each (j := 1) (by rfl) hm2 _ hz)
    obtain ⟨A, l, c, e0, r0, s0⟩ := open_strs f0' w0
    obtain ⟨B, m, d, e1, r1, s1⟩ := open_ints1 f1' w1
    obtain ⟨k, e2, _, hk⟩ := DataW.trod_int Tryz.underlying3 f2'
    injection e0 with e0
    injection e1 with e1
    injection e2 with e2
    subst e0 e1 e2
    exact ⟨⟨l, m, k⟩, ⟨s0, s1, int_of_wf hk⟩, A, B, c, d, rfl, r0, r1, rd_inF r0, rd_inF r1⟩
end
end Go.Proofs.YtbnaakognnkhdaaGreatDoor
