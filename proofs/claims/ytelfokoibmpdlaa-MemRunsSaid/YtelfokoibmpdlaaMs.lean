/- Regions that came in: what they are, where they lie. -/
import Derived.Test.YtelfokoibmpdlaaMi
import Derived.Test.YtelfokoibmpdlaaLawp
import Derived.SizedLaws
import Derived.ChangeSlices
namespace Go.Proofs.Ytelfokoibmpdlaa
open Go.ChangeShapes Go.WideShapes Go.ChangeAt Go.RowKit Go.Joins
set_option linter.unusedSimpArgs false
set_option linter.unusedVariables false

theorem cells_rg : Try.prog.cellsOf 49 = 3 := by kernel_rfl
theorem cells_u64 : Try.prog.cellsOf 32 = 1 := by kernel_rfl
theorem cells_int : Try.prog.cellsOf 3 = 1 := by kernel_rfl
theorem cells_bytes : Try.prog.cellsOf 44 = 1 := by kernel_rfl
theorem cells_u8 : Try.prog.cellsOf 5 = 1 := by kernel_rfl
theorem bytes_u8 : Try.prog.bytesOf 5 = 1 := by kernel_rfl
theorem bytes_rg : Try.prog.bytesOf 49 = 40 := by kernel_rfl
section
variable {H : Type} {enc : TypeId × Value → H} {W : World}
theorem open_rg {n : Nat} {cs : List Value} {x : DataW H × List MemPlace} {b o : Nat} (h : DataW.trod enc Try.prog W 0 (fun _ => true) true n 49 cs = some x) (hl : cs.length = 3) (hc : CellsAt W b o cs)
    (hlt : ∀ p ∈ x.2, p.block < W.heap.size) (hw : ∀ z ∈ x.1.weights Try.prog 49, z ≤ reachBytes) : ∃ r : Rg, RgAt W b o r ∧ r.bs.length ≤ reachBytes := by
  obtain ⟨xs, n', rfl, rfl, _, hx, hf⟩ := DataW.trod_struct Try.underlying49 h
  match cs, hl with
  | [c0, c1, c2], _ =>
    have f0 := hf 0 _ rfl
    have f1 := hf 1 _ rfl
    have f2 := hf 2 _ rfl
    have hx3 : xs.length = 3 := hx
    rw [List.getElem?_eq_getElem (by omega)] at f0 f1 f2
    obtain ⟨k0, e0, w0⟩ := open_fint Try.underlying32 ⟨_, f0⟩
    obtain ⟨k1, e1, w1⟩ := open_fint Try.underlying3 ⟨_, f1⟩
    have g0 : c0 = .int .u64 k0 := by
      have : [c0] = [.int .u64 k0] := by rw [← e0]; simp [cells_u64]
      injection this
    have g1 : c1 = .int .i64 k1 := by
      have : [c1] = [.int .i64 k1] := by rw [← e1]; simp [cells_int]
      injection this
    have f2' : DataW.trod enc Try.prog W 0 (fun _ => true) true n' 44 [c2] = some xs[2] := by rw [← f2]; simp [cells_bytes]
    obtain ⟨h0a, h0b⟩ := word_of_wf w0
    obtain ⟨h1a, h1b⟩ := int_of_wf w1
    clear e0 e1
    subst g0 g1
    have hn0 : k0 = ((k0.toNat : Nat) : Int) := by omega
    have cc0 := hc 0 _ rfl
    have cc1 := hc 1 _ rfl
    have cc2 := hc 2 _ rfl
    rcases open_ints Try.underlying44 Try.underlying5 cells_u8 f2' with ⟨hcs, _⟩ | ⟨a, len, cap, zs, hcs, _, hlc, hm, hz, hxz, hcell, hwz⟩
    · injection hcs with hcs
      subst hcs
      refine ⟨⟨k0.toNat, k1, []⟩, ⟨(none, 0), ⟨⟨by show k0.toNat < _; omega, h1a, h1b, fun x hx => by simp at hx⟩, Nat.le_refl _, Nat.zero_le _, Rd.nil⟩, ?_, cc1, cc2⟩, Nat.zero_le _⟩
      rw [← hn0]; exact cc0
    · injection hcs with hcs
      subst hcs
      simp only [if_true] at hz
      have hlz : ((zs.take len).map Int.toNat).length = len := by simp; omega
      have hby : Bys ((zs.take len).map Int.toNat) := fun y hy => by
        obtain ⟨z, hz1, rfl⟩ := List.mem_map.1 hy
        have := byte_of_wf (hwz z (List.mem_of_mem_take hz1)); omega
      have hwt : (len + (cap - len)) * 1 ≤ reachBytes := by
        refine hw _ ?_
        have hm2 : (xs.map (·.1))[2]? = some (xs[2]).1 := by simp [List.getElem?_eq_getElem (show 2 < xs.length by omega)]
        have hin : (len + (cap - len)) * 1 ∈ DataW.weights Try.prog 44 (xs[2]).1 := by
          rw [hxz]
          simp only [DataW.weights, Try.underlying44, bytes_u8, lits, List.length_map, List.length_take, List.length_drop, List.mem_cons]
          left; rw [Nat.min_eq_left (by omega), hz]
        simp only [DataW.weights, Try.underlying49]
        exact DataW.weights_mem_each (j := 2) (by rfl) hm2 _ hin
      refine ⟨⟨k0.toNat, k1, (zs.take len).map Int.toNat⟩, ⟨(some a, cap), ⟨⟨by show k0.toNat < _; omega, h1a, h1b, hby⟩, by show ((zs.take len).map Int.toNat).length ≤ cap; omega, hm, ?_⟩, ?_, cc1, ?_⟩, by show ((zs.take len).map Int.toNat).length ≤ _; omega⟩
      · intro h0
        simp only at h0
        rw [hlz] at h0
        obtain ⟨g, off, spot⟩ := a
        have hspot : spot = none := by simpa [Addr.add] using World.cell?_spot (hcell 0 (by omega))
        subst hspot
        refine ⟨g, off, rfl, ?_, fun i hi => ?_⟩
        · have := hcell 0 (by omega)
          rw [off_add] at this
          exact lt_of_cell this
        · have hi' : i < len := by have h2 : i < ((zs.take len).map Int.toNat).length := hi; omega
          have := hcell i (by omega)
          rw [off_add] at this
          rw [this]
          simp only [List.getElem_map, List.getElem_take]
          have h2 := byte_of_wf (hwz _ (List.getElem_mem (show i < zs.length by omega)))
          rw [List.getD, List.getElem?_eq_getElem (by omega), Option.getD_some]
          exact congrArg (fun z => some (Value.int .u8 z)) (by omega)
      · rw [← hn0]; exact cc0
      · show W.cell? _ = some (Value.slice (some a) ((zs.take len).map Int.toNat).length cap)
        rw [hlz]; exact cc2
theorem open_rgs {fuel : Nat} {cs : List Value} {x : DataW H × List MemPlace} (h : DataW.trod enc Try.prog W 0 (fun _ => true) true fuel 23 cs = some x) (hlt : ∀ p ∈ x.2, p.block < W.heap.size)
    (hw : ∀ z ∈ x.1.weights Try.prog 23, z ≤ reachBytes) :
    ∃ (A : Option Addr) (l : List Rg) (c : Nat), cs = [.slice A l.length c] ∧ RowOf RgAt 3 W A l ∧ l.length * 40 ≤ 140737488351232 ∧ ∀ r ∈ l, r.bs.length ≤ 140737488351232 := by
  rcases DataW.trod_slice Try.underlying23 h with ⟨rfl, rfl⟩ | ⟨a, len, cap, elems, rest, n', rfl, rfl, rfl, hb, hlc, hcm, hlen, hel, _, _⟩
  · exact ⟨none, [], 0, rfl, fun h => absurd h (by simp), by simp, fun r hr => by simp at hr⟩
  · have hspot : 0 < len → a.spot = none := by
      intro h0
      have h1 := hel 0 h0
      rw [List.getElem?_eq_getElem (by omega)] at h1
      obtain ⟨cs', h2, h3⟩ := Option.bind_eq_some_iff.1 h1
      obtain ⟨_, hl4, hc⟩ := World.cells?_some h2
      have h4 := hc 0 (by rw [cells_rg]; omega)
      rw [List.getElem?_eq_getElem (by rw [cells_rg] at hl4; omega)] at h4
      simpa [Addr.add] using World.cell?_spot h4
    have key : ∀ i, i < len → ∃ r : Rg, ∃ b o, a = ⟨b, o, none⟩ ∧ RgAt W b (o + 3 * i) r ∧ r.bs.length ≤ reachBytes := by
      intro i hi
      have h1 := hel i hi
      rw [List.getElem?_eq_getElem (by omega)] at h1
      obtain ⟨cs', h2, h3⟩ := Option.bind_eq_some_iff.1 h1
      obtain ⟨_, hl4, hc⟩ := World.cells?_some h2
      have hs := hspot (by omega)
      obtain ⟨b, o, spot⟩ := a
      simp only at hs
      subst hs
      have hmem : elems[i] ∈ elems := List.getElem_mem _
      obtain ⟨r, hr, hrl⟩ := open_rg (b := b) (o := o + 3 * i) h3 (by rw [hl4, cells_rg]) (fun k v hk => by
        have hkl : k < Try.prog.cellsOf 49 := by rw [← hl4]; exact (List.getElem?_eq_some_iff.1 hk).1
        have := hc k hkl
        rw [off_add, off_add] at this
        rw [cells_rg, Nat.mul_comm i 3] at this
        rw [this, hk]) (fun p hp => hlt p (List.mem_append_right _ (List.mem_flatMap.2 ⟨elems[i], List.mem_append_left _ hmem, hp⟩))) (fun z hz => hw z (by
          simp only [DataW.weights, Try.underlying23, List.mem_cons, List.mem_append]
          right; left
          have gen : ∀ (l : List (DataW H)) (d : DataW H), d ∈ l → z ∈ d.weights Try.prog 49 → z ∈ DataW.weightsAll Try.prog 49 l := by
            intro l
            induction l with
            | nil => intro d hd; simp at hd
            | cons y l ih =>
              intro d hd hz
              simp only [DataW.weightsAll, List.mem_append]
              rcases List.mem_cons.1 hd with rfl | hd
              · exact .inl hz
              · exact .inr (ih d hd hz)
          exact gen _ _ (List.mem_map.2 ⟨elems[i], hmem, rfl⟩) hz))
      exact ⟨r, b, o, rfl, hr, hrl⟩
    obtain ⟨l, hl, hq⟩ := list_of_ex len key
    subst hl
    have hrb : reachBytes = 140737488351232 := by decide
    refine ⟨some a, l, cap, rfl, fun h0 => ?_, ?_, fun r hr => ?_⟩
    · obtain ⟨b, o, rfl, _⟩ := hq 0 h0
      refine ⟨b, o, rfl, fun i hi => ?_⟩
      obtain ⟨b', o', e', hx, _⟩ := hq i hi
      injection e' with e1 e2; subst e1 e2
      exact hx
    · have := hw ((l.length + rest.length) * 40) (by simp [DataW.weights, Try.underlying23, bytes_rg, hlen])
      rw [hrb] at this
      rw [Nat.add_mul] at this; omega
    · obtain ⟨i, hi, rfl⟩ := List.getElem_of_mem hr
      obtain ⟨_, _, _, _, h3⟩ := hq i hi
      rw [← hrb]; exact h3
end
end Go.Proofs.Ytelfokoibmpdlaa
