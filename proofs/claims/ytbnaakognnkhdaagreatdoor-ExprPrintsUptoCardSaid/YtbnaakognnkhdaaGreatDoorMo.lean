/- What came in, opened: rows of structs, whatever their element. -/
import Derived.Test.YtbnaakognnkhdaaGreatDoorFr
import Derived.Test.YtbnaakognnkhdaaGreatDoorProg
import Derived.Deep.Slices
import Derived.Deep.Fields
import Derived.ChangeArms
namespace Go.Proofs.YtbnaakognnkhdaaGreatDoor
open Go.ChangeShapes Go.WideShapes Go.RowKit Go.Deep
set_option linter.unusedSimpArgs false
set_option linter.unusedVariables false

/-- A row of structs of n cells, each as f says of the place of its first cell. -/
def RowOf {α : Type} (f : World → Nat → Nat → α → Prop) (n : Nat) (w : World) (A : Option Addr) (l : List α) : Prop :=
  0 < l.length → ∃ b o, A = some ⟨b, o, none⟩ ∧ ∀ (i : Nat) (h : i < l.length), f w b (o + n * i) l[i]
theorem RowOf.fr {α : Type} {f : World → Nat → Nat → α → Prop} {n : Nat} {w w' : World} {A : Option Addr} {l : List α} (hf : ∀ b o x, f w b o x → f w' b o x) (h : RowOf f n w A l) : RowOf f n w' A l := fun hl => by
  obtain ⟨b, o, e, hx⟩ := h hl; exact ⟨b, o, e, fun i hi => hf _ _ _ (hx i hi)⟩
theorem RowOf.at {α : Type} {f : World → Nat → Nat → α → Prop} {n : Nat} {w : World} {A : Option Addr} {l : List α} (h : RowOf f n w A l) {i : Nat} (hi : i < l.length) : ∃ b o, A = some ⟨b, o, none⟩ ∧ f w b (o + n * i) l[i] := by
  obtain ⟨b, o, e, hx⟩ := h (by omega); exact ⟨b, o, e, hx i hi⟩
theorem list_of_ex {α : Type} {Q : Nat → α → Prop} : ∀ n : Nat, (∀ i, i < n → ∃ a, Q i a) → ∃ l : List α, l.length = n ∧ ∀ (i : Nat) (h : i < l.length), Q i l[i]
  | 0, _ => ⟨[], rfl, fun i h => absurd h (by simp)⟩
  | n + 1, h => by
    obtain ⟨l, hl, hq⟩ := list_of_ex n fun i hi => h i (by omega)
    obtain ⟨a, ha⟩ := h n (by omega)
    refine ⟨l ++ [a], by simp [hl], fun i hi => ?_⟩
    by_cases hn : i < l.length
    · rw [List.getElem_append_left hn]; exact hq i hn
    · have : i = n := by simp at hi; omega
      subst this
      rw [List.getElem_append_right (by omega)]
      simpa using ha
section
variable {H : Type} {enc : TypeId × Value → H} {P : Program} {W : World}
/-- The cells at a place are those of a list. -/
def CellsAt (w : World) (b o : Nat) (cs : List Value) : Prop := ∀ k v, cs[k]? = some v → w.cell? ⟨b, o + k, none⟩ = some v
theorem off_add (b o k : Nat) : (⟨b, o, none⟩ : Addr).add k = ⟨b, o + k, none⟩ := by
  unfold Addr.add; by_cases h0 : k = 0 <;> simp [h0]
/-- What of fuel less than m can be read as type e lies in memory as f says. -/
def Opens (enc : TypeId × Value → H) (P : Program) (W : World) {α : Type} (e : TypeId) (f : World → Nat → Nat → α → Prop) (m : Nat) : Prop :=
  ∀ (n : Nat) (cs : List Value) (x : DataW H × List MemPlace) (b o : Nat), n < m → DataW.trod enc P W 0 (fun _ => true) true n e cs = some x → cs.length = P.cellsOf e → CellsAt W b o cs → ∃ a : α, f W b o a
theorem Opens.row {α : Type} {t e : TypeId} {f : World → Nat → Nat → α → Prop} {m : Nat} (ht : P.underlying t = some (.slice e)) {n : Nat} (hn : P.cellsOf e = n) (hpos : 0 < n) (ho : Opens enc P W e f m)
    {fuel : Nat} (hf : fuel ≤ m) {cs : List Value} {x : DataW H × List MemPlace} (h : DataW.trod enc P W 0 (fun _ => true) true fuel t cs = some x) :
    ∃ (A : Option Addr) (l : List α) (c : Nat), cs = [.slice A l.length c] ∧ l.length ≤ c ∧ c ≤ maxLen ∧ RowOf f n W A l := by
  rcases DataW.trod_slice ht h with ⟨rfl, rfl⟩ | ⟨a, len, cap, elems, rest, n', rfl, rfl, rfl, hb, hlc, hcm, hlen, hel, _, _⟩
  · exact ⟨none, [], 0, rfl, Nat.le_refl _, by decide, fun h => absurd h (by simp)⟩
  · have hspot : 0 < len → a.spot = none := by
      intro h0
      have h1 := hel 0 h0
      rw [List.getElem?_eq_getElem (by omega)] at h1
      obtain ⟨cs', h2, h3⟩ := Option.bind_eq_some_iff.1 h1
      obtain ⟨_, hl4, hc⟩ := World.cells?_some h2
      have h4 := hc 0 (by omega)
      rw [List.getElem?_eq_getElem (by omega)] at h4
      simpa [Addr.add] using World.cell?_spot h4
    have key : ∀ i, i < len → ∃ x : α, ∃ b o, a = ⟨b, o, none⟩ ∧ f W b (o + n * i) x := by
      intro i hi
      have h1 := hel i hi
      rw [List.getElem?_eq_getElem (by omega)] at h1
      obtain ⟨cs', h2, h3⟩ := Option.bind_eq_some_iff.1 h1
      obtain ⟨_, hl4, hc⟩ := World.cells?_some h2
      have hs := hspot (by omega)
      obtain ⟨b, o, spot⟩ := a
      simp only at hs
      subst hs
      obtain ⟨x, hx⟩ := ho n' cs' _ b (o + i * P.cellsOf e) (by omega) h3 hl4 fun k v hk => by
        have hkl : k < P.cellsOf e := by rw [← hl4]; exact (List.getElem?_eq_some_iff.1 hk).1
        have := hc k hkl
        rw [off_add, off_add] at this
        rw [this, hk]
      exact ⟨x, b, o, rfl, by rw [hn, Nat.mul_comm] at hx; exact hx⟩
    obtain ⟨l, hl, hq⟩ := list_of_ex len key
    subst hl
    refine ⟨some a, l, cap, rfl, hlc, hcm, fun h0 => ?_⟩
    obtain ⟨b, o, rfl, _⟩ := hq 0 h0
    refine ⟨b, o, rfl, fun i hi => ?_⟩
    obtain ⟨b', o', e', hx⟩ := hq i hi
    injection e' with e1 e2; subst e1 e2
    exact hx
/-- The fields of a struct. -/
theorem open_fields {t : TypeId} {fs : Array Field} (ht : P.underlying t = some (.struct fs)) {fuel : Nat} {cs : List Value} {x : DataW H × List MemPlace} (h : DataW.trod enc P W 0 (fun _ => true) true fuel t cs = some x) :
    ∃ n, fuel = n + 1 ∧ cs.length = P.cellsOf t ∧ ∀ (i : Nat) (f : Field) (o c : Nat) (t : TypeId), fs[i]? = some f → f.offset = o → P.cellsOf f.type = c → f.type = t → ∃ y, DataW.trod enc P W 0 (fun _ => true) true n t ((cs.drop o).take c) = some y := by
  obtain ⟨xs, n, h1, _, h2, h3, h4⟩ := DataW.trod_struct ht h
  refine ⟨n, h1, h2, fun i f o c t hf ho hc ht => ?_⟩
  subst ho hc ht
  have hi : i < fs.size := (Array.getElem?_eq_some_iff.1 hf).1
  have := h4 i f hf
  rw [List.getElem?_eq_getElem (by omega)] at this
  exact ⟨_, this⟩
theorem open_fint {t : TypeId} {k : IntKind} (ht : P.underlying t = some (.int k)) {fuel : Nat} {cs : List Value} (h : ∃ y, DataW.trod enc P W 0 (fun _ => true) true fuel t cs = some y) : ∃ n : Int, cs = [.int k n] ∧ (Lit.int k n).wf = true := by
  obtain ⟨y, h⟩ := h; obtain ⟨n, h1, _, h2⟩ := DataW.trod_int ht h; exact ⟨n, h1, h2⟩
theorem open_fstr {t : TypeId} (ht : P.underlying t = some .string) {fuel : Nat} {cs : List Value} (h : ∃ y, DataW.trod enc P W 0 (fun _ => true) true fuel t cs = some y) : ∃ s : ByteArray, cs = [.string s] ∧ s.size ≤ maxLen := by
  obtain ⟨y, h⟩ := h; obtain ⟨n, h1, _, h2⟩ := DataW.trod_string ht h; exact ⟨n, h1, h2⟩
theorem open_fslice {t e : TypeId} (ht : P.underlying t = some (.slice e)) {fuel : Nat} {cs : List Value} (h : ∃ y, DataW.trod enc P W 0 (fun _ => true) true fuel t cs = some y) : ∃ A l c, cs = [.slice A l c] ∧ l ≤ c ∧ c ≤ maxLen := by
  obtain ⟨y, h⟩ := h
  rcases DataW.trod_slice ht h with ⟨rfl, _⟩ | ⟨a, len, cap, _, _, _, _, rfl, _, _, h1, h2, _⟩
  · exact ⟨none, 0, 0, rfl, by decide, by decide⟩
  · exact ⟨some a, len, cap, rfl, h1, h2⟩
end
end Go.Proofs.YtbnaakognnkhdaaGreatDoor
