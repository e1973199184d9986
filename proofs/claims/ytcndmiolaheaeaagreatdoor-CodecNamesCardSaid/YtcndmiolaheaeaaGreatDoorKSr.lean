/- Trees in memory: what rows of cells read as; nothing of the program. -/
import Derived.Test.YtcndmiolaheaeaaGreatDoorKSm
import Derived.Test.YtcndmiolaheaeaaGreatDoorKFr
namespace Go.Proofs.YtcndmiolaheaeaaGreatDoor
open Go.RowKit
set_option linter.unusedSimpArgs false
set_option linter.unusedVariables false

mutual
/-- The row at A reads as the trees l, all of it in blocks of F. -/
def RdL (w : World) (F : Nat → Prop) : Option Addr → List T → Prop
  | _, [] => True
  | A, t :: r => ∃ b o, A = some ⟨b, o, none⟩ ∧ F b ∧ RdT w F b o t ∧ RdL w F (some ⟨b, o + 4, none⟩) r
/-- The four cells at a place read as a tree. -/
def RdT (w : World) (F : Nat → Prop) : Nat → Nat → T → Prop
  | b, o, .node k s n ks => ∃ A c, ks.length ≤ c ∧ w.cell? ⟨b, o, none⟩ = some (.int .i64 k) ∧ w.cell? ⟨b, o + 1, none⟩ = some (.string s) ∧ w.cell? ⟨b, o + 2, none⟩ = some (.int .i64 n) ∧
      w.cell? ⟨b, o + 3, none⟩ = some (.slice A ks.length c) ∧ RdL w F A ks
end
/-- So many cells read as the trees l, what they hold in blocks of F. -/
def Fits (w : World) (F : Nat → Prop) : List T → List Value → Prop
  | [], vs => vs = []
  | .node k s n ks :: r, vs => ∃ A c vs', vs = .int .i64 k :: .string s :: .int .i64 n :: .slice A ks.length c :: vs' ∧ ks.length ≤ c ∧ RdL w F A ks ∧ Fits w F r vs'
theorem cell_of_heap {w w' : World} {b o : Nat} (h : w'.heap[b]? = w.heap[b]?) : w'.cell? ⟨b, o, none⟩ = w.cell? ⟨b, o, none⟩ := by
  unfold World.cell?; rw [h]
mutual
theorem RdL.mono {w w' : World} {F F' : Nat → Prop} (hF : ∀ b, F b → F' b) (hw : ∀ b, F b → w'.heap[b]? = w.heap[b]?) : ∀ {l : List T} {A : Option Addr}, RdL w F A l → RdL w' F' A l
  | [], _, _ => by unfold RdL; trivial
  | t :: r, A, h => by
    unfold RdL at h ⊢
    obtain ⟨b, o, e, hb, ht, hr⟩ := h
    exact ⟨b, o, e, hF b hb, RdT.mono hF hw hb ht, RdL.mono hF hw hr⟩
theorem RdT.mono {w w' : World} {F F' : Nat → Prop} (hF : ∀ b, F b → F' b) (hw : ∀ b, F b → w'.heap[b]? = w.heap[b]?) : ∀ {t : T} {b o : Nat}, F b → RdT w F b o t → RdT w' F' b o t
  | .node k s n ks, b, o, hb, h => by
    unfold RdT at h ⊢
    obtain ⟨A, c, hc, h0, h1, h2, h3, hk⟩ := h
    exact ⟨A, c, hc, (cell_of_heap (hw b hb)).trans h0, (cell_of_heap (hw b hb)).trans h1, (cell_of_heap (hw b hb)).trans h2, (cell_of_heap (hw b hb)).trans h3, RdL.mono hF hw hk⟩
end
theorem Fits.mono {w w' : World} {F F' : Nat → Prop} (hF : ∀ b, F b → F' b) (hw : ∀ b, F b → w'.heap[b]? = w.heap[b]?) : ∀ {l : List T} {vs : List Value}, Fits w F l vs → Fits w' F' l vs
  | [], _, h => h
  | .node k s n ks :: r, vs, h => by
    unfold Fits at h ⊢
    obtain ⟨A, c, vs', e, hc, hk, hr⟩ := h
    exact ⟨A, c, vs', e, hc, hk.mono hF hw, Fits.mono hF hw hr⟩
theorem Fits.length {w : World} {F : Nat → Prop} : ∀ {l : List T} {vs : List Value}, Fits w F l vs → vs.length = 4 * l.length
  | [], vs, h => by unfold Fits at h; subst h; rfl
  | .node k s n ks :: r, vs, h => by
    unfold Fits at h
    obtain ⟨A, c, vs', e, hc, hk, hr⟩ := h
    subst e
    have := Fits.length hr
    simp; omega
theorem Fits.snoc {w : World} {F : Nat → Prop} {k n : Int} {s : ByteArray} {ks : List T} {A : Option Addr} {c : Nat} (hc : ks.length ≤ c) (hk : RdL w F A ks) :
    ∀ {l : List T} {vs : List Value}, Fits w F l vs → Fits w F (l ++ [.node k s n ks]) (vs ++ [.int .i64 k, .string s, .int .i64 n, .slice A ks.length c])
  | [], vs, h => by
    unfold Fits at h; subst h
    simp only [List.nil_append]
    unfold Fits
    exact ⟨A, c, [], rfl, hc, hk, by unfold Fits; rfl⟩
  | .node k' s' n' ks' :: r, vs, h => by
    unfold Fits at h
    obtain ⟨A', c', vs', e, hc', hk', hr⟩ := h
    subst e
    simp only [List.cons_append]
    unfold Fits
    exact ⟨A', c', _, rfl, hc', hk', Fits.snoc hc hk hr⟩
/-- Cells that lie in a row are a row that reads so. -/
theorem RdL.of_fits {w : World} {F : Nat → Prop} {b : Nat} (hb : F b) : ∀ {l : List T} {vs : List Value} {o : Nat}, Fits w F l vs → (∀ i u, vs[i]? = some u → w.cell? ⟨b, o + i, none⟩ = some u) → RdL w F (some ⟨b, o, none⟩) l
  | [], _, _, _, _ => by unfold RdL; trivial
  | .node k s n ks :: r, vs, o, h, hv => by
    unfold Fits at h
    obtain ⟨A, c, vs', e, hc, hk, hr⟩ := h
    subst e
    unfold RdL RdT
    refine ⟨b, o, rfl, hb, ⟨A, c, hc, hv 0 _ rfl, hv 1 _ rfl, hv 2 _ rfl, hv 3 _ rfl, hk⟩, RdL.of_fits hb hr fun i u hu => ?_⟩
    have := hv (i + 4) u (by simpa using hu)
    rwa [show o + (i + 4) = o + 4 + i by omega] at this
/-- An element of a row. -/
theorem RdL.elem {w : World} {F : Nat → Prop} : ∀ {l : List T} {A : Option Addr} (i : Nat) (hi : i < l.length), RdL w F A l → ∃ b o, A = some ⟨b, o, none⟩ ∧ F b ∧ RdT w F b (o + 4 * i) l[i]
  | t :: r, A, 0, _, h => by
    unfold RdL at h
    obtain ⟨b, o, e, hb, ht, _⟩ := h
    exact ⟨b, o, e, hb, ht⟩
  | t :: r, A, i + 1, hi, h => by
    unfold RdL at h
    obtain ⟨b, o, e, hb, _, hr⟩ := h
    obtain ⟨b', o', e', hb', ht⟩ := RdL.elem (l := r) i (by simpa using hi) hr
    injection e' with e'
    injection e' with e1 e2
    subst e1 e2
    refine ⟨b, o, e, hb', ?_⟩
    rw [show o + 4 * (i + 1) = o + 4 + 4 * i by omega]
    exact ht
end Go.Proofs.YtcndmiolaheaeaaGreatDoor
