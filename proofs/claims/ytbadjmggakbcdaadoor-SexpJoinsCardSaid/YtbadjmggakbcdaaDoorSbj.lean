/- append of a row of trees onto a row of one's own. -/
import Derived.Test.YtbadjmggakbcdaaDoorSbi
import Derived.Test.YtbadjmggakbcdaaDoorSbf
import Derived.Maps.AppendAt
namespace Go.Proofs.YtbadjmggakbcdaaDoor
open Go.RowKit

/-- The cells of a row of trees. -/
theorem RdL.cells {w : World} {F : Nat → Prop} : ∀ {l : List T} {b o : Nat}, RdL w F (some ⟨b, o, none⟩) l → ∃ vs, Fits w F l vs ∧ (∀ i u, vs[i]? = some u → w.cell? ⟨b, o + i, none⟩ = some u) ∧ ∀ u ∈ vs, u.oneCell' = true
  | [], _, _, _ => ⟨[], by unfold Fits; rfl, by simp, by simp⟩
  | .node k s n ks :: r, b, o, h => by
    unfold RdL at h
    obtain ⟨b', o', e, _, ht, hr⟩ := h
    injection e with e
    injection e with e1 e2
    subst e1 e2
    unfold RdT at ht
    obtain ⟨A, c, hc, h0, h1, h2, h3, hk⟩ := ht
    obtain ⟨vs, hf, hv, h1c⟩ := RdL.cells hr
    refine ⟨.int .i64 k :: .string s :: .int .i64 n :: .slice A ks.length c :: vs, ?_, ?_, ?_⟩
    · unfold Fits; exact ⟨A, c, vs, rfl, hc, hk, hf⟩
    · intro i u hu
      match i, hu with
      | 0, hu => simp at hu; subst hu; exact h0
      | 1, hu => simp at hu; subst hu; exact h1
      | 2, hu => simp at hu; subst hu; exact h2
      | 3, hu => simp at hu; subst hu; exact h3
      | i + 4, hu => rw [show o + (i + 4) = o + 4 + i by omega]; exact hv i u (by simpa using hu)
    · intro u hu
      simp at hu
      rcases hu with rfl | rfl | rfl | rfl | hu
      · rfl
      · rfl
      · rfl
      · rfl
      · exact h1c u hu
theorem Fits.app {w : World} {F : Nat → Prop} : ∀ {l m : List T} {vs us : List Value}, Fits w F l vs → Fits w F m us → Fits w F (l ++ m) (vs ++ us)
  | [], m, vs, us, h, h2 => by unfold Fits at h; subst h; simpa using h2
  | .node k s n ks :: r, m, vs, us, h, h2 => by
    unfold Fits at h
    obtain ⟨A, c, vs', e, hc, hk, hr⟩ := h
    subst e
    simp only [List.cons_append]
    unfold Fits
    exact ⟨A, c, _, rfl, hc, hk, Fits.app hr h2⟩
/-- A row of trees of one's own: what lies within in blocks of F, none of them the row's own. -/
def Otr (w : World) (base : Nat) (F : Nat → Prop) (v : Value) (l : List T) : Prop := ∃ vs, w.ownsRow base 40 4 v l.length vs ∧ Fits w F l vs
theorem run_append_trees (w : World) (base : Nat) (ty : TypeId) (F : Nat → Prop) (v : Value) (l m : List T) (A : Option Addr) (c : Nat) (hown : Otr w base F v l) (hr : RdL w F A m) (hF : ∀ b, F b → b < base) (hb : base ≤ w.heap.size)
    (h1 : l.length ≤ 65536) (h2 : m.length ≤ 65536) :
    ∃ v' w', (Builtin.append_ #[23, 23] ty #[v, .slice A m.length c]).run Tryd.prog w = .ok v' w' ∧ Otr w' base F v' (l ++ m) ∧ (∀ W, Fr W w → W.heap.size ≤ base → Fr W w') ∧ base ≤ w'.heap.size := by
  obtain ⟨vs, ho, hf⟩ := hown
  have hi : (Tryd.prog.info? 40).map (fun i => (i.zero, i.size, i.bytes)) = some (some (.agg #[.int .i64 0, .string ⟨#[]⟩, .int .i64 0, .slice none 0 0]), 4, 56) := by kernel_rfl
  obtain ⟨i, hi', hz0, hz1, hz2⟩ := info_parts hi
  have hlow : ∀ k, v.ownBlock = some k → base ≤ k := fun k hk => (World.ownsRow.lt ho k hk).1
  have keep : ∀ {w' : World}, w.grownBy w' v.ownBlock → (∀ b, F b → w'.heap[b]? = w.heap[b]?) := fun hg b hb' => by
    have := hF b hb'
    refine hg.block b (by omega) (fun e => ?_)
    have := hlow b e.symm
    omega
  have ht : Tryd.prog.underlying 23 = some (.slice 40) := Tryd.underlying23
  have fin : ∀ (ad : Addr) (us : List Value), A = some ad → us.length = m.length * 4 → (∀ j u, us[j]? = some u → w.cell? (ad.add j) = some u) → (∀ u ∈ us, u.oneCell' = true) → Fits w F m us →
      ∃ v' w', (Builtin.append_ #[23, 23] ty #[v, .slice A m.length c]).run Tryd.prog w = .ok v' w' ∧ Otr w' base F v' (l ++ m) ∧ (∀ W, Fr W w → W.heap.size ≤ base → Fr W w') ∧ base ≤ w'.heap.size := by
    intro ad us e hl hc h1c hfu
    subst e
    obtain ⟨v', w', hrun, ho', hg, _, _⟩ := run_append_own_at (P := Tryd.prog) w base 23 ty 40 i _ 4 56 ht hi' hz0 hz1 hz2 rfl (by omega) v l.length vs ho ad m.length c us hl hc h1c (by unfold maxLen; omega) (by omega) hb
    refine ⟨v', w', hrun, ⟨vs ++ us, by rw [List.length_append]; exact ho', Fits.app (hf.mono (fun _ h => h) (keep hg)) (hfu.mono (fun _ h => h) (keep hg))⟩, fun W hW hWb => Below.grown hW hg hW.size (fun k hk => Nat.le_trans hWb (hlow k hk)), Nat.le_trans hb hg.size⟩
  rcases m with _ | ⟨x, r⟩
  · rcases A with _ | ad
    · refine ⟨v, w, ?_, ⟨vs, by simpa using ho, by simpa using hf⟩, fun W hW _ => hW, hb⟩
      rcases ho.2 with ⟨rfl, _⟩ | ⟨g, cap, cur, rfl, _, _, hnc, _⟩
      · simp [Builtin.append_, run_underlying ht, sizeOf, typeInfo, hi', Builtin.lenOf, Builtin.firstCells]
      · simp [Builtin.append_, run_underlying ht, sizeOf, typeInfo, hi', Builtin.lenOf, Builtin.firstCells, hnc, storeCells]
    · exact fin ad [] rfl rfl (by simp) (by simp) (by unfold Fits; rfl)
  · have hr' := hr
    unfold RdL at hr'
    obtain ⟨b, o, rfl, _⟩ := hr'
    obtain ⟨us, hfu, hcu, h1c⟩ := hr.cells
    refine fin _ us rfl (by rw [hfu.length]; omega) (fun j u hu => ?_) h1c hfu
    have := hcu j u hu
    rw [show (⟨b, o, none⟩ : Addr).add j = ⟨b, o + j, none⟩ by unfold Addr.add; by_cases h0 : j = 0 <;> simp [h0]]
    exact this
end Go.Proofs.YtbadjmggakbcdaaDoor
