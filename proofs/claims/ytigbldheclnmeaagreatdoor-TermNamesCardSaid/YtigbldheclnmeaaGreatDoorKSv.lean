/- The reader's tree at a token that is a tree by itself. The reader's tree at a run. The reader's tree, whole; a list of trees in the making. -/
import Derived.Test.YtigbldheclnmeaaGreatDoorKSq
import Derived.Maps.AppendAt
namespace Go.Proofs.YtigbldheclnmeaaGreatDoor
open Go.RowKit
set_option linter.unusedSimpArgs false
set_option linter.unusedVariables false

theorem Bk.set4 {w : World} {g : Nat} {t : TypeId} {a b c d : Value} (h : Bk w g t #[a, b, c, d]) (x0 x1 x2 x3 : Value) : Bk ((((w.setCell ⟨g, 0, none⟩ x0).setCell ⟨g, 1, none⟩ x1).setCell ⟨g, 2, none⟩ x2).setCell ⟨g, 3, none⟩ x3) g t #[x0, x1, x2, x3] := (((h.set 0 x0).set 1 x1).set 2 x2).set 3 x3
theorem Bk.far4 {w : World} {g' : Nat} {t : TypeId} {cs : Array Value} {g : Nat} (h : Bk w g' t cs) (hn : g' ≠ g) (x0 x1 x2 x3 : Value) : Bk ((((w.setCell ⟨g, 0, none⟩ x0).setCell ⟨g, 1, none⟩ x1).setCell ⟨g, 2, none⟩ x2).setCell ⟨g, 3, none⟩ x3) g' t cs := by
  unfold Bk at *; rw [heap_set4 _ _ _ hn]; exact h
theorem Wr.set4 {p : Nat} {a b : World} (h : Wr p a b) {g : Nat} (hg : a.heap.size ≤ g) (x0 x1 x2 x3 : Value) : Wr p a ((((b.setCell ⟨g, 0, none⟩ x0).setCell ⟨g, 1, none⟩ x1).setCell ⟨g, 2, none⟩ x2).setCell ⟨g, 3, none⟩ x3) :=
  (((h.setn (q := ⟨g, 0, none⟩) hg x0).setn (q := ⟨g, 1, none⟩) hg x1).setn (q := ⟨g, 2, none⟩) hg x2).setn (q := ⟨g, 3, none⟩) hg x3
end Go.Proofs.YtigbldheclnmeaaGreatDoor
namespace Go.Proofs.YtigbldheclnmeaaGreatDoor
open Go.RowKit
set_option linter.unusedSimpArgs false
set_option linter.unusedVariables false

end Go.Proofs.YtigbldheclnmeaaGreatDoor
namespace Go.Proofs.YtigbldheclnmeaaGreatDoor
open Go.RowKit
set_option linter.unusedSimpArgs false
set_option linter.unusedVariables false

theorem Tryz.infoTree : (Tryz.prog.info? 192).map (fun i => (i.zero, i.size, i.bytes)) = some (some (.agg #[.int .i64 0, .string ⟨#[]⟩, .int .i64 0, .slice none 0 0]), 4, 56) := by kernel_rfl
/-- A row of the call's own that reads as the trees l, all in memory made since w0. -/
def Trs (w0 wr : World) (v : Value) (l : List T) : Prop := ∃ vs, wr.ownsRow w0.heap.size 192 4 v l.length vs ∧ Fits wr (fun b => New w0 wr b ∧ v.ownBlock ≠ some b) l vs
theorem Trs.nil (w0 wr : World) : Trs w0 wr (.slice none 0 0) [] := ⟨[], World.ownsRow_nil _ _ _ _, rfl⟩
theorem own_lt {w : World} {base : Nat} {e : TypeId} {size : Nat} {v : Value} {n : Nat} {xs : List Value} (h : w.ownsRow base e size v n xs) {g : Nat} (hg : v.ownBlock = some g) : base ≤ g ∧ g < w.heap.size := World.ownsRow.lt h g hg
theorem Trs.wr {w0 wr w' : World} {p : Nat} {v : Value} {l : List T} (h : Trs w0 wr v l) (k : Wr p wr w') (hp : p < w0.heap.size) : Trs w0 w' v l := by
  obtain ⟨vs, ho, hf⟩ := h
  have hne : v.ownBlock ≠ some p := fun e => by have := (own_lt ho e).1; omega
  refine ⟨vs, ho.kept k (.inr hne), hf.mono (fun b hb => ⟨⟨hb.1.1, Nat.lt_of_lt_of_le hb.1.2 k.size⟩, hb.2⟩) (fun b hb => k.blk hb.1.2 (fun e => by have := hb.1.1; omega))⟩
theorem Trs.fr {w0 wr w' : World} {v : Value} {l : List T} (h : Trs w0 wr v l) (k : Fr wr w') : Trs w0 w' v l := by
  obtain ⟨vs, ho, hf⟩ := h
  refine ⟨vs, ho.kept (row := none) ⟨k.os, k.tape, k.output, k.size, fun i hi _ => k.block i hi⟩ ?_, hf.mono (fun b hb => ⟨⟨hb.1.1, Nat.lt_of_lt_of_le hb.1.2 k.size⟩, hb.2⟩) (fun b hb => k.block b hb.1.2)⟩
  cases hv : v.ownBlock
  · exact .inl rfl
  · exact .inr (by simp)
theorem Trs.push {w0 w5 w6 w' : World} {v v' : Value} {l : List T} {kd nd : Int} {sd : ByteArray} {ks : List T} {A : Option Addr} {c : Nat} {o : Obj} {vs : List Value} (ho : w6.ownsRow w0.heap.size 192 4 v l.length vs) (hf : Fits w6 (fun b => New w0 w6 b ∧ v.ownBlock ≠ some b) l vs)
    (h5 : ∀ g, v.ownBlock = some g → g < w5.heap.size) (h05 : w0.heap.size ≤ w5.heap.size) (hc : ks.length ≤ c) (hrd : RdL w6 (New w5 w6) A ks)
    (hn : w'.ownsRow w0.heap.size 192 4 v' (l.length + 1) (vs ++ [.int .i64 kd, .string sd, .int .i64 nd, .slice A ks.length c])) (hg : (w6.alloc o).grownBy w' v.ownBlock) (hb : v'.ownBlock = v.ownBlock ∨ v'.ownBlock = some (w6.alloc o).heap.size) : Trs w0 w' v' (l ++ [.node kd sd nd ks]) := by
  have hsz : w6.heap.size ≤ w'.heap.size := by have := hg.size; simp at this; omega
  have hblk : ∀ b, b < w6.heap.size → v.ownBlock ≠ some b → w'.heap[b]? = w6.heap[b]? := fun b h1 h2 =>
    (hg.block b (by simp; omega) (fun e => h2 e.symm)).trans (((Fr.refl w6).alloc o).block b h1)
  have hF : ∀ b, b < w6.heap.size → v.ownBlock ≠ some b → v'.ownBlock ≠ some b := fun b h1 h2 e => by
    rcases hb with k | k
    · exact h2 (k ▸ e)
    · rw [k] at e; injection e with e; simp at e; omega
  refine ⟨_, by rw [List.length_append, List.length_singleton]; exact hn, Fits.snoc hc ?_ ?_⟩
  · refine hrd.mono (fun b hb => ?_) (fun b hb => ?_)
    · have h2 : v.ownBlock ≠ some b := fun e => by have := h5 b e; have := hb.1; omega
      exact ⟨⟨by have := hb.1; omega, Nat.lt_of_lt_of_le hb.2 hsz⟩, hF b hb.2 h2⟩
    · exact hblk b hb.2 (fun e => by have := h5 b e; have := hb.1; omega)
  · exact hf.mono (fun b hb => ⟨⟨hb.1.1, Nat.lt_of_lt_of_le hb.1.2 hsz⟩, hF b hb.1.2 hb.2⟩) (fun b hb => hblk b hb.1.2 hb.2)
theorem Trs.close {w0 wr : World} {v : Value} {l : List T} (h : Trs w0 wr v l) : ∃ A c, v = .slice A l.length c ∧ l.length ≤ c ∧ RdL wr (New w0 wr) A l := by
  obtain ⟨vs, ho, hf⟩ := h
  have ho0 := ho
  rcases ho.2 with ⟨hv, hn⟩ | ⟨g, cap, cur, hv, hb, hg, hnc, _⟩
  · have hl : l = [] := List.eq_nil_of_length_eq_zero hn
    subst hv hl
    exact ⟨none, 0, rfl, Nat.le_refl _, by unfold RdL; trivial⟩
  · subst hv
    have hlt := own_lt ho0 (g := g) rfl
    refine ⟨_, cap, rfl, hnc, ?_⟩
    have hf2 := hf.mono (F' := New w0 wr) (fun b hb => hb.1) (fun _ _ => rfl)
    refine RdL.of_fits hlt hf2 fun i u hu => ?_
    have h := ho0.cells (g := g) rfl i u hu
    rw [Nat.zero_add]
    rw [show (⟨g, i, none⟩ : Addr) = (⟨g, 0, none⟩ : Addr).add i by unfold Addr.add; by_cases h0 : i = 0 <;> simp [h0]]
    exact h
end Go.Proofs.YtigbldheclnmeaaGreatDoor
