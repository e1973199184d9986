/- What write leaves: the lowest bytes of a number in a row of the caller's own. -/
import Derived.Test.YtoookfhaeojfiaaGet
import Derived.Laws.CopyOwn
namespace Go.Proofs.Ytoookfhaeojfiaa
open Go.RowKit

/-- A block of bytes that is known whole. -/
def Blk (w : World) (g : Nat) (l : List Int) : Prop := w.heap[g]? = some (.cells (l.map u8v).toArray 5 (0, 0))
theorem Blk.cell {w : World} {g : Nat} {l : List Int} (h : Blk w g l) {i : Nat} (hi : i < l.length) : w.cell? ⟨g, i, none⟩ = some (.int .u8 l[i]) := by
  have := cell_of_row w g i _ _ _ h
  rw [this]; simp [hi]
theorem Blk.free {w : World} {g : Nat} {l : List Int} (h : Blk w g l) (i : Nat) : w.frozen? ⟨g, i, none⟩ = false := by
  unfold Blk at h
  simp [World.frozen?, h]
theorem Blk.lt {w : World} {g : Nat} {l : List Int} (h : Blk w g l) : g < w.heap.size := by
  rcases Nat.lt_or_ge g w.heap.size with hlt | hge
  · exact hlt
  · unfold Blk at h; rw [Array.getElem?_eq_none hge] at h; cases h
theorem Blk.set {w : World} {g : Nat} {l : List Int} (h : Blk w g l) (i : Nat) (x : Int) : Blk (w.setCell ⟨g, i, none⟩ (.int .u8 x)) g (l.set i x) := by
  unfold Blk at h ⊢
  simp [World.setCell, Array.getElem?_modify, h, List.map_set]
theorem Blk.fr {w w' : World} {g : Nat} {l : List Int} (h : Blk w g l) (k : Fr w w') : Blk w' g l := by
  unfold Blk at h ⊢
  rw [k.block g (Blk.lt h)]; exact h
theorem Blk.rd {w : World} {g : Nat} {l : List Int} (h : Blk w g l) : Rd u8v w (some ⟨g, 0, none⟩) l := fun _ =>
  ⟨g, 0, rfl, h.lt, fun i hi => by rw [Nat.zero_add]; exact h.cell hi⟩
/-- The list with the lowest n bytes of v from p on. -/
def putI (l : List Int) (p n : Nat) (v : Int) : List Int := l.take p ++ litI n v ++ l.drop (p + n)
theorem putI_length (l : List Int) (p n : Nat) (v : Int) (h : p + n ≤ l.length) : (putI l p n v).length = l.length := by
  simp [putI, litI_length]; omega
theorem putI_zero (l : List Int) (p : Nat) (v : Int) : putI l p 0 v = l := by simp [putI, litI]
theorem putI_succ (l : List Int) (p n : Nat) (v : Int) (h : p + n < l.length) : (putI l p n v).set (p + n) (v / p8 n % 256) = putI l p (n + 1) v := by
  unfold putI
  rw [litI_snoc, List.drop_eq_getElem_cons h]
  have e : (l.take p ++ litI n v).length = p + n := by simp [litI_length]; omega
  rw [List.set_append_right _ _ (by omega), e, Nat.sub_self, List.set_cons_zero]
  simp [Nat.add_assoc]
/-- The walk's word for a byte of a number: shifted, cut. -/
theorem shr_byte (v : Int) (j : Nat) : v / 2 ^ (8 * j) % 256 = v / p8 j % 256 := by rw [p8_two]
def RelW (w : World) (g p : Nat) (l : List Int) (v : Int) (n : Nat) (B : Nat) (i : Value) (wr : World) : Prop := ∃ j : Nat, j ≤ n ∧ i = .int .i64 (j : Int) ∧ Blk wr g (putI l p j v) ∧ Below B w wr
set_option maxHeartbeats 3200000 in
theorem write_any (g p n c : Nat) (l : List Int) (v : Int) (v0 : 0 ≤ v) (v1 : v < 18446744073709551616) (hn : n ≤ 8) (hp : p + n ≤ l.length) (hm : l.length ≤ maxLen) (w : World) (hg : Blk w g l) :
    Calls Try.prog 23 #[.slice (some ⟨g, p, none⟩) n c, .int .u64 v] w fun e w' => e = .returned (.tuple #[]) ∧ Blk w' g (putI l p n v) ∧ Below g w w' := by
  unfold maxLen at hm
  have HG := Lib.hid hg
  clear hg
  go_enter Try.func23, Try.ntmps23
  go_wp2
  go_loopw [7] (fun i wr => RelW w g p l v n g i wr) (fun i _ => n - (intOf i).toNat)
  case atStart => exact ⟨0, by omega, rfl, by rw [putI_zero]; exact HG.out, Below.refl _ _⟩
  case round =>
    obtain ⟨j, hj, rfl, hblk, hbel⟩ := hrel
    by_cases hlt : j < n
    · have hl := putI_length l p j v (by omega)
      obtain ⟨x, hcell⟩ : ∃ x, wr.cell? ⟨g, p + j, none⟩ = some (.int .u8 x) := ⟨_, hblk.cell (i := p + j) (by omega)⟩
      have hfree := hblk.free (p + j)
      have e8 : (8 * (j : Int)).toNat = 8 * j := by omega
      have HB := Lib.hid hblk
      have HL := Lib.hid hbel
      clear hblk hbel hl
      have HC := Lib.hid (putI_succ l p j v (by omega))
      go_wp2
      go_roundw
      case rel => exact ⟨j + 1, by omega, by go_num, by rw [← HC.out, shr_byte]; exact HB.out.set _ _, HL.out.setCell (Nat.le_refl _) _⟩
      case measure => simp [intOf]; omega
    · obtain rfl : j = n := by omega
      have HB := Lib.hid hblk
      have HL := Lib.hid hbel
      clear hblk hbel
      go_wp2
      go_end0
      exact ⟨rfl, HB.out, HL.out⟩
end Go.Proofs.Ytoookfhaeojfiaa
