/- The document's Of: bits as a list. -/
import Derived.Test.YtglgbhlnfafhjaaRbit
namespace Go.Proofs.Ytglgbhlnfafhjaa
open Go.RowKit

abbrev bolv : Bool → Value := Value.bool
theorem one_bool (b : Bool) : (bolv b).oneCell' = true := rfl
theorem Try.infob : (Try.prog.info? 4).map (fun i => (i.zero, i.size, i.bytes)) = some (some (.bool false), 1, 1) := by kernel_rfl
theorem rd_one {α : Type} {f : α → Value} (w : World) (t : TypeId) (x : α) : Rd f (w.alloc (.cells #[f x] t)) (some ⟨w.heap.size, 0, none⟩) [x] := fun _ =>
  ⟨w.heap.size, 0, rfl, by simp, fun i hi => by
    obtain rfl : i = 0 := by simp at hi; omega
    have := cell_of_row (w.alloc (.cells #[f x] t)) w.heap.size 0 #[f x] t (0, 0) (heap_alloc_new w _)
    rw [Nat.zero_add, this]; rfl⟩
theorem own_new (w : World) : Own bolv (w.alloc (.cells #[] 4)) w.heap.size 4 (.slice (some ⟨w.heap.size, 0, none⟩) 0 0) ([] : List Bool) :=
  World.ownsRow_made w #[] 0 (Nat.le_refl _) (Nat.zero_le _) rfl
theorem own_at (w : World) (g b : Nat) (hg : g = w.heap.size) (hb : b ≤ w.heap.size) : Own bolv (w.alloc (.cells #[] 4)) b 4 (.slice (some ⟨g, 0, none⟩) 0 0) ([] : List Bool) := by
  subst hg
  exact World.ownsRow_made w #[] 0 hb (Nat.zero_le _) rfl
theorem Own.lower {α : Type} {f : α → Value} {w : World} {b b' : Nat} {e : TypeId} {v : Value} {l : List α} (h : Own f w b e v l) (hb : b' ≤ b) : Own f w b' e v l := by
  refine ⟨h.1, ?_⟩
  rcases h.2 with h | ⟨g, cap, cur, h1, h2, h3⟩
  · exact .inl h
  · exact .inr ⟨g, cap, cur, h1, Nat.le_trans hb h2, h3⟩
/-- A list that a call answers in memory of its own. -/
def Ans (w : World) (l : List Bool) (e : Ending) (w' : World) : Prop := ∃ A c, e = .returned (.slice A l.length c) ∧ Own bolv w' w.heap.size 4 (.slice A l.length c) l ∧ Fr w w'
theorem ans_of {w w' : World} {l : List Bool} {x : Value} (h : Own bolv w' w.heap.size 4 x l) (k : Fr w w') : Ans w l (.returned x) w' := by
  obtain ⟨A, c, rfl, _, _, _⟩ := h.val
  exact ⟨A, c, rfl, h, k⟩
theorem bits_cells (w : World) (t : TypeId) (a b c : Value) : (w.alloc (.cells #[a, b, c] t)).cell? ⟨w.heap.size, 0, none⟩ = some a ∧ (w.alloc (.cells #[a, b, c] t)).cell? ⟨w.heap.size, 1, none⟩ = some b ∧ (w.alloc (.cells #[a, b, c] t)).cell? ⟨w.heap.size, 2, none⟩ = some c :=
  ⟨cell_of_row _ w.heap.size 0 #[a, b, c] t (0, 0) (heap_alloc_new w _), cell_of_row _ w.heap.size 1 #[a, b, c] t (0, 0) (heap_alloc_new w _), cell_of_row _ w.heap.size 2 #[a, b, c] t (0, 0) (heap_alloc_new w _)⟩
/-- A list in the making: bits of x in a row from block B on; w's memory is as it was. -/
def Making (w : World) (B : Nat) (n : Nat) (x : Int) (out : Value) (wr : World) : Prop := Own bolv wr B 4 out (bitsI n x) ∧ Fr w wr ∧ B ≤ wr.heap.size
theorem Making.own {w wr : World} {B n : Nat} {x : Int} {out : Value} (h : Making w B n x out wr) : Own bolv wr B 4 out (bitsI n x) := h.1
theorem Making.fr {w wr : World} {B n : Nat} {x : Int} {out : Value} (h : Making w B n x out wr) : Fr w wr := h.2.1
theorem Making.lb {w wr : World} {B n : Nat} {x : Int} {out : Value} (h : Making w B n x out wr) : B ≤ wr.heap.size := h.2.2
theorem Making.drewN {w wr : World} {B n : Nat} {x : Int} {out : Value} (h : Making w B n x out wr) (k : Nat) : Making w B n x out (wr.drewN k) := ⟨h.1.fr ((Fr.refl _).drewN _), h.2.1.drewN _, h.2.2⟩
theorem Making.fro {w wr w' : World} {B n : Nat} {x : Int} {out : Value} (h : Making w B n x out wr) (k : Fr wr w') : Making w B n x out w' := ⟨h.1.fr k, h.2.1.call k, Nat.le_trans h.2.2 k.size⟩
theorem Making.start {w : World} (B g : Nat) (x : Int) (hg : g = w.heap.size) (hB : B = w.heap.size) : Making w B 0 x (.slice (some ⟨g, 0, none⟩) 0 0) (w.alloc (.cells #[] 4)) := by
  subst hg hB
  exact ⟨own_at w _ _ rfl (Nat.le_refl _), (Fr.refl w).alloc _, by simp⟩
theorem Making.more {w wr w' : World} {B n : Nat} {x : Int} {out out' : Value} {o : Obj} (h : Making w B n x out wr) (hB : w.heap.size ≤ B) {b : Bool} (hb : b = bitI x n) (k : Grew bolv (wr.alloc o) B 4 out (bitsI n x ++ [b]) out' w') : Making w B (n + 1) x out' w' := by
  subst hb
  refine ⟨by rw [bitsI_snoc]; exact k.1, k.fr (h.fr.alloc _) hB h.own.base_le, ?_⟩
  have h1 := k.2.1.size
  have h2 := h.lb
  simp at h1
  omega
def RelO (w : World) (B : Nat) (n : Nat) (v : Int) (out i : Value) (wr : World) : Prop :=
  ∃ j : Nat, j ≤ n ∧ i = .int .i64 (j : Int) ∧ Making w B j v out wr
set_option maxHeartbeats 3200000 in
set_option maxRecDepth 10000 in
theorem of_any (n : Nat) (v : Int) (hn : n ≤ 128) (w : World) :
    Calls Try.prog 21 #[bv n v] w fun e w' => Ans w (bitsI n v) e w' := by
  have HB := Lib.hid (fun i h wx => bit_any v i h wx)
  obtain ⟨c0, c1, c2⟩ := bits_cells w 24 (.int .i64 (n : Int)) (.int .u64 (hi v)) (.int .u64 (lo v))
  have C0 := Lib.hid c0
  have C1 := Lib.hid c1
  have C2 := Lib.hid c2
  have hz : w.heap.size < (w.alloc (.cells #[.int .i64 (n : Int), .int .u64 (hi v), .int .u64 (lo v)] 24)).heap.size := by simp
  have HZ := Lib.hid hz
  clear c0 c1 c2 hz
  go_enter Try.func21, Try.ntmps21
  go_wp2
  go_loopw [3, 4] (fun out i wr => RelO (w.alloc (.cells #[.int .i64 (n : Int), .int .u64 (hi v), .int .u64 (lo v)] 24)) (w.heap.size + 1) n v out i wr) (fun _ i _ => n - (intOf i).toNat)
  case atStart => exact ⟨0, by omega, rfl, Making.start _ _ _ (by simp) (by simp)⟩
  case round =>
    obtain ⟨j, hj, rfl, hmk⟩ := hrel
    have HM := Lib.hid hmk
    have hc0 := HM.out.fr.get C0.out
    have hc1 := HM.out.fr.get C1.out
    have hc2 := HM.out.fr.get C2.out
    clear hmk
    by_cases hlt : j < n
    · have HBj := Lib.hid (fun wx => HB.out j (by omega) wx)
      go_wp2_with (first
        | (go_at_call 48; refine (HBj.out _).mono ?_; rintro e wy ⟨rfl, rfl⟩)
        | (at_builtin; refine wpList_append_rd one_bool _ rfl _ _ 41 rfl (w.heap.size + 1) 4 Try.underlying41 Try.infob rfl _ (bitsI j v) rfl (HM.out.own.alloc _) (some ⟨wr.heap.size, 0, none⟩) 1 1 [bitI v j] rfl rfl (rd_one _ _ _) (by rw [bitsI_length]; unfold maxLen; omega) (by rw [bitsI_length]; omega) (by have := HM.out.lb; simp; omega) ?_))
      intro x1 w1 HG
      have HM1 := Lib.hid (HM.out.more (by simp) rfl HG.out)
      clear HG
      go_wp2
      go_roundw
      case rel => exact ⟨j + 1, by omega, by go_num, HM1.out⟩
      case measure => simp [intOf]; omega
    · obtain rfl : j = n := by omega
      go_wp2
      go_ret
      exact ans_of (HM.out.own.lower (by omega)) (((Fr.refl w).alloc _).call HM.out.fr)
end Go.Proofs.Ytglgbhlnfafhjaa
