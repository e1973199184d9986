/- The reader: blanks, the byte behind them; a symbol alone. -/
import Derived.Test.YtbnaakognnkhdaaGreatDoorZn
namespace Go.Proofs.YtbnaakognnkhdaaGreatDoor
open Go.RowKit
set_option linter.unusedSimpArgs false
set_option linter.unusedVariables false

/-- How many blanks a text begins with. -/
def blL : List UInt8 → Nat
  | [] => 0
  | c :: r => if c.toNat = 32 then blL r + 1 else 0
theorem blL_le : ∀ l : List UInt8, blL l ≤ l.length
  | [] => Nat.le_refl _
  | c :: r => by rw [blL]; have := blL_le r; split <;> simp <;> omega
/-- The place behind blanks. -/
def skipN (s : ByteArray) (a : Nat) : Nat := a + blL (s.data.toList.drop a)
/-- The byte there; 0 at the end. -/
def peekN (s : ByteArray) (a : Nat) : Nat := if h : a < s.size then s[a].toNat else 0
theorem skip_le {s : ByteArray} {a : Nat} (h : a ≤ s.size) : skipN s a ≤ s.size := by
  unfold skipN
  have := blL_le (s.data.toList.drop a)
  simp at this
  omega
theorem skip_ge (s : ByteArray) (a : Nat) : a ≤ skipN s a := by unfold skipN; omega
theorem skip_step {s : ByteArray} {a : Nat} (h : a < s.size) (h32 : s[a].toNat = 32) : skipN s a = skipN s (a + 1) := by
  unfold skipN
  rw [drop_at s a h, blL, if_pos h32]
  omega
theorem skip_stop {s : ByteArray} {a : Nat} (h : a < s.size) (h32 : s[a].toNat ≠ 32) : skipN s a = a := by
  unfold skipN
  rw [drop_at s a h, blL, if_neg h32]
  omega
theorem skip_end {s : ByteArray} {a : Nat} (h : s.size ≤ a) : skipN s a = a := by
  unfold skipN
  rw [List.drop_eq_nil_of_le (by simpa using h), blL]
  omega
/-- The reader's block. -/
structure PAt (w : World) (pb : Nat) (s : ByteArray) (a : Int) (e b : Int) : Prop where
  c0 : w.cell? ⟨pb, 0, none⟩ = some (.string s)
  c1 : w.cell? ⟨pb, 1, none⟩ = some (.int .i64 a)
  c2 : w.cell? ⟨pb, 2, none⟩ = some (.int .i64 e)
  c3 : w.cell? ⟨pb, 3, none⟩ = some (.int .i64 b)
  f1 : w.frozen? ⟨pb, 1, none⟩ = false
  f2 : w.frozen? ⟨pb, 2, none⟩ = false
  f3 : w.frozen? ⟨pb, 3, none⟩ = false
section
variable {w w' : World} {pb : Nat} {s : ByteArray} {a a' e e' b b' : Int}
theorem PAt.fr (h : PAt w pb s a e b) (k : Fr w w') : PAt w' pb s a e b := ⟨k.get h.c0, k.get h.c1, k.get h.c2, k.get h.c3, k.free h.c1 h.f1, k.free h.c2 h.f2, k.free h.c3 h.f3⟩
theorem PAt.kp {S : Nat → Prop} (h : PAt w pb s a e b) (k : Kp S w w') (hp : ¬ S pb) : PAt w' pb s a e b := ⟨k.get hp h.c0, k.get hp h.c1, k.get hp h.c2, k.get hp h.c3, k.free hp h.c1 h.f1, k.free hp h.c2 h.f2, k.free hp h.c3 h.f3⟩
theorem PAt.lt (h : PAt w pb s a e b) : pb < w.heap.size := lt_of_cell h.c0
theorem PAt.set1 (h : PAt w pb s a e b) : PAt (w.setCell ⟨pb, 1, none⟩ (.int .i64 a')) pb s a' e b := by
  obtain ⟨c0, c1, c2, c3, f1, f2, f3⟩ := h
  exact ⟨by simp [go_sem, *], by simp [go_sem, *], by simp [go_sem, *], by simp [go_sem, *], by simp [go_sem, *], by simp [go_sem, *], by simp [go_sem, *]⟩
theorem PAt.set23 (h : PAt w pb s a e b) : PAt ((w.setCell ⟨pb, 2, none⟩ (.int .i64 e')).setCell ⟨pb, 3, none⟩ (.int .i64 b')) pb s a e' b' := by
  obtain ⟨c0, c1, c2, c3, f1, f2, f3⟩ := h
  exact ⟨by simp [go_sem, *], by simp [go_sem, *], by simp [go_sem, *], by simp [go_sem, *], by simp [go_sem, *], by simp [go_sem, *], by simp [go_sem, *]⟩
end
/-- A round over blanks. -/
def RelNx (s : ByteArray) (a : Nat) (e b : Int) (pb : Nat) (w : World) (wr : World) : Prop := ∃ k : Nat, k ≤ s.size ∧ PAt wr pb s (k : Int) e b ∧ skipN s a = skipN s k ∧ Kp (fun g => g = pb) w wr
/-- How far it is to the end. -/
def atOf (s : ByteArray) (pb : Nat) (w : World) : Nat := match w.cell? ⟨pb, 1, none⟩ with | some (.int .i64 k) => s.size - k.toNat | _ => 0
theorem atOf_eq {s : ByteArray} {pb : Nat} {w : World} {k : Nat} (h : w.cell? ⟨pb, 1, none⟩ = some (.int .i64 (k : Int))) : atOf s pb w = s.size - k := by simp [atOf, h]
set_option maxHeartbeats 3200000 in
set_option maxRecDepth 100000 in
theorem next_any (s : ByteArray) (a : Nat) (e b : Int) (pb : Nat) (w : World) (hs : s.size ≤ 9223372036854775800) (ha : a ≤ s.size) (hp : PAt w pb s (a : Int) e b) :
    Calls Tryz.prog 41 #[.pointer (some ⟨pb, 0, none⟩)] w fun en w' => en = .returned (.int .u8 (peekN s (skipN s a) : Int)) ∧ PAt w' pb s (skipN s a : Int) e b ∧ Kp (fun g => g = pb) w w' := by
  have HP := Lib.hid hp
  have z0 := hp.lt
  clear hp
  go_enter Tryz.func41, Tryz.ntmps41
  go_wp2
  go_loopw [3] (fun _ wr => RelNx s a e b pb w wr) (fun _ wr => atOf s pb wr)
  case atStart => exact ⟨a, ha, HP.out, rfl, Kp.refl _ _⟩
  case round =>
    obtain ⟨k, hk, hpk, hq, hkp⟩ := hrel
    have HPK := Lib.hid hpk
    have HQ := Lib.hid hq
    have HKP := Lib.hid hkp
    have c0 := hpk.c0
    have c1 := hpk.c1
    have f1 := hpk.f1
    have z1 := hpk.lt
    have HAO := Lib.hid (atOf_eq (s := s) c1)
    clear hpk hq hkp
    by_cases hlt : k < s.size
    · have hl : ((k : Int) < (s.size : Int)) := by omega
      by_cases h32 : s[k].toNat = 32
      · have HSK := Lib.hid (skip_step hlt h32)
        obtain ⟨m, hm⟩ : ∃ m : Int, (s[k].toNat : Int) = m := ⟨_, rfl⟩
        have hm2 : m = 32 := by omega
        subst hm2
        have HC := Lib.hid (show ((k + 1 : Nat) : Int) = (k : Int) + 1 by omega)
        go_wp2_with fail
        go_quiet (fail)
        go_wp2
        go_roundw
        case rel => exact ⟨k + 1, by omega, by rw [HC.out]; exact (HPK.out.fr (Fr.drewN (Fr.refl _) nq)).set1, HQ.out.trans HSK.out, (HKP.out.drewN _).set (p := ⟨pb, 1, none⟩) (.inl rfl) _⟩
        case measure =>
          rw [HAO.out, atOf_eq (k := k + 1) (by rw [HC.out]; exact ((HPK.out.fr (Fr.drewN (Fr.refl _) nq)).set1).c1)]
          omega
      · have HSK := Lib.hid (skip_stop hlt h32)
        have HPE := Lib.hid (show peekN s k = s[k].toNat by unfold peekN; rw [dif_pos hlt])
        have hne : ((k : Int) == (s.size : Int)) = false := by simp; omega
        obtain ⟨m, hm⟩ : ∃ m : Int, (s[k].toNat : Int) = m := ⟨_, rfl⟩
        have hm2 : (m == 32) = false := by simp; omega
        go_wp2_with fail
        go_quiet (fail)
        go_wp2_with fail
        go_quiet (fail)
        go_wp2_with fail
        go_quiet (fail)
        go_wp2
        go_ret
        rw [HQ.out, HSK.out]
        exact ⟨by rw [HPE.out, hm]; rfl, HPK.out.fr (by repeat (first | exact Fr.refl _ | apply Fr.drewN)), HKP.out.fr (by repeat (first | exact Fr.refl _ | apply Fr.drewN))⟩
    · obtain rfl : k = s.size := by omega
      have HSK := Lib.hid (skip_end (Nat.le_refl s.size))
      have HPE := Lib.hid (show peekN s s.size = 0 by unfold peekN; rw [dif_neg (by omega)])
      go_wp2_with fail
      go_quiet (fail)
      go_wp2_with fail
      go_quiet (fail)
      go_wp2
      go_ret
      rw [HQ.out, HSK.out]
      exact ⟨by rw [HPE.out]; rfl, HPK.out.fr (by repeat (first | exact Fr.refl _ | apply Fr.drewN)), HKP.out.fr (by repeat (first | exact Fr.refl _ | apply Fr.drewN))⟩
/-- A block of two cells. -/
structure B2 (w : World) (g : Nat) (x y : Value) : Prop where
  c0 : w.cell? ⟨g, 0, none⟩ = some x
  c1 : w.cell? ⟨g, 1, none⟩ = some y
  f0 : w.frozen? ⟨g, 0, none⟩ = false
  f1 : w.frozen? ⟨g, 1, none⟩ = false
theorem B2.fr {w w' : World} {g : Nat} {x y : Value} (h : B2 w g x y) (k : Fr w w') : B2 w' g x y := ⟨k.get h.c0, k.get h.c1, k.free h.c0 h.f0, k.free h.c1 h.f1⟩
theorem B2.kp {S : Nat → Prop} {w w' : World} {g : Nat} {x y : Value} (h : B2 w g x y) (k : Kp S w w') (hg : ¬ S g) : B2 w' g x y := ⟨k.get hg h.c0, k.get hg h.c1, k.free hg h.c0 h.f0, k.free hg h.c1 h.f1⟩
theorem B2.new {w : World} {t : TypeId} {x y : Value} {g : Nat} (hg : g = w.heap.size) : B2 (w.alloc (.cells #[x, y] t)) g x y := by
  subst hg
  exact ⟨by simp [go_sem], by simp [go_sem], by simp [go_sem], by simp [go_sem]⟩
theorem B2.lt {w : World} {g : Nat} {x y : Value} (h : B2 w g x y) : g < w.heap.size := lt_of_cell h.c0
theorem B2.set {w : World} {g : Nat} {x y x' y' : Value} (h : B2 w g x y) : B2 ((w.setCell ⟨g, 0, none⟩ x').setCell ⟨g, 1, none⟩ y') g x' y' := by
  obtain ⟨c0, c1, f0, f1⟩ := h
  exact ⟨by simp [go_sem, *], by simp [go_sem, *], by simp [go_sem, *], by simp [go_sem, *]⟩
theorem set2_heap (w : World) (q : Nat) (x y : Value) (g : Nat) (hg : g ≠ q) : ((w.setCell ⟨q, 0, none⟩ x).setCell ⟨q, 1, none⟩ y).heap[g]? = w.heap[g]? := by
  rw [Below.heap_setCell _ ⟨q, 1, none⟩ y g hg, Below.heap_setCell _ ⟨q, 0, none⟩ x g hg]
/-- What fail leaves. -/
theorem fail_any (s : ByteArray) (a at' e b err : Int) (pb : Nat) (w : World) (hp : PAt w pb s a e b) :
    Calls Tryz.prog 42 #[.pointer (some ⟨pb, 0, none⟩), .int .i64 at', .int .i64 err] w fun en w' => en = .returned (.tuple #[.agg #[.map none, .int .i64 0], .bool false]) ∧ PAt w' pb s a err at' ∧ Kp (fun g => g = pb) w w' := by
  have HP := Lib.hid hp
  have z0 := hp.lt
  obtain ⟨c0, c1, c2, c3, f1, f2, f3⟩ := id hp
  clear hp
  go_enter Tryz.func42, Tryz.ntmps42
  go_wp2
  exact bodyPost_ret (v := .tuple #[.agg #[.map none, .int .i64 0], .bool false]) (results_cell2 Tryz.results42 _ rfl rfl (load_sum (by simp [go_sem, *]) (by simp [go_sem, *]))) rfl
    ⟨rfl, (HP.out.set23).fr ((Fr.refl _).alloc _), (((Kp.refl (fun g => g = pb) w).set (p := ⟨pb, 2, none⟩) (.inl rfl) _).set (p := ⟨pb, 3, none⟩) (.inl rfl) _).alloc _⟩
set_option maxRecDepth 100000 in
theorem symbol_any (s : ByteArray) (w : World) (hs : s.size ≤ maxLen) (hn : nameB s = true) : Calls Tryz.prog 84 #[.string s] w fun e w' => ∃ v, e = .returned v ∧ SumV w w' v [(s, 1)] 0 ∧ Fr w w' := by
  have hkey : keyOf Tryz.prog 9 (.string s) = some (Kl s) := Go.WideMaps.keyOf_string_mk Tryz.underlying9 hs
  have hmm := @run_makeMap Tryz.prog
  obtain ⟨W, hW⟩ : ∃ W, W = w.alloc (.cells #[.map none, .int .i64 0] 46) := ⟨_, rfl⟩
  have hsz : W.heap.size = w.heap.size + 1 := by rw [hW]; simp
  have hown := World.ownsMap_made (H := Unit) W Tryz.prog 9 (plainElem (H := Unit) Tryz.prog 3)
  obtain ⟨w', hrun, hown', hgr⟩ := hown.update lawS Tryz.underlying44 (by unfold maxLen; omega) hkey (plainElem_int Tryz.underlying3 (a := 1) (by decide))
  rw [hsz] at hrun hown' hgr
  have HM := Lib.hid (show MapP w' (some (w.heap.size + 1)) [(s, 1)] from MapP.of hown' ⟨hn, (by simp), fun y hy => (by cases hy), trivial⟩ fun t z => by
    by_cases e : s = t
    · subst e
      rw [Go.Maps.atKey_put_same ⟨_, rfl⟩ (Kl_key s), look, if_pos rfl]
      rfl
    · rw [Go.Maps.atKey_put_other (fun h => e (Kl_inj h).symm), look, if_neg e]
      rfl)
  have HF := Lib.hid (show Fr w w' from (((Kp.refl (fun g => w.heap.size ≤ g) w).alloc (.cells #[.map none, .int .i64 0] 46)).alloc (.map #[] 0) |>.grown (by rw [hW] at hgr; exact hgr) (fun j e => by injection e with e; exact .inl (by omega))).to (fun x h => h))
  have HB := Lib.hid (show B2 w' w.heap.size (.map none) (.int .i64 0) by
    have h0 : B2 (W.alloc (.map #[] 0)) w.heap.size (.map none) (.int .i64 0) := by rw [hW]; exact (B2.new rfl).fr ((Fr.refl _).alloc _)
    have hk := hgr.block w.heap.size h0.lt (fun e => by injection e with e; omega)
    exact ⟨(heap_cell hk).trans h0.c0, (heap_cell hk).trans h0.c1, (heap_frozen hk).trans h0.f0, (heap_frozen hk).trans h0.f1⟩)
  obtain ⟨c0, c1, f0, f1⟩ := HB.out
  rw [hW] at hrun
  clear hown hown' hgr hW hkey
  go_enter Tryz.func84, Tryz.ntmps84
  go_wp2
  obtain ⟨w5, hw5, hl5, hv5, hf5⟩ := sum_end (off := 0) (show w.heap.size ≤ w.heap.size by omega) HF.out c0 c1 f0 f1 HM.out (fun b e => by injection e with e; omega)
  rw [← hw5]
  exact bodyPost_ret (v := .agg #[.map (some (w.heap.size + 1)), .int .i64 0]) (results_cell Tryz.results84 _ rfl hl5) rfl ⟨_, rfl, hv5, hf5⟩
end Go.Proofs.YtbnaakognnkhdaaGreatDoor
