/- A sum is added to a sum. -/
import Derived.Test.YtbnaakognnkhdaaGreatDoorZg
import Derived.BigRegion
import Derived.Test.YtbnaakognnkhdaaGreatDoorLawp
namespace Go.Proofs.YtbnaakognnkhdaaGreatDoor
open Go.RowKit
set_option linter.unusedSimpArgs false
set_option linter.unusedVariables false

set_option maxRecDepth 100000 in
theorem mul_one64 {c : Int} {y : DataW Unit × List MemPlace} (h : plainElem (H := Unit) Tryz.prog 3 (.int .i64 c) = some y) : c = mul64 1 c := by
  obtain ⟨c', e, _, hw⟩ := plainElem_int_inv Tryz.underlying3 h
  injection e with _ e
  subst e
  unfold mul64
  rw [Int.one_mul, wrap_id]
  exact int_of_wf hw
theorem add_end0 {S S' : Nat → Prop} {w W wr : World} {q : Nat} {mb : Option Nat} {P : List (ByteArray × Int)} {off n : Int} (h : SAt S' W q mb P off wr) (k : Kp S w wr) (hn : ∀ b, mb = some b → S b ∨ w.heap.size ≤ b) (hq : S q := by exact .inl rfl) :
    SAt S w q mb P n (wr.setCell ⟨q, 1, none⟩ (.int .i64 n)) := by
  have c0 := h.c0
  have c1 := h.c1
  have f0 := h.f0
  have f1 := h.f1
  refine ⟨h.map.keep fun b e => ?_, by simp [go_sem, *], by simp [go_sem, *], by simp [go_sem, *], by simp [go_sem, *], hn, .inl hq, k.set (p := ⟨q, 1, none⟩) (.inl hq) _⟩
  refine Below.heap_setCell _ ⟨q, 1, none⟩ _ b fun e2 => ?_
  have hm := h.map
  subst e e2
  obtain ⟨es, clock, hb, _⟩ := hm
  simp [World.cell?, hb] at c0
theorem add_end {S S' : Nat → Prop} {w W wr : World} {q : Nat} {mb : Option Nat} {P : List (ByteArray × Int)} {off n : Int} (h : SAt S' W q mb P off wr) (k : Kp S w wr) (hn : ∀ b, mb = some b → S b ∨ w.heap.size ≤ b) (hq : S q := by exact .inl rfl) :
    SAt S w q mb P n ((wr.setCell ⟨q, 1, none⟩ (.int .i64 n)).drew) := (add_end0 h k hn hq).fr ((Fr.refl _).drew)
set_option maxHeartbeats 3200000 in
set_option maxRecDepth 100000 in
theorem add_some (P1 m : List (ByteArray × Int)) (off off2 : Int) (q : Nat) (mb : Option Nat) (b : Nat) (w : World) (h1 : ascP P1) (i1 : ∀ x ∈ P1, x.1.size ≤ 140737488351232 ∧ I64 x.2) (hm : ascP m) (im : ∀ x ∈ m, x.1.size ≤ 140737488351232 ∧ I64 x.2) (hlen : P1.length + m.length ≤ 100000)
    (hs0 : SAt (fun g => g = q ∨ mb = some g) w q mb P1 off w) (hM : MapP w (some b) m) (hne : mb ≠ some b) :
    Calls Tryz.prog 20 #[.pointer (some ⟨q, 0, none⟩), .agg #[.map (some b), .int .i64 off2]] w fun e w' => (∃ v, e = .returned v) ∧ ∃ mb', SAt (fun g => g = q ∨ mb = some g) w q mb' (mergeP 1 P1 m) (add64 off off2) w' := by
  have hbw := hM.lt
  have hown : w.ownsMap Tryz.prog 9 (plainElem (H := Unit) Tryz.prog 3) b m.length (dP m) := hM
  have zq := lt_of_cell hs0.c0
  have hqb : q ≠ b := fun e => by
    obtain ⟨es, clock, hb, _⟩ := hown
    have := hs0.c0
    subst e
    simp [World.cell?, hb] at this
  go_enter Tryz.func20, Tryz.ntmps20
  go_wp2_with (first
    | (at_range; refine wpList_range_own _ rfl _ 44 rfl 9 3 lawS Tryz.underlying44 _ b _ _ rfl (hown.alloc _) ?_; intro w0 hrg0 hg0 hz0)
    | fail)
  go_frame
  obtain ⟨p, hp⟩ : ∃ p, w.heap.size = p := ⟨_, rfl⟩
  have hq0 := hs0.c0
  have HS0 := Lib.hid (show SAt (fun g => g = q ∨ mb = some g ∨ g = (w.alloc (.cells #[.map (some b), .int .i64 off2] 46)).heap.size) w0 q mb (mergeP 1 P1 (Lf m (Go.Maps.has (dP m)))) off w0 by
    rw [Lf_start hm, merge_nil h1 fun x hx => (i1 x hx).2]
    have a := hs0.fr ((Fr.refl w).alloc (.cells #[.map (some b), .int .i64 off2] 46))
    have hk := hg0.block q (by simp; omega) (by simp)
    exact ⟨a.map.keep fun b' e => hg0.block b' (by have := a.map; subst e; exact this.lt) (by simp), (heap_cell hk).trans a.c0, (heap_cell hk).trans a.c1, (heap_frozen hk).trans a.f0, (heap_frozen hk).trans a.f1, fun b' e => .inl (.inr (.inl e)), .inl (.inl rfl), Kp.refl _ _⟩)
  have HK := Lib.hid (fun wr (h : Kp (fun g => g = q ∨ mb = some g ∨ g = (w.alloc (.cells #[.map (some b), .int .i64 off2] 46)).heap.size) w0 wr) =>
    (((Kp.refl (fun g => g = q ∨ mb = some g) w).alloc (.cells #[.map (some b), .int .i64 off2] 46)).grown hg0 (fun j e => by cases e)).trans h (fun x hx hh => by
      rcases hh with h | h | h
      · exact .inl h
      · exact .inr h
      · simp at h; omega))
  have HB := Lib.hid (show w0.cell? ⟨p, 1, none⟩ = some (.int .i64 off2) from (heap_cell (hg0.block p (by simp; omega) (by simp))).trans (by rw [← hp]; simp [go_sem]))
  have HZ := Lib.hid (show q < p ∧ b < p ∧ p < (w.alloc (.cells #[.map (some b), .int .i64 off2] 46)).heap.size ∧ (w.alloc (.cells #[.map (some b), .int .i64 off2] 46)).heap.size < w0.heap.size ∧ ∀ g, mb = some g → g < p from
    ⟨by omega, by omega, by simp; omega, by omega, fun g e => by have := hs0.map; subst e; rw [← hp]; exact this.lt⟩)
  have HRG := Lib.hid hrg0
  obtain ⟨r, hr⟩ : ∃ r, (w.alloc (.cells #[.map (some b), .int .i64 off2] 46)).heap.size = r := ⟨_, rfl⟩
  simp only [hr] at *
  simp only [hp]
  clear hown hrg0 hg0 hz0 hs0 hq0
  go_loopw [9] (fun _ wr => RelBy 1 P1 m off (fun g => g = q ∨ mb = some g ∨ g = r) q b r m.length w0 wr) (fun _ wr => wr.rangeLeft b r)
  case atStart => exact ⟨_, _, mb, HRG.out, HS0.out⟩
  case round =>
    obtain ⟨left, cnt, mb1, hrg, hs⟩ := hrel
    have HS := Lib.hid hs
    obtain ⟨zqp, zbp, zpr, zr0, zmb⟩ := HZ.out
    have kpW := hs.kp
    have hb1 : wr.cell? ⟨p, 1, none⟩ = some (.int .i64 off2) := kpW.get (show ¬ (p = q ∨ mb = some p ∨ p = r) by rintro (h | h | h) <;> first | omega | (have := zmb p h; omega)) HB.out
    have HKR := Lib.hid (HK.out wr kpW)
    clear kpW
    clear hs
    go_wp2_with (first
      | (at_next; refine wpList_next_ranges (α := ByteArray) (β := Int) _ rfl _ rfl 9 lawS (plainElem (H := Unit) Tryz.prog 3) Value.string (Value.int .i64) strs_inv ints_inv b r m.length _ _ _ rfl hrg ?_ ?_)
      | fail)
    · intro hc0 hl0
      have hs1 : SAt (fun g => g = q ∨ mb = some g ∨ g = r) w0 q mb1 (mergeP 1 P1 m) off wr := by have := HS.out; rw [Lf_end hl0] at this; exact this
      have c1 := hs1.c1
      have f1 := hs1.f1
      have zq' := lt_of_cell c1
      have zp' := lt_of_cell hb1
      have HE := Lib.hid hs1
      clear hs1 hl0 hrg
      go_wp2
      go_region
      go_end0
      exact ⟨⟨_, rfl⟩, mb1, add_end HE.out HKR.out (fun b' e => by
        rcases HE.out.new b' e with (h | h | h) | h
        · exact .inl (.inl h)
        · exact .inl (.inr h)
        · exact .inr (by omega)
        · exact .inr (by omega))⟩
    · intro x c kl ya yb w2 cnt1 hkey hlx hR hat hrg1 hlt hg1 hs1 hen
      have HC := Lib.hid (cnt_step (y := (ya, yb)) (v := c) h1 i1 hm im (by omega) hrg HS.out hg1 hrg1 (.inr (.inr rfl)) (show ¬ (b = q ∨ mb = some b ∨ b = r) by rintro (h | h | h) <;> first | omega | (exact hne h)) (show b < w0.heap.size by omega) hkey hlx hR hat (mul_one64 hR))
      have hle := hrg.left_eq
      have HRN := Lib.hid hrg1
      clear hrg hg1 hR hat hrg1
      go_wp2_with (first
        | (go_at_call 31; refine (HC.out).mono ?_; rintro e w3 ⟨⟨v, rfl⟩, mb2, hs2, hrg2⟩)
        | fail)
      go_roundw
      case rel => exact ⟨_, cnt1, mb2, hrg2, hs2⟩
      case measure => rw [hrg2.left_eq, hle]; exact hlt
set_option maxHeartbeats 3200000 in
set_option maxRecDepth 100000 in
theorem add_none (P1 : List (ByteArray × Int)) (off off2 : Int) (q : Nat) (mb : Option Nat) (w : World) (hs0 : SAt (fun g => g = q ∨ mb = some g) w q mb P1 off w) :
    Calls Tryz.prog 20 #[.pointer (some ⟨q, 0, none⟩), .agg #[.map none, .int .i64 off2]] w fun e w' => (∃ v, e = .returned v) ∧ ∃ mb', SAt (fun g => g = q ∨ mb = some g) w q mb' P1 (add64 off off2) w' := by
  have zq := lt_of_cell hs0.c0
  have hrg := fun W : World => run_range_nilMap (P := Tryz.prog) W 44 9 3 Tryz.underlying44
  have hnx := fun ty => run_next_nilMap (P := Tryz.prog) (w.alloc (.cells #[.map none, .int .i64 off2] 46)) ty 0 0 #[]
  simp only [World.size_alloc] at hnx
  have c1 := hs0.c1
  have f1 := hs0.f1
  go_enter Tryz.func20, Tryz.ntmps20
  go_wp2
  refine wp_loop_rounds 1 ?_
  rw [rounds_succ]
  go_wp2
  go_region
  go_end0
  exact ⟨⟨_, rfl⟩, mb, (add_end0 hs0 (Kp.refl _ w) fun b e => .inl (.inr e)).fr (((Fr.refl _).alloc _).alloc _).drew⟩
theorem add_any (P1 m : List (ByteArray × Int)) (off off2 : Int) (q : Nat) (mb mb2 : Option Nat) (w : World) (h1 : ascP P1) (i1 : ∀ x ∈ P1, x.1.size ≤ 140737488351232 ∧ I64 x.2) (hm : ascP m) (im : ∀ x ∈ m, x.1.size ≤ 140737488351232 ∧ I64 x.2) (hlen : P1.length + m.length ≤ 100000)
    (hs0 : SAt (fun g => g = q ∨ mb = some g) w q mb P1 off w) (hM : MapP w mb2 m) (hne : ∀ b, mb2 = some b → mb ≠ some b) :
    Calls Tryz.prog 20 #[.pointer (some ⟨q, 0, none⟩), .agg #[.map mb2, .int .i64 off2]] w fun e w' => (∃ v, e = .returned v) ∧ ∃ mb', SAt (fun g => g = q ∨ mb = some g) w q mb' (mergeP 1 P1 m) (add64 off off2) w' := by
  cases mb2 with
  | some b => exact add_some P1 m off off2 q mb b w h1 i1 hm im hlen hs0 hM (hne b rfl)
  | none =>
    obtain rfl : m = [] := hM
    rw [merge_nil h1 fun x hx => (i1 x hx).2]
    exact add_none P1 off off2 q mb w hs0
end Go.Proofs.YtbnaakognnkhdaaGreatDoor
