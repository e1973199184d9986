/- The document's To: a list as bits. -/
import Derived.Test.YtglgbhlnfafhjaaRof
namespace Go.Proofs.Ytglgbhlnfafhjaa
open Go.RowKit

/-- What is told after the places from j on. -/
def topI (n : Nat) (x : Int) (j : Nat) : Int := x % 2 ^ n / 2 ^ j
theorem topI_all (n : Nat) (x : Int) : topI n x n = 0 := Int.ediv_eq_zero_of_lt (Int.emod_nonneg x (two_ne n)) (Int.emod_lt_of_pos x (two_pos n))
theorem topI_zero (n : Nat) (x : Int) : topI n x 0 = x % 2 ^ n := by unfold topI; simp
theorem topI_step (n : Nat) (x : Int) (i : Nat) (h : i < n) : topI n x i = 2 * topI n x (i + 1) + b2i (bitI x i) := by
  unfold topI; rw [← bitI_mod x h]; exact div_succ _ _
theorem topI_range (n : Nat) (x : Int) (j : Nat) (hn : n ≤ 128) : 0 ≤ topI n x j ∧ topI n x j < 340282366920938463463374607431768211456 := by
  have h1 := Int.emod_nonneg x (two_ne n)
  have h2 := Int.emod_lt_of_pos x (two_pos n)
  have h3 := two_le hn
  have e : (2 : Int) ^ 128 = 340282366920938463463374607431768211456 := by decide
  unfold topI
  exact ⟨Int.ediv_nonneg h1 (by have := two_pos j; omega), Int.lt_of_le_of_lt (Int.ediv_le_self _ h1) (by omega)⟩
theorem b2i_range' (b : Bool) : 0 ≤ b2i b ∧ b2i b ≤ 1 := by cases b <;> simp [b2i]
/-- The words of twice a number and a bit. -/
theorem hi_twice (v : Int) (b : Bool) (_h0 : 0 ≤ v) (_h1 : 2 * v + 1 < 340282366920938463463374607431768211456) : hi (2 * v + b2i b) = (hi v * 2 + lo v / 9223372036854775808) % 18446744073709551616 := by
  have hb : 0 ≤ b2i b ∧ b2i b ≤ 1 := by cases b <;> simp [b2i]
  unfold hi lo; omega
theorem lo_twice (v : Int) (b : Bool) : lo (2 * v + b2i b) = lo v * 2 % 18446744073709551616 + b2i b := by
  cases b <;> simp [b2i] <;> unfold lo <;> omega
/-- A block that is known whole. -/
def Bk (w : World) (g : Nat) (t : TypeId) (cs : Array Value) : Prop := w.heap[g]? = some (.cells cs t (0, 0))
theorem Bk.cell {w : World} {g : Nat} {t : TypeId} {cs : Array Value} (h : Bk w g t cs) (i : Nat) : w.cell? ⟨g, i, none⟩ = cs[i]? := cell_of_row w g i cs t (0, 0) h
theorem Bk.free {w : World} {g : Nat} {t : TypeId} {cs : Array Value} (h : Bk w g t cs) (i : Nat) : w.frozen? ⟨g, i, none⟩ = false := by
  unfold Bk at h
  simp [World.frozen?, h]
theorem Bk.lt {w : World} {g : Nat} {t : TypeId} {cs : Array Value} (h : Bk w g t cs) : g < w.heap.size := by
  rcases Nat.lt_or_ge g w.heap.size with hlt | hge
  · exact hlt
  · unfold Bk at h; rw [Array.getElem?_eq_none hge] at h; cases h
theorem Bk.new (w : World) (t : TypeId) (cs : Array Value) : Bk (w.alloc (.cells cs t)) w.heap.size t cs := heap_alloc_new w _
theorem Bk.set {w : World} {g : Nat} {t : TypeId} {cs : Array Value} (h : Bk w g t cs) (i : Nat) (u : Value) : Bk (w.setCell ⟨g, i, none⟩ u) g t (cs.setIfInBounds i u) := by
  unfold Bk at h ⊢
  simp [World.setCell, Array.getElem?_modify, h]
theorem Bk.far {w : World} {g : Nat} {t : TypeId} {cs : Array Value} (h : Bk w g t cs) {p : Addr} (hp : g ≠ p.block) (u : Value) : Bk (w.setCell p u) g t cs := (Below.heap_setCell w p u g hp).trans h
theorem Bk.fr {w w' : World} {g : Nat} {t : TypeId} {cs : Array Value} (h : Bk w g t cs) (k : Fr w w') : Bk w' g t cs := by
  have hl := h.lt
  unfold Bk at h ⊢
  rw [k.block g hl]; exact h
theorem Bk.upd {w : World} {g : Nat} {t : TypeId} {a b c : Value} (h : Bk w g t #[a, b, c]) (x y : Value) : Bk ((w.setCell ⟨g, 1, none⟩ x).setCell ⟨g, 2, none⟩ y) g t #[a, x, y] := (h.set 1 x).set 2 y
theorem Bk.upd3 {w : World} {g : Nat} {t : TypeId} {a b c : Value} (h : Bk w g t #[a, b, c]) (x y z : Value) : Bk (((w.setCell ⟨g, 1, none⟩ x).setCell ⟨g, 2, none⟩ y).setCell ⟨g, 2, none⟩ z) g t #[a, x, z] := ((h.set 1 x).set 2 y).set 2 z
def RelTo (w : World) (n : Nat) (x : Int) (i : Value) (wr : World) : Prop :=
  ∃ j : Nat, j ≤ n ∧ i = .int .i64 ((j : Int) - 1) ∧ Bk wr w.heap.size 24 #[.int .i64 0, .int .u64 0, .int .u64 0] ∧ Bk wr (w.heap.size + 1) 24 #[.int .i64 (n : Int), .int .u64 (hi (topI n x j)), .int .u64 (lo (topI n x j))] ∧ Fr w wr
set_option maxHeartbeats 3200000 in
set_option maxRecDepth 10000 in
theorem to_any (A : Option Addr) (n c : Nat) (x : Int) (h1 : 1 ≤ n) (hn : n ≤ 128) (w : World) (hr : Rd bolv w A (bitsI n x)) :
    Calls Try.prog 22 #[.slice A n c] w fun e w' => e = .returned (bv n (x % 2 ^ n)) ∧ Fr w w' := by
  have HR := Lib.hid hr
  have HA := Lib.hid (topI_all n x)
  have HZ := Lib.hid (topI_zero n x)
  clear hr
  go_enter Try.func22, Try.ntmps22
  go_wp2
  go_loopw [4] (fun i wr => RelTo w n x i wr) (fun i _ => (intOf i + 1).toNat)
  case atStart =>
    refine ⟨n, Nat.le_refl _, rfl, ?_, ?_, ((Fr.refl w).alloc _).alloc _⟩
    · exact (Bk.new w _ _).fr ((Fr.refl _).alloc _)
    · rw [HA.out]
      have h := Bk.new (w.alloc (.cells #[.int .i64 0, .int .u64 0, .int .u64 0] 24)) 24 #[.int .i64 (n : Int), .int .u64 0, .int .u64 0]
      rw [show (w.alloc (.cells #[.int .i64 0, .int .u64 0, .int .u64 0] 24)).heap.size = w.heap.size + 1 by simp] at h
      exact h
  case round =>
    obtain ⟨j, hj, rfl, hb1, hb2, hfr⟩ := hrel
    have HB1 := Lib.hid hb1
    have HB2 := Lib.hid hb2
    have HF := Lib.hid hfr
    have p1 : wr.cell? ⟨w.heap.size + 1, 1, none⟩ = some (.int .u64 (hi (topI n x j))) := hb2.cell 1
    have p2 : wr.cell? ⟨w.heap.size + 1, 2, none⟩ = some (.int .u64 (lo (topI n x j))) := hb2.cell 2
    have p0 : wr.cell? ⟨w.heap.size + 1, 0, none⟩ = some (.int .i64 (n : Int)) := hb2.cell 0
    have q0 : wr.cell? ⟨w.heap.size, 0, none⟩ = some (.int .i64 0) := hb1.cell 0
    have q1 : wr.cell? ⟨w.heap.size, 1, none⟩ = some (.int .u64 0) := hb1.cell 1
    have q2 : wr.cell? ⟨w.heap.size, 2, none⟩ = some (.int .u64 0) := hb1.cell 2
    have f0 := hb1.free 0
    have f1 := hb1.free 1
    have f2 := hb1.free 2
    have g1 := hb2.free 1
    have g2 := hb2.free 2
    clear hb1 hb2 hfr
    by_cases hlt : 0 < j
    · obtain ⟨i, rfl⟩ : ∃ i, j = i + 1 := ⟨j - 1, by omega⟩
      have ei : ((i + 1 : Nat) : Int) - 1 = (i : Int) := by omega
      rw [ei]
      clear ei
      obtain ⟨g, o, rfl, hgl, hc⟩ := (HR.out.fr HF.out) (by rw [bitsI_length]; omega)
      obtain ⟨g', o', hA', hgl', _⟩ := HR.out (by rw [bitsI_length]; omega)
      injection hA' with hA'
      injection hA' with e1 e2
      have hne1 : ¬ g = w.heap.size + 1 := by omega
      have hcell := hc i (by rw [bitsI_length]; omega)
      rw [bitsI_get] at hcell
      change _ = some (Value.bool _) at hcell
      have ES := Lib.hid (topI_step n x i (by omega))
      obtain ⟨r0, r1⟩ := topI_range n x i hn
      obtain ⟨s0, s1⟩ := topI_range n x (i + 1) hn
      obtain ⟨u0, u1⟩ := hi_word (topI n x (i + 1))
      obtain ⟨v0, v1⟩ := lo_word (topI n x (i + 1))
      have hb := b2i_range' (bitI x i)
      have EH := Lib.hid (hi_twice (topI n x (i + 1)) (bitI x i) s0 (by have := ES.out; omega))
      have EL := Lib.hid (lo_twice (topI n x (i + 1)) (bitI x i))
      rw [← ES.out] at EH EL
      generalize hi (topI n x (i + 1)) = H at *
      generalize lo (topI n x (i + 1)) = L at *
      clear r0 r1 s0 s1 hb hc e1 e2 hgl hgl'
      generalize bitI x i = b at *
      have W1 := Lib.hid (show IntKind.u64.wrap (IntKind.u64.wrap (H * 2) + L / 9223372036854775808) = hi (topI n x i) by rw [EH.out, IntKind.wrap_u64, IntKind.wrap_u64]; omega)
      have hbd : 0 ≤ b2i b ∧ b2i b ≤ 1 := b2i_range' b
      cases b
      · have W2 := Lib.hid (show IntKind.u64.wrap (L * 2) = lo (topI n x i) by rw [EL.out, IntKind.wrap_u64]; simp [b2i])
        go_wp2
        go_roundw
        case rel => exact ⟨i, by omega, rfl, (HB1.out.far (by simp) _).far (by simp) _, by rw [← W1.out, ← W2.out]; exact HB2.out.upd _ _, (HF.out.set (by simp) _).set (by simp) _⟩
        case measure => simp [intOf]
      · have W2 := Lib.hid (show IntKind.u64.wrap (IntKind.u64.wrap (L * 2) + 1) = lo (topI n x i) by rw [EL.out, IntKind.wrap_u64, IntKind.wrap_u64]; simp [b2i]; omega)
        go_wp2
        go_roundw
        case rel => exact ⟨i, by omega, rfl, ((HB1.out.far (by simp) _).far (by simp) _).far (by simp) _, by rw [← W1.out, ← W2.out]; exact HB2.out.upd3 _ _ _, ((HF.out.set (by simp) _).set (by simp) _).set (by simp) _⟩
        case measure => simp [intOf]
    · obtain rfl : j = 0 := by omega
      rw [HZ.out] at p1 p2
      go_wp2
      exact bodyPost_ret (v := bv n (x % 2 ^ n)) (by simp [results, Try.results22, go_sem, *]) rfl ⟨rfl, by repeat (first | with_reducible exact HF.out | (with_reducible refine Fr.set ?_ (by simp) _))⟩
theorem to_no (A : Option Addr) (n c : Nat) (hn : n < 1 ∨ 128 < n) (hm : n ≤ 1000) (w : World) :
    Calls Try.prog 22 #[.slice A n c] w fun e w' => e = .returned (.agg #[.int .i64 0, .int .u64 0, .int .u64 0]) ∧ Fr w w' := by
  rcases hn with hn | hn
  · have hn' : (n : Int) < 1 := by omega
    go_enter Try.func22, Try.ntmps22
    go_wp2
    exact bodyPost_ret (v := .agg #[.int .i64 0, .int .u64 0, .int .u64 0]) (by simp [results, Try.results22, go_sem]) rfl ⟨rfl, by repeat (first | with_reducible exact Fr.refl _ | with_reducible apply Fr.alloc | (with_reducible refine Fr.set ?_ (by simp) _))⟩
  · have hn' : 128 < (n : Int) := by omega
    go_enter Try.func22, Try.ntmps22
    go_wp2
    exact bodyPost_ret (v := .agg #[.int .i64 0, .int .u64 0, .int .u64 0]) (by simp [results, Try.results22, go_sem]) rfl ⟨rfl, by repeat (first | with_reducible exact Fr.refl _ | with_reducible apply Fr.alloc | (with_reducible refine Fr.set ?_ (by simp) _))⟩
end Go.Proofs.Ytglgbhlnfafhjaa
