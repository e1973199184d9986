/- quoRem with a divisor of two words: the loop. -/
import Derived.Test.YtglgbhlnfafhjaaQuo
import Derived.Test.YtglgbhlnfafhjaaRto
import Derived.Deep.CutBlock
namespace Go.Proofs.Ytglgbhlnfafhjaa
open Go.RowKit

theorem wide_range (a b : Int) (a1 : a < 340282366920938463463374607431768211456) (b0 : 0 ≤ b) (b1 : b < 340282366920938463463374607431768211456) (hb : hi b ≠ 0) :
    ∃ s : Nat, s ≤ 63 ∧ (64 : Int) - (Lib.bitLen (hi b).toNat : Int) = (s : Int) ∧ b * 2 ^ s < 340282366920938463463374607431768211456 ∧ a < b * 2 ^ (s + 1) := by
  obtain ⟨h0, h1⟩ := hi_word b
  obtain ⟨c1, c2, c3, c4⟩ := bitLen_word (hi b) (by omega) h1
  have hd := hilo_mod b
  rw [mod128_small _ b0 b1] at hd
  obtain ⟨l0, l1⟩ := lo_word b
  generalize Lib.bitLen (hi b).toNat = β at *
  refine ⟨64 - β, by omega, by omega, ?_, ?_⟩
  · have hP := pow_pos' (64 - β)
    have e : (2 : Int) ^ β * 2 ^ (64 - β) = 18446744073709551616 := by rw [← Int.pow_add, Nat.add_sub_cancel' c2]; rfl
    have h2 : (hi b + 1) * 2 ^ (64 - β) ≤ 2 ^ β * 2 ^ (64 - β) := Int.mul_le_mul_of_nonneg_right (by omega) (by omega)
    have h3 : b * 2 ^ (64 - β) < (hi b + 1) * 18446744073709551616 * 2 ^ (64 - β) := Int.mul_lt_mul_of_pos_right (by omega) hP
    have h4 : (hi b + 1) * 18446744073709551616 * 2 ^ (64 - β) = (hi b + 1) * 2 ^ (64 - β) * 18446744073709551616 := by rw [Int.mul_assoc, Int.mul_assoc, Int.mul_comm 18446744073709551616]
    rw [e] at h2
    rw [h4] at h3
    generalize (hi b + 1) * 2 ^ (64 - β) = z at *
    omega
  · have hP := pow_pos' (64 - β)
    have e : (2 : Int) ^ (β - 1) * 2 ^ (64 - β + 1) = 18446744073709551616 := by rw [← Int.pow_add, show β - 1 + (64 - β + 1) = 64 by omega]; rfl
    have hP1 := pow_pos' (64 - β + 1)
    have h2 : 2 ^ (β - 1) * 2 ^ (64 - β + 1) ≤ hi b * 2 ^ (64 - β + 1) := Int.mul_le_mul_of_nonneg_right c3 (by omega)
    have h3 : hi b * 18446744073709551616 * 2 ^ (64 - β + 1) ≤ b * 2 ^ (64 - β + 1) := Int.mul_le_mul_of_nonneg_right (by omega) (by omega)
    have h4 : hi b * 18446744073709551616 * 2 ^ (64 - β + 1) = hi b * 2 ^ (64 - β + 1) * 18446744073709551616 := by rw [Int.mul_assoc, Int.mul_assoc, Int.mul_comm 18446744073709551616]
    rw [e] at h2
    rw [h4] at h3
    generalize hi b * 2 ^ (64 - β + 1) = z at *
    omega
theorem Long.first {A B : Int} {n : Nat} (h0 : 0 ≤ A) (h : A < B * 2 ^ n) : Long A B n 0 A := ⟨by omega, h0, h, by omega, by simp⟩
theorem Long.q1 {A B : Int} {n : Nat} {q r : Int} (h : Long A B n q r) (hA : A < 340282366920938463463374607431768211456) (hB : 18446744073709551616 ≤ B) : q < 18446744073709551616 ∧ r ≤ A := by
  have hs := h.sum
  have hq := h.q0
  have hr := h.r0
  have h1 : q * 18446744073709551616 ≤ q * B := Int.mul_le_mul_of_nonneg_left hB hq
  exact ⟨by omega, by have : 0 ≤ q * B := Int.mul_nonneg hq (by omega); omega⟩
/-- A block of two cells that may be written. -/
structure CB (w : World) (g : Nat) (a b : Value) : Prop where
  c0 : w.cell? ⟨g, 0, none⟩ = some a
  c1 : w.cell? ⟨g, 1, none⟩ = some b
  f0 : w.frozen? ⟨g, 0, none⟩ = false
  f1 : w.frozen? ⟨g, 1, none⟩ = false
theorem CB.lt {w : World} {g : Nat} {a b : Value} (h : CB w g a b) : g < w.heap.size := lt_of_cell h.c0
theorem CB.fr {w w' : World} {g : Nat} {a b : Value} (h : CB w g a b) (k : Fr w w') : CB w' g a b := ⟨k.get h.c0, k.get h.c1, k.free h.c0 h.f0, k.free h.c1 h.f1⟩
theorem CB.drew {w : World} {g : Nat} {a b : Value} (h : CB w g a b) : CB w.drew g a b := h.fr (Fr.drew (Fr.refl w))
theorem CB.set0 {w : World} {g : Nat} {a b : Value} (h : CB w g a b) (x : Value) : CB (w.setCell ⟨g, 0, none⟩ x) g x b :=
  ⟨World.cell?_setCell_same w _ _ h.c0, (World.cell?_setCell_other w _ _ _ (by simp)).trans h.c1, by simpa using h.f0, by simpa using h.f1⟩
theorem CB.set1 {w : World} {g : Nat} {a b : Value} (h : CB w g a b) (x : Value) : CB (w.setCell ⟨g, 1, none⟩ x) g a x :=
  ⟨(World.cell?_setCell_other w _ _ _ (by simp)).trans h.c0, World.cell?_setCell_same w _ _ h.c1, by simpa using h.f0, by simpa using h.f1⟩
theorem CB.far {w : World} {g : Nat} {a b : Value} (h : CB w g a b) {p : Addr} (hp : g ≠ p.block) (x : Value) : CB (w.setCell p x) g a b :=
  ⟨(World.cell?_setCell_other w _ _ _ (fun e => hp (by rw [e]))).trans h.c0, (World.cell?_setCell_other w _ _ _ (fun e => hp (by rw [e]))).trans h.c1, by simpa using h.f0, by simpa using h.f1⟩
theorem ltB_small (r d : Int) (r0 : 0 ≤ r) (r1 : r < 340282366920938463463374607431768211456) (d0 : 0 ≤ d) (d1 : d < 340282366920938463463374607431768211456) : ltB r d = decide (r < d) := by
  unfold ltB; rw [mod128_small r r0 r1, mod128_small d d0 d1]
theorem or_place (q : Int) (i : Nat) (q0 : 0 ≤ q) (q1 : q < 18446744073709551616) (hm : q % 2 ^ (i + 1) = 0) (hi' : i ≤ 63) : bits .or .u64 q (IntKind.u64.wrap (2 ^ i)) = q + 2 ^ i := by
  have hp := pow_pos' i
  have hle := two_le hi'
  have e63 : (2 : Int) ^ 63 = 9223372036854775808 := by decide
  have e : IntKind.u64.wrap (2 ^ i) = 2 ^ i := by rw [IntKind.wrap_u64]; exact Int.emod_eq_of_lt (by omega) (by omega)
  rw [e]
  exact or_join q (2 ^ i) (i + 1) ⟨q0, q1⟩ ⟨by omega, by omega⟩ hm (by rw [Int.pow_succ]; omega)
/-- Where q and r lie. -/
def QR (W wx : World) (p p' : Nat) (q r : Int) : Prop := W.heap.size ≤ p ∧ W.heap.size ≤ p' ∧ p ≠ p' ∧ CB wx p (.int .u64 0) (.int .u64 q) ∧ CB wx p' (.int .u64 (hi r)) (.int .u64 (lo r)) ∧ Fr W wx
def QRV (W : World) (a : Int) (s t : Value) (wx : World) : Prop := ∃ p p' : Nat, s = .pointer (some ⟨p, 0, none⟩) ∧ t = .pointer (some ⟨p', 0, none⟩) ∧ QR W wx p p' 0 a
def RelQ (W : World) (p p' : Nat) (a b : Int) (m : Nat) (i : Value) (wr : World) : Prop :=
  ∃ (j : Nat) (q r : Int), j ≤ m ∧ i = .int .i64 ((j : Int) - 1) ∧ Long a b j q r ∧ QR W wr p p' q r
theorem four (w : World) (a b c d : Value) :
    Bk ((((w.alloc (.cells #[a, b] 33)).alloc (.cells #[c, d] 33)).alloc (.cells #[.int .u64 0, .int .u64 0] 33)).alloc (.cells #[.int .u64 0, .int .u64 0] 33)) w.heap.size 33 #[a, b] ∧
    Bk ((((w.alloc (.cells #[a, b] 33)).alloc (.cells #[c, d] 33)).alloc (.cells #[.int .u64 0, .int .u64 0] 33)).alloc (.cells #[.int .u64 0, .int .u64 0] 33)) (w.heap.size + 1) 33 #[c, d] ∧
    Bk ((((w.alloc (.cells #[a, b] 33)).alloc (.cells #[c, d] 33)).alloc (.cells #[.int .u64 0, .int .u64 0] 33)).alloc (.cells #[.int .u64 0, .int .u64 0] 33)) (w.heap.size + 1 + 1) 33 #[.int .u64 0, .int .u64 0] ∧
    Bk ((((w.alloc (.cells #[a, b] 33)).alloc (.cells #[c, d] 33)).alloc (.cells #[.int .u64 0, .int .u64 0] 33)).alloc (.cells #[.int .u64 0, .int .u64 0] 33)) (w.heap.size + 1 + 1 + 1) 33 #[.int .u64 0, .int .u64 0] := by
  have k1 := Bk.new w 33 #[a, b]
  have k2 := Bk.new (w.alloc (.cells #[a, b] 33)) 33 #[c, d]
  have k3 := Bk.new ((w.alloc (.cells #[a, b] 33)).alloc (.cells #[c, d] 33)) 33 #[.int .u64 0, .int .u64 0]
  have k4 := Bk.new (((w.alloc (.cells #[a, b] 33)).alloc (.cells #[c, d] 33)).alloc (.cells #[.int .u64 0, .int .u64 0] 33)) 33 #[.int .u64 0, .int .u64 0]
  rw [show (w.alloc (.cells #[a, b] 33)).heap.size = w.heap.size + 1 by simp] at k2
  rw [show ((w.alloc (.cells #[a, b] 33)).alloc (.cells #[c, d] 33)).heap.size = w.heap.size + 1 + 1 by simp] at k3
  rw [show (((w.alloc (.cells #[a, b] 33)).alloc (.cells #[c, d] 33)).alloc (.cells #[.int .u64 0, .int .u64 0] 33)).heap.size = w.heap.size + 1 + 1 + 1 by simp] at k4
  have f1 : ∀ (x : World) (o : Obj), Fr x (x.alloc o) := fun x o => (Fr.refl x).alloc o
  exact ⟨((k1.fr (f1 _ _)).fr (f1 _ _)).fr (f1 _ _), (k2.fr (f1 _ _)).fr (f1 _ _), k3.fr (f1 _ _), k4⟩
theorem Bk.two {w : World} {g : Nat} {t : TypeId} {a b : Value} (h : Bk w g t #[a, b]) : w.cell? ⟨g, 0, none⟩ = some a ∧ w.cell? ⟨g, 1, none⟩ = some b := ⟨h.cell 0, h.cell 1⟩
set_option maxHeartbeats 6400000 in
set_option maxRecDepth 100000 in
theorem quoRem_wide (a b : Int) (a0 : 0 ≤ a) (a1 : a < 340282366920938463463374607431768211456) (b0 : 0 ≤ b) (b1 : b < 340282366920938463463374607431768211456) (hb : hi b ≠ 0) (w : World) :
    Calls Try.prog 45 #[wv a, wv b] w fun e w' => e = .returned (.tuple #[wv (a / b), wv (a % b)]) ∧ Fr w w' := by
  obtain ⟨s, s1, s2, s3, s4⟩ := wide_range a b a1 b0 b1 hb
  have HLZ := Lib.hid (fun w => lz64 (hi b) (hi_word b) w)
  rw [s2] at HLZ
  have hne : (hi b == 0) = false := beq_eq_false_iff_ne.2 hb
  obtain ⟨x1, x2, x3, x4⟩ := four w (.int .u64 (hi a)) (.int .u64 (lo a)) (.int .u64 (hi b)) (.int .u64 (lo b))
  have B1 := Lib.hid x1
  have B2 := Lib.hid x2
  have B3 := Lib.hid x3
  have B4 := Lib.hid x4
  clear x1 x2 x3 x4 s2 hb
  go_enter Try.func45, Try.ntmps45
  go_upto_region 4 with fail
  go_cut [8, 9] (fun s t wx => QRV ((((w.alloc (.cells #[.int .u64 (hi a), .int .u64 (lo a)] 33)).alloc (.cells #[.int .u64 (hi b), .int .u64 (lo b)] 33)).alloc (.cells #[.int .u64 0, .int .u64 0] 33)).alloc (.cells #[.int .u64 0, .int .u64 0] 33)) a s t wx)
  case first =>
    go_region
    all_goals
      go_wp2_with fail
      go_meet
      refine ⟨_, _, rfl, rfl, ?_, ?_, ?_, ⟨?_, ?_, ?_, ?_⟩, ⟨?_, ?_, ?_, ?_⟩, ?_⟩
      all_goals first | (simp [go_sem, *]; done) | (simp; done) | (simp; omega) | ((repeat (first | with_reducible exact Fr.refl _ | with_reducible apply Fr.drewN | with_reducible apply Fr.drew | with_reducible apply Fr.alloc | (with_reducible refine Fr.set ?_ (by simp; try omega) _))); done) | skip
  case rest =>
    obtain ⟨p, p', rfl, rfl, hp1, hp2, hpp, hq, hr, hfr⟩ := hcut
    have hfw : Fr w ((((w.alloc (.cells #[.int .u64 (hi a), .int .u64 (lo a)] 33)).alloc (.cells #[.int .u64 (hi b), .int .u64 (lo b)] 33)).alloc (.cells #[.int .u64 0, .int .u64 0] 33)).alloc (.cells #[.int .u64 0, .int .u64 0] 33)) := (((Fr.refl w).alloc _).alloc _ |>.alloc _).alloc _
    have hsz : ((((w.alloc (.cells #[.int .u64 (hi a), .int .u64 (lo a)] 33)).alloc (.cells #[.int .u64 (hi b), .int .u64 (lo b)] 33)).alloc (.cells #[.int .u64 0, .int .u64 0] 33)).alloc (.cells #[.int .u64 0, .int .u64 0] 33)).heap.size = w.heap.size + 1 + 1 + 1 + 1 := by simp
    generalize ((((w.alloc (.cells #[.int .u64 (hi a), .int .u64 (lo a)] 33)).alloc (.cells #[.int .u64 (hi b), .int .u64 (lo b)] 33)).alloc (.cells #[.int .u64 0, .int .u64 0] 33)).alloc (.cells #[.int .u64 0, .int .u64 0] 33)) = W0 at *
    rw [hsz] at hp1 hp2
    have HFW := Lib.hid hfw
    have HQ := Lib.hid hq
    have HR := Lib.hid hr
    have HF := Lib.hid hfr
    obtain ⟨b0', b1'⟩ := (B2.out.fr hfr).two
    have HLa := Lib.hid (Long.first (A := a) (B := b) (n := s + 1) a0 s4)
    have HSZ := Lib.hid hsz
    have HB0 := Lib.hid b0
    have HB64 := Lib.hid (show 18446744073709551616 ≤ b by have h := hilo_mod b; rw [mod128_small _ b0 b1] at h; have h2 := (hi_word b).1; have h3 := (lo_word b).1; have h4 : hi b ≠ 0 := beq_eq_false_iff_ne.1 hne; omega)
    clear hq hr hfr hfw hsz b0
    go_wp2_with (first | (go_at_call 57; refine (HLZ.out _).mono ?_; rintro e wy ⟨rfl, rfl⟩))
    go_loopw [10] (fun i wr => RelQ W0 p p' a b (s + 1) i wr) (fun i _ => (intOf i + 1).toNat)
    case atStart => exact ⟨s + 1, 0, a, Nat.le_refl _, by go_num, HLa.out, by rw [HSZ.out]; exact hp1, by rw [HSZ.out]; exact hp2, hpp, HQ.out, HR.out, HF.out⟩
    case round =>
      obtain ⟨j, q, r, hj, rfl, hlong, hw1, hw2, hw3, hq, hr, hfr⟩ := hrel
      have HLG := Lib.hid hlong
      have HQ1 := Lib.hid hq
      have HR1 := Lib.hid hr
      have HF1 := Lib.hid hfr
      obtain ⟨d0, d1⟩ := (B2.out.fr hfr).two
      clear hlong hq hr hfr
      by_cases hlt : 0 < j
      · obtain ⟨i, rfl⟩ : ∃ i, j = i + 1 := ⟨j - 1, by omega⟩
        have ei : ((i + 1 : Nat) : Int) - 1 = (i : Int) := by omega
        rw [ei]
        clear ei
        have HSH := Lib.hid (fun wx => wshl_any b (i : Int) (by omega) (by omega) wx)
        rw [Int.toNat_natCast] at HSH
        go_wp2_with fail
        refine (HSH.out _).mono ?_
        rintro e w1 ⟨rfl, hf⟩
        have HF2 := Lib.hid (HF1.out.call hf)
        have hr1 := HR1.out.fr hf
        have e0 := hr1.c0
        have e1 := hr1.c1
        have e2 := hr1.lt
        have HR2 := Lib.hid hr1
        have HQ2 := Lib.hid (HQ1.out.fr hf)
        clear hf hr1
        have hne1 : ¬ p' = w1.heap.size := by omega
        obtain ⟨lq, lr⟩ := HLG.out.q1 a1 HB64.out
        have hbi : b * 2 ^ i ≤ b * 2 ^ s := Int.mul_le_mul_of_nonneg_left (two_le (by omega)) HB0.out
        have hb0 : 0 ≤ b * 2 ^ i := Int.mul_nonneg HB0.out (by have := two_pos i; omega)
        have HLT := Lib.hid (ltB_small r (b * 2 ^ i) HLG.out.r0 (by omega) hb0 (by omega))
        have HLS := Lib.hid (fun wx => wless_any r (b * 2 ^ i) wx)
        rw [HLT.out] at HLS
        have HSB := Lib.hid (fun wx => wsub_any r (b * 2 ^ i) wx)
        have HST := Lib.hid (fun k => HLG.out.stay k)
        have HTK := Lib.hid (fun k => HLG.out.take k)
        have HOR := Lib.hid (or_place q i HLG.out.q0 lq HLG.out.mul (by omega))
        generalize hd : b * 2 ^ i = d at *
        have HDD := Lib.hid hd
        clear hd hbi hb0 lr
        by_cases hc : r < d
        · have HL1 := Lib.hid (show ∀ wx : World, Calls Try.prog 18 #[wv r, wv d] wx fun e w' => e = .returned (.bool true) ∧ Fr wx w' from fun wx => by have h := HLS.out wx; rw [decide_eq_true hc] at h; exact h)
          have HSY := Lib.hid (HST.out hc)
          clear hc
          go_wp2_with fail
          refine (HL1.out _).mono ?_
          rintro e w2 ⟨rfl, hf⟩
          have HF3 := Lib.hid ((HF2.out.alloc _).call hf)
          have HR3 := Lib.hid ((HR2.out.fr ((Fr.refl w1).alloc _)).fr hf)
          have HQ3 := Lib.hid ((HQ2.out.fr ((Fr.refl w1).alloc _)).fr hf)
          clear hf
          go_wp2
          go_roundw
          case rel => exact ⟨i, q, r, by omega, rfl, HSY.out, by assumption, by assumption, by assumption, HQ3.out, HR3.out, HF3.out⟩
          case measure => simp [intOf]
        · have HL1 := Lib.hid (show ∀ wx : World, Calls Try.prog 18 #[wv r, wv d] wx fun e w' => e = .returned (.bool false) ∧ Fr wx w' from fun wx => by have h := HLS.out wx; rw [decide_eq_false hc] at h; exact h)
          have HSY := Lib.hid (HTK.out (by omega))
          clear hc
          go_wp2_with fail
          refine (HL1.out _).mono ?_
          rintro e w2 ⟨rfl, hf⟩
          have HF3 := Lib.hid ((HF2.out.alloc _).call hf)
          have HR3 := Lib.hid ((HR2.out.fr ((Fr.refl w1).alloc _)).fr hf)
          have HQ3 := Lib.hid ((HQ2.out.fr ((Fr.refl w1).alloc _)).fr hf)
          have g0 := HR3.out.c0
          have g1 := HR3.out.c1
          have k0 := hf.get (b := w1.heap.size) (o := 0) (v := .int .u64 (hi d)) (by simp [go_sem])
          have k1 := hf.get (b := w1.heap.size) (o := 1) (v := .int .u64 (lo d)) (by simp [go_sem])
          clear hf
          go_wp2_with fail
          refine (HSB.out _).mono ?_
          rintro e w3 ⟨rfl, hf⟩
          have HF4 := Lib.hid (HF3.out.call hf)
          have HR4 := Lib.hid (HR3.out.fr hf)
          have HQ4 := Lib.hid (HQ3.out.fr hf)
          obtain ⟨m0, m1, m2, m3⟩ := HR4.out
          obtain ⟨n0, n1, n2, n3⟩ := HQ4.out
          clear hf
          have hpq : ¬ p = p' := by assumption
          have hqp : ¬ p' = p := fun h => hpq h.symm
          have e8 : ((i : Int)).toNat = i := by omega
          go_wp2_with fail
          go_region
          all_goals
            go_wp2
            go_roundw
            case rel =>
              refine ⟨i, q + 2 ^ i, r - d, by omega, rfl, HSY.out, by assumption, by assumption, by assumption, ?_, ?_, ?_⟩
              · rw [← HOR.out]; exact (((HQ4.out.far (p := ⟨p', 0, none⟩) hpq _).far (p := ⟨p', 1, none⟩) hpq _).set1 _).drew
              · exact (((HR4.out.set0 _).set1 _).far (p := ⟨p, 1, none⟩) hqp _).drew
              · exact (((HF4.out.set (p := ⟨p', 0, none⟩) hw2 _).set (p := ⟨p', 1, none⟩) hw2 _).set (p := ⟨p, 1, none⟩) hw1 _).drew
            case measure => simp [intOf]
      · obtain rfl : j = 0 := by omega
        obtain ⟨t1, t2⟩ := HLG.out.done (by have := HB64.out; omega)
        obtain ⟨lq, lr⟩ := HLG.out.q1 a1 HB64.out
        have lq0 := HLG.out.q0
        have E1 := Lib.hid (show 0 = hi (a / b) by rw [← t1]; unfold hi; omega)
        have E2 := Lib.hid (show a / b = lo (a / b) by rw [← t1]; unfold lo; omega)
        obtain ⟨m0, m1, m2, m3⟩ := HR1.out
        obtain ⟨n0, n1, n2, n3⟩ := HQ1.out
        obtain ⟨r0, r1⟩ := (B3.out.fr HF1.out).two
        obtain ⟨q0, q1⟩ := (B4.out.fr HF1.out).two
        have rf0 := (B3.out.fr HF1.out).free 0
        have rf1 := (B3.out.fr HF1.out).free 1
        have qf0 := (B4.out.fr HF1.out).free 0
        have qf1 := (B4.out.fr HF1.out).free 1
        have y1 : ¬ w.heap.size + 1 + 1 = p := by have := HSZ.out; omega
        have y2 : ¬ w.heap.size + 1 + 1 + 1 = p := by have := HSZ.out; omega
        have y3 : ¬ w.heap.size + 1 + 1 = p' := by have := HSZ.out; omega
        have y4 : ¬ w.heap.size + 1 + 1 + 1 = p' := by have := HSZ.out; omega
        have HFE := Lib.hid (HFW.out.call HF1.out)
        have T1 := Lib.hid t1
        have T2 := Lib.hid t2
        clear t1 t2 lq lr lq0
        go_wp2_with fail
        go_region
        all_goals
          go_wp2
          have et1 := T1.out
          have et2 := T2.out
          have ee1 := E1.out
          have ee2 := E2.out
          exact bodyPost_ret (v := .tuple #[wv (a / b), wv (a % b)]) (by clear ee1 ee2; simp [results, Try.results45, go_sem, *]; exact ⟨E1.out, E2.out⟩) rfl ⟨rfl, by repeat (first | with_reducible exact HFE.out | with_reducible apply Fr.drew | with_reducible apply Fr.drewN | (with_reducible refine Fr.set ?_ (by simp; try omega) _))⟩
/-- quoRem: every dividend, every divisor but nought. -/
theorem quoRem_any (a b : Int) (hb : b % 340282366920938463463374607431768211456 ≠ 0) (w : World) :
    Calls Try.prog 45 #[wv a, wv b] w fun e w' => e = .returned (.tuple #[wv ((a % 340282366920938463463374607431768211456) / (b % 340282366920938463463374607431768211456)), wv ((a % 340282366920938463463374607431768211456) % (b % 340282366920938463463374607431768211456))]) ∧ Fr w w' := by
  by_cases h : hi b = 0
  · exact quoRem_narrow a b h (fun hl => hb (by rw [← hilo_mod b, h, hl]; rfl)) w
  · have h1 := quoRem_wide (a % 340282366920938463463374607431768211456) (b % 340282366920938463463374607431768211456) (Int.emod_nonneg _ (by omega)) (Int.emod_lt_of_pos _ (by omega)) (Int.emod_nonneg _ (by omega)) (Int.emod_lt_of_pos _ (by omega)) (by rw [hi_mod]; exact h) w
    rw [show wv (a % 340282366920938463463374607431768211456) = wv a by rw [wv, hi_mod, lo_mod], show wv (b % 340282366920938463463374607431768211456) = wv b by rw [wv, hi_mod, lo_mod]] at h1
    exact h1
end Go.Proofs.Ytglgbhlnfafhjaa
