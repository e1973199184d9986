/- Which values a class has: plain; and package codec's has. The reference's Has: has a class that is right the value? -/
import Derived.Test.YtdipnhghdajplaaGreatDoorP37
import Derived.Test.YtdipnhghdajplaaGreatDoorP36
import Derived.Test.YtdipnhghdajplaaGreatDoorP22
namespace Go.Proofs.YtdipnhghdajplaaGreatDoor
open Go.RowKit
set_option linter.unusedSimpArgs false
set_option linter.unusedVariables false

/-- Has a class that is right the value? -/
def hasI (c : Cl) (v : Int) : Bool := !c.ex.contains v && (if c.kind = 1 then decide (c.plus ≤ v ∧ v < c.plus + 2 ^ c.bits.toNat)
  else decide (v % 2 ^ c.shift.toNat = 0) && (if c.kind = 2 then decide (0 ≤ v / 2 ^ c.shift.toNat ∧ v / 2 ^ c.shift.toNat < 2 ^ c.bits.toNat) else decide (-(2 ^ (c.bits.toNat - 1)) ≤ v / 2 ^ c.shift.toNat ∧ v / 2 ^ c.shift.toNat < 2 ^ (c.bits.toNat - 1))))
/-- What the program's has reckons. -/
def chasB (sg : Bool) (bits shift plus : Int) (ex : List Int) (v : Int) : Bool :=
  (IntKind.i64.wrap (IntKind.i64.wrap (IntKind.i64.wrap (v - plus) / 2 ^ shift.toNat * 2 ^ shift.toNat) + plus) == v) && !ex.contains v && (if sg then fitsSB (IntKind.i64.wrap (v - plus) / 2 ^ shift.toNat) bits else fitsUB (IntKind.i64.wrap (v - plus) / 2 ^ shift.toNat) bits)
/-- What it says that a class is right. -/
theorem cls_right {D : Ds} {c : Cl} (hc : clsB D c = true) : (c.kind = 1 ∧ 1 ≤ c.bits ∧ c.bits ≤ 6 ∧ c.shift = 0 ∧ 0 ≤ c.plus ∧ c.plus ≤ 64) ∨
    (c.kind = 2 ∧ c.plus = 0 ∧ ∃ b s : Nat, c.bits = (b : Int) ∧ c.shift = (s : Int) ∧ 1 ≤ b ∧ b + s ≤ 62) ∨ (c.kind ≠ 1 ∧ c.kind ≠ 2 ∧ c.plus = 0 ∧ ∃ b s : Nat, c.bits = (b : Int) ∧ c.shift = (s : Int) ∧ 1 ≤ b ∧ b + s ≤ 64) := by
  obtain ⟨kind, file, bits, shift, plus, ex⟩ := c
  unfold clsB at hc
  simp only at hc ⊢
  by_cases h1 : kind = 1
  · left
    subst h1
    rw [if_pos rfl] at hc
    unfold regB at hc
    split at hc
    · cases hc
    · rename_i f hf
      simp only [Bool.and_eq_true, decide_eq_true_eq] at hc
      obtain ⟨⟨⟨⟨c1, c2⟩, c3⟩, c4⟩, c5⟩ := hc
      have hfb : f.1 ≤ 64 := by
        unfold fileD at hf
        split at hf
        · split at hf
          · split at hf
            · rename_i hb
              injection hf with hf; subst hf
              unfold fileB at hb; simp at hb; omega
            · cases hf
          · cases hf
        · cases hf
      have hp := pow_pos2 bits.toNat
      exact ⟨rfl, c1, c2, c3, c4, by omega⟩
  · right
    rw [if_neg h1] at hc
    have key : ∀ most : Int, most ≤ 64 → numB ⟨kind, file, bits, shift, plus, ex⟩ most = true → plus = 0 ∧ ∃ b s : Nat, bits = (b : Int) ∧ shift = (s : Int) ∧ 1 ≤ b ∧ ((b + s : Nat) : Int) ≤ most := fun most hm h => by
      unfold numB at h
      simp only [Bool.and_eq_true, decide_eq_true_eq] at h
      exact ⟨by omega, bits.toNat, shift.toNat, by omega, by omega, by omega, by omega⟩
    by_cases h2 : kind = 2
    · left
      rw [if_pos h2] at hc
      obtain ⟨e, b, s, h3, h4, h5, h6⟩ := key 62 (by decide) hc
      exact ⟨h2, e, b, s, h3, h4, h5, by omega⟩
    · right
      rw [if_neg h2] at hc
      split at hc
      · obtain ⟨e, b, s, h3, h4, h5, h6⟩ := key 64 (by decide) hc
        exact ⟨h1, h2, e, b, s, h3, h4, h5, by omega⟩
      · cases hc
theorem wrap_bd (x : Int) : -9223372036854775808 ≤ IntKind.i64.wrap x ∧ IntKind.i64.wrap x < 9223372036854775808 := by
  unfold IntKind.wrap; simp [IntKind.bits, IntKind.signed]; omega
theorem pow_le_i {a b : Nat} (h : a ≤ b) : (2 : Int) ^ a ≤ 2 ^ b := by
  have : (2 : Nat) ^ a ≤ 2 ^ b := Nat.pow_le_pow_right (by decide) h
  exact_mod_cast this
/-- Shifted down and up again. -/
theorem down_up {v : Int} {s : Nat} (hv : I64 v) (hs : s ≤ 63) : IntKind.i64.wrap (v / 2 ^ s * 2 ^ s) = v / 2 ^ s * 2 ^ s ∧ v / 2 ^ s * 2 ^ s = v - v % 2 ^ s := by
  have hp := pow_pos2 s
  have h1 := Int.emod_add_mul_ediv v (2 ^ s)
  have h2 := Int.emod_nonneg v (by omega : (2 : Int) ^ s ≠ 0)
  have h3 := Int.emod_lt_of_pos v hp
  have h4 : v / 2 ^ s * 2 ^ s = v - v % 2 ^ s := by rw [Int.mul_comm] ; omega
  have hlow : -(2 ^ (63 - s)) ≤ v / 2 ^ s := by
    refine Int.le_ediv_of_mul_le hp ?_
    have : (2 : Int) ^ (63 - s) * 2 ^ s = 9223372036854775808 := by rw [← Int.pow_add, show 63 - s + s = 63 by omega]; decide
    rw [Int.neg_mul, this]; exact hv.1
  have hlow2 : -9223372036854775808 ≤ v / 2 ^ s * 2 ^ s := by
    have := Int.mul_le_mul_of_nonneg_right hlow (Int.le_of_lt hp)
    have e : (2 : Int) ^ (63 - s) * 2 ^ s = 9223372036854775808 := by rw [← Int.pow_add, show 63 - s + s = 63 by omega]; decide
    rw [Int.neg_mul, e] at this; exact this
  refine ⟨wrap_in hlow2 ?_, h4⟩
  have := hv.2
  omega
theorem chas_right {D : Ds} {c : Cl} (hc : clsB D c = true) {v : Int} (hv : I64 v) : chasB (sgC c.kind) c.bits c.shift c.plus c.ex v = hasI c v := by
  have hcr := cls_right hc
  obtain ⟨kind, file, bits, shift, plus, ex⟩ := c
  unfold chasB hasI
  simp only at hcr ⊢
  obtain ⟨E, hE⟩ : ∃ E, (!ex.contains v) = E := ⟨_, rfl⟩
  rw [hE]
  rcases hcr with ⟨rfl, h1, h2, rfl, h3, h4⟩ | ⟨rfl, rfl, b, s, rfl, rfl, h1, h2⟩ | ⟨h1, h2, rfl, b, s, rfl, rfl, h3, h4⟩
  · have e1 : sgC 1 = false := rfl
    rw [e1]
    simp only [Int.toNat_zero, Int.pow_zero, Int.ediv_one, Int.mul_one, if_true, Bool.false_eq_true, if_false]
    have hp := pow_pos2 bits.toNat
    have hp2 : (2 : Int) ^ bits.toNat ≤ 64 := by have := pow_le_i (show bits.toNat ≤ 6 by omega); simpa using this
    have hx := wrap_bd (v - plus)
    have e2 : IntKind.i64.wrap (IntKind.i64.wrap (v - plus)) = IntKind.i64.wrap (v - plus) := wrap_in hx.1 hx.2
    have e3 : IntKind.i64.wrap (IntKind.i64.wrap (v - plus) + plus) = v := by
      have := hv.1; have := hv.2
      unfold IntKind.wrap; simp [IntKind.bits, IntKind.signed]; omega
    have e4 : fitsUB (IntKind.i64.wrap (v - plus)) bits = decide (plus ≤ v ∧ v < plus + 2 ^ bits.toNat) := by
      have := hv.1; have := hv.2
      unfold fitsUB
      generalize (2 : Int) ^ bits.toNat = P at *
      apply decide_eq_decide.2
      unfold IntKind.wrap; simp [IntKind.bits, IntKind.signed]; omega
    rw [e2, e3, e4, beq_self_eq_true, Bool.true_and]
  · have e1 : sgC 2 = false := rfl
    obtain ⟨d1, d2⟩ := down_up hv (show s ≤ 63 by omega)
    have e0 : IntKind.i64.wrap (v - 0) = v := by rw [Int.sub_zero]; exact wrap_in hv.1 (by have := hv.2; omega)
    have hn2 : ¬ (2 : Int) = 1 := by decide
    rw [e1, e0]
    simp only [Int.toNat_natCast, if_neg hn2, if_true, Bool.false_eq_true, if_false]
    rw [d1, Int.add_zero, d1, d2]
    have e5 : (v - v % 2 ^ s == v) = decide (v % 2 ^ s = 0) := by
      rw [Bool.eq_iff_iff, beq_iff_eq, decide_eq_true_eq]; omega
    have e6 : fitsUB (v / 2 ^ s) (b : Int) = decide (0 ≤ v / 2 ^ s ∧ v / 2 ^ s < 2 ^ b) := by
      unfold fitsUB
      rw [Int.toNat_natCast]
      apply decide_eq_decide.2
      omega
    rw [e5, e6]
    cases E <;> simp
  · have e1 : sgC kind = true := by unfold sgC; simp [h1, h2]
    obtain ⟨d1, d2⟩ := down_up hv (show s ≤ 63 by omega)
    have e0 : IntKind.i64.wrap (v - 0) = v := by rw [Int.sub_zero]; exact wrap_in hv.1 (by have := hv.2; omega)
    rw [e1, e0]
    simp only [Int.toNat_natCast, if_neg h1, if_neg h2, if_true]
    rw [d1, Int.add_zero, d1, d2]
    have e5 : (v - v % 2 ^ s == v) = decide (v % 2 ^ s = 0) := by
      rw [Bool.eq_iff_iff, beq_iff_eq, decide_eq_true_eq]; omega
    have e6 : fitsSB (v / 2 ^ s) (b : Int) = decide (-(2 ^ (b - 1)) ≤ v / 2 ^ s ∧ v / 2 ^ s < 2 ^ (b - 1)) := by
      unfold fitsSB
      rw [Int.toNat_natCast]
      apply decide_eq_decide.2
      constructor
      · rintro ⟨k1, k2⟩
        rcases k2 with k2 | k2
        · obtain rfl : b = 64 := by omega
          obtain rfl : s = 0 := by omega
          have := hv.1; have := hv.2
          simp; omega
        · exact k2
      · intro k; exact ⟨by omega, .inr k⟩
    rw [e5, e6]
    cases E <;> simp
theorem div_i64 {d : Int} (h : I64 d) (k : Nat) : I64 (d / 2 ^ k) := by
  have hp := pow_pos2 k
  obtain ⟨h1, h2⟩ := h
  rcases Int.lt_or_le d 0 with hd | hd
  · have e1 : d / 2 ^ k < 0 := Int.ediv_neg_of_neg_of_pos hd hp
    have e2 : d ≤ d / 2 ^ k := Int.le_ediv_of_mul_le hp (by
      have : d * 2 ^ k ≤ d * 1 := Int.mul_le_mul_of_nonpos_left (by omega) (by omega)
      omega)
    exact ⟨by omega, by omega⟩
  · have e1 := Int.ediv_le_self (2 ^ k) hd
    have e2 := Int.ediv_nonneg hd (Int.le_of_lt hp)
    exact ⟨by omega, by omega⟩
set_option maxHeartbeats 6400000 in
set_option maxRecDepth 100000 in
theorem chas_any {w : World} (b o : Nat) {A : Option Addr} {ex : List Int} (ec : Nat) (sg : Bool) (bits shift plus v : Int) (hb : I64 bits) (hs : 0 ≤ shift) (hs2 : shift < 64)
    (h0 : w.cell? ⟨b, o, none⟩ = some (.bool sg)) (h1 : w.cell? ⟨b, o + 1, none⟩ = some (.int .i64 bits)) (h2 : w.cell? ⟨b, o + 2, none⟩ = some (.int .i64 shift)) (h3 : w.cell? ⟨b, o + 3, none⟩ = some (.int .i64 plus)) (h4 : w.cell? ⟨b, o + 4, none⟩ = some (.slice A ex.length ec)) (h : RowOf IntC 1 w A ex) (hm : ex.length ≤ maxLen) :
    Calls Tryz.prog 36 #[.pointer (some ⟨b, o, none⟩), .int .i64 v] w fun e w' => e = .returned (.bool (chasB sg bits shift plus ex v)) ∧ Fr w w' := by
  have HE := Lib.hid (fun (w1 : World) (k : Fr w w1) => excepts_any b o ec v (k.get h4) (h.fr fun _ _ _ x => IntC.fr x k) hm)
  have HG := Lib.hid (fun (w1 : World) (k : Fr w w1) => (⟨k.get h0, k.get h1⟩ : w1.cell? ⟨b, o, none⟩ = some (.bool sg) ∧ w1.cell? ⟨b, o + 1, none⟩ = some (.int .i64 bits)))
  unfold chasB
  obtain ⟨d, hd⟩ : ∃ d, IntKind.i64.wrap (v - plus) = d := ⟨_, rfl⟩
  have hdI : I64 d := by have := wrap_bd (v - plus); rw [hd] at this; exact ⟨by omega, by omega⟩
  have hnI := div_i64 hdI shift.toNat
  rw [hd]
  obtain ⟨n, hn⟩ : ∃ n, d / 2 ^ shift.toNat = n := ⟨_, rfl⟩
  rw [hn] at hnI ⊢
  obtain ⟨m, hm2⟩ : ∃ m, IntKind.i64.wrap (n * 2 ^ shift.toNat) = m := ⟨_, rfl⟩
  rw [hm2]
  obtain ⟨r, hr⟩ : ∃ r, IntKind.i64.wrap (m + plus) = r := ⟨_, rfl⟩
  rw [hr]
  have HU := Lib.hid (fun w1 => fitsU_any n bits hnI.1 hnI.2 hb.1 hb.2 w1)
  have HS := Lib.hid (fun w1 => fitsS_any n bits hnI.1 hnI.2 hb.1 hb.2 w1)
  generalize fitsUB n bits = fu at *
  generalize fitsSB n bits = fs at *
  generalize ex.contains v = y at *
  have zb := lt_of_cell h2
  clear h h4 hm hdI hnI hb
  by_cases hrv : r = v
  · subst hrv
    have hb2 : (r == r) = true := by simp
    rw [hb2]
    simp only [Bool.true_and]
    obtain ⟨R, hR⟩ : ∃ R, (!y && (if sg = true then fs else fu)) = R := ⟨_, rfl⟩
    rw [hR]
    have HR1 := Lib.hid (show y = true → R = false from fun h => by rw [← hR, h]; rfl)
    have HR2 := Lib.hid (show y = false → sg = true → R = fs from fun h h2 => by rw [← hR, h, h2]; rfl)
    have HR3 := Lib.hid (show y = false → sg = false → R = fu from fun h h2 => by rw [← hR, h, h2]; rfl)
    clear hR
    go_enter Tryz.func36, Tryz.ntmps36
    go_wp2_with fail
    go_quiet (fail)
    rename_i nq
    have HFW := Lib.hid (show Fr w (w.drewN nq) from Fr.drewN (Fr.refl _) _)
    have k2 := HFW.out.get h2
    have k3 := HFW.out.get h3
    have zk := lt_of_cell k2
    go_wp2_with fail
    generalize w.drewN nq = W at *
    have HS2 := Lib.hid (fun wx (k : Fr W wx) => (⟨k.get k2, k.get k3⟩ : wx.cell? ⟨b, o + 2, none⟩ = some (.int .i64 shift) ∧ wx.cell? ⟨b, o + 3, none⟩ = some (.int .i64 plus)))
    go_region_held3 (fun wx => wx.cell? ⟨b, o + 2, none⟩ = some (.int .i64 shift) ∧ wx.cell? ⟨b, o + 3, none⟩ = some (.int .i64 plus)) (first | exact HS2.out _ (Fr.refl _) | exact HS2.out _ (Fr.drew (Fr.refl _))) (first | (go_at_call 62; refine (HE.out _ (by first | exact HFW.out | exact Fr.drew HFW.out)).mono ?_; rintro e w8 ⟨rfl, rfl⟩))
    have HF2 := Lib.hid (show Fr w W.drew from Fr.drew HFW.out)
    have k0 := (HG.out _ HF2.out).1
    have k1 := (HG.out _ HF2.out).2
    have zk := lt_of_cell k0
    cases y with
    | true =>
      go_wp2
      go_ret
      exact ⟨by rw [HR1.out (by trivial)]; rfl, HF2.out⟩
    | false =>
      cases sg with
      | true =>
        go_wp2_with fail
        refine (HS.out _).mono ?_
        rintro e w2 ⟨rfl, hf2⟩
        go_wp2
        go_ret
        exact ⟨by rw [HR2.out (by trivial) (by trivial)]; rfl, HF2.out.call hf2⟩
      | false =>
        go_wp2_with fail
        refine (HU.out _).mono ?_
        rintro e w2 ⟨rfl, hf2⟩
        go_wp2
        go_ret
        exact ⟨by rw [HR3.out (by trivial) (by trivial)]; rfl, HF2.out.call hf2⟩
  · have hb1 : (r != v) = true := bne_iff_ne.2 hrv
    have hb2 : (r == v) = false := beq_eq_false_iff_ne.2 hrv
    rw [hb2]
    simp only [Bool.false_and]
    clear hrv
    go_enter Tryz.func36, Tryz.ntmps36
    go_wp2_with fail
    go_quiet (fail)
    go_wp2_with fail
    go_quiet (fail)
    go_wp2
    go_ret
    first | exact ⟨rfl, Fr.drewN (Fr.refl _) _⟩ | exact ⟨rfl, Fr.drewN (Fr.drewN (Fr.refl _) _) _⟩
end Go.Proofs.YtdipnhghdajplaaGreatDoor
namespace Go.Proofs.YtdipnhghdajplaaGreatDoor
open Go.RowKit
set_option linter.unusedSimpArgs false
set_option linter.unusedVariables false

def RelH1 (ex : List Int) (v : Int) (W : World) (i : Value) (wr : World) : Prop := ∃ j : Nat, j ≤ ex.length ∧ i = .int .i64 (j : Int) ∧ Fr W wr ∧ ex.contains v = (ex.drop j).contains v
def RelH2 (v0 : Int) (s : Nat) (W : World) (x st i : Value) (wr : World) : Prop := ∃ (j : Nat) (y t : Int), j ≤ s ∧ x = .int .i64 y ∧ i = .int .i64 (j : Int) ∧ st = .int .i64 t ∧ Fr W wr ∧ y * 2 ^ j = v0
theorem half_no {v0 y : Int} {j s : Nat} (h : y * 2 ^ j = v0) (hj : j < s) (ho : y % 2 = 1) : v0 % 2 ^ s ≠ 0 := by
  intro h0
  have h1 : (2 : Int) ^ s ∣ v0 := Int.dvd_of_emod_eq_zero h0
  have h2 : (2 : Int) ^ (j + 1) ∣ v0 := Int.dvd_trans (by
    obtain ⟨m, rfl⟩ : ∃ m, s = j + 1 + m := ⟨s - (j + 1), by omega⟩
    rw [Int.pow_add 2 (j + 1) m]; exact Int.dvd_mul_right _ _) h1
  obtain ⟨m, hm⟩ := h2
  rw [← h, Int.pow_succ, Int.mul_comm y, Int.mul_assoc] at hm
  have := Int.eq_of_mul_eq_mul_left (by have := pow_pos2 j; omega) hm
  omega
theorem half_yes {v0 y : Int} {s : Nat} (h : y * 2 ^ s = v0) : v0 % 2 ^ s = 0 ∧ v0 / 2 ^ s = y := by
  subst h
  exact ⟨Int.mul_emod_left _ _, Int.mul_ediv_cancel _ (by have := pow_pos2 s; omega)⟩
theorem even_odd (y : Int) : (∃ z, y = 2 * z ∧ Int.tmod (2 * z) 2 = 0 ∧ Int.tdiv (2 * z) 2 = z) ∨ (y % 2 = 1 ∧ (Int.tmod y 2 = 1 ∨ Int.tmod y 2 = -1)) := by
  rcases Int.emod_two_eq y with h | h
  · left
    refine ⟨y / 2, by omega, by rw [Int.mul_comm]; exact Int.mul_tmod_left _ _, by rw [Int.mul_comm]; exact Int.mul_tdiv_cancel _ (by decide)⟩
  · right
    refine ⟨h, ?_⟩
    rcases Int.lt_or_le y 0 with h1 | h1
    · right
      obtain ⟨z, rfl⟩ : ∃ z, y = -z := ⟨-y, by omega⟩
      rw [Int.neg_tmod, Int.tmod_eq_emod_of_nonneg (by omega)]; omega
    · left
      rw [Int.tmod_eq_emod_of_nonneg h1]; exact h
theorem i64_half {z : Int} (h : I64 (2 * z)) : I64 z := ⟨by have := h.1; omega, by have := h.2; omega⟩
theorem two_pow_62 {b : Nat} (h : b ≤ 62) : (1 : Int) ≤ 2 ^ b ∧ (2 : Int) ^ b ≤ 4611686018427387904 := by
  have h1 := pow_pos2 b
  have h2 := pow_le_i h
  have : (2 : Int) ^ 62 = 4611686018427387904 := by decide
  exact ⟨by omega, by omega⟩
theorem i64_part {v y : Int} {j : Nat} (hv : I64 v) (h : y * 2 ^ j = v) : I64 y := by
  have := div_i64 hv j
  rwa [(half_yes h).2] at this
set_option maxHeartbeats 6400000 in
set_option maxRecDepth 100000 in
theorem rhas_reg {w : World} (nm : ByteArray) (file plus : Int) (b : Nat) (hb : b ≤ 6) (hp0 : 0 ≤ plus) (hp1 : plus ≤ 64) (A : Option Addr) (ex : List Int) (ec : Nat) (hE : RowOf IntC 1 w A ex) (hm : ex.length ≤ maxLen) (v : Int) (hv : I64 v) :
    Calls Tryz.prog 17 #[.agg #[.string nm, .int .i64 1, .int .i64 file, .int .i64 (b : Int), .int .i64 0, .int .i64 plus, .slice A ex.length ec], .int .i64 v] w fun e w' => e = .returned (.bool (hasI ⟨1, file, (b : Int), 0, plus, ex⟩ v)) ∧ Fr w w' := by
  obtain ⟨R, hR⟩ : ∃ R, hasI ⟨1, file, (b : Int), 0, plus, ex⟩ v = R := ⟨_, rfl⟩
  have HX := Lib.hid (show ex.contains v = true → R = false from fun h => by rw [← hR]; unfold hasI; simp only [h]; rfl)
  have HL := Lib.hid (show ex.contains v = false → R = decide (plus ≤ v ∧ v < plus + 2 ^ b) from fun h => by rw [← hR]; unfold hasI; simp only [h, if_true, Int.toNat_natCast]; rfl)
  rw [hR]
  clear hR
  have HE := Lib.hid hE
  have hml : ex.length ≤ 9223372036854775807 := Nat.le_trans hm (by decide)
  have HB := Lib.hid (show BlkAt (w.alloc (.cells #[.string nm, .int .i64 1, .int .i64 file, .int .i64 (b : Int), .int .i64 0, .int .i64 plus, .slice A ex.length ec] 64)) w.heap.size [.string nm, .int .i64 1, .int .i64 file, .int .i64 (b : Int), .int .i64 0, .int .i64 plus, .slice A ex.length ec] from BlkAt.alloc)
  have HF1 := Lib.hid (show Fr w (w.alloc (.cells #[.string nm, .int .i64 1, .int .i64 file, .int .i64 (b : Int), .int .i64 0, .int .i64 plus, .slice A ex.length ec] 64)) from Fr.alloc (Fr.refl w) _)
  clear hE hm
  have hp6 := two_pow_62 (show b ≤ 62 by omega)
  have hp7 := pow_le_i hb
  obtain ⟨P, hP⟩ : ∃ P, (2 : Int) ^ b = P := ⟨_, rfl⟩
  have hp8 : P ≤ 64 := by rw [← hP]; simpa using hp7
  have hP0 : IntKind.i64.wrap ((2 : Int) ^ b) = P := by rw [hP]; exact wrap_in (by omega) (by omega)
  have hP1 : IntKind.i64.wrap (1 * (2 : Int) ^ b) = P := by rw [Int.one_mul]; exact hP0
  rw [hP] at HL hp6
  have hQ0 : IntKind.i64.wrap (plus + P) = plus + P := wrap_in (by omega) (by omega)
  have hQ1 : IntKind.i64.wrap (plus + P - 1) = plus + P - 1 := wrap_in (by omega) (by omega)
  have hv0 := hv.1
  have hv1 := hv.2
  clear hP hp7 hv
  have b6 := HB.out 6 _ rfl
  have zb := lt_of_cell b6
  go_enter Tryz.func17, Tryz.ntmps17
  go_wp2_with fail
  generalize World.alloc w _ = W1 at *
  generalize w.heap.size = kb at *
  clear b6 zb
  go_loopw [12] (fun i wr => RelH1 ex v W1 i wr) (fun i _ => ex.length - (intOf i).toNat)
  case atStart => exact ⟨0, Nat.zero_le _, rfl, Fr.refl _, by rw [List.drop_zero]⟩
  case round =>
    obtain ⟨j, hj, rfl, hf, hc⟩ := hrel
    have HF := Lib.hid hf
    have HCO := Lib.hid hc
    clear hf hc
    by_cases hlt : j < ex.length
    · have hji : (j : Int) < (ex.length : Int) := by omega
      have HDR := Lib.hid (List.drop_eq_getElem_cons hlt)
      obtain ⟨be, oe, rfl, hx⟩ := (HE.out.fr fun _ _ _ x => IntC.fr x (HF1.out.call HF.out)).at hlt
      unfold IntC at hx
      rw [Nat.one_mul] at hx
      generalize ex[j] = x at *
      have zx := lt_of_cell hx
      by_cases hxv : x = v
      · have HN := Lib.hid (HX.out (by rw [HCO.out, HDR.out, hxv]; simp))
        subst hxv
        go_wp2
        go_ret
        exact ⟨by rw [HN.out]; rfl, HF1.out.call HF.out⟩
      · have hb1 : (x == v) = false := by simp [hxv]
        have HN := Lib.hid (show ex.contains v = (ex.drop (j + 1)).contains v by rw [HCO.out, HDR.out, List.contains_cons]; simp [Ne.symm hxv])
        go_wp2
        go_roundw
        case rel => exact ⟨j + 1, by omega, by go_num, HF.out, HN.out⟩
        case measure => simp [intOf]; omega
    · obtain rfl : j = ex.length := by omega
      have HNO := Lib.hid (show ex.contains v = false by rw [HCO.out, List.drop_length]; rfl)
      have HFW := Lib.hid (HF1.out.call HF.out)
      have b1 := HB.out.fr HF.out 1 _ rfl; have b3 := HB.out.fr HF.out 3 _ rfl; have b4 := HB.out.fr HF.out 4 _ rfl; have b5 := HB.out.fr HF.out 5 _ rfl
      have zb := lt_of_cell b1
      clear hj
      generalize wr = W2 at *
      have HV := Lib.hid (HL.out HNO.out)
      go_wp2
      all_goals (go_ret; exact ⟨ret_bool (by rw [HV.out, Bool.eq_iff_iff]; simp; omega), HFW.out⟩)
set_option maxHeartbeats 6400000 in
set_option maxRecDepth 100000 in
theorem rhas_uns {w : World} (nm : ByteArray) (file : Int) (b s : Nat) (hbs : b + s ≤ 62) (A : Option Addr) (ex : List Int) (ec : Nat) (hE : RowOf IntC 1 w A ex) (hm : ex.length ≤ maxLen) (v : Int) (hv : I64 v) :
    Calls Tryz.prog 17 #[.agg #[.string nm, .int .i64 2, .int .i64 file, .int .i64 (b : Int), .int .i64 (s : Int), .int .i64 0, .slice A ex.length ec], .int .i64 v] w fun e w' => e = .returned (.bool (hasI ⟨2, file, (b : Int), (s : Int), 0, ex⟩ v)) ∧ Fr w w' := by
  obtain ⟨R, hR⟩ : ∃ R, hasI ⟨2, file, (b : Int), (s : Int), 0, ex⟩ v = R := ⟨_, rfl⟩
  have HX := Lib.hid (show ex.contains v = true → R = false from fun h => by rw [← hR]; unfold hasI; simp only [h]; rfl)
  have HO := Lib.hid (show v % 2 ^ s ≠ 0 → R = false from fun h => by rw [← hR]; unfold hasI; simp only [Int.toNat_natCast, show ¬ ((2 : Int) = 1) by decide, decide_eq_false h, Bool.false_and, Bool.and_false, if_false])
  have HL := Lib.hid (show ex.contains v = false → ∀ {y : Int}, v % 2 ^ s = 0 → v / 2 ^ s = y → R = decide (0 ≤ y ∧ y < 2 ^ b) from fun h y h1 h2 => by rw [← hR]; unfold hasI; simp only [Int.toNat_natCast, show ¬ ((2 : Int) = 1) by decide, h, h1, h2, if_false, if_true, decide_true, Bool.true_and, Bool.not_false])
  rw [hR]
  clear hR
  have HE := Lib.hid hE
  have hml : ex.length ≤ 9223372036854775807 := Nat.le_trans hm (by decide)
  have HB := Lib.hid (show BlkAt (w.alloc (.cells #[.string nm, .int .i64 2, .int .i64 file, .int .i64 (b : Int), .int .i64 (s : Int), .int .i64 0, .slice A ex.length ec] 64)) w.heap.size [.string nm, .int .i64 2, .int .i64 file, .int .i64 (b : Int), .int .i64 (s : Int), .int .i64 0, .slice A ex.length ec] from BlkAt.alloc)
  have HF1 := Lib.hid (show Fr w (w.alloc (.cells #[.string nm, .int .i64 2, .int .i64 file, .int .i64 (b : Int), .int .i64 (s : Int), .int .i64 0, .slice A ex.length ec] 64)) from Fr.alloc (Fr.refl w) _)
  clear hE hm
  have hp6 := two_pow_62 (show b ≤ 62 by omega)
  obtain ⟨P, hP⟩ : ∃ P, (2 : Int) ^ b = P := ⟨_, rfl⟩
  rw [hP] at hp6
  have hP0 : IntKind.i64.wrap ((2 : Int) ^ b) = P := by rw [hP]; exact wrap_in (by omega) (by omega)
  have hP1 : IntKind.i64.wrap (1 * (2 : Int) ^ b) = P := by rw [Int.one_mul]; exact hP0
  rw [hP] at HL
  have hQ0 : IntKind.i64.wrap (P - 1) = P - 1 := wrap_in (by omega) (by omega)
  have hQ1 : IntKind.i64.wrap (-P) = -P := wrap_in (by omega) (by omega)
  clear hP
  have HVI := Lib.hid hv
  clear hv
  have b6 := HB.out 6 _ rfl
  have zb := lt_of_cell b6
  go_enter Tryz.func17, Tryz.ntmps17
  go_wp2_with fail
  generalize World.alloc w _ = W1 at *
  generalize w.heap.size = kb at *
  clear b6 zb
  go_loopw [12] (fun i wr => RelH1 ex v W1 i wr) (fun i _ => ex.length - (intOf i).toNat)
  case atStart => exact ⟨0, Nat.zero_le _, rfl, Fr.refl _, by rw [List.drop_zero]⟩
  case round =>
    obtain ⟨j, hj, rfl, hf, hc⟩ := hrel
    have HF := Lib.hid hf
    have HCO := Lib.hid hc
    clear hf hc
    by_cases hlt : j < ex.length
    · have hji : (j : Int) < (ex.length : Int) := by omega
      have HDR := Lib.hid (List.drop_eq_getElem_cons hlt)
      obtain ⟨be, oe, rfl, hx⟩ := (HE.out.fr fun _ _ _ x => IntC.fr x (HF1.out.call HF.out)).at hlt
      unfold IntC at hx
      rw [Nat.one_mul] at hx
      generalize ex[j] = x at *
      have zx := lt_of_cell hx
      by_cases hxv : x = v
      · have HN := Lib.hid (HX.out (by rw [HCO.out, HDR.out, hxv]; simp))
        subst hxv
        go_wp2
        go_ret
        exact ⟨by rw [HN.out]; rfl, HF1.out.call HF.out⟩
      · have hb1 : (x == v) = false := by simp [hxv]
        have HN := Lib.hid (show ex.contains v = (ex.drop (j + 1)).contains v by rw [HCO.out, HDR.out, List.contains_cons]; simp [Ne.symm hxv])
        go_wp2
        go_roundw
        case rel => exact ⟨j + 1, by omega, by go_num, HF.out, HN.out⟩
        case measure => simp [intOf]; omega
    · obtain rfl : j = ex.length := by omega
      have HNO := Lib.hid (show ex.contains v = false by rw [HCO.out, List.drop_length]; rfl)
      have HFW := Lib.hid (HF1.out.call HF.out)
      have b1 := HB.out.fr HF.out 1 _ rfl; have b3 := HB.out.fr HF.out 3 _ rfl; have b4 := HB.out.fr HF.out 4 _ rfl; have b5 := HB.out.fr HF.out 5 _ rfl
      have zb := lt_of_cell b1
      clear hj
      generalize wr = W2 at *
      go_wp2_with fail
      clear b1 b3 b4 b5 zb
      go_loopw [1, 7, 8] (fun x st i wr => RelH2 v s W2 x st i wr) (fun _ _ i _ => s - (intOf i).toNat)
      case atStart => exact ⟨0, v, 1, Nat.zero_le _, rfl, rfl, rfl, Fr.refl _, by simp⟩
      case round =>
        obtain ⟨j, y, t, hj, rfl, rfl, rfl, hf, hy⟩ := hrel
        have HF2 := Lib.hid hf
        have HY := Lib.hid hy
        have b1 := HB.out.fr (HF.out.call hf) 1 _ rfl; have b3 := HB.out.fr (HF.out.call hf) 3 _ rfl; have b4 := HB.out.fr (HF.out.call hf) 4 _ rfl
        have zb := lt_of_cell b1
        clear hf hy
        by_cases hlt : j < s
        · have hji : (j : Int) < (s : Int) := by omega
          rcases even_odd y with ⟨z, rfl, e1, e2⟩ | ⟨hodd, ho⟩
          · have HY2 := Lib.hid (show z * 2 ^ (j + 1) = v by rw [← HY.out, Int.pow_succ]; rw [Int.mul_comm 2 z, Int.mul_assoc, Int.mul_comm 2])
            have hz := i64_half (z := z) (i64_part HVI.out HY.out)
            have hzw : IntKind.i64.wrap z = z := wrap_in hz.1 (by have := hz.2; omega)
            have hw0 : IntKind.i64.wrap 0 = 0 := by decide
            clear hz
            go_wp2
            go_roundw
            case rel => exact ⟨j + 1, z, _, by omega, rfl, by go_num, rfl, HF2.out, HY2.out⟩
            case measure => simp [intOf]; omega
          · have HN := Lib.hid (HO.out (half_no HY.out hlt hodd))
            rcases ho with ho | ho
            · have hw1 : IntKind.i64.wrap 1 = 1 := by decide
              go_wp2
              go_ret
              exact ⟨by rw [HN.out]; rfl, HFW.out.call HF2.out⟩
            · have hw1 : IntKind.i64.wrap (-1) = -1 := by decide
              go_wp2
              go_ret
              exact ⟨by rw [HN.out]; rfl, HFW.out.call HF2.out⟩
        · obtain rfl : j = s := by omega
          have HV := Lib.hid (HL.out HNO.out (half_yes HY.out).1 (half_yes HY.out).2)
          have hyI := i64_part HVI.out HY.out
          have hy0 := hyI.1
          have hy1 := hyI.2
          clear hyI hj
          go_wp2
          all_goals (go_ret; exact ⟨ret_bool (by rw [HV.out, Bool.eq_iff_iff]; simp; omega), HFW.out.call HF2.out⟩)
set_option maxHeartbeats 6400000 in
set_option maxRecDepth 100000 in
theorem rhas_sgn64 {w : World} (nm : ByteArray) (kind file : Int) (h1 : kind ≠ 1) (h2 : kind ≠ 2) (A : Option Addr) (ex : List Int) (ec : Nat) (hE : RowOf IntC 1 w A ex) (hm : ex.length ≤ maxLen) (v : Int) (hv : I64 v) :
    Calls Tryz.prog 17 #[.agg #[.string nm, .int .i64 kind, .int .i64 file, .int .i64 64, .int .i64 0, .int .i64 0, .slice A ex.length ec], .int .i64 v] w fun e w' => e = .returned (.bool (hasI ⟨kind, file, 64, 0, 0, ex⟩ v)) ∧ Fr w w' := by
  obtain ⟨R, hR⟩ : ∃ R, hasI ⟨kind, file, 64, 0, 0, ex⟩ v = R := ⟨_, rfl⟩
  have HX := Lib.hid (show ex.contains v = true → R = false from fun h => by rw [← hR]; unfold hasI; simp only [h]; rfl)
  have HL := Lib.hid (show ex.contains v = false → ∀ {y : Int}, v % 2 ^ 0 = 0 → v / 2 ^ 0 = y → R = true from fun h y _ _ => by
    rw [← hR]; unfold hasI; simp only [if_neg h1, if_neg h2, h]
    have := hv.1; have := hv.2
    simp; omega)
  rw [hR]
  clear hR
  have HE := Lib.hid hE
  have hml : ex.length ≤ 9223372036854775807 := Nat.le_trans hm (by decide)
  have HB := Lib.hid (show BlkAt (w.alloc (.cells #[.string nm, .int .i64 kind, .int .i64 file, .int .i64 64, .int .i64 0, .int .i64 0, .slice A ex.length ec] 64)) w.heap.size [.string nm, .int .i64 kind, .int .i64 file, .int .i64 64, .int .i64 0, .int .i64 0, .slice A ex.length ec] from BlkAt.alloc)
  have HF1 := Lib.hid (show Fr w (w.alloc (.cells #[.string nm, .int .i64 kind, .int .i64 file, .int .i64 64, .int .i64 0, .int .i64 0, .slice A ex.length ec] 64)) from Fr.alloc (Fr.refl w) _)
  clear hE hm
  have HVI := Lib.hid hv
  clear hv
  have k1 : (kind == 1) = false := by simp [h1]
  have k2 : (kind == 2) = false := by simp [h2]
  have b6 := HB.out 6 _ rfl
  have zb := lt_of_cell b6
  go_enter Tryz.func17, Tryz.ntmps17
  go_wp2_with fail
  generalize World.alloc w _ = W1 at *
  generalize w.heap.size = kb at *
  clear b6 zb
  go_loopw [12] (fun i wr => RelH1 ex v W1 i wr) (fun i _ => ex.length - (intOf i).toNat)
  case atStart => exact ⟨0, Nat.zero_le _, rfl, Fr.refl _, by rw [List.drop_zero]⟩
  case round =>
    obtain ⟨j, hj, rfl, hf, hc⟩ := hrel
    have HF := Lib.hid hf
    have HCO := Lib.hid hc
    clear hf hc
    by_cases hlt : j < ex.length
    · have hji : (j : Int) < (ex.length : Int) := by omega
      have HDR := Lib.hid (List.drop_eq_getElem_cons hlt)
      obtain ⟨be, oe, rfl, hx⟩ := (HE.out.fr fun _ _ _ x => IntC.fr x (HF1.out.call HF.out)).at hlt
      unfold IntC at hx
      rw [Nat.one_mul] at hx
      generalize ex[j] = x at *
      have zx := lt_of_cell hx
      by_cases hxv : x = v
      · have HN := Lib.hid (HX.out (by rw [HCO.out, HDR.out, hxv]; simp))
        subst hxv
        go_wp2
        go_ret
        exact ⟨by rw [HN.out]; rfl, HF1.out.call HF.out⟩
      · have hb1 : (x == v) = false := by simp [hxv]
        have HN := Lib.hid (show ex.contains v = (ex.drop (j + 1)).contains v by rw [HCO.out, HDR.out, List.contains_cons]; simp [Ne.symm hxv])
        go_wp2
        go_roundw
        case rel => exact ⟨j + 1, by omega, by go_num, HF.out, HN.out⟩
        case measure => simp [intOf]; omega
    · obtain rfl : j = ex.length := by omega
      have HNO := Lib.hid (show ex.contains v = false by rw [HCO.out, List.drop_length]; rfl)
      have HFW := Lib.hid (HF1.out.call HF.out)
      have b1 := HB.out.fr HF.out 1 _ rfl; have b3 := HB.out.fr HF.out 3 _ rfl; have b4 := HB.out.fr HF.out 4 _ rfl; have b5 := HB.out.fr HF.out 5 _ rfl
      have zb := lt_of_cell b1
      clear hj
      generalize wr = W2 at *
      have HV := Lib.hid (HL.out HNO.out (y := v) (by simp) (by simp))
      go_wp2_with fail
      clear b1 b3 b4 b5 zb
      go_loopw [1, 7, 8] (fun x st i wr => RelH2 v 0 W2 x st i wr) (fun _ _ i _ => 0 - (intOf i).toNat)
      case atStart => exact ⟨0, v, 1, Nat.zero_le _, rfl, rfl, rfl, Fr.refl _, by simp⟩
      case round =>
        obtain ⟨j, y, t, hj, rfl, rfl, rfl, hf, hy⟩ := hrel
        have HF2 := Lib.hid hf
        have b1 := HB.out.fr (HF.out.call hf) 1 _ rfl; have b3 := HB.out.fr (HF.out.call hf) 3 _ rfl; have b4 := HB.out.fr (HF.out.call hf) 4 _ rfl
        have zb := lt_of_cell b1
        obtain rfl : j = 0 := by omega
        clear hf hy hj
        go_wp2
        go_ret
        exact ⟨by rw [HV.out]; rfl, HFW.out.call HF2.out⟩
set_option maxHeartbeats 6400000 in
set_option maxRecDepth 100000 in
theorem rhas_sgn {w : World} (nm : ByteArray) (kind file : Int) (b s : Nat) (h1 : kind ≠ 1) (h2 : kind ≠ 2) (hb : b ≤ 62) (hbs : b + 1 + s ≤ 64) (A : Option Addr) (ex : List Int) (ec : Nat) (hE : RowOf IntC 1 w A ex) (hm : ex.length ≤ maxLen) (v : Int) (hv : I64 v) :
    Calls Tryz.prog 17 #[.agg #[.string nm, .int .i64 kind, .int .i64 file, .int .i64 ((b : Int) + 1), .int .i64 (s : Int), .int .i64 0, .slice A ex.length ec], .int .i64 v] w fun e w' => e = .returned (.bool (hasI ⟨kind, file, ((b : Int) + 1), (s : Int), 0, ex⟩ v)) ∧ Fr w w' := by
  obtain ⟨R, hR⟩ : ∃ R, hasI ⟨kind, file, ((b : Int) + 1), (s : Int), 0, ex⟩ v = R := ⟨_, rfl⟩
  have HX := Lib.hid (show ex.contains v = true → R = false from fun h => by rw [← hR]; unfold hasI; simp only [h]; rfl)
  have HO := Lib.hid (show v % 2 ^ s ≠ 0 → R = false from fun h => by rw [← hR]; unfold hasI; simp only [Int.toNat_natCast, h1, decide_eq_false h, Bool.false_and, Bool.and_false, if_false])
  have HL := Lib.hid (show ex.contains v = false → ∀ {y : Int}, v % 2 ^ s = 0 → v / 2 ^ s = y → R = decide (-(2 ^ b) ≤ y ∧ y < 2 ^ b) from fun h y h3 h4 => by
    rw [← hR]; unfold hasI
    have e : ((b : Int) + 1).toNat - 1 = b := by omega
    simp only [Int.toNat_natCast, h1, h2, h, h3, h4, e, if_false, decide_true, Bool.true_and, Bool.not_false])
  rw [hR]
  clear hR
  have HE := Lib.hid hE
  have hml : ex.length ≤ 9223372036854775807 := Nat.le_trans hm (by decide)
  have HB := Lib.hid (show BlkAt (w.alloc (.cells #[.string nm, .int .i64 kind, .int .i64 file, .int .i64 ((b : Int) + 1), .int .i64 (s : Int), .int .i64 0, .slice A ex.length ec] 64)) w.heap.size [.string nm, .int .i64 kind, .int .i64 file, .int .i64 ((b : Int) + 1), .int .i64 (s : Int), .int .i64 0, .slice A ex.length ec] from BlkAt.alloc)
  have HF1 := Lib.hid (show Fr w (w.alloc (.cells #[.string nm, .int .i64 kind, .int .i64 file, .int .i64 ((b : Int) + 1), .int .i64 (s : Int), .int .i64 0, .slice A ex.length ec] 64)) from Fr.alloc (Fr.refl w) _)
  clear hE hm
  have hp6 := two_pow_62 (show b ≤ 62 by omega)
  obtain ⟨P, hP⟩ : ∃ P, (2 : Int) ^ b = P := ⟨_, rfl⟩
  rw [hP] at hp6
  have hP0 : IntKind.i64.wrap ((2 : Int) ^ b) = P := by rw [hP]; exact wrap_in (by omega) (by omega)
  have hP1 : IntKind.i64.wrap (1 * (2 : Int) ^ b) = P := by rw [Int.one_mul]; exact hP0
  rw [hP] at HL
  have hQ0 : IntKind.i64.wrap (P - 1) = P - 1 := wrap_in (by omega) (by omega)
  have hQ1 : IntKind.i64.wrap (-P) = -P := wrap_in (by omega) (by omega)
  clear hP
  have HVI := Lib.hid hv
  clear hv
  have k1 : (kind == 1) = false := by simp [h1]
  have k2 : (kind == 2) = false := by simp [h2]
  have hne64 : ((b : Int) + 1 == 64) = false := by rw [beq_eq_false_iff_ne]; omega
  have b6 := HB.out 6 _ rfl
  have zb := lt_of_cell b6
  go_enter Tryz.func17, Tryz.ntmps17
  go_wp2_with fail
  generalize World.alloc w _ = W1 at *
  generalize w.heap.size = kb at *
  clear b6 zb
  go_loopw [12] (fun i wr => RelH1 ex v W1 i wr) (fun i _ => ex.length - (intOf i).toNat)
  case atStart => exact ⟨0, Nat.zero_le _, rfl, Fr.refl _, by rw [List.drop_zero]⟩
  case round =>
    obtain ⟨j, hj, rfl, hf, hc⟩ := hrel
    have HF := Lib.hid hf
    have HCO := Lib.hid hc
    clear hf hc
    by_cases hlt : j < ex.length
    · have hji : (j : Int) < (ex.length : Int) := by omega
      have HDR := Lib.hid (List.drop_eq_getElem_cons hlt)
      obtain ⟨be, oe, rfl, hx⟩ := (HE.out.fr fun _ _ _ x => IntC.fr x (HF1.out.call HF.out)).at hlt
      unfold IntC at hx
      rw [Nat.one_mul] at hx
      generalize ex[j] = x at *
      have zx := lt_of_cell hx
      by_cases hxv : x = v
      · have HN := Lib.hid (HX.out (by rw [HCO.out, HDR.out, hxv]; simp))
        subst hxv
        go_wp2
        go_ret
        exact ⟨by rw [HN.out]; rfl, HF1.out.call HF.out⟩
      · have hb1 : (x == v) = false := by simp [hxv]
        have HN := Lib.hid (show ex.contains v = (ex.drop (j + 1)).contains v by rw [HCO.out, HDR.out, List.contains_cons]; simp [Ne.symm hxv])
        go_wp2
        go_roundw
        case rel => exact ⟨j + 1, by omega, by go_num, HF.out, HN.out⟩
        case measure => simp [intOf]; omega
    · obtain rfl : j = ex.length := by omega
      have HNO := Lib.hid (show ex.contains v = false by rw [HCO.out, List.drop_length]; rfl)
      have HFW := Lib.hid (HF1.out.call HF.out)
      have b1 := HB.out.fr HF.out 1 _ rfl; have b3 := HB.out.fr HF.out 3 _ rfl; have b4 := HB.out.fr HF.out 4 _ rfl; have b5 := HB.out.fr HF.out 5 _ rfl
      have zb := lt_of_cell b1
      clear hj
      generalize wr = W2 at *
      go_wp2_with fail
      clear b1 b3 b4 b5 zb
      go_loopw [1, 7, 8] (fun x st i wr => RelH2 v s W2 x st i wr) (fun _ _ i _ => s - (intOf i).toNat)
      case atStart => exact ⟨0, v, 1, Nat.zero_le _, rfl, rfl, rfl, Fr.refl _, by simp⟩
      case round =>
        obtain ⟨j, y, t, hj, rfl, rfl, rfl, hf, hy⟩ := hrel
        have HF2 := Lib.hid hf
        have HY := Lib.hid hy
        have b1 := HB.out.fr (HF.out.call hf) 1 _ rfl; have b3 := HB.out.fr (HF.out.call hf) 3 _ rfl; have b4 := HB.out.fr (HF.out.call hf) 4 _ rfl
        have zb := lt_of_cell b1
        clear hf hy
        by_cases hlt : j < s
        · have hji : (j : Int) < (s : Int) := by omega
          rcases even_odd y with ⟨z, rfl, e1, e2⟩ | ⟨hodd, ho⟩
          · have HY2 := Lib.hid (show z * 2 ^ (j + 1) = v by rw [← HY.out, Int.pow_succ]; rw [Int.mul_comm 2 z, Int.mul_assoc, Int.mul_comm 2])
            have hz := i64_half (z := z) (i64_part HVI.out HY.out)
            have hzw : IntKind.i64.wrap z = z := wrap_in hz.1 (by have := hz.2; omega)
            have hw0 : IntKind.i64.wrap 0 = 0 := by decide
            clear hz
            go_wp2
            go_roundw
            case rel => exact ⟨j + 1, z, _, by omega, rfl, by go_num, rfl, HF2.out, HY2.out⟩
            case measure => simp [intOf]; omega
          · have HN := Lib.hid (HO.out (half_no HY.out hlt hodd))
            rcases ho with ho | ho
            · have hw1 : IntKind.i64.wrap 1 = 1 := by decide
              go_wp2
              go_ret
              exact ⟨by rw [HN.out]; rfl, HFW.out.call HF2.out⟩
            · have hw1 : IntKind.i64.wrap (-1) = -1 := by decide
              go_wp2
              go_ret
              exact ⟨by rw [HN.out]; rfl, HFW.out.call HF2.out⟩
        · obtain rfl : j = s := by omega
          have HV := Lib.hid (HL.out HNO.out (half_yes HY.out).1 (half_yes HY.out).2)
          have hyI := i64_part HVI.out HY.out
          have hy0 := hyI.1
          have hy1 := hyI.2
          clear hyI hj
          go_wp2
          all_goals (go_ret; exact ⟨ret_bool (by rw [HV.out, Bool.eq_iff_iff]; simp; omega), HFW.out.call HF2.out⟩)
theorem rhas_any {w : World} {D : Ds} (c : Cl) (hc : clsB D c = true) (nm : ByteArray) (A : Option Addr) (ec : Nat) (hE : RowOf IntC 1 w A c.ex) (hm : c.ex.length ≤ maxLen) (v : Int) (hv : I64 v) :
    Calls Tryz.prog 17 #[.agg #[.string nm, .int .i64 c.kind, .int .i64 c.file, .int .i64 c.bits, .int .i64 c.shift, .int .i64 c.plus, .slice A c.ex.length ec], .int .i64 v] w fun e w' => e = .returned (.bool (hasI c v)) ∧ Fr w w' := by
  have hcr := cls_right hc
  obtain ⟨kind, file, bits, shift, plus, ex⟩ := c
  simp only at hcr hE hm ⊢
  rcases hcr with ⟨rfl, h1, h2, rfl, h3, h4⟩ | ⟨rfl, rfl, b, s, rfl, rfl, h1, h2⟩ | ⟨h1, h2, rfl, b, s, rfl, rfl, h3, h4⟩
  · obtain ⟨b, rfl⟩ : ∃ b : Nat, bits = (b : Int) := ⟨bits.toNat, by omega⟩
    exact rhas_reg nm file plus b (by omega) h3 h4 A ex ec hE hm v hv
  · exact rhas_uns nm file b s h2 A ex ec hE hm v hv
  · obtain ⟨b', rfl⟩ : ∃ b', b = b' + 1 := ⟨b - 1, by omega⟩
    by_cases h64 : b' = 63
    · subst h64
      obtain rfl : s = 0 := by omega
      exact rhas_sgn64 nm kind file h1 h2 A ex ec hE hm v hv
    · exact rhas_sgn nm kind file b' s h1 h2 (by omega) (by omega) A ex ec hE hm v hv
end Go.Proofs.YtdipnhghdajplaaGreatDoor
