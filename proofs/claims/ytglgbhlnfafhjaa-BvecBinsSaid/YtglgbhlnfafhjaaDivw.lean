/- math/bits.Div64 where the high word isn't nought: its walk, the numbers that it reckons given by their equations. -/
import Derived.Test.YtglgbhlnfafhjaaLeaf
import Derived.Test.YtglgbhlnfafhjaaDivm
import Derived.Deep.DeepCutAuto
import Derived.Deep.CutBlock
namespace Go.Proofs.Ytglgbhlnfafhjaa
open Go.RowKit

def Guess (u v1 v0 d Q : Int) (a b : Value) : Prop := ∃ q r : Int, a = .int .u64 q ∧ b = .int .u64 r ∧ Dig u v1 v0 d Q q r ∧ r < 4294967296 ∧ q < 17179869184
def Is (a : Value) (q : Int) (w wx : World) : Prop := a = .int .u64 q ∧ wx = w

set_option maxRecDepth 100000 in
set_option maxHeartbeats 8000000 in
theorem div64_core (h l y s Y v1 v0 u t d1 d0 q r Q1 u2 q2 r2 Q0 R X0 X1 : Int) (hh : 0 < h) (h2 : h < y) (_l0 : 0 ≤ l) (_l1 : l < 18446744073709551616) (hy : 0 < y) (hy2 : y < 18446744073709551616) (s0 : 0 ≤ s) (s1 : s ≤ 63)
    (E0 : IntKind.u64.wrap s = s) (_E1 : min s.toNat 64 = s.toNat)
    (EY : IntKind.u64.wrap (y * 2 ^ s.toNat) = Y) (Ev1 : Y / 4294967296 = v1) (Ev0 : bits .and .u64 Y 4294967295 = v0)
    (Eu : bits .or .u64 (IntKind.u64.wrap (h * 2 ^ s.toNat)) (l / 2 ^ (64 - s).toNat) = u) (Et : IntKind.u64.wrap (l * 2 ^ s.toNat) = t)
    (Ed1 : t / 4294967296 = d1) (Ed0 : bits .and .u64 t 4294967295 = d0)
    (Eq : u.tdiv v1 = q) (Ew : IntKind.u64.wrap q = q) (Er : IntKind.u64.wrap (u - IntKind.u64.wrap (q * v1)) = r)
    (D1 : Dig u v1 v0 d1 Q1 q r) (rl : r < 4294967296) (ql : q < 17179869184)
    (E2 : IntKind.u64.wrap (IntKind.u64.wrap (IntKind.u64.wrap (u * 4294967296) + d1) - IntKind.u64.wrap (Q1 * Y)) = u2)
    (Eq2 : u2.tdiv v1 = q2) (Ew2 : IntKind.u64.wrap q2 = q2) (Er2 : IntKind.u64.wrap (u2 - IntKind.u64.wrap (q2 * v1)) = r2)
    (D2 : Dig u2 v1 v0 d0 Q0 q2 r2) (rl2 : r2 < 4294967296) (ql2 : q2 < 17179869184)
    (EX : IntKind.u64.wrap (IntKind.u64.wrap (Q1 * 4294967296) + Q0) = X1)
    (ER : IntKind.u64.wrap (IntKind.u64.wrap (IntKind.u64.wrap (u2 * 4294967296) + d0) - IntKind.u64.wrap (Q0 * Y)) = R) (EX0 : R / 2 ^ s.toNat = X0)
    (hlz : ∀ w : World, Calls Try.prog 57 #[.int .u64 y] w fun e w' => e = .returned (.int .i64 s) ∧ w = w') (w : World) :
    Calls Try.prog 56 #[.int .u64 h, .int .u64 l, .int .u64 y] w fun e w' => e = .returned (.tuple #[.int .u64 X1, .int .u64 X0]) ∧ Fr w w' := by
  have HL := Lib.hid hlz; clear hlz
  have HD1 := Lib.hid D1; have HD2 := Lib.hid D2
  have hv1 : ¬ v1 = 0 := by have := D1.v10; omega
  have v10 := D1.v10; have v11 := D1.v11; have v00 := D1.v00; have v01 := D1.v01; have d10 := D1.d0; have d11 := D1.d1; have d00 := D2.d0; have d01 := D2.d1
  clear D1 D2
  have e1 : (y == 0) = false := beq_eq_false_iff_ne.2 (by omega)
  have e2 : (h == 0) = false := beq_eq_false_iff_ne.2 (by omega)
  have hn : ¬ y = 0 := by omega
  go_enter Try.func56, Try.ntmps56
  go_upto_block 0 with ((go_at_call 57; refine (HL.out _).mono ?_; rintro e w1 ⟨rfl, rfl⟩))
  go_cut [15, 16] (fun a _ wx => Is a Q1 w wx)
  case first =>
    go_wp2_with fail
    go_loop [15, 16] (fun a b => Guess u v1 v0 d1 Q1 a b) (fun a _ => (intOf a).toNat)
    case atStart => exact ⟨q, r, rfl, rfl, HD1.out, rl, ql⟩
    case round =>
      obtain ⟨q', r', rfl, rfl, D, hr, hq⟩ := hrel
      have HD := Lib.hid D
      have r0 := D.r0; have qg := D.ge; have qq := D.q0
      have q0 : 0 ≤ q' := by omega
      have W2 : IntKind.u64.wrap (4294967296 * r') = 4294967296 * r' := by rw [IntKind.wrap_u64]; omega
      have W3 : IntKind.u64.wrap (4294967296 * r' + d1) = 4294967296 * r' + d1 := by rw [IntKind.wrap_u64]; omega
      have W5 : IntKind.u64.wrap (r' + v1) = r' + v1 := by rw [IntKind.wrap_u64]; omega
      clear D qg qq
      by_cases kq : 4294967296 ≤ q'
      · have H' := Lib.hid (HD.out.pred (Or.inl kq))
        have W4 : IntKind.u64.wrap (q' - 1) = q' - 1 := by rw [IntKind.wrap_u64]; omega
        by_cases kr : 4294967296 ≤ r' + v1
        · go_wp2_with fail
          go_meet
          exact ⟨by rw [H'.out.big kr], rfl⟩
        · have kr' : r' + v1 < 4294967296 := by omega
          clear kr
          go_wp2_with fail
          go_round
          case rel => exact ⟨q' - 1, r' + v1, rfl, rfl, H'.out, kr', by omega⟩
          case measure => simp [intOf]; omega
      · have kq' : q' < 4294967296 := by omega
        clear kq
        have hp : 0 ≤ q' * v0 ∧ q' * v0 < 18446744073709551616 := by
          refine ⟨Int.mul_nonneg q0 v00, ?_⟩
          have a1 : q' * v0 ≤ 4294967295 * v0 := Int.mul_le_mul_of_nonneg_right (by omega) v00
          omega
        have W1 : IntKind.u64.wrap (q' * v0) = q' * v0 := by rw [IntKind.wrap_u64]; exact Int.emod_eq_of_lt hp.1 hp.2
        by_cases kt : 4294967296 * r' + d1 < q' * v0
        · have H' := Lib.hid (HD.out.pred (Or.inr (by omega)))
          have H1 := H'.out.ge; have H2 := H'.out.q0
          have W4 : IntKind.u64.wrap (q' - 1) = q' - 1 := by rw [IntKind.wrap_u64]; omega
          have q1 : 1 ≤ q' := by omega
          clear H1 H2
          by_cases kr : 4294967296 ≤ r' + v1
          · go_wp2_with fail
            go_meet
            exact ⟨by rw [H'.out.big kr], rfl⟩
          · have kr' : r' + v1 < 4294967296 := by omega
            clear kr
            go_wp2_with fail
            go_round
            case rel => exact ⟨q' - 1, r' + v1, rfl, rfl, H'.out, kr', by omega⟩
            case measure => simp [intOf]; omega
        · have kt' : q' * v0 ≤ 4294967296 * r' + d1 := by omega
          have e := HD.out.done (by omega)
          have HE := Lib.hid e
          clear kt e
          go_wp2_with fail
          go_meet
          exact ⟨by rw [HE.out], rfl⟩
  case rest =>
    obtain ⟨rfl, rfl⟩ := hcut
    go_upto_block 2 with (fail)
    go_cut [18, 16] (fun a _ wx => Is a Q0 wc wx)
    case first =>
      go_wp2_with fail
      go_loop [18, 16] (fun a b => Guess u2 v1 v0 d0 Q0 a b) (fun a _ => (intOf a).toNat)
      case atStart => exact ⟨q2, r2, rfl, rfl, HD2.out, rl2, ql2⟩
      case round =>
        obtain ⟨q', r', rfl, rfl, D, hr, hq⟩ := hrel
        have HD := Lib.hid D
        have r0 := D.r0; have qg := D.ge; have qq := D.q0
        have q0 : 0 ≤ q' := by omega
        have W2 : IntKind.u64.wrap (4294967296 * r') = 4294967296 * r' := by rw [IntKind.wrap_u64]; omega
        have W3 : IntKind.u64.wrap (4294967296 * r' + d0) = 4294967296 * r' + d0 := by rw [IntKind.wrap_u64]; omega
        have W5 : IntKind.u64.wrap (r' + v1) = r' + v1 := by rw [IntKind.wrap_u64]; omega
        clear D qg qq
        by_cases kq : 4294967296 ≤ q'
        · have H' := Lib.hid (HD.out.pred (Or.inl kq))
          have W4 : IntKind.u64.wrap (q' - 1) = q' - 1 := by rw [IntKind.wrap_u64]; omega
          by_cases kr : 4294967296 ≤ r' + v1
          · go_wp2_with fail
            go_meet
            exact ⟨by rw [H'.out.big kr], rfl⟩
          · have kr' : r' + v1 < 4294967296 := by omega
            clear kr
            go_wp2_with fail
            go_round
            case rel => exact ⟨q' - 1, r' + v1, rfl, rfl, H'.out, kr', by omega⟩
            case measure => simp [intOf]; omega
        · have kq' : q' < 4294967296 := by omega
          clear kq
          have hp : 0 ≤ q' * v0 ∧ q' * v0 < 18446744073709551616 := by
            refine ⟨Int.mul_nonneg q0 v00, ?_⟩
            have a1 : q' * v0 ≤ 4294967295 * v0 := Int.mul_le_mul_of_nonneg_right (by omega) v00
            omega
          have W1 : IntKind.u64.wrap (q' * v0) = q' * v0 := by rw [IntKind.wrap_u64]; exact Int.emod_eq_of_lt hp.1 hp.2
          by_cases kt : 4294967296 * r' + d0 < q' * v0
          · have H' := Lib.hid (HD.out.pred (Or.inr (by omega)))
            have H1 := H'.out.ge; have H2 := H'.out.q0
            have W4 : IntKind.u64.wrap (q' - 1) = q' - 1 := by rw [IntKind.wrap_u64]; omega
            have q1 : 1 ≤ q' := by omega
            clear H1 H2
            by_cases kr : 4294967296 ≤ r' + v1
            · go_wp2_with fail
              go_meet
              exact ⟨by rw [H'.out.big kr], rfl⟩
            · have kr' : r' + v1 < 4294967296 := by omega
              clear kr
              go_wp2_with fail
              go_round
              case rel => exact ⟨q' - 1, r' + v1, rfl, rfl, H'.out, kr', by omega⟩
              case measure => simp [intOf]; omega
          · have kt' : q' * v0 ≤ 4294967296 * r' + d0 := by omega
            have e := HD.out.done (by omega)
            have HE := Lib.hid e
            clear kt e
            go_wp2_with fail
            go_meet
            exact ⟨by rw [HE.out], rfl⟩

    case rest =>
      obtain ⟨rfl, rfl⟩ := hcut
      go_wp2
      go_ret2
      exact ⟨rfl, by repeat (first | with_reducible exact Fr.refl _ | with_reducible apply Fr.drew)⟩
end Go.Proofs.Ytglgbhlnfafhjaa
