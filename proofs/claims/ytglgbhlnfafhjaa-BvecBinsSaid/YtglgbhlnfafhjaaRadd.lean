/- The document's add: sums bit by bit. -/
import Derived.Test.YtglgbhlnfafhjaaRcut
import Derived.Test.YtglgbhlnfafhjaaRnot
import Derived.Deep.QuietTactic
import Derived.BigQuiet
namespace Go.Proofs.Ytglgbhlnfafhjaa
open Go.RowKit

theorem b2i_range (b : Bool) : 0 ≤ b2i b ∧ b2i b ≤ 1 := by cases b <;> simp [b2i]
def RelA (w : World) (n : Nat) (x y c : Int) (car out i : Value) (wr : World) : Prop :=
  ∃ j : Nat, j ≤ n ∧ i = .int .i64 (j : Int) ∧ car = .bool (carI x y c j) ∧ Making w w.heap.size j (x + y + c) out wr
def RelI (p q r : Bool) (n i : Value) : Prop := (i = .int .i64 0 ∧ n = .int .i64 0) ∨ (i = .int .i64 1 ∧ n = .int .i64 (b2i p)) ∨ (i = .int .i64 2 ∧ n = .int .i64 (b2i p + b2i q)) ∨ (i = .int .i64 3 ∧ n = .int .i64 (b2i p + b2i q + b2i r))
theorem ix0 (p q r : Bool) (w : World) : (Instr.index 62 (.agg #[.bool p, .bool q, .bool r]) (.int .i64 0)).run Try.prog w = .ok (.bool p) w := by kernel_rfl
theorem ix1 (p q r : Bool) (w : World) : (Instr.index 62 (.agg #[.bool p, .bool q, .bool r]) (.int .i64 1)).run Try.prog w = .ok (.bool q) w := by kernel_rfl
theorem ix2 (p q r : Bool) (w : World) : (Instr.index 62 (.agg #[.bool p, .bool q, .bool r]) (.int .i64 2)).run Try.prog w = .ok (.bool r) w := by kernel_rfl
set_option maxHeartbeats 6400000 in
set_option maxRecDepth 10000 in
theorem radd_any (A B : Option Addr) (m c d : Nat) (x y : Int) (z : Bool) (hm : m ≤ 1000) (w : World) (ha : Rd bolv w A (bitsI m x)) (hb : Rd bolv w B (bitsI m y)) :
    Calls Try.prog 24 #[.slice A m c, .slice B m d, .bool z] w fun e w' => Ans w (bitsI m (x + y + b2i z)) e w' := by
  have HA := Lib.hid ha
  have HB := Lib.hid hb
  have HZ := Lib.hid (carI_zero x y z)
  obtain ⟨z0, z1⟩ := b2i_range z
  have HS := Lib.hid (add_bit x y (b2i z) z0 z1)
  generalize hC : b2i z = C at *
  clear ha hb hC z0 z1
  go_enter Try.func24, Try.ntmps24
  go_wp2
  go_loopw [2, 7, 15] (fun car out i wr => RelA w m x y C car out i wr) (fun _ _ i _ => m - (intOf i).toNat)
  case atStart => exact ⟨0, by omega, rfl, by rw [HZ.out], Making.start _ _ _ rfl rfl⟩
  case round =>
    obtain ⟨j, hj, rfl, rfl, hmk⟩ := hrel
    have HM := Lib.hid hmk
    clear hmk
    by_cases hlt : j < m
    · obtain ⟨g, o, rfl, _, hc⟩ := (HA.out.fr HM.out.fr) (by rw [bitsI_length]; omega)
      obtain ⟨g', o', rfl, _, hc'⟩ := (HB.out.fr HM.out.fr) (by rw [bitsI_length]; omega)
      have h1 := hc j (by rw [bitsI_length]; omega)
      have h2 := hc' j (by rw [bitsI_length]; omega)
      rw [bitsI_get] at h1 h2
      change _ = some (Value.bool _) at h1
      change _ = some (Value.bool _) at h2
      obtain ⟨e1, e2⟩ := HS.out j
      have E1 := Lib.hid e1
      have E2 := Lib.hid e2
      generalize bitI x j = p at *
      generalize bitI y j = q at *
      generalize carI x y C j = r at *
      clear hc hc' e1 e2
      go_wp2
      go_quiet (fail)
      go_wp2
      obtain ⟨wo, rfl⟩ : ∃ wo : World, wo = wr := ⟨_, rfl⟩
      go_loop [9, 28] (fun n i => RelI p q r n i) (fun _ i => (3 - intOf i).toNat)
      case atStart => exact .inl ⟨rfl, rfl⟩
      case round =>
        have i0 := ix0 p q r
        have i1 := ix1 p q r
        have i2 := ix2 p q r
        rcases hrel with ⟨rfl, rfl⟩ | ⟨rfl, rfl⟩ | ⟨rfl, rfl⟩ | ⟨rfl, rfl⟩
        · cases p
          all_goals
            go_wp2
            go_round
            case rel => exact .inr (.inl ⟨rfl, rfl⟩)
            case measure => simp [intOf]
        · obtain ⟨p0, p1⟩ := b2i_range p
          cases q
          all_goals
            go_wp2
            go_round
            case rel => exact .inr (.inr (.inl ⟨rfl, by simp [b2i]⟩))
            case measure => simp [intOf]
        · obtain ⟨p0, p1⟩ := b2i_range p
          obtain ⟨q0, q1⟩ := b2i_range q
          cases r
          all_goals
            go_wp2
            go_round
            case rel => exact .inr (.inr (.inr ⟨rfl, by simp [b2i]⟩))
            case measure => simp [intOf]
        · obtain ⟨p0, p1⟩ := b2i_range p
          obtain ⟨q0, q1⟩ := b2i_range q
          obtain ⟨r0, r1⟩ := b2i_range r
          obtain ⟨t, ht⟩ : ∃ t, t = b2i p + b2i q + b2i r := ⟨_, rfl⟩
          rw [← ht] at E1 E2
          have t0 : 0 ≤ t := by omega
          have t1 : t ≤ 3 := by omega
          rw [← ht]
          clear ht p0 p1 q0 q1 r0 r1
          have EB := Lib.hid (show (t % 2 == 1) = bitI (x + y + C) j by rw [E1.out]; by_cases h : t % 2 = 1 <;> simp [h])
          go_wp2_with (first
            | (at_builtin; refine wpList_append_rd one_bool _ rfl (.tmp 35) (.tmp 39) 41 rfl w.heap.size 4 Try.underlying41 Try.infob rfl _ (bitsI j (x + y + C)) rfl ((HM.out.own.fr ((Fr.refl _).drewN _)).alloc _) (some ⟨wo.heap.size, 0, none⟩) 1 1 [t % 2 == 1] rfl rfl (rd_one _ _ _) (by rw [bitsI_length]; unfold maxLen; omega) (by rw [bitsI_length]; omega) (by have := HM.out.lb; simp; omega) ?_))
          intro x1 w1 HG
          have HM1 := Lib.hid ((HM.out.drewN _).more (Nat.le_refl _) EB.out HG.out)
          clear HG
          go_wp2
          go_roundw
          case rel => exact ⟨j + 1, by omega, by go_num, by rw [E2.out], HM1.out⟩
          case measure => simp [intOf]; omega
    · obtain rfl : j = m := by omega
      go_wp2
      go_ret
      exact ans_of HM.out.own HM.out.fr
end Go.Proofs.Ytglgbhlnfafhjaa
