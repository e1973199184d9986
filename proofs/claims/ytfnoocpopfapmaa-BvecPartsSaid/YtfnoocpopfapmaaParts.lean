/- BvecParts: both packages answer the same bits. -/
import Derived.Test.YtfnoocpopfapmaaUns
import Derived.Test.YtfnoocpopfapmaaRmx
import Derived.Test.YtfnoocpopfapmaaRinb
import Derived.Test.YtfnoocpopfapmaaGa
import Derived.Test.YtfnoocpopfapmaaGc
namespace Go.Proofs.Ytfnoocpopfapmaa
open Go.RowKit

theorem extract_both (W v x y : Int) (v0 : 0 ≤ v) (v1 : v < 340282366920938463463374607431768211456) : ∃ X z : Int, (∀ w : World, Calls Try.prog 15 #[bv W v, .int .i64 x, .int .i64 y] w fun e w' => e = .returned (bv X z) ∧ Fr w w') ∧
    (∀ w : World, Calls Try.prog 16 #[bv W v, .int .i64 x, .int .i64 y] w fun e w' => e = .returned (bv X z) ∧ Fr w w') := by
  cases hb : normB W v
  · exact ⟨0, 0, extract_bad W v x y v0 v1 hb, rextract_bad W v x y v0 v1 hb⟩
  · have h := norm_of v0 hb
    by_cases c1 : y < 0
    · exact ⟨0, 0, extract_no W v x y h (.inl c1), rextract_a W v x y h c1⟩
    by_cases c2 : x < y
    · exact ⟨0, 0, extract_no W v x y h (.inr (.inl c2)), rextract_b W v x y h (by omega) c2⟩
    by_cases c3 : W ≤ x
    · exact ⟨0, 0, extract_no W v x y h (.inr (.inr c3)), rextract_c W v x y h (by omega) (by omega) c3⟩
    obtain ⟨n, rfl⟩ := Int.eq_ofNat_of_zero_le (show 0 ≤ W by have := h.1; omega)
    obtain ⟨b, rfl⟩ := Int.eq_ofNat_of_zero_le (show 0 ≤ y by omega)
    obtain ⟨k, hk⟩ := Int.eq_ofNat_of_zero_le (show 0 ≤ x - (b : Int) + 1 by omega)
    obtain rfl : x = (b : Int) + (k : Int) - 1 := by omega
    refine ⟨k, (v / 2 ^ b) % 2 ^ k, ?_, rextract_ok n b k v h (by omega) (by omega)⟩
    have he := extract_ok n v ((b : Int) + (k : Int) - 1) b h (by omega) (by omega) (by omega)
    have e1 : (b : Int) + (k : Int) - 1 - (b : Int) + 1 = (k : Int) := by omega
    rw [e1, Int.toNat_natCast, Int.toNat_natCast, shrI_small v b v0 v1] at he
    exact he
theorem insert_both (W v y X u : Int) (v0 : 0 ≤ v) (v1 : v < 340282366920938463463374607431768211456) (u0 : 0 ≤ u) (u1 : u < 340282366920938463463374607431768211456) : ∃ Y z : Int, (∀ w : World, Calls Try.prog 17 #[bv W v, .int .i64 y, bv X u] w fun e w' => e = .returned (bv Y z) ∧ Fr w w') ∧
    (∀ w : World, Calls Try.prog 18 #[bv W v, .int .i64 y, bv X u] w fun e w' => e = .returned (bv Y z) ∧ Fr w w') := by
  cases hb : normB W v
  · exact ⟨0, 0, insert_bad1 W v y X u v0 v1 hb, rinsert_bad1 W v y X u v0 v1 hb⟩
  cases hc : normB X u
  · exact ⟨0, 0, insert_bad2 W v y X u (norm_of v0 hb) u0 u1 hc, rinsert_bad2 W v y X u (norm_of v0 hb) u0 u1 hc⟩
  have h := norm_of v0 hb
  have k := norm_of u0 hc
  by_cases c1 : y < 0
  · exact ⟨0, 0, insert_no W v y X u h k (.inl c1), rinsert_lo W v y X u h k c1⟩
  by_cases c2 : W - X < y
  · exact ⟨0, 0, insert_no W v y X u h k (.inr c2), rinsert_hi W v y X u h k (by omega) c2⟩
  have hi := insert_ok W v y X u h k (by omega) (by omega)
  rw [ins_eq W v y X u h k (by omega) (by omega)] at hi
  obtain ⟨n, rfl⟩ := Int.eq_ofNat_of_zero_le (show 0 ≤ W by have := h.1; omega)
  obtain ⟨m, rfl⟩ := Int.eq_ofNat_of_zero_le (show 0 ≤ X by have := k.1; omega)
  obtain ⟨b, rfl⟩ := Int.eq_ofNat_of_zero_le (show 0 ≤ y by omega)
  rw [Int.toNat_natCast, Int.toNat_natCast] at hi
  exact ⟨n, _, hi, rinsert_ok n b m v u h k (by omega)⟩
theorem box_parts (w : World) (a b c d e f g h : Value) :
    Bk (((w.alloc (.cells #[a, b, c] 24)).alloc (.cells #[d, e, f] 24)).alloc (.cells #[g, h] 31)) w.heap.size 24 #[a, b, c] ∧
    Bk (((w.alloc (.cells #[a, b, c] 24)).alloc (.cells #[d, e, f] 24)).alloc (.cells #[g, h] 31)) (w.heap.size + 1) 24 #[d, e, f] ∧
    Bk (((w.alloc (.cells #[a, b, c] 24)).alloc (.cells #[d, e, f] 24)).alloc (.cells #[g, h] 31)) (w.heap.size + 1 + 1) 31 #[g, h] := by
  refine ⟨((Bk.new w _ _).fr ((Fr.refl _).alloc _)).fr ((Fr.refl _).alloc _), ?_, ?_⟩
  · have k := Bk.new (w.alloc (.cells #[a, b, c] 24)) 24 #[d, e, f]
    rw [show (w.alloc (.cells #[a, b, c] 24)).heap.size = w.heap.size + 1 by simp] at k
    exact k.fr ((Fr.refl _).alloc _)
  · have k := Bk.new ((w.alloc (.cells #[a, b, c] 24)).alloc (.cells #[d, e, f] 24)) 31 #[g, h]
    rw [show ((w.alloc (.cells #[a, b, c] 24)).alloc (.cells #[d, e, f] 24)).heap.size = w.heap.size + 1 + 1 by simp] at k
    exact k
theorem Bk.ex {W : World} {g : Nat} {t : TypeId} {a b c : Value} (h : Bk W g t #[a, b, c]) (x : Ext W) : x.world.cell? ⟨g, 0, none⟩ = some a ∧ x.world.cell? ⟨g, 1, none⟩ = some b ∧ x.world.cell? ⟨g, 2, none⟩ = some c := (h.fr x.fr).three
theorem Bk.ex2 {W : World} {g : Nat} {t : TypeId} {a b : Value} (h : Bk W g t #[a, b]) (x : Ext W) : x.world.cell? ⟨g, 0, none⟩ = some a ∧ x.world.cell? ⟨g, 1, none⟩ = some b := ⟨(h.fr x.fr).cell 0, (h.fr x.fr).cell 1⟩
set_option maxHeartbeats 6400000 in
set_option maxRecDepth 100000 in
theorem parts_walk (W v X u x y : Int) (v0 : 0 ≤ v) (v1 : v < 340282366920938463463374607431768211456) (u0 : 0 ≤ u) (u1 : u < 340282366920938463463374607431768211456) (w : World) :
    Calls Try.prog 5 #[bv W v, bv X u, .agg #[.int .i64 x, .int .i64 y]] w fun e w' => e = .returned (.bool true) ∧ Fr w w' := by
  obtain ⟨X1, z1, ha1, ha2⟩ := extract_both W v x y v0 v1
  obtain ⟨X2, z2, hb1, hb2⟩ := insert_both W v y X u v0 v1 u0 u1
  have HA1 := Lib.hid ha1
  have HA2 := Lib.hid ha2
  have HB1 := Lib.hid hb1
  have HB2 := Lib.hid hb2
  have HA := Lib.hid alive
  obtain ⟨b1, b2, b3⟩ := box_parts w (.int .i64 W) (.int .u64 (hi v)) (.int .u64 (lo v)) (.int .i64 X) (.int .u64 (hi u)) (.int .u64 (lo u)) (.int .i64 x) (.int .i64 y)
  have c0 := fun ex => (b1.ex ex).1
  have c1 := fun ex => (b1.ex ex).2.1
  have c2 := fun ex => (b1.ex ex).2.2
  have c3 := fun ex => (b2.ex ex).1
  have c4 := fun ex => (b2.ex ex).2.1
  have c5 := fun ex => (b2.ex ex).2.2
  have c6 := fun ex => (b3.ex2 ex).1
  have c7 := fun ex => (b3.ex2 ex).2
  clear ha1 ha2 hb1 hb2 b1 b2 b3 v0 v1 u0 u1
  go_enter Try.func5, Try.ntmps5
  go_wp2_with fail
  refine wp_region_ext (by kernel_rfl) (by kernel_rfl) ?_
  repeat (go_big_quiet_step (first
    | (go_at_call 8; exact ext_of (HA.out _))
    | (go_at_call 15; exact ext_of (HA1.out _))
    | (go_at_call 16; exact ext_of (HA2.out _))
    | (go_at_call 17; exact ext_of (HB1.out _))
    | (go_at_call 18; exact ext_of (HB2.out _))))
  refine wpQuiet_nil ?_
  intro w5 hw5
  obtain ⟨y5, rfl⟩ := hw5
  have HF := Lib.hid (((((Fr.refl w).alloc _).alloc _).alloc _).call y5.fr)
  go_wp2
  go_ret
  exact ⟨ret_bool (by simp), HF.out⟩
end Go.Proofs.Ytfnoocpopfapmaa
