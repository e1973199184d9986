/- BvecWidths: both packages answer the same. -/
import Derived.Test.YtfnoocpopfapmaaUns
import Derived.Test.YtfnoocpopfapmaaRint
import Derived.Test.YtfnoocpopfapmaaGa
import Derived.Test.YtfnoocpopfapmaaGd
namespace Go.Proofs.Ytfnoocpopfapmaa
open Go.RowKit

abbrev Both (f g : FuncId) (args : Array Value) (r : Value) : Prop := (∀ w : World, Calls Try.prog f args w fun e w' => e = .returned r ∧ Fr w w') ∧ (∀ w : World, Calls Try.prog g args w fun e w' => e = .returned r ∧ Fr w w')
theorem int_both (W v : Int) (v0 : 0 ≤ v) (v1 : v < 340282366920938463463374607431768211456) :
    ∃ (r : Int) (ok : Bool), Both 19 20 #[bv W v] (.tuple #[.int .i64 r, .bool ok]) := by
  cases hb : normB W v
  · exact ⟨0, false, int_bad W v v0 v1 hb, rint_bad W v v0 v1 hb⟩
  · have h := norm_of v0 hb
    obtain ⟨n, rfl⟩ := Int.eq_ofNat_of_zero_le (show 0 ≤ W by have := h.1; omega)
    by_cases hs : -9223372036854775808 ≤ sgnI n v ∧ sgnI n v ≤ 9223372036854775807
    · exact ⟨sgnI n v, true, int_ok n v h hs.1 hs.2, rint_any n v _ _ h (fun _ => ⟨rfl, rfl⟩) (fun k => absurd hs k)⟩
    · exact ⟨0, false, int_out n v h (by omega), rint_any n v _ _ h (fun k => absurd k hs) (fun _ => ⟨rfl, rfl⟩)⟩
theorem make_both (W v : Int) : ∃ X y : Int, Both 21 22 #[.int .i64 W, .int .u64 (hi v), .int .u64 (lo v)] (bv X y) := by
  by_cases h : 1 ≤ W ∧ W ≤ 128
  · obtain ⟨n, rfl⟩ := Int.eq_ofNat_of_zero_le (show 0 ≤ W by omega)
    refine ⟨n, cutI n v, ?_, rmake_ok n v (by omega) (by omega)⟩
    have := make_ok n v h.1 h.2
    rw [Int.toNat_natCast] at this; exact this
  · refine ⟨0, 0, make_no W _ _ (by omega), ?_⟩
    by_cases h1 : W < 1
    · exact rmake_lo W _ _ h1
    · exact rmake_hi W _ _ (by omega)
theorem fromInt_both (W x : Int) (x0 : -9223372036854775808 ≤ x) (x1 : x ≤ 9223372036854775807) : ∃ X y : Int, Both 23 24 #[.int .i64 W, .int .i64 x] (bv X y) := by
  by_cases h : 1 ≤ W ∧ W ≤ 128
  · obtain ⟨n, rfl⟩ := Int.eq_ofNat_of_zero_le (show 0 ≤ W by omega)
    refine ⟨n, cutI n x, ?_, rfromInt_ok n x (by omega) (by omega) x0 x1⟩
    have := fromInt_ok n x h.1 h.2 x0 x1
    rw [Int.toNat_natCast] at this; exact this
  · refine ⟨0, 0, fromInt_no W _ (by omega) x0 x1, ?_⟩
    by_cases h1 : W < 1
    · exact rfromInt_lo W _ h1
    · exact rfromInt_hi W _ (by omega)
theorem zext_both (W v x : Int) (v0 : 0 ≤ v) (v1 : v < 340282366920938463463374607431768211456) : ∃ X y : Int, (∀ w : World, Calls Try.prog 25 #[bv W v, .int .i64 x] w fun e w' => e = .returned (bv X y) ∧ Fr w w') ∧
    (∀ w : World, Calls Try.prog 26 #[bv W v, .int .i64 x, .bool false] w fun e w' => e = .returned (bv X y) ∧ Fr w w') := by
  cases hb : normB W v
  · exact ⟨0, 0, zext_bad W v x v0 v1 hb, rext_bad W v x false v0 v1 hb⟩
  · have h := norm_of v0 hb
    by_cases hx : 1 ≤ x ∧ x ≤ 128
    · obtain ⟨n, rfl⟩ := Int.eq_ofNat_of_zero_le (show 0 ≤ W by have := h.1; omega)
      obtain ⟨m, rfl⟩ := Int.eq_ofNat_of_zero_le (show 0 ≤ x by omega)
      refine ⟨m, cutI m v, ?_, rext_false n m v h (by omega) (by omega)⟩
      have := zext_ok n v m h hx.1 hx.2
      rw [Int.toNat_natCast] at this; exact this
    · refine ⟨0, 0, zext_no W v x h (by omega), ?_⟩
      by_cases h1 : x < 1
      · exact rext_lo W v x false h h1
      · exact rext_hi W v x false h (by omega)
theorem sext_both (W v x : Int) (v0 : 0 ≤ v) (v1 : v < 340282366920938463463374607431768211456) : ∃ X y : Int, (∀ w : World, Calls Try.prog 27 #[bv W v, .int .i64 x] w fun e w' => e = .returned (bv X y) ∧ Fr w w') ∧
    (∀ w : World, Calls Try.prog 26 #[bv W v, .int .i64 x, .bool true] w fun e w' => e = .returned (bv X y) ∧ Fr w w') := by
  cases hb : normB W v
  · exact ⟨0, 0, sext_bad W v x v0 v1 hb, rext_bad W v x true v0 v1 hb⟩
  · have h := norm_of v0 hb
    by_cases hx : 1 ≤ x ∧ x ≤ 128
    · obtain ⟨n, rfl⟩ := Int.eq_ofNat_of_zero_le (show 0 ≤ W by have := h.1; omega)
      obtain ⟨m, rfl⟩ := Int.eq_ofNat_of_zero_le (show 0 ≤ x by omega)
      refine ⟨m, cutI m (sgnI n v), ?_, rext_true n m v h (by omega) (by omega)⟩
      have := sext_ok n v m h hx.1 hx.2
      rw [Int.toNat_natCast] at this; exact this
    · refine ⟨0, 0, sext_no W v x h (by omega), ?_⟩
      by_cases h1 : x < 1
      · exact rext_lo W v x true h h1
      · exact rext_hi W v x true h (by omega)
set_option maxHeartbeats 6400000 in
set_option maxRecDepth 100000 in
theorem wid_walk (W v x n : Int) (v0 : 0 ≤ v) (v1 : v < 340282366920938463463374607431768211456) (n0 : -9223372036854775808 ≤ n) (n1 : n ≤ 9223372036854775807) (w : World) :
    Calls Try.prog 6 #[bv W v, .int .i64 x, .int .i64 n] w fun e w' => e = .returned (.bool true) ∧ Fr w w' := by
  obtain ⟨ri, ok, ha1, ha2⟩ := int_both W v v0 v1
  obtain ⟨X1, y1, hb1, hb2⟩ := make_both x v
  obtain ⟨X2, y2, hc1, hc2⟩ := fromInt_both x n n0 n1
  obtain ⟨X3, y3, hd1, hd2⟩ := zext_both W v x v0 v1
  obtain ⟨X4, y4, he1, he2⟩ := sext_both W v x v0 v1
  have HA1 := Lib.hid ha1
  have HA2 := Lib.hid ha2
  have HB1 := Lib.hid hb1
  have HB2 := Lib.hid hb2
  have HC1 := Lib.hid hc1
  have HC2 := Lib.hid hc2
  have HD1 := Lib.hid hd1
  have HD2 := Lib.hid hd2
  have HE1 := Lib.hid he1
  have HE2 := Lib.hid he2
  have HA := Lib.hid alive
  obtain ⟨c0, c1, c2⟩ := bits_cells w 24 (.int .i64 W) (.int .u64 (hi v)) (.int .u64 (lo v))
  have C0 := Lib.hid c0
  have C1 := Lib.hid c1
  have C2 := Lib.hid c2
  clear ha1 ha2 hb1 hb2 hc1 hc2 hd1 hd2 he1 he2 c0 c1 c2 v0 v1 n0 n1
  go_enter Try.func6, Try.ntmps6
  go_wp2_with (first
    | (go_at_call 8
       refine (HA.out _).mono ?_
       rintro e w1 ⟨rfl, hf⟩
       have HF1 := Lib.hid hf
       have a0 := hf.get C0.out
       have a1 := hf.get C1.out
       have a2 := hf.get C2.out
       clear hf)
    | (go_at_call 19
       refine (HA1.out _).mono ?_
       rintro e w2 ⟨rfl, hf⟩
       have HF2 := Lib.hid (HF1.out.call hf)
       have d0 := HF2.out.get C0.out
       have d1 := HF2.out.get C1.out
       have d2 := HF2.out.get C2.out
       clear hf)
    | (go_at_call 20
       refine (HA2.out _).mono ?_
       rintro e w3 ⟨rfl, hf⟩
       have HF3 := Lib.hid (HF2.out.call hf)
       clear hf))
  have x0 := fun ex : Ext w3 => ex.get (HF3.out.get C0.out)
  have x1 := fun ex : Ext w3 => ex.get (HF3.out.get C1.out)
  have x2 := fun ex : Ext w3 => ex.get (HF3.out.get C2.out)
  refine wp_region_ext (by kernel_rfl) (by kernel_rfl) ?_
  repeat (go_big_quiet_step (first
    | (go_at_call 21; exact ext_of (HB1.out _))
    | (go_at_call 22; exact ext_of (HB2.out _))
    | (go_at_call 23; exact ext_of (HC1.out _))
    | (go_at_call 24; exact ext_of (HC2.out _))
    | (go_at_call 25; exact ext_of (HD1.out _))
    | (go_at_call 27; exact ext_of (HE1.out _))
    | (go_at_call_of 26 (Value.bool false); exact ext_of (HD2.out _))
    | (go_at_call_of 26 (Value.bool true); exact ext_of (HE2.out _))))
  refine wpQuiet_nil ?_
  intro w5 hw5
  obtain ⟨y5, rfl⟩ := hw5
  have HF := Lib.hid ((((Fr.refl w).alloc _).call HF3.out).call y5.fr)
  go_wp2
  go_ret
  exact ⟨ret_bool (by simp), HF.out⟩
end Go.Proofs.Ytfnoocpopfapmaa
