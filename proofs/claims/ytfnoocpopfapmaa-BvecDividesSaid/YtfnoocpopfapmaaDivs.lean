/- BvecDivides's walk. -/
import Derived.Test.YtfnoocpopfapmaaDv
import Derived.Test.YtfnoocpopfapmaaUns
import Derived.Test.YtfnoocpopfapmaaGk
import Derived.Test.YtfnoocpopfapmaaGh
import Derived.Test.YtfnoocpopfapmaaGa
import Derived.Deep.RegionHeld3
import Derived.Deep.CutBlock
namespace Go.Proofs.Ytfnoocpopfapmaa
open Go.RowKit

theorem field0 (a b c : Value) (w : World) : (Instr.field 24 (.agg #[a, b, c]) 0).run Try.prog w = .ok a w := by kernel_rfl
theorem field2 (a b c : Value) (w : World) : (Instr.field 24 (.agg #[a, b, c]) 2).run Try.prog w = .ok c w := by kernel_rfl
theorem two_boxes (w : World) (a b c d e f : Value) :
    Bk ((w.alloc (.cells #[a, b, c] 24)).alloc (.cells #[d, e, f] 24)) w.heap.size 24 #[a, b, c] ∧
    Bk ((w.alloc (.cells #[a, b, c] 24)).alloc (.cells #[d, e, f] 24)) (w.heap.size + 1) 24 #[d, e, f] := by
  refine ⟨(Bk.new w _ _).fr ((Fr.refl _).alloc _), ?_⟩
  have h := Bk.new (w.alloc (.cells #[a, b, c] 24)) 24 #[d, e, f]
  rw [show (w.alloc (.cells #[a, b, c] 24)).heap.size = w.heap.size + 1 by simp] at h
  exact h
/-- Three cells. -/
def C3 (w : World) (g : Nat) (a b c : Value) : Prop := w.cell? ⟨g, 0, none⟩ = some a ∧ w.cell? ⟨g, 1, none⟩ = some b ∧ w.cell? ⟨g, 2, none⟩ = some c
theorem C3.fr {w w' : World} {g : Nat} {a b c : Value} (h : C3 w g a b c) (k : Fr w w') : C3 w' g a b c := ⟨k.get h.1, k.get h.2.1, k.get h.2.2⟩
theorem six_keep {w w' : World} {g k : Nat} {a b c d e f : Value} (h : Fr w w') (x : C3 w g a b c) (y : C3 w k d e f) :
    Fr w w' ∧ w'.cell? ⟨g, 0, none⟩ = some a ∧ w'.cell? ⟨g, 1, none⟩ = some b ∧ w'.cell? ⟨g, 2, none⟩ = some c ∧ w'.cell? ⟨k, 0, none⟩ = some d ∧ w'.cell? ⟨k, 1, none⟩ = some e ∧ w'.cell? ⟨k, 2, none⟩ = some f :=
  ⟨h, (x.fr h).1, (x.fr h).2.1, (x.fr h).2.2, (y.fr h).1, (y.fr h).2.1, (y.fr h).2.2⟩
set_option maxHeartbeats 3200000 in
set_option maxRecDepth 10000 in
theorem div_bad (W v X u : Int) (v0 : 0 ≤ v) (v1 : v < 340282366920938463463374607431768211456) (u0 : 0 ≤ u) (u1 : u < 340282366920938463463374607431768211456) (h : normB W v = false) (w : World) :
    Calls Try.prog 7 #[bv W v, bv X u] w fun e w' => e = .returned (.bool true) ∧ Fr w w' := by
  have HA := Lib.hid alive
  have HN := Lib.hid (fun wx => normal_any W v v0 v1 wx)
  rw [h] at HN
  have HB := Lib.hid (fun wx => bin_bad1 10 W v X u v0 v1 h wx)
  obtain ⟨b1, b2⟩ := two_boxes w (.int .i64 W) (.int .u64 (hi v)) (.int .u64 (lo v)) (.int .i64 X) (.int .u64 (hi u)) (.int .u64 (lo u))
  have BA := Lib.hid b1
  have BB := Lib.hid b2
  have fd := field0
  clear b1 b2 h v0 v1 u0 u1
  go_enter Try.func7, Try.ntmps7
  go_wp2_with (first
    | (go_at_call 8; refine (HA.out _).mono ?_; rintro e w1 ⟨rfl, hf⟩; have HS1 := Lib.hid hf; obtain ⟨a0, a1, a2⟩ := (BA.out.fr HS1.out).three; obtain ⟨c0, c1, c2⟩ := (BB.out.fr HS1.out).three; clear hf)
    | (go_at_call 13; refine (HN.out _).mono ?_; rintro e w2 ⟨rfl, hf⟩; have HS2 := Lib.hid (HS1.out.call hf); obtain ⟨a3, a4, a5⟩ := (BA.out.fr HS2.out).three; obtain ⟨c3, c4, c5⟩ := (BB.out.fr HS2.out).three; clear hf)
    | (go_at_call 9; refine (HB.out _).mono ?_; rintro e w3 ⟨rfl, hf⟩; have HS3 := Lib.hid (HS2.out.call hf); clear hf))
  go_ret
  exact ⟨rfl, (((Fr.refl w).alloc _).alloc _).call HS3.out⟩
set_option maxHeartbeats 3200000 in
set_option maxRecDepth 10000 in
theorem div_bad2 (W v X u : Int) (h : Norm W v) (u0 : 0 ≤ u) (u1 : u < 340282366920938463463374607431768211456) (nb : Bool) (hnb : normB X u = nb) (hB : ∀ w : World, Calls Try.prog 9 #[.int .i64 10, bv W v, bv X u] w fun e w' => e = .returned (bv 0 0) ∧ Fr w w') (hne : nb = true → (W == X) = false) (w : World) :
    Calls Try.prog 7 #[bv W v, bv X u] w fun e w' => e = .returned (.bool true) ∧ Fr w w' := by
  have HA := Lib.hid alive
  have HN := Lib.hid (fun wx => normal_any W v h.2.2.1 h.lt128 wx)
  rw [norm_to h] at HN
  have HM := Lib.hid (fun wx => normal_any X u u0 u1 wx)
  rw [hnb] at HM
  have HB := Lib.hid hB
  obtain ⟨b1, b2⟩ := two_boxes w (.int .i64 W) (.int .u64 (hi v)) (.int .u64 (lo v)) (.int .i64 X) (.int .u64 (hi u)) (.int .u64 (lo u))
  have BA := Lib.hid b1
  have BB := Lib.hid b2
  have fd := field0
  clear b1 b2 h u0 u1 hnb hB
  cases nb
  case' true => have hwx := hne rfl
  all_goals
    clear hne
    go_enter Try.func7, Try.ntmps7
    go_wp2_with fail
    refine (HA.out _).mono ?_
    rintro e w1 ⟨rfl, hf⟩
    have HS1 := Lib.hid hf
    obtain ⟨a0, a1, a2⟩ := (BA.out.fr HS1.out).three
    obtain ⟨c0, c1, c2⟩ := (BB.out.fr HS1.out).three
    clear hf
    go_wp2_with fail
    refine (HN.out _).mono ?_
    rintro e w2 ⟨rfl, hf⟩
    have HS2 := Lib.hid (HS1.out.call hf)
    obtain ⟨a3, a4, a5⟩ := (BA.out.fr HS2.out).three
    obtain ⟨c3, c4, c5⟩ := (BB.out.fr HS2.out).three
    clear hf
    go_wp2_with fail
    refine (HM.out _).mono ?_
    rintro e w3 ⟨rfl, hf⟩
    have HS3 := Lib.hid (HS2.out.call hf)
    obtain ⟨a6, a7, a8⟩ := (BA.out.fr HS3.out).three
    obtain ⟨c6, c7, c8⟩ := (BB.out.fr HS3.out).three
    clear hf
    go_wp2_with fail
    refine (HB.out _).mono ?_
    rintro e w4 ⟨rfl, hf⟩
    have HS4 := Lib.hid (HS3.out.call hf)
    clear hf
    go_wp2
    go_ret
    exact ⟨rfl, (((Fr.refl w).alloc _).alloc _).call HS4.out⟩
end Go.Proofs.Ytfnoocpopfapmaa
