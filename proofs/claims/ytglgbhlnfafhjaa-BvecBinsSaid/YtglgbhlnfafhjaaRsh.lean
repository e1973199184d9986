/- The document's shift. -/
import Derived.Test.YtglgbhlnfafhjaaRmul
import Derived.Deep.RegionWith
import Derived.StillTailTactics
namespace Go.Proofs.Ytglgbhlnfafhjaa
open Go.RowKit

theorem shl_row (k n : Nat) (x : Int) : bitsI n (fillI (k + n) (joinI k 0 x) false) = bitsI n (x * 2 ^ k) := bitsI_congr (moved_row k n x)
set_option maxHeartbeats 6400000 in
set_option maxRecDepth 10000 in
theorem rshl_any (A : Option Addr) (n c k : Nat) (x : Int) (hn : n ≤ 128) (hk : k ≤ n) (w : World) (ha : Rd bolv w A (bitsI n x)) :
    Calls Try.prog 23 #[.int .i64 7, .slice A n c, .int .i64 (k : Int)] w fun e w' => AnsR w n (x * 2 ^ k) e w' := by
  have HA := Lib.hid ha
  have H0 := Lib.hid (fun wx => noughts_b k (by omega) wx)
  have HC := Lib.hid (fun A c wx hr => rcut_b A (k + n) c n (joinI k 0 x) false (by omega) (by omega) wx hr)
  clear ha
  go_enter Try.func23, Try.ntmps23
  go_wp2_with (first
    | (go_at_call_of 49 (Value.int IntKind.i64 (k : Int))
       refine (H0.out _).mono ?_
       rintro e w3 ⟨A3, c3, rfl, ho, hr, hl3, hm3, hf⟩
       have HO3 := Lib.hid ho
       have HF3 := Lib.hid hf
       clear ho hr hf)
    | (at_builtin; refine wpList_append_rd one_bool _ rfl (.tmp 17) (.tmp 18) 41 rfl w.heap.size 4 Try.underlying41 Try.infob rfl _ (bitsI k 0) rfl (by first | exact HO3.out | (rw [bitsI_length]; exact HO3.out)) A n c (bitsI n x) rfl (bitsI_length _ _) (HA.out.fr HF3.out) (by rw [bitsI_length]; unfold maxLen; omega) (by rw [bitsI_length]; omega) HF3.out.size ?_
       intro x4 w4 HG
       obtain ⟨A4, c4, rfl, hl4, hm4, hr4⟩ := HG.out.own.val
       rw [bitsI_append] at hr4
       have HR4 := Lib.hid hr4
       have HF4 := Lib.hid (HG.out.fr HF3.out (Nat.le_refl _) HO3.out.base_le)
       rw [List.length_append, bitsI_length, bitsI_length] at hl4 ⊢
       clear HG hr4)
    | (go_at_call_of 49 A4
       refine (HC.out _ _ _ HR4.out).mono ?_
       rintro e w5 ⟨A5, c5, rfl, ho, hr, hl5, hm5, hf⟩
       have HR5 := Lib.hid hr
       have HF5 := Lib.hid (HF4.out.call hf)
       clear ho hr hf))
  go_ret
  exact ⟨A5, c5, rfl, by rw [← shl_row]; exact HR5.out, hl5, hm5, HF5.out⟩
set_option maxHeartbeats 6400000 in
set_option maxRecDepth 10000 in
theorem rshr_any (A : Option Addr) (n c k : Nat) (x : Int) (hn : n ≤ 128) (hk : k ≤ n) (hc : n ≤ c) (w : World) (ha : Rd bolv w A (bitsI n x)) :
    Calls Try.prog 23 #[.int .i64 8, .slice A n c, .int .i64 (k : Int)] w fun e w' => AnsR w n (fillI (n - k) (x / 2 ^ k) false) e w' := by
  have HA := Lib.hid ha
  have hrx := ha.rest k (by rw [bitsI_length]; omega) (B := if c = k then A else A.map (·.add k)) (fun h => by rw [bitsI_length] at h; rw [if_neg (by omega)])
  have HC := Lib.hid (fun B d wx hr => rcut_b B (n - k) d n (x / 2 ^ k) false (by omega) (by omega) wx hr)
  rw [bitsI_drop] at hrx
  have HX := Lib.hid hrx
  clear ha hrx
  go_enter Try.func23, Try.ntmps23
  go_wp2
  go_still_tail 10, (by kernel_rfl)
  change wpList _ _ _ _ _ w.drew
  go_wp2_with (first
    | (go_at_call 49
       refine (HC.out _ _ _ HX.out.drew).mono ?_
       rintro e w5 ⟨A5, c5, rfl, ho, hr, hl5, hm5, hf⟩
       have HR5 := Lib.hid hr
       have HF5 := Lib.hid ((Fr.refl w).drew.call hf)
       clear ho hr hf))
  all_goals
    go_ret
    exact ⟨A5, c5, rfl, HR5.out, hl5, hm5, HF5.out⟩
set_option maxHeartbeats 6400000 in
set_option maxRecDepth 10000 in
theorem rsar_any (A : Option Addr) (n c k : Nat) (x : Int) (h1 : 1 ≤ n) (hn : n ≤ 128) (hk : k ≤ n) (hc : n ≤ c) (w : World) (ha : Rd bolv w A (bitsI n x)) :
    Calls Try.prog 23 #[.int .i64 9, .slice A n c, .int .i64 (k : Int)] w fun e w' => AnsR w n (fillI (n - k) (x / 2 ^ k) (bitI x (n - 1))) e w' := by
  have HA := Lib.hid ha
  have hrx := ha.rest k (by rw [bitsI_length]; omega) (B := if c = k then A else A.map (·.add k)) (fun h => by rw [bitsI_length] at h; rw [if_neg (by omega)])
  have HS := Lib.hid (fun wx hr => sign_any A n c x (by omega) (by omega) wx hr)
  have HC := Lib.hid (fun B d wx hr => rcut_b B (n - k) d n (x / 2 ^ k) (bitI x (n - 1)) (by omega) (by omega) wx hr)
  rw [bitsI_drop] at hrx
  have HX := Lib.hid hrx
  generalize bitI x (n - 1) = sb at *
  clear ha hrx
  go_enter Try.func23, Try.ntmps23
  go_wp2
  go_still_tail 10, (by kernel_rfl)
  still_call (show Calls Try.prog 31 #[.slice A n c] w.drew (fun e w'' => e = .returned (.bool sb) ∧ w'' = w.drew) from (HS.out _ HA.out.drew).mono fun _ _ h => ⟨h.1, h.2.symm⟩)
  repeat still_step
  refine wpStill_nil ?_
  change wpList _ _ _ _ _ w.drew
  go_wp2_with (first
    | (go_at_call 49
       refine (HC.out _ _ _ HX.out.drew).mono ?_
       rintro e w5 ⟨A5, c5, rfl, ho, hr, hl5, hm5, hf⟩
       have HR5 := Lib.hid hr
       have HF5 := Lib.hid ((Fr.refl w).drew.call hf)
       clear ho hr hf))
  all_goals
    go_ret
    exact ⟨A5, c5, rfl, HR5.out, hl5, hm5, HF5.out⟩
end Go.Proofs.Ytglgbhlnfafhjaa
