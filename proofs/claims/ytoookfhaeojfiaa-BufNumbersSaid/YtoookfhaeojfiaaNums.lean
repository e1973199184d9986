/- BufNumbers answers true for bytes that read as a list. -/
import Derived.Test.YtoookfhaeojfiaaBack2
import Derived.Test.YtoookfhaeojfiaaRput
import Derived.Test.YtoookfhaeojfiaaApp
import Derived.Test.YtoookfhaeojfiaaSame
namespace Go.Proofs.Ytoookfhaeojfiaa
open Go.RowKit

/-- What Get answers; what Put answers (nothing, where it lies outside); the error of both. -/
noncomputable def getG (l : List Int) (p n : Int) : Int := open Classical in if Lies l.length p n then leI ((l.drop p.toNat).take n.toNat) else 0
noncomputable def putL (l : List Int) (p n v : Int) : List Int := open Classical in if Lies l.length p n then putI l p.toNat n.toNat v else []
noncomputable def errE (l : List Int) (p n : Int) : Int := open Classical in if Lies l.length p n then 0 else 21
theorem lies_nat {m : Nat} {p n : Int} (h : Lies m p n) : ∃ a k : Nat, p = a ∧ n = k := by
  obtain ⟨a, rfl⟩ := Int.eq_ofNat_of_zero_le h.2.2.1
  obtain ⟨k, rfl⟩ := Int.eq_ofNat_of_zero_le (show 0 ≤ n by have := h.1; omega)
  exact ⟨a, k, rfl, rfl⟩
theorem putL_by {l : List Int} (hb : By l) (p n v : Int) : By (putL l p n v) := by
  unfold putL
  split
  · exact putI_by hb _ _ _
  · exact By.nil
theorem putL_len {l : List Int} (p n v : Int) : (putL l p n v).length ≤ l.length := by
  unfold putL
  split
  · rename_i h
    obtain ⟨a, k, rfl, rfl⟩ := lies_nat h
    rw [putI_length _ _ _ _ (by have := h.2.2.2; simp; omega)]; exact Nat.le_refl _
  · exact Nat.zero_le _
theorem get_any (A : Option Addr) (c : Nat) (p n : Int) (l : List Int) (hb : By l) (hm : l.length ≤ maxLen) (w : World) (hr : Rd u8v w A l) :
    Calls Try.prog 8 #[.slice A l.length c, .int .i64 p, .int .i64 n] w fun e w' => e = .returned (.tuple #[.int .u64 (getG l p n), .int .i64 (errE l p n)]) ∧ w = w' := by
  unfold getG errE
  by_cases h : Lies l.length p n
  · rw [if_pos h, if_pos h]
    obtain ⟨a, k, rfl, rfl⟩ := lies_nat h
    exact get_yes A c a k l hb hm h w hr
  · rw [if_neg h, if_neg h]; exact get_no A _ c p n hm h w
theorem rget_any (A : Option Addr) (c : Nat) (p n : Int) (l : List Int) (hb : By l) (hm : l.length ≤ maxLen) (w : World) (hr : Rd u8v w A l) :
    Calls Try.prog 9 #[.slice A l.length c, .int .i64 p, .int .i64 n] w fun e w' => e = .returned (.tuple #[.int .u64 (getG l p n), .int .i64 (errE l p n)]) ∧ w = w' := by
  unfold getG errE
  by_cases h : Lies l.length p n
  · rw [if_pos h, if_pos h]
    obtain ⟨a, k, rfl, rfl⟩ := lies_nat h
    exact rget_yes A c a k l hb hm h w hr
  · rw [if_neg h, if_neg h]; exact rget_no A _ c p n hm h w
/-- A slice of the answer's own memory, or nothing. -/
def Mine (w : World) (A : Option Addr) (L : List Int) (w' : World) : Prop := 0 < L.length → ∃ g M, A = some ⟨g, 0, none⟩ ∧ w.heap.size ≤ g ∧ M.length = L.length ∧ Blk w' g M
theorem put_any (A : Option Addr) (c : Nat) (p n v : Int) (l : List Int) (hm : l.length ≤ 140737488351232) (v0 : 0 ≤ v) (v1 : v < 18446744073709551616) (w : World) (hr : Rd u8v w A l) :
    Calls Try.prog 10 #[.slice A l.length c, .int .i64 p, .int .i64 n, .int .u64 v] w fun e w' => ∃ B d, e = .returned (.tuple #[.slice B (putL l p n v).length d, .int .i64 (errE l p n)]) ∧ Rd u8v w' B (putL l p n v) ∧ Mine w B (putL l p n v) w' ∧ Fr w w' := by
  unfold putL errE
  by_cases h : Lies l.length p n
  · rw [if_pos h, if_pos h]
    obtain ⟨a, k, rfl, rfl⟩ := lies_nat h
    refine (put_yes A c a k l v v0 v1 hm h w hr).mono ?_
    rintro e w' ⟨x, rfl, g, rfl, hg, hbl, hf⟩
    exact ⟨_, _, rfl, hbl.rd, fun _ => ⟨g, _, rfl, hg, rfl, hbl⟩, hf⟩
  · rw [if_neg h, if_neg h]
    refine (put_no A _ c p n v (by unfold maxLen; omega) h w).mono ?_
    rintro e w' ⟨rfl, rfl⟩
    exact ⟨none, 0, rfl, Rd.nil, fun h => absurd h (by simp), Fr.refl _⟩
theorem rput_any (A : Option Addr) (c : Nat) (p n v : Int) (l : List Int) (hm : l.length ≤ 140737488351232) (hlc : l.length ≤ c) (hcm : c ≤ maxLen) (v0 : 0 ≤ v) (v1 : v < 18446744073709551616) (w : World) (hr : Rd u8v w A l) :
    Calls Try.prog 11 #[.slice A l.length c, .int .i64 p, .int .i64 n, .int .u64 v] w fun e w' => ∃ B d, e = .returned (.tuple #[.slice B (putL l p n v).length d, .int .i64 (errE l p n)]) ∧ Rd u8v w' B (putL l p n v) ∧ Fr w w' := by
  unfold putL errE
  by_cases h : Lies l.length p n
  · rw [if_pos h, if_pos h]
    obtain ⟨a, k, rfl, rfl⟩ := lies_nat h
    refine (rput_yes A c a k l v v0 v1 hm hlc hcm h w hr).mono ?_
    rintro e w' ⟨x, rfl, hO, hf⟩
    obtain ⟨B, d, rfl, _, _, hrd⟩ := hO.val
    exact ⟨B, d, rfl, hrd, hf⟩
  · rw [if_neg h, if_neg h]
    refine (rput_no A _ c p n v (by unfold maxLen; omega) h w).mono ?_
    rintro e w' ⟨rfl, rfl⟩
    exact ⟨none, 0, rfl, Rd.nil, Fr.refl _⟩
theorem app_any (A : Option Addr) (c : Nat) (n v : Int) (l : List Int) (hm : l.length ≤ 140737488351232) (v0 : 0 ≤ v) (v1 : v < 18446744073709551616) (h1 : 1 ≤ n) (h8 : n ≤ 8) (w : World) (hr : Rd u8v w A l) :
    Calls Try.prog 13 #[.slice A l.length c, .int .i64 n, .int .u64 v] w fun e w' => ∃ g, e = .returned (.tuple #[.slice (some ⟨g, 0, none⟩) (l ++ litI n.toNat v).length (l ++ litI n.toNat v).length, .int .i64 0]) ∧ w.heap.size ≤ g ∧ Blk w' g (l ++ litI n.toNat v) ∧ Fr w w' := by
  obtain ⟨k, rfl⟩ := Int.eq_ofNat_of_zero_le (show 0 ≤ n by omega)
  refine (app_yes A c k l v v0 v1 hm (by omega) (by omega) w hr).mono ?_
  rintro e w' ⟨x, rfl, g, rfl, hg, hbl, hf⟩
  exact ⟨g, rfl, hg, hbl, hf⟩
set_option maxHeartbeats 3200000 in
set_option maxRecDepth 100000 in
theorem nums_bad (A : Option Addr) (c : Nat) (p n v : Int) (l : List Int) (hb : By l) (hm : l.length ≤ 140737488351232) (hlc : l.length ≤ c) (hcm : c ≤ maxLen) (v0 : 0 ≤ v) (v1 : v < 18446744073709551616) (hn : ¬ (1 ≤ n ∧ n ≤ 8)) (w : World) (hr : Rd u8v w A l) :
    Calls Try.prog 3 #[.slice A l.length c, .agg #[.int .i64 p, .int .i64 n], .int .u64 v] w fun e w' => e = .returned (.bool true) ∧ Fr w w' := by
  have hmm : l.length ≤ maxLen := by unfold maxLen; omega
  have hno : ¬ Lies l.length p n := fun h => hn ⟨h.1, h.2.1⟩
  have HA := Lib.hid alive
  have HR := Lib.hid hr
  have HG := Lib.hid (fun A c wx => get_no A l.length c p n hmm hno wx)
  have HG' := Lib.hid (fun wx => rget_no A l.length c p n hmm hno wx)
  have HP := Lib.hid (fun A c wx => put_no A l.length c p n v hmm hno wx)
  have HP' := Lib.hid (fun wx => rput_no A l.length c p n v hmm hno wx)
  have HS0 := Lib.hid (fun wx => same_any none none 0 0 [] [] By.nil By.nil wx Rd.nil Rd.nil)
  have HS := Lib.hid (fun A B c d wx ha hb' => same_any A B c d l l hb hb wx ha hb')
  have HAP := Lib.hid (fun A c wx => app_no A l.length c n v hn wx)
  have hcase : n < 1 ∨ 8 < n := by omega
  clear hr hno hb hn
  rcases hcase with hn | hn
  all_goals
    go_enter Try.func3, Try.ntmps3
    go_wp2_with (first
      | (go_at_call 7; refine (HA.out _).mono ?_; rintro e w1 ⟨rfl, hf1⟩; have HF1 := Lib.hid hf1; clear hf1)
      | (at_builtin; refine wpList_append_rd one_u8' _ rfl (.tmp 22) (.tmp 23) 22 rfl w1.heap.size 5 Try.underlying22 Try.info5 rfl (.slice (some ⟨w1.heap.size, 0, none⟩) 0 0) [] rfl (own_new w1) A l.length c l rfl rfl (((HR.out.alloc _).fr HF1.out).alloc _) ?_ ?_ ?_ ?_))
    · simp; unfold maxLen; omega
    · simp; omega
    · simp
    intro x2 w2 HGr
    have HF2 := Lib.hid (HGr.out.fr ((Fr.refl w1).alloc _) (Nat.le_refl _) (own_new w1).base_le)
    have hc0 : w2.cell? ⟨w.heap.size, 0, none⟩ = some (.int .i64 p) := HF2.out.get (HF1.out.get (pair_cells w _ _ _).1)
    have hc1 : w2.cell? ⟨w.heap.size, 1, none⟩ = some (.int .i64 n) := HF2.out.get (HF1.out.get (pair_cells w _ _ _).2)
    obtain ⟨A2, c2, rfl, h1, h2, hr2⟩ := HGr.out.own.val
    have HR2 := Lib.hid hr2
    have HRw := Lib.hid (((HR.out.alloc (.cells #[.int .i64 p, .int .i64 n] 23)).fr HF1.out).fr HF2.out)
    clear hr2 HGr
    go_wp2_with (first
      | (go_at_call 8; refine (HG.out _ _ _).mono ?_; rintro e wy ⟨rfl, rfl⟩)
      | (go_at_call 9; refine (HG'.out _).mono ?_; rintro e wy ⟨rfl, rfl⟩)
      | (go_at_call 10; refine (HP.out _ _ _).mono ?_; rintro e wy ⟨rfl, rfl⟩)
      | (go_at_call 11; refine (HP'.out _).mono ?_; rintro e wy ⟨rfl, rfl⟩)
      | (go_at_call_of 12 (Value.slice none 0 0); refine (HS0.out _).mono ?_; rintro e wy ⟨rfl, rfl⟩)
      | (go_at_call 12; refine (HS.out _ _ _ _ _ HR2.out HRw.out).mono ?_; rintro e wy ⟨rfl, rfl⟩)
      | (go_at_call 13; refine (HAP.out _ _ _).mono ?_; rintro e wy ⟨rfl, rfl⟩))
    go_ret
    exact ⟨ret_bool (by simp), (((Fr.refl w).alloc _).call HF1.out).call HF2.out⟩
end Go.Proofs.Ytoookfhaeojfiaa
