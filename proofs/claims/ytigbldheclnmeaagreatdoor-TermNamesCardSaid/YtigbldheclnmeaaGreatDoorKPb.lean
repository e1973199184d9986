/- The document's Number. -/
import Derived.Test.YtigbldheclnmeaaGreatDoorKSq
namespace Go.Proofs.YtigbldheclnmeaaGreatDoor
open Go.RowKit
set_option linter.unusedSimpArgs false
set_option linter.unusedVariables false

theorem digL_app (l m : List UInt8) : ∀ a : Int, digL a (l ++ m) = (digL a l).bind fun v => digL v m := by
  induction l with
  | nil => intro a; rfl
  | cons c r ih =>
    intro a
    rw [List.cons_append, digL_cons, digL_cons]
    by_cases h : 48 ≤ c.toNat ∧ c.toNat ≤ 57
    · rw [if_pos h, if_pos h, ih]
    · rw [if_neg h, if_neg h]; rfl
def numE : Option Int → Ending
  | some n => .returned (.tuple #[.int .i64 n, .bool true])
  | none => .returned (.tuple #[.int .i64 0, .bool false])
def RelN (d : ByteArray) (n i : Value) : Prop := ∃ (k : Nat) (v : Int), k ≤ d.size ∧ i = .int .i64 (k : Int) ∧ n = .int .i64 v ∧ digL 0 (d.data.toList.take k) = some v
theorem take_at (d : ByteArray) (k : Nat) (h : k < d.size) : d.data.toList.take (k + 1) = d.data.toList.take k ++ [d[k]] := by
  have h2 : k < d.data.toList.length := by simpa using h
  rw [List.take_succ_eq_append_getElem h2]; rfl
theorem digL_next (d : ByteArray) (k : Nat) (v : Int) (h : k < d.size) (hv : digL 0 (d.data.toList.take k) = some v) (h1 : 48 ≤ (d[k].toNat : Int)) (h2 : (d[k].toNat : Int) ≤ 57) : digL 0 (d.data.toList.take (k + 1)) = some (v * 10 + ((d[k].toNat : Int) - 48)) := by
  rw [take_at d k h, digL_snoc, hv]
  simp only [Option.bind_some]
  rw [if_pos (by omega)]
theorem digL_bad (d : ByteArray) (k : Nat) (v : Int) (h : k < d.size) (hv : digL 0 (d.data.toList.take k) = some v) (h1 : ¬ (48 ≤ (d[k].toNat : Int) ∧ (d[k].toNat : Int) ≤ 57)) : digL 0 d.data.toList = none := by
  rw [← List.take_append_drop k d.data.toList, digL_app, hv]
  simp only [Option.bind_some]
  rw [drop_at d k h, digL_cons, if_neg (by omega)]
theorem digL_small {d : ByteArray} {k : Nat} {v : Int} (hk : k ≤ d.size) (h : k ≤ 17) (hv : digL 0 (d.data.toList.take k) = some v) : 0 ≤ v ∧ v < 100000000000000000 := by
  refine ⟨digL_some hv, Int.lt_of_lt_of_le (digL_lt hv) ?_⟩
  have hl : (d.data.toList.take k).length ≤ 17 := by simp; omega
  have : (10 : Nat) ^ (d.data.toList.take k).length ≤ 10 ^ 17 := Nat.pow_le_pow_right (by decide) hl
  have h2 : ((10 ^ (d.data.toList.take k).length : Nat) : Int) ≤ ((10 ^ 17 : Nat) : Int) := by exact_mod_cast this
  rw [Int.natCast_pow] at h2
  exact h2
theorem digL_less {d : ByteArray} {v : Int} (h : d.size ≤ 18) (hv : digL 0 d.data.toList = some v) : 0 ≤ v ∧ v < 1000000000000000000 := by
  refine ⟨digL_some hv, Int.lt_of_lt_of_le (digL_lt hv) ?_⟩
  have hl : d.data.toList.length ≤ 18 := by simp; omega
  have : (10 : Nat) ^ d.data.toList.length ≤ 10 ^ 18 := Nat.pow_le_pow_right (by decide) hl
  have h2 : ((10 ^ d.data.toList.length : Nat) : Int) ≤ ((10 ^ 18 : Nat) : Int) := by exact_mod_cast this
  rw [Int.natCast_pow] at h2
  exact h2
theorem list_at0 (d : ByteArray) (h : 0 < d.size) : d.data.toList = d[0] :: d.data.toList.drop 1 := by
  have := drop_at d 0 h
  simpa using this
theorem magL_none {d : ByteArray} {neg : Bool} (h : d.size = 0 ∨ 18 < d.size) : magL neg d.data.toList = none := by
  rcases Nat.eq_zero_or_pos d.size with h0 | h0
  · have : d.data.toList = [] := List.eq_nil_of_length_eq_zero (by simpa using h0)
    rw [this]; rfl
  · have hl : d.data.toList.length = d.size := by simp
    rw [list_at0 d h0] at hl ⊢
    unfold magL
    simp only
    rw [if_pos (.inl (by omega))]
theorem magL_zero {d : ByteArray} {neg : Bool} (h : 0 < d.size) (h48 : (d[0].toNat : Int) = 48) (hn : neg = true ∨ 1 < d.size) : magL neg d.data.toList = none := by
  have hl : d.data.toList.length = d.size := by simp
  rw [list_at0 d h] at hl ⊢
  have hc : neg = true ∨ d.data.toList.drop 1 ≠ [] := by
    rcases hn with hn | hn
    · exact .inl hn
    · refine .inr fun e => ?_
      rw [e] at hl; simp at hl; omega
  unfold magL
  simp only
  rw [if_pos (.inr ⟨by omega, hc⟩)]
theorem magL_dig {d : ByteArray} {neg : Bool} (h : 0 < d.size) (h18 : d.size ≤ 18) (hz : ¬ ((d[0].toNat : Int) = 48 ∧ (neg = true ∨ 1 < d.size))) : magL neg d.data.toList = (digL 0 d.data.toList).map (fun n => if neg then -n else n) := by
  have hl : d.data.toList.length = d.size := by simp
  rw [list_at0 d h] at hl ⊢
  rw [magL]
  rw [if_neg]
  rintro (k | ⟨k1, k2⟩)
  · omega
  · refine hz ⟨by omega, ?_⟩
    rcases k2 with k2 | k2
    · exact .inl k2
    · rcases Nat.lt_or_ge 1 d.size with k3 | k3
      · exact .inr k3
      · exact absurd (List.eq_nil_of_length_eq_zero (by simp at hl ⊢; omega)) k2
theorem numL_neg {s : ByteArray} (h : 0 < s.size) (h45 : (s[0].toNat : Int) = 45) : numL s.data.toList = magL true (s.data.toList.drop 1) := by
  rw [list_at0 s h, numL, if_pos (by omega)]; simp
theorem numL_pos {s : ByteArray} (h : 0 < s.size) (h45 : ¬ (s[0].toNat : Int) = 45) : numL s.data.toList = magL false s.data.toList := by
  conv => lhs; rw [list_at0 s h, numL, if_neg (by omega), ← list_at0 s h]
set_option maxHeartbeats 3200000 in
set_option maxRecDepth 100000 in
theorem number_pos (s : ByteArray) (w : World) (hs : s.size ≤ 281474976710656) (h0 : 0 < s.size) (h45 : ¬ (s[0].toNat : Int) = 45) :
    Calls Tryz.prog 231 #[.string s] w fun e w' => e = numE (numL s.data.toList) ∧ w = w' := by
  have HN := Lib.hid (numL_pos h0 h45)
  have hb : ((s[0].toNat : Int) == 45) = false := by simp; omega
  clear h45
  have hdp : 0 < s.size := h0
  have hd1 : decide ((s.size : Int) < 1) = false := by simp; omega
  by_cases h18 : 18 < s.size
  · have hd2 : decide ((18 : Int) < (s.size : Int)) = true := by simp; omega
    have HQ := Lib.hid (show numL s.data.toList = none from HN.out.trans (magL_none (.inr h18)))
    go_enter Tryz.func231, Tryz.ntmps231
    go_wp2
    go_ret2
    exact ⟨by rw [HQ.out]; rfl, rfl⟩
  have hd2 : decide ((18 : Int) < (s.size : Int)) = false := by simp; omega
  by_cases hz : (s[0].toNat : Int) = 48 ∧ (false = true ∨ 1 < s.size)
  · have hz1 : ((s[0].toNat : Int) == 48) = true := by rw [hz.1]; rfl
    have hz2 : decide ((1 : Int) < (s.size : Int)) = true := by rw [decide_eq_true_eq]; have := hz.2; simp at this; omega
    have HQ := Lib.hid (show numL s.data.toList = none from HN.out.trans (magL_zero hdp hz.1 hz.2))
    clear hz
    go_enter Tryz.func231, Tryz.ntmps231
    go_wp2
    go_ret2
    exact ⟨by rw [HQ.out]; rfl, rfl⟩
  have HG := Lib.hid (show numL s.data.toList = (digL 0 s.data.toList).map (fun n => if false then -n else n) from HN.out.trans (magL_dig hdp (by omega) hz))
  have hzz : ((s[0].toNat : Int) == 48) = false ∨ (((s[0].toNat : Int) == 48) = true ∧ decide ((1 : Int) < (s.size : Int)) = false) := by
    by_cases k : (s[0].toNat : Int) = 48
    · refine .inr ⟨by rw [k]; rfl, ?_⟩
      rw [decide_eq_false_iff_not]
      intro k2
      exact hz ⟨k, .inr (by omega)⟩
    · exact .inl (by simpa using k)
  clear hz
  have h18' : s.size ≤ 18 := by omega
  have h18i : (s.size : Int) ≤ 18 := by omega
  rcases hzz with hzz | ⟨hzz, hz2⟩
  all_goals
    go_enter Tryz.func231, Tryz.ntmps231
    go_wp2
    go_loop [5, 6] (fun n i => RelN s n i) (fun _ i => s.size - (intOf i).toNat)
    case atStart => exact ⟨0, 0, Nat.zero_le _, rfl, rfl, rfl⟩
    case round =>
      obtain ⟨k, v, hk, rfl, rfl, hv⟩ := hrel
      by_cases hlt2 : k < s.size
      · have hb1 := digL_small hk (by omega) hv
        obtain ⟨hv0, hv1⟩ := hb1
        have HNX := Lib.hid (digL_next s k v hlt2 hv)
        have HBD := Lib.hid (digL_bad s k v hlt2 hv)
        have hc8 := s[k].toNat_lt
        clear hv
        go_wp2
        · go_ret2
          exact ⟨by rw [HG.out, HBD.out (by omega)]; rfl, rfl⟩
        · go_round
          case rel => exact ⟨k + 1, v * 10 + ((s[k].toNat : Int) - 48), by omega, by go_num, by go_num, HNX.out (by omega) (by omega)⟩
          case measure => simp [intOf]; omega
        · go_ret2
          exact ⟨by rw [HG.out, HBD.out (by omega)]; rfl, rfl⟩
      · obtain rfl : k = s.size := by omega
        rw [List.take_of_length_le (by simp)] at hv
        have hb1 := digL_less h18' hv
        obtain ⟨hv0, hv1⟩ := hb1
        have HV := Lib.hid hv
        clear hv
        go_wp2
        go_ret2
        exact ⟨by rw [HG.out, HV.out]; rfl, rfl⟩
set_option maxHeartbeats 3200000 in
set_option maxRecDepth 100000 in
theorem number_neg (s d : ByteArray) (w : World) (hs : s.size ≤ 281474976710656) (h0 : 0 < s.size) (h45 : (s[0].toNat : Int) = 45) (hx : s.extract 1 s.size = d) :
    Calls Tryz.prog 231 #[.string s] w fun e w' => e = numE (numL s.data.toList) ∧ w = w' := by
  have hds : d.size = s.size - 1 := by rw [← hx]; simp
  have hdl : s.data.toList.drop 1 = d.data.toList := by rw [← hx]; simp [List.take_of_length_le]
  have HN := Lib.hid (show numL s.data.toList = magL true d.data.toList from by rw [numL_neg h0 h45, hdl])
  have hx2 : s.extract 1 (s.size) = d := hx
  have hb : ((s[0].toNat : Int) == 45) = true := by rw [h45]; rfl
  have hlt : decide (d.size < s.size) = true := by rw [decide_eq_true_eq]; omega
  have HDS := Lib.hid hds
  clear h45 hdl hds
  by_cases hd0 : d.size = 0
  · have hd1 : decide ((d.size : Int) < 1) = true := by simp; omega
    have hd2 : (d.size : Int) < 1 := by omega
    have HD0 := Lib.hid hd0
    clear hd0
    have HQ := Lib.hid (show numL s.data.toList = none from HN.out.trans (magL_none (.inl HD0.out)))
    go_enter Tryz.func231, Tryz.ntmps231
    go_wp2
    go_ret2
    exact ⟨by rw [HQ.out]; rfl, rfl⟩
  have hdp : 0 < d.size := by omega
  have hd1 : decide ((d.size : Int) < 1) = false := by simp; omega
  by_cases h18 : 18 < d.size
  · have hd2 : decide ((18 : Int) < (d.size : Int)) = true := by simp; omega
    have HQ := Lib.hid (show numL s.data.toList = none from HN.out.trans (magL_none (.inr h18)))
    go_enter Tryz.func231, Tryz.ntmps231
    go_wp2
    go_ret2
    exact ⟨by rw [HQ.out]; rfl, rfl⟩
  have hd2 : decide ((18 : Int) < (d.size : Int)) = false := by simp; omega
  by_cases hz : (d[0].toNat : Int) = 48 ∧ (true = true ∨ 1 < d.size)
  · have hz1 : ((d[0].toNat : Int) == 48) = true := by rw [hz.1]; rfl
    have hz2 : decide ((1 : Int) < (s.size : Int)) = true := by rw [decide_eq_true_eq]; have := HDS.out; omega
    have HQ := Lib.hid (show numL s.data.toList = none from HN.out.trans (magL_zero hdp hz.1 hz.2))
    clear hz
    go_enter Tryz.func231, Tryz.ntmps231
    go_wp2
    go_ret2
    exact ⟨by rw [HQ.out]; rfl, rfl⟩
  have HG := Lib.hid (show numL s.data.toList = (digL 0 d.data.toList).map (fun n => if true then -n else n) from HN.out.trans (magL_dig hdp (by omega) hz))
  have hzz : ((d[0].toNat : Int) == 48) = false ∨ (((d[0].toNat : Int) == 48) = true ∧ decide ((1 : Int) < (s.size : Int)) = false) := by
    by_cases k : (d[0].toNat : Int) = 48
    · refine .inr ⟨by rw [k]; rfl, ?_⟩
      rw [decide_eq_false_iff_not]
      intro k2
      exact hz ⟨k, .inl rfl⟩
    · exact .inl (by simpa using k)
  clear hz
  have h18' : d.size ≤ 18 := by omega
  have h18i : (d.size : Int) ≤ 18 := by omega
  rcases hzz with hzz | ⟨hzz, hz2⟩
  all_goals
    go_enter Tryz.func231, Tryz.ntmps231
    go_wp2
    go_loop [5, 6] (fun n i => RelN d n i) (fun _ i => d.size - (intOf i).toNat)
    case atStart => exact ⟨0, 0, Nat.zero_le _, rfl, rfl, rfl⟩
    case round =>
      obtain ⟨k, v, hk, rfl, rfl, hv⟩ := hrel
      by_cases hlt2 : k < d.size
      · have hb1 := digL_small hk (by omega) hv
        obtain ⟨hv0, hv1⟩ := hb1
        have HNX := Lib.hid (digL_next d k v hlt2 hv)
        have HBD := Lib.hid (digL_bad d k v hlt2 hv)
        have hc8 := d[k].toNat_lt
        clear hv
        go_wp2
        · go_ret2
          exact ⟨by rw [HG.out, HBD.out (by omega)]; rfl, rfl⟩
        · go_round
          case rel => exact ⟨k + 1, v * 10 + ((d[k].toNat : Int) - 48), by omega, by go_num, by go_num, HNX.out (by omega) (by omega)⟩
          case measure => simp [intOf]; omega
        · go_ret2
          exact ⟨by rw [HG.out, HBD.out (by omega)]; rfl, rfl⟩
      · obtain rfl : k = d.size := by omega
        rw [List.take_of_length_le (by simp)] at hv
        have hb1 := digL_less h18' hv
        obtain ⟨hv0, hv1⟩ := hb1
        have HV := Lib.hid hv
        clear hv
        go_wp2
        go_ret2
        exact ⟨by rw [HG.out, HV.out]; rfl, rfl⟩
theorem number_any (s : ByteArray) (w : World) (hs : s.size ≤ 281474976710656) (h0 : 0 < s.size) :
    Calls Tryz.prog 231 #[.string s] w fun e w' => e = numE (numL s.data.toList) ∧ w = w' := by
  by_cases h45 : (s[0].toNat : Int) = 45
  · exact number_neg s _ w hs h0 h45 rfl
  · exact number_pos s w hs h0 h45
end Go.Proofs.YtigbldheclnmeaaGreatDoor
