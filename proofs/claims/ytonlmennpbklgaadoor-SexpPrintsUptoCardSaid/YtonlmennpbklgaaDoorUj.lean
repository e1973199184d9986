/- The document's digits. The document's text of a tree. The document's Print, whatever the trees. -/
import Derived.Test.YtonlmennpbklgaaDoorUg
import Derived.IntWalk
import Derived.Laws.BytesArg
import Derived.Deep.RegionWith
namespace Go.Proofs.YtonlmennpbklgaaDoor
open Go.RowKit
set_option linter.unusedSimpArgs false
set_option linter.unusedVariables false

theorem conv_one (w : World) (g : Nat) (m : Int) (h : w.cell? ⟨g, 0, none⟩ = some (.int .u8 m)) : (convert 54 9 (.slice (some ⟨g, 0, none⟩) 1 1)).run Tryd.prog w = .ok (.string ⟨#[UInt8.ofNat m.toNat]⟩) w :=
  run_convert_bytes_arg w 54 5 Tryd.underlying54 Tryd.underlying5 g 0 1 1 [m] rfl (fun i hi => by
    obtain rfl : i = 0 := by omega
    exact h) 9 Tryd.underlying9
theorem wrap64 {n : Int} (h : -9223372036854775808 ≤ n ∧ n ≤ 9223372036854775807) : IntKind.i64.wrap n = n := by
  unfold IntKind.wrap; simp [IntKind.signed, IntKind.bits]; omega
theorem wrap8 {n : Int} (h : 0 ≤ n ∧ n ≤ 255) : IntKind.u8.wrap n = n := by
  unfold IntKind.wrap; simp [IntKind.signed, IntKind.bits]; omega
theorem dec_more (u : Nat) (h : 10 ≤ u) : Lib.decDigits u = Lib.decDigits (u / 10) ++ [UInt8.ofNat (48 + u % 10)] := by
  conv => lhs; unfold Lib.decDigits
  rw [dif_neg (by omega)]
theorem dec_one (u : Nat) (h : u < 10) : Lib.decDigits u = [UInt8.ofNat (48 + u)] := by
  unfold Lib.decDigits
  rw [dif_pos h]
theorem neg_parts {n : Int} (h : n ≤ -10) : n.tdiv 10 = -((n.natAbs / 10 : Nat) : Int) ∧ n.tmod 10 = -((n.natAbs % 10 : Nat) : Int) := by
  obtain ⟨u, rfl⟩ : ∃ u : Nat, n = -(u : Int) := ⟨n.natAbs, by omega⟩
  rw [Int.neg_tdiv, Int.neg_tmod, Int.natAbs_neg, Int.natAbs_natCast]
  exact ⟨rfl, rfl⟩
theorem pos_parts {n : Int} (h : 0 ≤ n) : n.tdiv 10 = ((n.toNat / 10 : Nat) : Int) ∧ n.tmod 10 = ((n.toNat % 10 : Nat) : Int) := by
  obtain ⟨u, rfl⟩ : ∃ u : Nat, n = (u : Int) := ⟨n.toNat, by omega⟩
  exact ⟨rfl, rfl⟩
theorem itoa_more_neg {n : Int} (h : n ≤ -10) : Lib.itoa n = Lib.itoa (n.tdiv 10) ++ [UInt8.ofNat (48 - n.tmod 10).toNat] := by
  obtain ⟨h1, h2⟩ := neg_parts h
  have h3 : 1 ≤ n.natAbs / 10 := by omega
  unfold Lib.itoa
  rw [if_pos (by omega), if_pos (by omega), dec_more _ (by omega), h1, h2]
  simp only [Int.natAbs_neg, Int.natAbs_natCast, List.cons_append]
  congr 3
  have : (48 - -((n.natAbs % 10 : Nat) : Int)).toNat = 48 + n.natAbs % 10 := by omega
  rw [this]
theorem itoa_more_pos {n : Int} (h : 10 ≤ n) : Lib.itoa n = Lib.itoa (n.tdiv 10) ++ [UInt8.ofNat (48 + n.tmod 10).toNat] := by
  obtain ⟨h1, h2⟩ := pos_parts (n := n) (by omega)
  unfold Lib.itoa
  rw [if_neg (by omega), if_neg (by omega), dec_more _ (by omega), h1, h2]
  have e1 : ((n.toNat / 10 : Nat) : Int).toNat = n.toNat / 10 := by omega
  have e2 : (48 + ((n.toNat % 10 : Nat) : Int)).toNat = 48 + n.toNat % 10 := by omega
  rw [e1, e2]
theorem itoa_one_neg {n : Int} (h : -10 < n) (h0 : n < 0) : Lib.itoa n = [45, UInt8.ofNat (48 - n).toNat] := by
  unfold Lib.itoa
  rw [if_pos h0, dec_one _ (by omega)]
  have : (48 - n).toNat = 48 + n.natAbs := by omega
  rw [this]
theorem itoa_one_pos {n : Int} (h : n ≤ 9) (h0 : 0 ≤ n) : Lib.itoa n = [UInt8.ofNat (48 + n).toNat] := by
  unfold Lib.itoa
  rw [if_neg (by omega), dec_one _ (by omega)]
  have : (48 + n).toNat = 48 + n.toNat := by omega
  rw [this]
theorem app_one {l : List UInt8} {c : UInt8} : ((⟨l.toArray⟩ : ByteArray) ++ ⟨#[c]⟩) = ⟨(l ++ [c]).toArray⟩ := by
  apply ByteArray.ext; simp [ByteArray.data_append]
theorem itoa_len {n : Int} (h : okN n) : (Lib.itoa n).length ≤ 20 := by
  unfold okN at h
  unfold Lib.itoa
  split
  · have := dec_len (u := n.natAbs) (by omega); simp; omega
  · have := dec_len (u := n.toNat) (by omega); omega
def DigC (N : Nat) : Prop := ∀ (n : Int) (w : World), n.natAbs < N → okN n → Calls Tryd.prog 31 #[.int .i64 n] w fun e w' => e = .returned (.string ⟨(Lib.itoa n).toArray⟩) ∧ Fr w w'
set_option maxHeartbeats 3200000 in
set_option maxRecDepth 100000 in
theorem dig_step (N : Nat) (ih : DigC N) : DigC (N + 1) := by
  intro n w hN hn
  unfold okN at hn
  obtain ⟨hn1, hn2⟩ := hn
  have kc := fun (w : World) (m : Int) => conv_one (w.alloc (.cells #[.int .u8 m] 5)) w.heap.size m (by simp [go_sem])
  have kd := fun (w : World) (m : Int) => conv_one (w.alloc (.cells #[.int .u8 m] 5)).drew w.heap.size m (by simp [go_sem])
  by_cases hneg : n < 0
  · have b1 : decide (n < 0) = true := decide_eq_true hneg
    by_cases hs : -10 < n
    · have b2 : decide (-10 < n) = true := decide_eq_true hs
      have HE := Lib.hid (show (⟨#[45]⟩ ++ ⟨#[UInt8.ofNat (48 - n).toNat]⟩ : ByteArray) = ⟨(Lib.itoa n).toArray⟩ from by rw [itoa_one_neg hs hneg]; rfl)
      go_enter Tryd.func31, Tryd.ntmps31
      go_wp2_with fail
      go_ret
      exact ⟨ret_eq (congrArg Value.string HE.out), (Fr.refl w).alloc _⟩
    · have b2 : decide (-10 < n) = false := decide_eq_false hs
      obtain ⟨p1, p2⟩ := neg_parts (n := n) (by omega)
      have HI := Lib.hid (fun w => ih (n.tdiv 10) w (by omega) (by unfold okN; omega))
      have HW1 := Lib.hid (wrap64 (n := n.tdiv 10) (by omega))
      have HW2 := wrap64 (n := 48 - n.tmod 10) (by omega)
      have HW3 := wrap8 (n := 48 - n.tmod 10) (by omega)
      have HE := Lib.hid (show (⟨(Lib.itoa (n.tdiv 10)).toArray⟩ ++ ⟨#[UInt8.ofNat (48 - n.tmod 10).toNat]⟩ : ByteArray) = ⟨(Lib.itoa n).toArray⟩ from by rw [app_one, itoa_more_neg (n := n) (by omega)])
      have hlen := itoa_len (n := n.tdiv 10) (by unfold okN; omega)
      have hq2 : ((⟨(Lib.itoa (n.tdiv 10)).toArray⟩ : ByteArray).size : Int) ≤ 8388608 := by show (((Lib.itoa (n.tdiv 10)).toArray.size : Nat) : Int) ≤ _; simp; omega
      generalize (⟨(Lib.itoa (n.tdiv 10)).toArray⟩ : ByteArray) = Q at *
      have hq3 : ((⟨#[UInt8.ofNat (48 - n.tmod 10).toNat]⟩ : ByteArray).size : Int) ≤ 8388608 := by show ((1 : Nat) : Int) ≤ _; decide
      clear p1 p2 ih hlen
      go_enter Tryd.func31, Tryd.ntmps31
      go_wp2_with fail
      go_region_with (first | (go_at_call 31; rw [HW1.out]; refine (HI.out _).mono ?_; rintro e x1 ⟨rfl, hf⟩; have HX1 := Lib.hid hf; have hc := fun h => conv_one x1 w.heap.size (48 - n.tmod 10) (hf.get (b := w.heap.size) (o := 0) (v := .int .u8 (48 - n.tmod 10)) h); (try simp [go_sem, *] at hc); clear hf))
      all_goals
        go_wp2
        go_ret
        exact ⟨ret_eq (congrArg Value.string HE.out), by repeat (first | with_reducible exact Fr.refl _ | with_reducible apply Fr.drew | with_reducible apply Fr.alloc | (with_reducible refine Fr.call ?_ HX1.out))⟩
  · have b1 : decide (n < 0) = false := decide_eq_false hneg
    by_cases hs : 9 < n
    · have b2 : decide (9 < n) = true := decide_eq_true hs
      obtain ⟨p1, p2⟩ := pos_parts (n := n) (by omega)
      have HI := Lib.hid (fun w => ih (n.tdiv 10) w (by omega) (by unfold okN; omega))
      have HW1 := Lib.hid (wrap64 (n := n.tdiv 10) (by omega))
      have HW2 := wrap64 (n := 48 + n.tmod 10) (by omega)
      have HW3 := wrap8 (n := 48 + n.tmod 10) (by omega)
      have HE := Lib.hid (show (⟨(Lib.itoa (n.tdiv 10)).toArray⟩ ++ ⟨#[UInt8.ofNat (48 + n.tmod 10).toNat]⟩ : ByteArray) = ⟨(Lib.itoa n).toArray⟩ from by rw [app_one, itoa_more_pos (n := n) (by omega)])
      have hlen := itoa_len (n := n.tdiv 10) (by unfold okN; omega)
      have hq2 : ((⟨(Lib.itoa (n.tdiv 10)).toArray⟩ : ByteArray).size : Int) ≤ 8388608 := by show (((Lib.itoa (n.tdiv 10)).toArray.size : Nat) : Int) ≤ _; simp; omega
      generalize (⟨(Lib.itoa (n.tdiv 10)).toArray⟩ : ByteArray) = Q at *
      have hq3 : ((⟨#[UInt8.ofNat (48 + n.tmod 10).toNat]⟩ : ByteArray).size : Int) ≤ 8388608 := by show ((1 : Nat) : Int) ≤ _; decide
      clear p1 p2 ih hlen
      go_enter Tryd.func31, Tryd.ntmps31
      go_wp2_with fail
      go_region_with (first | (go_at_call 31; rw [HW1.out]; refine (HI.out _).mono ?_; rintro e x1 ⟨rfl, hf⟩; have HX1 := Lib.hid hf; have hc := fun h => conv_one x1 w.heap.size (48 + n.tmod 10) (hf.get (b := w.heap.size) (o := 0) (v := .int .u8 (48 + n.tmod 10)) h); (try simp [go_sem, *] at hc); clear hf))
      all_goals
        go_wp2
        go_ret
        exact ⟨ret_eq (congrArg Value.string (by have h := HE.out; rwa [Int.tmod_eq_emod_of_nonneg (by omega)] at h)), by repeat (first | with_reducible exact Fr.refl _ | with_reducible apply Fr.drew | with_reducible apply Fr.alloc | (with_reducible refine Fr.call ?_ HX1.out))⟩
    · have b2 : decide (9 < n) = false := decide_eq_false hs
      have HW2 := wrap64 (n := 48 + n) (by omega)
      have HW3 := wrap8 (n := 48 + n) (by omega)
      have HE := Lib.hid (show (⟨#[UInt8.ofNat (48 + n).toNat]⟩ : ByteArray) = ⟨(Lib.itoa n).toArray⟩ from by rw [itoa_one_pos (n := n) (by omega) (by omega)])
      go_enter Tryd.func31, Tryd.ntmps31
      go_wp2_with fail
      go_ret
      exact ⟨ret_eq (congrArg Value.string HE.out), (Fr.refl w).alloc _⟩
theorem dig_all : ∀ N, DigC N
  | 0 => fun n w hN => absurd hN (by omega)
  | N + 1 => dig_step N (dig_all N)
/-- The document's Digits answers a number's digits. -/
theorem digits_any (n : Int) (w : World) (hn : okN n) : Calls Tryd.prog 31 #[.int .i64 n] w fun e w' => e = .returned (.string ⟨(Lib.itoa n).toArray⟩) ∧ Fr w w' := dig_all (n.natAbs + 1) n w (by omega) hn
end Go.Proofs.YtonlmennpbklgaaDoor
namespace Go.Proofs.YtonlmennpbklgaaDoor
open Go.RowKit
set_option linter.unusedSimpArgs false
set_option linter.unusedVariables false

mutual
theorem len_prT (m : Nat) : ∀ (t : T), smT m t → soT t → (prT t).length + 1 ≤ cntT t * (m + 30)
  | .node k s n ks, hsm, hso => by
    unfold smT at hsm
    obtain ⟨h1, h2⟩ := soT_iff.1 hso
    have h3 := len_prR m ks hsm.2 h2
    have h4 := prK_le ks
    have h5 := len_le_cnt ks
    unfold prT
    simp only [cntT]
    have e : (1 + cntL ks) * (m + 30) = (m + 30) + cntL ks * (m + 30) := by rw [Nat.add_mul, Nat.one_mul]
    rw [e]
    split
    · simp; omega
    · split
      · next hk2 =>
        have hn : okN n := by
          unfold soS at h1
          rcases h1 with ⟨h, _⟩ | ⟨_, _, h, _⟩ | ⟨h, _⟩ | ⟨h, _⟩
          · omega
          · exact h
          · omega
          · omega
        have := itoa_len hn
        omega
      · split
        · simp; omega
        · simp; omega
theorem len_prR (m : Nat) : ∀ (l : List T), smL m l → soL l → (prR l).length ≤ cntL l * (m + 30)
  | [], _, _ => by simp [prR]
  | t :: r, hsm, hso => by
    unfold smL at hsm
    unfold soL at hso
    have h1 := len_prT m t hsm.1 hso.1
    have h2 := len_prR m r hsm.2 hso.2
    rw [prR_cons]
    simp only [cntL, Nat.add_mul, List.length_cons, List.length_append]
    omega
theorem prK_le : ∀ (l : List T), (prK l).length ≤ (prR l).length
  | [] => by simp [prK]
  | t :: r => by rw [prK_cons, prR_cons]; simp
end
def WrC (N : Nat) : Prop := ∀ (k n : Int) (s : ByteArray) (ks : List T) (A : Option Addr) (c : Nat) (F : Nat → Prop) (w : World), cntT (.node k s n ks) ≤ N → cntT (.node k s n ks) ≤ 1100000 → soT (.node k s n ks) → smT 1100000 (.node k s n ks) → RdL w F A ks → (∀ b, F b → b < w.heap.size) →
  Calls Tryd.prog 19 #[tva k s n A ks.length c] w fun e w' => e = .returned (.string ⟨(prT (.node k s n ks)).toArray⟩) ∧ Fr w w'
set_option maxHeartbeats 3200000 in
set_option maxRecDepth 100000 in
theorem wr_word (n : Int) (s : ByteArray) (m : Nat) (A : Option Addr) (c : Nat) (w : World) :
    Calls Tryd.prog 19 #[tva 1 s n A m c] w fun e w' => e = .returned (.string s) ∧ Fr w w' := by
  have HF := Lib.hid ((Fr.refl w).alloc (.cells #[.int .i64 1, .string s, .int .i64 n, .slice A m c] 38))
  go_enter Tryd.func19, Tryd.ntmps19
  go_wp2
  go_ret
  exact ⟨rfl, HF.out⟩
set_option maxHeartbeats 3200000 in
set_option maxRecDepth 100000 in
theorem wr_num (n : Int) (s : ByteArray) (m : Nat) (A : Option Addr) (c : Nat) (w : World) (hn : okN n) :
    Calls Tryd.prog 19 #[tva 2 s n A m c] w fun e w' => e = .returned (.string ⟨(Lib.itoa n).toArray⟩) ∧ Fr w w' := by
  have HF := Lib.hid ((Fr.refl w).alloc (.cells #[.int .i64 2, .string s, .int .i64 n, .slice A m c] 38))
  have HD := Lib.hid (fun w => digits_any n w hn)
  clear hn
  go_enter Tryd.func19, Tryd.ntmps19
  go_wp2_with (go_at_call 31; refine (HD.out _).mono ?_; rintro e w1 ⟨rfl, hf⟩; have HF1 := Lib.hid (HF.out.call hf); clear hf)
  go_ret
  exact ⟨rfl, HF1.out⟩
set_option maxHeartbeats 3200000 in
set_option maxRecDepth 100000 in
theorem wr_text (n : Int) (s : ByteArray) (m : Nat) (A : Option Addr) (c : Nat) (w : World) (hs : s.size ≤ 1100000) :
    Calls Tryd.prog 19 #[tva 3 s n A m c] w fun e w' => e = .returned (.string ⟨(34 :: (s.data.toList ++ [34])).toArray⟩) ∧ Fr w w' := by
  have HF := Lib.hid ((Fr.refl w).alloc (.cells #[.int .i64 3, .string s, .int .i64 n, .slice A m c] 38))
  have h1 : (s.size : Int) ≤ 8388608 := by omega
  have h2 : (((⟨#[34]⟩ : ByteArray) ++ s).size : Int) ≤ 8388608 := by rw [ByteArray.size_append]; show (((1 : Nat) + s.size : Nat) : Int) ≤ _; omega
  have HE := Lib.hid (show (⟨#[34]⟩ ++ s ++ ⟨#[34]⟩ : ByteArray) = ⟨(34 :: (s.data.toList ++ [34])).toArray⟩ from by apply ByteArray.ext; simp [ByteArray.data_append])
  go_enter Tryd.func19, Tryd.ntmps19
  go_wp2
  go_ret
  exact ⟨ret_eq (congrArg Value.string HE.out), HF.out⟩
theorem big_size {l : List UInt8} {n : Nat} (h : l.length ≤ n) : (⟨l.toArray⟩ : ByteArray).size ≤ n := by show l.toArray.size ≤ n; simpa using h
/-- What has been written, and the place. -/
def RelWr (ks : List T) (w : World) (o i : Value) (wr : World) : Prop := ∃ (j : Nat) (q : ByteArray), j ≤ ks.length ∧ i = .int .i64 (j : Int) ∧ o = .string q ∧ q = ⟨(40 :: prK (ks.take j)).toArray⟩ ∧ Fr w wr
theorem smL_take {m : Nat} : ∀ (j : Nat) {l : List T}, smL m l → smL m (l.take j)
  | 0, l, _ => by simp [smL]
  | j + 1, [], h => by simp [smL]
  | j + 1, x :: r, h => by
    rw [List.take_succ_cons]
    unfold smL at h ⊢
    exact ⟨h.1, smL_take j h.2⟩
theorem soL_taken : ∀ (j : Nat) {l : List T}, soL l → soL (l.take j)
  | 0, l, _ => by simp [soL]
  | j + 1, [], h => by simp [soL]
  | j + 1, x :: r, h => by
    rw [List.take_succ_cons]
    unfold soL at h ⊢
    exact ⟨h.1, soL_taken j h.2⟩
set_option maxHeartbeats 3200000 in
set_option maxRecDepth 100000 in
theorem wr_list (N : Nat) (ih : WrC N) (ks : List T) (A : Option Addr) (c : Nat) (F : Nat → Prop) (w : World) (hN : cntL ks ≤ N) (hN2 : cntL ks ≤ 1100000) (hso : soL ks) (hsm : smL 1100000 ks) (hr : RdL w F A ks) (hF : ∀ b, F b → b < w.heap.size) :
    Calls Tryd.prog 19 #[tva 4 ⟨#[]⟩ 0 A ks.length c] w fun e w' => e = .returned (.string ⟨(40 :: (prK ks ++ [41])).toArray⟩) ∧ Fr w w' := by
  have HI := Lib.hid ih
  have HSO := Lib.hid hso
  have HSM := Lib.hid hsm
  have HR := Lib.hid hr
  have HF := Lib.hid hF
  have hln := len_le_cnt ks
  have hll : (ks.length : Int) ≤ 1100000 := by omega
  have HLN := Lib.hid (fun (j : Nat) => show (40 :: prK (ks.take j)).length ≤ 2000000000000 from by
    have h1 := len_prR 1100000 (ks.take j) (smL_take j hsm) (soL_taken j hso)
    have h2 := prK_le (ks.take j)
    have h3 := cntL_most ks j
    have h4 : cntL (ks.take j) * (1100000 + 30) ≤ 1100000 * (1100000 + 30) := Nat.mul_le_mul_right _ (by omega)
    simp; omega)
  have HB := Lib.hid (Bk.new w 38 #[.int .i64 4, .string ⟨#[]⟩, .int .i64 0, .slice A ks.length c])
  have HFA := Lib.hid ((Fr.refl w).alloc (.cells #[.int .i64 4, .string ⟨#[]⟩, .int .i64 0, .slice A ks.length c] 38))
  obtain ⟨r0, r1, r2, r3, _, _, _, _⟩ := (HB.out).four
  clear ih hso hsm hr hF
  go_enter Tryd.func19, Tryd.ntmps19
  go_wp2_with fail
  go_loopw [3, 26] (fun o i wr => RelWr ks (w.alloc (.cells #[.int .i64 4, .string ⟨#[]⟩, .int .i64 0, .slice A ks.length c] 38)) o i wr) (fun _ i _ => ks.length - (intOf i).toNat)
  case atStart => exact ⟨0, ⟨#[40]⟩, Nat.zero_le _, rfl, rfl, by simp [prK], Fr.refl _⟩
  case round =>
    obtain ⟨j, q, hj, rfl, rfl, hq, hf⟩ := hrel
    have HW := Lib.hid (HFA.out.call hf)
    have HQ := Lib.hid hq
    have HBW := Lib.hid (HB.out.fr hf)
    obtain ⟨r0, r1, r2, r3, _, _, _, _⟩ := (HBW.out).four
    have H0 := Lib.hid hf
    have hqs : (q.size : Int) ≤ 2000000000000 := by
      have h1 := HLN.out j
      rw [hq]
      have := big_size h1
      omega
    clear hf hq
    by_cases hlt : j < ks.length
    · obtain ⟨b, o, rfl, hbF, ht⟩ := HR.out.elem j hlt
      have HST := Lib.hid (prK_step ks j hlt)
      have HSo := Lib.hid (soL_at hlt HSO.out)
      have HSm := Lib.hid (smL_at hlt HSM.out)
      have hct := cnt_get ks j hlt
      generalize ks[j] = x at *
      obtain ⟨kd, s2, n2, kk⟩ := x
      unfold RdT at ht
      obtain ⟨A2, c2, hc2, h0, h1, h2, h3, hkk⟩ := ht
      rw [Nat.mul_comm 4 j] at h0 h1 h2 h3
      have a0 := HW.out.get h0
      have a1 := HW.out.get h1
      have a2 := HW.out.get h2
      have a3 := HW.out.get h3
      have HC := Lib.hid (fun w' (k : Fr wr w') => HI.out kd n2 s2 kk A2 c2 F w' (by omega) (by omega) HSo.out HSm.out (hkk.old (HW.out.call k) HF.out) (fun b h => Nat.lt_of_lt_of_le (HF.out b h) (HW.out.call k).size))
      have HPS := Lib.hid (show (prT (.node kd s2 n2 kk)).length ≤ 2000000000000 from by
        have h1 := len_prT 1100000 _ HSm.out HSo.out
        have h4 : cntT (.node kd s2 n2 kk) * (1100000 + 30) ≤ 1100000 * (1100000 + 30) := Nat.mul_le_mul_right _ (by omega)
        omega)
      have hps := big_size HPS.out
      generalize hpt : (⟨(prT (.node kd s2 n2 kk)).toArray⟩ : ByteArray) = pt at *
      have HPT := Lib.hid hpt
      have hps2 : (pt.size : Int) ≤ 2000000000000 := by omega
      clear hkk h0 h1 h2 h3 hpt hps
      by_cases hj0 : j = 0
      · subst hj0
        simp only [Nat.zero_mul, Nat.add_zero] at a0 a1 a2 a3
        go_wp2_with fail
        refine (HC.out _ ((Fr.refl wr).alloc _)).mono ?_
        rintro e w5 ⟨rfl, hf5⟩
        have HF5 := Lib.hid (((Fr.refl wr).alloc _).call hf5)
        clear hf5
        have R := Lib.hid (show RelWr ks (w.alloc (.cells #[.int .i64 4, .string ⟨#[]⟩, .int .i64 0, .slice (some ⟨b, o, none⟩) ks.length c] 38)) (.string (q ++ pt)) (.int .i64 (((0 + 1 : Nat)) : Int)) w5 from ⟨0 + 1, _, by omega, rfl, rfl, by
          have e := HST.out
          simp only [if_true, List.nil_append] at e
          rw [e, HQ.out, ← HPT.out]
          apply ByteArray.ext; simp [ByteArray.data_append], H0.out.call HF5.out⟩)
        go_wp2
        go_roundw
        case rel => exact R.out
        case measure => simp [intOf]; omega
      · have dj : (0 : Int) < (j : Int) := by omega
        have HJ0 := Lib.hid hj0
        have hq2 : ((q ++ ⟨#[32]⟩ : ByteArray).size : Int) ≤ 3000000000000 := by rw [ByteArray.size_append]; show ((q.size + 1 : Nat) : Int) ≤ _; omega
        clear hj0
        go_wp2_with fail
        refine (HC.out _ ((Fr.refl wr).alloc _)).mono ?_
        rintro e w5 ⟨rfl, hf5⟩
        have HF5 := Lib.hid (((Fr.refl wr).alloc _).call hf5)
        clear hf5
        have R := Lib.hid (show RelWr ks (w.alloc (.cells #[.int .i64 4, .string ⟨#[]⟩, .int .i64 0, .slice (some ⟨b, o, none⟩) ks.length c] 38)) (.string (q ++ ⟨#[32]⟩ ++ pt)) (.int .i64 ((j : Int) + 1)) w5 from ⟨j + 1, _, by omega, by go_num, rfl, by
          have e := HST.out
          rw [if_neg HJ0.out] at e
          rw [e, HQ.out, ← HPT.out]
          apply ByteArray.ext; simp [ByteArray.data_append], H0.out.call HF5.out⟩)
        go_wp2
        go_roundw
        case rel => exact R.out
        case measure => simp [intOf]; omega
    · obtain rfl : j = ks.length := by omega
      have HE := Lib.hid (show (q ++ ⟨#[41]⟩ : ByteArray) = ⟨(40 :: (prK ks ++ [41])).toArray⟩ from by
        have := HQ.out
        rw [List.take_of_length_le (Nat.le_refl _)] at this
        rw [this, app_one]; simp)
      go_wp2
      go_ret
      exact ⟨ret_eq (congrArg Value.string HE.out), HW.out⟩
theorem wr_all : ∀ N, WrC N
  | 0 => fun k n s ks A c F w hN => absurd hN (by simp [cntT])
  | N + 1 => fun k n s ks A c F w hN hN2 hso hsm hr hF => by
    have hso' := hso
    unfold soT at hso'
    unfold smT at hsm
    simp only [cntT] at hN hN2
    rcases hso' with ⟨rfl, _, rfl, rfl⟩ | ⟨rfl, rfl, hn, rfl⟩ | ⟨rfl, _, rfl, rfl⟩ | ⟨rfl, rfl, rfl, hks⟩
    · have h2 : prT (.node 1 s 0 []) = s.data.toList := by unfold prT; rw [if_pos rfl]
      rw [h2]
      exact wr_word 0 s 0 A c w
    · have h2 : prT (.node 2 ⟨#[]⟩ n []) = Lib.itoa n := by unfold prT; rw [if_neg (by decide), if_pos rfl]
      rw [h2]
      exact wr_num n _ 0 A c w hn
    · have h2 : prT (.node 3 s 0 []) = 34 :: (s.data.toList ++ [34]) := by unfold prT; rw [if_neg (by decide), if_neg (by decide), if_pos rfl]
      rw [h2]
      exact wr_text 0 s 0 A c w hsm.1
    · rw [prT_list]
      exact wr_list N (wr_all N) ks A c F w (by omega) (by omega) hks hsm.2 hr hF
/-- The document's write answers a sound tree's text. -/
theorem write_tree (k n : Int) (s : ByteArray) (ks : List T) (A : Option Addr) (c : Nat) (F : Nat → Prop) (w : World) (hN : cntT (.node k s n ks) ≤ 1100000) (hso : soT (.node k s n ks)) (hsm : smT 1100000 (.node k s n ks)) (hr : RdL w F A ks) (hF : ∀ b, F b → b < w.heap.size) :
    Calls Tryd.prog 19 #[tva k s n A ks.length c] w fun e w' => e = .returned (.string ⟨(prT (.node k s n ks)).toArray⟩) ∧ Fr w w' := wr_all _ k n s ks A c F w (Nat.le_refl _) hN hso hsm hr hF
end Go.Proofs.YtonlmennpbklgaaDoor
namespace Go.Proofs.YtonlmennpbklgaaDoor
open Go.RowKit
set_option linter.unusedSimpArgs false
set_option linter.unusedVariables false

def RelR1 (l : List T) (w : World) (i : Value) (wr : World) : Prop := ∃ j : Nat, j ≤ l.length ∧ i = .int .i64 (j : Int) ∧ Fr w wr ∧ soL (l.take j)
def RelR2 (l : List T) (w : World) (o i : Value) (wr : World) : Prop := ∃ (j : Nat) (q : ByteArray), j ≤ l.length ∧ i = .int .i64 (j : Int) ∧ o = .string q ∧ q = ⟨(prL (l.take j)).toArray⟩ ∧ InP l j ∧ Fr w wr
set_option maxHeartbeats 6400000 in
set_option maxRecDepth 100000 in
theorem refprint_all (l : List T) (A : Option Addr) (c : Nat) (F : Nat → Prop) (w : World) (hsm : smL 1100000 l) (hcn : cntL l ≤ 1100000) (hr : RdL w F A l) (hF : ∀ b, F b → b < w.heap.size) :
    Calls Tryd.prog 11 #[.slice A l.length c] w fun e w' => PrG l w e w' := by
  have HSM := Lib.hid hsm
  have HR := Lib.hid hr
  have HF := Lib.hid hF
  have hln := len_le_cnt l
  have hll : (l.length : Int) ≤ 1100000 := by omega
  clear hsm hr hF
  go_enter Tryd.func11, Tryd.ntmps11
  go_wp2_with fail
  go_loopw [11] (fun i wr => RelR1 l w i wr) (fun i _ => l.length - (intOf i).toNat)
  case atStart => exact ⟨0, Nat.zero_le _, rfl, Fr.refl _, by simp [soL]⟩
  case round =>
    obtain ⟨j, hj, rfl, hf, hs⟩ := hrel
    have HW := Lib.hid hf
    have HSJ := Lib.hid hs
    clear hs hf
    by_cases hlt : j < l.length
    · obtain ⟨b, o, rfl, hbF, ht⟩ := HR.out.elem j hlt
      have HST := Lib.hid (soL_take hlt)
      have HCUT := Lib.hid (fun (h : ¬ soT l[j]) (hs : soL l) => h (soL_at hlt hs))
      have HSm := Lib.hid (smL_at hlt HSM.out)
      have hct := cnt_get l j hlt
      generalize l[j] = x at *
      obtain ⟨kd, s2, n2, kk⟩ := x
      unfold RdT at ht
      obtain ⟨A2, c2, hc2, h0, h1, h2, h3, hkk⟩ := ht
      rw [Nat.mul_comm 4 j] at h0 h1 h2 h3
      have a0 := HW.out.get h0
      have a1 := HW.out.get h1
      have a2 := HW.out.get h2
      have a3 := HW.out.get h3
      have HC := Lib.hid (fun w' (k : Fr wr w') => refsound_any kd n2 s2 kk A2 c2 F w' (by omega) HSm.out (hkk.old (HW.out.call k) HF.out) (fun b h => Nat.lt_of_lt_of_le (HF.out b h) (HW.out.call k).size))
      clear hkk h0 h1 h2 h3
      go_wp2_with fail
      refine (HC.out _ ((Fr.refl wr).alloc _)).mono ?_
      rintro e w5 ⟨bb, rfl, hb, hf5⟩
      have HB5 := Lib.hid hb
      have HF5 := Lib.hid (((Fr.refl wr).alloc _).call hf5)
      clear hb hf5
      cases bb with
      | true =>
        have R := Lib.hid (show RelR1 l w (.int .i64 ((j : Int) + 1)) w5 from ⟨j + 1, by omega, by go_num, HW.out.call HF5.out, HST.out.2 ⟨HSJ.out, HB5.out.1 rfl⟩⟩)
        go_wp2
        go_roundw
        case rel => exact R.out
        case measure => simp [intOf]; omega
      | false =>
        have R := Lib.hid (show PrG l w (.returned (.tuple #[.string ⟨#[]⟩, .int .i64 31])) w5 from .inl ⟨by
          have h1 := HCUT.out
          have h3 := HB5.out
          simp only [Bool.false_eq_true, false_iff] at h3
          exact h1 h3, rfl, HW.out.call HF5.out⟩)
        go_wp2
        go_ret2
        exact R.out
    · obtain rfl : j = l.length := by omega
      have HSO := Lib.hid (show soL l by have := HSJ.out; rwa [List.take_of_length_le (Nat.le_refl _)] at this)
      have HCO := Lib.hid (fun (w1 : World) (k : Fr w w1) => count_any l A c F w1 (by omega) (fun b h => Nat.lt_of_lt_of_le (HF.out b h) k.size) (HR.out.old k HF.out))
      have HDE := Lib.hid (fun (w1 : World) (k : Fr w w1) => deep_any l A c F w1 (by omega) (fun b h => Nat.lt_of_lt_of_le (HF.out b h) k.size) (HR.out.old k HF.out))
      have hde := dep_le_cnt l
      have hc2 : (cntL l : Int) ≤ 1100000 := by omega
      have hd2 : (depL l : Int) ≤ 1100000 := by omega
      by_cases hc : 65536 < cntL l
      · have dc : decide ((65536 : Int) < (cntL l : Int)) = true := by rw [decide_eq_true_eq]; omega
        go_wp2_with (go_at_call 17; refine (HCO.out _ HW.out).mono ?_; rintro e w2 ⟨rfl, hf⟩; have HF2 := Lib.hid (HW.out.call hf); clear hf)
        go_ret2
        exact .inr (.inr ⟨HSO.out, fun h => by have := h.1; rw [List.take_of_length_le (Nat.le_refl _)] at this; omega, rfl, HF2.out⟩)
      · have dc : decide ((65536 : Int) < (cntL l : Int)) = false := by rw [decide_eq_false_iff_not]; omega
        by_cases hd : 32 < depL l
        · have dd : decide ((32 : Int) < (depL l : Int)) = true := by rw [decide_eq_true_eq]; omega
          go_wp2_with (first
            | (go_at_call 17; refine (HCO.out _ HW.out).mono ?_; rintro e w2 ⟨rfl, hf⟩; have HF2 := Lib.hid (HW.out.call hf); clear hf)
            | (go_at_call 18; refine (HDE.out _ HF2.out).mono ?_; rintro e w3 ⟨rfl, hf⟩; have HF3 := Lib.hid (HF2.out.call hf); clear hf))
          go_ret2
          exact .inr (.inr ⟨HSO.out, fun h => by have := h.2.1; rw [List.take_of_length_le (Nat.le_refl _)] at this; omega, rfl, HF3.out⟩)
        · have dd : decide ((32 : Int) < (depL l : Int)) = false := by rw [decide_eq_false_iff_not]; omega
          go_wp2_with (first
            | (go_at_call 17; refine (HCO.out _ HW.out).mono ?_; rintro e w2 ⟨rfl, hf⟩; have HF2 := Lib.hid (HW.out.call hf); clear hf)
            | (go_at_call 18; refine (HDE.out _ HF2.out).mono ?_; rintro e w3 ⟨rfl, hf⟩; have HF3 := Lib.hid (HF2.out.call hf); clear hf))
          have HIN := Lib.hid (show cntL l ≤ 65536 ∧ depL l ≤ 32 from ⟨by omega, by omega⟩)
          go_loopw [6, 29] (fun o i wr => RelR2 l w3 o i wr) (fun _ i _ => l.length - (intOf i).toNat)
          case atStart => exact ⟨0, ⟨#[]⟩, Nat.zero_le _, rfl, rfl, by simp [prL], ⟨by simp [cntL], by simp [depL], by simp [prL]⟩, Fr.refl _⟩
          case round =>
            obtain ⟨j, q, hj, rfl, rfl, hq, hin, hf⟩ := hrel
            have HWx := Lib.hid (HF3.out.call hf)
            have HQ := Lib.hid hq
            have HNI := Lib.hid hin
            have H0 := Lib.hid hf
            have hqs : (q.size : Int) ≤ 262144 := by
              have h1 := hin.2.2
              rw [hq]
              have := big_size h1
              omega
            clear hf hq hin
            by_cases hlt : j < l.length
            · obtain ⟨b, o, rfl, hbF, ht⟩ := HR.out.elem j hlt
              have HST := Lib.hid (prL_step l j hlt)
              have HWI := Lib.hid (show InP l (j + 1) ↔ (prL (l.take (j + 1))).length ≤ 262144 from ⟨fun h => h.2.2, fun h => ⟨by have := cntL_most l (j + 1); have := HIN.out.1; omega, by have := depL_most l (j + 1); have := HIN.out.2; omega, h⟩⟩)
              have HSo := Lib.hid (soL_at hlt HSO.out)
              have HSm := Lib.hid (smL_at hlt HSM.out)
              have hct := cnt_get l j hlt
              have HPF := Lib.hid (fun w' (h : ¬ InP l (j + 1)) (ho : Fr w w') => pg_false (j + 1) (by omega) HSO.out h ho)
              generalize l[j] = x at *
              obtain ⟨kd, s2, n2, kk⟩ := x
              unfold RdT at ht
              obtain ⟨A2, c2, hc2, h0, h1, h2, h3, hkk⟩ := ht
              rw [Nat.mul_comm 4 j] at h0 h1 h2 h3
              have a0 := HWx.out.get h0
              have a1 := HWx.out.get h1
              have a2 := HWx.out.get h2
              have a3 := HWx.out.get h3
              have HC := Lib.hid (fun w' (k : Fr wr w') => write_tree kd n2 s2 kk A2 c2 F w' (by omega) HSo.out HSm.out (hkk.old (HWx.out.call k) HF.out) (fun b h => Nat.lt_of_lt_of_le (HF.out b h) (HWx.out.call k).size))
              have HPS := Lib.hid (show (prT (.node kd s2 n2 kk)).length ≤ 2000000000000 from by
                have h1 := len_prT 1100000 _ HSm.out HSo.out
                have h4 : cntT (.node kd s2 n2 kk) * (1100000 + 30) ≤ 1100000 * (1100000 + 30) := Nat.mul_le_mul_right _ (by omega)
                omega)
              have hps := big_size HPS.out
              generalize hpt : (⟨(prT (.node kd s2 n2 kk)).toArray⟩ : ByteArray) = pt at *
              have HPT := Lib.hid hpt
              have hps2 : (pt.size : Int) ≤ 2000000000000 := by omega
              have hps3 : ((pt ++ ⟨#[10]⟩ : ByteArray).size : Int) ≤ 2000000000001 := by rw [ByteArray.size_append]; show ((pt.size + 1 : Nat) : Int) ≤ _; omega
              have HE := Lib.hid (show (q ++ (pt ++ ⟨#[10]⟩) : ByteArray) = ⟨(prL (l.take (j + 1))).toArray⟩ from by
                rw [HST.out, HQ.out, ← HPT.out]
                apply ByteArray.ext; simp [ByteArray.data_append])
              clear hkk h0 h1 h2 h3 hpt hps
              obtain ⟨nx, hnx⟩ : ∃ nx, (q ++ (pt ++ ⟨#[10]⟩) : ByteArray) = nx := ⟨_, rfl⟩
              rw [hnx] at HE
              have HNS := Lib.hid (show nx.size = (prL (l.take (j + 1))).length from by rw [HE.out]; show (List.toArray _).size = _; simp)
              by_cases hbig : 262144 < nx.size
              · have db : decide ((262144 : Int) < (nx.size : Int)) = true := by rw [decide_eq_true_eq]; omega
                go_wp2_with fail
                refine (HC.out _ ((Fr.refl wr).alloc _)).mono ?_
                rintro e w5 ⟨rfl, hf5⟩
                have HF5 := Lib.hid (((Fr.refl wr).alloc _).call hf5)
                clear hf5
                go_wp2
                go_ret2
                exact HPF.out _ (fun h => by have := HWI.out.1 h; have := HNS.out; omega) (HWx.out.call HF5.out)
              · have db : decide ((262144 : Int) < (nx.size : Int)) = false := by rw [decide_eq_false_iff_not]; omega
                go_wp2_with fail
                refine (HC.out _ ((Fr.refl wr).alloc _)).mono ?_
                rintro e w5 ⟨rfl, hf5⟩
                have HF5 := Lib.hid (((Fr.refl wr).alloc _).call hf5)
                clear hf5
                have R := Lib.hid (show RelR2 l w3 (.string nx) (.int .i64 ((j : Int) + 1)) w5 from ⟨j + 1, nx, by omega, by go_num, rfl, HE.out, HWI.out.2 (by have := HNS.out; omega), H0.out.call HF5.out⟩)
                go_wp2
                go_roundw
                case rel => exact R.out
                case measure => simp [intOf]; omega
            · obtain rfl : j = l.length := by omega
              have HQ2 := Lib.hid (show q = ⟨(prL l).toArray⟩ from by have := HQ.out; rwa [List.take_of_length_le (Nat.le_refl _)] at this)
              go_wp2
              go_ret2
              refine .inr (.inl ⟨HSO.out, HNI.out, ?_, HWx.out⟩)
              rw [HQ2.out]
              rfl
end Go.Proofs.YtonlmennpbklgaaDoor
