/- Numbers in digits; a sum's text: the document's Print. -/
import Derived.Test.YtbnaakognnkhdaaGreatDoorNe
import Derived.IntWalk
import Derived.Laws.BytesArg
import Derived.Laws.Concat
import Derived.Deep.RegionWith
import Derived.Lib.ItoaNum
namespace Go.Proofs.YtbnaakognnkhdaaGreatDoor
open Go.RowKit
set_option linter.unusedSimpArgs false
set_option linter.unusedVariables false

theorem conv_one (w : World) (g : Nat) (m : Int) (h : w.cell? ⟨g, 0, none⟩ = some (.int .u8 m)) : (convert 67 9 (.slice (some ⟨g, 0, none⟩) 1 1)).run Tryz.prog w = .ok (.string ⟨#[UInt8.ofNat m.toNat]⟩) w :=
  run_convert_bytes_arg w 67 5 Tryz.underlying67 Tryz.underlying5 g 0 1 1 [m] rfl (fun i hi => by
    obtain rfl : i = 0 := by omega
    exact h) 9 Tryz.underlying9
theorem wrap64_id {n : Int} (h : -9223372036854775808 ≤ n ∧ n ≤ 9223372036854775807) : IntKind.i64.wrap n = n := by
  unfold IntKind.wrap; simp [IntKind.signed, IntKind.bits]; omega
theorem wrap8_id {n : Int} (h : 0 ≤ n ∧ n ≤ 255) : IntKind.u8.wrap n = n := by
  unfold IntKind.wrap; simp [IntKind.signed, IntKind.bits]; omega
theorem dec_more (u : Nat) (h : 10 ≤ u) : Lib.decDigits u = Lib.decDigits (u / 10) ++ [UInt8.ofNat (48 + u % 10)] := by
  conv => lhs; unfold Lib.decDigits
  rw [dif_neg (by omega)]
theorem dec_one (u : Nat) (h : u < 10) : Lib.decDigits u = [UInt8.ofNat (48 + u)] := by
  unfold Lib.decDigits
  rw [dif_pos h]
theorem dec_le : ∀ (m u : Nat), u < 10 ^ m → 1 ≤ m → (Lib.decDigits u).length ≤ m := by
  intro m
  induction m with
  | zero => intro u _ h; omega
  | succ m ih =>
    intro u hu _
    by_cases hs : u < 10
    · rw [dec_one _ hs]; simp
    · rw [dec_more _ (by omega)]
      have h1 : u / 10 < 10 ^ m := by rw [Nat.pow_succ] at hu; omega
      rcases Nat.eq_zero_or_pos m with h0 | h0
      · subst h0; simp at h1; omega
      · have := ih (u / 10) h1 h0; simp; omega
def minTx : List UInt8 := [48, 120, 56, 48, 48, 48, 48, 48, 48, 48, 48, 48, 48, 48, 48, 48, 48, 48]
/-- A number as the document writes it. -/
def numT (n : Int) : List UInt8 := if n = -9223372036854775808 then minTx else Lib.itoa n
theorem itoa_neg {n : Int} (h : n < 0) : Lib.itoa n = 45 :: Lib.itoa (-n) := by
  unfold Lib.itoa
  rw [if_pos h, if_neg (by omega)]
  have : (-n).toNat = n.natAbs := by omega
  rw [this]
theorem pos_parts {n : Int} (h : 0 ≤ n) : n.tdiv 10 = ((n.toNat / 10 : Nat) : Int) ∧ n.tmod 10 = ((n.toNat % 10 : Nat) : Int) := by
  obtain ⟨u, rfl⟩ : ∃ u : Nat, n = (u : Int) := ⟨n.toNat, by omega⟩
  exact ⟨rfl, rfl⟩
theorem itoa_more_pos {n : Int} (h : 10 ≤ n) : Lib.itoa n = Lib.itoa (n.tdiv 10) ++ [UInt8.ofNat (48 + n.tmod 10).toNat] := by
  obtain ⟨h1, h2⟩ := pos_parts (n := n) (by omega)
  unfold Lib.itoa
  rw [if_neg (by omega), if_neg (by omega), dec_more _ (by omega), h1, h2]
  have e1 : ((n.toNat / 10 : Nat) : Int).toNat = n.toNat / 10 := by omega
  have e2 : (48 + ((n.toNat % 10 : Nat) : Int)).toNat = 48 + n.toNat % 10 := by omega
  rw [e1, e2]
theorem itoa_one_pos {n : Int} (h : n ≤ 9) (h0 : 0 ≤ n) : Lib.itoa n = [UInt8.ofNat (48 + n).toNat] := by
  unfold Lib.itoa
  rw [if_neg (by omega), dec_one _ (by omega)]
  have : (48 + n).toNat = 48 + n.toNat := by omega
  rw [this]
theorem app_one {l : List UInt8} {c : UInt8} : ((⟨l.toArray⟩ : ByteArray) ++ ⟨#[c]⟩) = ⟨(l ++ [c]).toArray⟩ := by
  apply ByteArray.ext; simp [ByteArray.data_append]
theorem app_tx {l m : List UInt8} : ((⟨l.toArray⟩ : ByteArray) ++ ⟨m.toArray⟩) = ⟨(l ++ m).toArray⟩ := by
  apply ByteArray.ext; simp [ByteArray.data_append]
theorem itoa_len {n : Int} (h : I64 n) : (Lib.itoa n).length ≤ 20 := by
  unfold I64 at h
  unfold Lib.itoa
  split
  · have := dec_le 19 n.natAbs (by omega) (by decide); simp; omega
  · have := dec_le 19 n.toNat (by omega) (by decide); omega
theorem numT_len {n : Int} (h : I64 n) : (numT n).length ≤ 20 := by
  unfold numT
  split
  · decide
  · exact itoa_len h
theorem tx_size (l : List UInt8) : (⟨l.toArray⟩ : ByteArray).size = l.length := by show l.toArray.size = _; simp
def DigC (N : Nat) : Prop := ∀ (n : Int) (w : World), n.toNat < N → 0 ≤ n → n ≤ 9223372036854775807 → Calls Tryz.prog 27 #[.int .i64 n] w fun e w' => e = .returned (.string ⟨(Lib.itoa n).toArray⟩) ∧ Fr w w'
set_option maxHeartbeats 3200000 in
set_option maxRecDepth 100000 in
theorem dig_step (N : Nat) (ih : DigC N) : DigC (N + 1) := by
  intro n w hN hn1 hn2
  have kc := fun (w : World) (m : Int) => conv_one (w.alloc (.cells #[.int .u8 m] 5)) w.heap.size m (by simp [go_sem])
  have kd := fun (w : World) (m : Int) => conv_one (w.alloc (.cells #[.int .u8 m] 5)).drew w.heap.size m (by simp [go_sem])
  have b0 : (n == -9223372036854775808) = false := by rw [beq_eq_false_iff_ne]; omega
  have b1 : decide (n < 0) = false := decide_eq_false (by omega)
  by_cases hs : 9 < n
  · have b2 : decide (9 < n) = true := decide_eq_true hs
    obtain ⟨p1, p2⟩ := pos_parts (n := n) (by omega)
    have HI := Lib.hid (fun w => ih (n.tdiv 10) w (by omega) (by omega) (by omega))
    have HW1 := Lib.hid (wrap64_id (n := n.tdiv 10) (by omega))
    have HW2 := wrap64_id (n := 48 + n.tmod 10) (by omega)
    have HW3 := wrap8_id (n := 48 + n.tmod 10) (by omega)
    have HE := Lib.hid (show (⟨(Lib.itoa (n.tdiv 10)).toArray⟩ ++ ⟨#[UInt8.ofNat (48 + n.tmod 10).toNat]⟩ : ByteArray) = ⟨(Lib.itoa n).toArray⟩ from by rw [app_one, itoa_more_pos (n := n) (by omega)])
    have hlen := itoa_len (n := n.tdiv 10) (by unfold I64; omega)
    have hq2 : ((⟨(Lib.itoa (n.tdiv 10)).toArray⟩ : ByteArray).size : Int) ≤ 8388608 := by rw [tx_size]; omega
    generalize (⟨(Lib.itoa (n.tdiv 10)).toArray⟩ : ByteArray) = Q at *
    have hq3 : ((⟨#[UInt8.ofNat (48 + n.tmod 10).toNat]⟩ : ByteArray).size : Int) ≤ 8388608 := by show ((1 : Nat) : Int) ≤ _; decide
    clear p1 p2 ih hlen
    go_enter Tryz.func27, Tryz.ntmps27
    go_wp2_with fail
    go_region_with (first | (go_at_call 27; rw [HW1.out]; refine (HI.out _).mono ?_; rintro e x1 ⟨rfl, hf⟩; have HX1 := Lib.hid hf; have hc := fun h => conv_one x1 w.heap.size (48 + n.tmod 10) (hf.get (b := w.heap.size) (o := 0) (v := .int .u8 (48 + n.tmod 10)) h); (try simp [go_sem, *] at hc); clear hf))
    all_goals
      go_wp2
      go_ret
      exact ⟨ret_eq (congrArg Value.string (by have h := HE.out; rwa [Int.tmod_eq_emod_of_nonneg (by omega)] at h)), by repeat (first | with_reducible exact Fr.refl _ | with_reducible apply Fr.drew | with_reducible apply Fr.alloc | (with_reducible refine Fr.call ?_ HX1.out))⟩
  · have b2 : decide (9 < n) = false := decide_eq_false hs
    have HW2 := wrap64_id (n := 48 + n) (by omega)
    have HW3 := wrap8_id (n := 48 + n) (by omega)
    have HE := Lib.hid (show (⟨#[UInt8.ofNat (48 + n).toNat]⟩ : ByteArray) = ⟨(Lib.itoa n).toArray⟩ from by rw [itoa_one_pos (n := n) (by omega) (by omega)])
    go_enter Tryz.func27, Tryz.ntmps27
    go_wp2_with fail
    go_ret
    exact ⟨ret_eq (congrArg Value.string HE.out), (Fr.refl w).alloc _⟩
theorem dig_all : ∀ N, DigC N
  | 0 => fun n w hN => absurd hN (by omega)
  | N + 1 => dig_step N (dig_all N)
set_option maxHeartbeats 3200000 in
set_option maxRecDepth 100000 in
/-- The document's Digits answers a number's digits. -/
theorem digits_any (n : Int) (w : World) (hn : I64 n) : Calls Tryz.prog 27 #[.int .i64 n] w fun e w' => e = .returned (.string ⟨(numT n).toArray⟩) ∧ Fr w w' := by
  unfold I64 at hn
  by_cases h0 : 0 ≤ n
  · unfold numT
    rw [if_neg (by omega)]
    exact dig_all (n.toNat + 1) n w (by omega) h0 hn.2
  · by_cases hm : n = -9223372036854775808
    · subst hm
      go_enter Tryz.func27, Tryz.ntmps27
      go_wp2_with fail
      go_ret
      exact ⟨rfl, Fr.refl w⟩
    · have HI := Lib.hid (fun w => dig_all ((-n).toNat + 1) (-n) w (by omega) (by omega) (by omega))
      have HE := Lib.hid (show (⟨#[45]⟩ ++ ⟨(Lib.itoa (-n)).toArray⟩ : ByteArray) = ⟨(numT n).toArray⟩ from by
        unfold numT
        rw [if_neg hm, itoa_neg (n := n) (by omega)]
        exact app_tx (l := [45]))
      have hlen := itoa_len (n := -n) (by unfold I64; omega)
      have hq2 : ((⟨(Lib.itoa (-n)).toArray⟩ : ByteArray).size : Int) ≤ 8388608 := by rw [tx_size]; omega
      have hw := wrap64_id (n := -n) (by omega)
      have b0 : (n == -9223372036854775808) = false := by rw [beq_eq_false_iff_ne]; omega
      have b1 : decide (n < 0) = true := decide_eq_true (by omega)
      generalize (⟨(Lib.itoa (-n)).toArray⟩ : ByteArray) = Q at *
      clear hlen
      go_enter Tryz.func27, Tryz.ntmps27
      go_wp2_with (go_at_call 27; refine (HI.out _).mono ?_; rintro e x1 ⟨rfl, hf⟩; have HX1 := Lib.hid hf; clear hf)
      go_ret
      exact ⟨ret_eq (congrArg Value.string HE.out), HX1.out⟩
/-- The text of symbols and how many times they count. -/
def symT (P : List (ByteArray × Int)) : List UInt8 := P.flatMap fun x => numT x.2 ++ [42] ++ x.1.data.toList ++ [43]
def prT (P : List (ByteArray × Int)) (off : Int) : List UInt8 := symT P ++ numT off
theorem symT_step {P : List (ByteArray × Int)} {k : Nat} (h : k < P.length) : symT (P.take (k + 1)) = symT (P.take k) ++ (numT P[k].2 ++ [42] ++ P[k].1.data.toList ++ [43]) := by
  unfold symT
  rw [List.take_succ_eq_append_getElem h, List.flatMap_append, List.flatMap_cons, List.flatMap_nil, List.append_nil]
theorem symT_len : ∀ (P : List (ByteArray × Int)), (∀ x ∈ P, x.1.size ≤ 140737488351232 ∧ I64 x.2) → (symT P).length ≤ P.length * 140737488351254
  | [], _ => by simp [symT]
  | x :: r, h => by
    have h1 := h x List.mem_cons_self
    have h2 := symT_len r (fun y hy => h y (List.mem_cons_of_mem _ hy))
    have h3 := numT_len h1.2
    have h4 : x.1.data.toList.length = x.1.size := by simp
    have e : symT (x :: r) = (numT x.2 ++ [42] ++ x.1.data.toList ++ [43]) ++ symT r := by simp [symT]
    rw [e]
    simp only [List.length_append, List.length_cons, List.length_nil]
    omega
def RelPr (P : List (ByteArray × Int)) (W : World) (s3 s9 : Value) (wr : World) : Prop :=
  ∃ k : Nat, k ≤ P.length ∧ s9 = .int .i64 (k : Int) ∧ s3 = .string ⟨(symT (P.take k)).toArray⟩ ∧ Fr W wr
set_option maxHeartbeats 6400000 in
set_option maxRecDepth 100000 in
/-- The document's Print of a sum. -/
theorem printl_any (P : List (ByteArray × Int)) (off : Int) (A B : Option Addr) (c d n : Nat) (w : World) (hn : P.length = n) (hn1 : n ≤ 1000) (hsm : ∀ x ∈ P, x.1.size ≤ 140737488351232 ∧ I64 x.2) (hoff : I64 off)
    (ha : Rd strv w A (fsts P)) (hb : Rd intv w B (snds P)) :
    Calls Tryz.prog 15 #[.agg #[.slice A n c, .slice B n d, .int .i64 off]] w fun e w' => e = .returned (.string ⟨(prT P off).toArray⟩) ∧ Fr w w' := by
  have HA := Lib.hid ha
  have HB := Lib.hid hb
  have HLA := Lib.hid hn
  have HSM := Lib.hid hsm
  have HD := Lib.hid (fun (t : Int) (ht : I64 t) (w : World) => digits_any t w ht)
  have HOF := Lib.hid hoff
  have HF0 := Lib.hid ((Fr.refl w).alloc (.cells #[.slice A n c, .slice B n d, .int .i64 off] 25))
  have HX := Lib.hid (BlkC.alloc (w := w) (t := 25) (cs := #[.slice A n c, .slice B n d, .int .i64 off]))
  have HADD := Lib.hid (fun (a b : ByteArray) (w : World) (h : a.size + b.size ≤ 9223372036854775807) => run_string_add_sum (P := Tryz.prog) (w := w) a b h)
  clear ha hb hn hsm hoff
  go_enter Tryz.func15, Tryz.ntmps15
  go_wp2_with fail
  obtain ⟨W, hW⟩ : ∃ W, W = w.alloc (.cells #[.slice A n c, .slice B n d, .int .i64 off] 25) := ⟨_, rfl⟩
  rw [← hW] at HF0 HX
  rw [← hW]
  clear hW
  go_loopw [3, 9] (fun s3 s9 wr => RelPr P W s3 s9 wr) (fun _ s9 _ => n - (intOf s9).toNat)
  case atStart => exact ⟨0, Nat.zero_le _, rfl, rfl, Fr.refl _⟩
  case round =>
    obtain ⟨k, hk, rfl, rfl, hfr⟩ := hrel
    rw [HLA.out] at hk
    have HFR := Lib.hid (HF0.out.call hfr)
    have HFW := Lib.hid hfr
    obtain ⟨X0, X1, X2⟩ := (HX.out.fr hfr).three
    have zr := lt_of_cell X0
    have hos := symT_len (P.take k) (fun x hx => HSM.out x (List.mem_of_mem_take hx))
    have htk : (P.take k).length ≤ k := by simp; omega
    have hout : (⟨(symT (P.take k)).toArray⟩ : ByteArray).size ≤ 140737488351254000 := by rw [tx_size]; omega
    clear hfr
    by_cases hlt : k < n
    · have hx : k < P.length := by rw [HLA.out]; exact hlt
      obtain ⟨ga, oa, rfl, _, hca⟩ := HA.out (by simp [fsts]; omega)
      obtain ⟨gb, ob, rfl, _, hcb⟩ := HB.out (by simp [snds]; omega)
      have a1 : wr.cell? ⟨ga, oa + k, none⟩ = some (.string P[k].1) := by
        have := HFR.out.get (hca k (by simpa [fsts] using hx))
        simpa [fsts, strv] using this
      have b1 : wr.cell? ⟨gb, ob + k, none⟩ = some (.int .i64 P[k].2) := by
        have := HFR.out.get (hcb k (by simpa [snds] using hx))
        simpa [snds, intv] using this
      have zla := lt_of_cell a1
      have zlb := lt_of_cell b1
      obtain ⟨hs1, ht1⟩ := HSM.out P[k] (List.getElem_mem hx)
      have HDK := Lib.hid (HD.out P[k].2 ht1)
      have hds := numT_len ht1
      have HST := Lib.hid (symT_step hx)
      have hd20 : (⟨(numT P[k].2).toArray⟩ : ByteArray).size ≤ 20 := by rw [tx_size]; exact hds
      have HJ := Lib.hid (show ((⟨(symT (P.take k)).toArray⟩ : ByteArray) ++ (((⟨(numT P[k].2).toArray⟩ ++ ⟨#[42]⟩) ++ P[k].1) ++ ⟨#[43]⟩)) = ⟨(symT (P.take (k + 1))).toArray⟩ from by
        rw [HST.out]
        apply ByteArray.ext
        simp [ByteArray.data_append])
      clear hca hcb ht1 hds hos htk
      generalize (⟨(symT (P.take k)).toArray⟩ : ByteArray) = O at *
      generalize (⟨(numT P[k].2).toArray⟩ : ByteArray) = D at *
      generalize P[k].1 = s at *
      generalize P[k].2 = t at *
      have q1 := fun w => HADD.out D ⟨#[42]⟩ w (by show D.size + 1 ≤ _; omega)
      have q2 := fun w => HADD.out (D ++ ⟨#[42]⟩) s w (by rw [ByteArray.size_append]; show D.size + 1 + s.size ≤ _; omega)
      have q3 := fun w => HADD.out ((D ++ ⟨#[42]⟩) ++ s) ⟨#[43]⟩ w (by rw [ByteArray.size_append, ByteArray.size_append]; show D.size + 1 + s.size + 1 ≤ _; omega)
      have q4 := fun w => HADD.out O (((D ++ ⟨#[42]⟩) ++ s) ++ ⟨#[43]⟩) w (by rw [ByteArray.size_append, ByteArray.size_append, ByteArray.size_append]; show O.size + (D.size + 1 + s.size + 1) ≤ _; omega)
      go_wp2_with (go_at_call 27; refine (HDK.out _).mono ?_; rintro e w2 ⟨rfl, hf2⟩; have HF2 := Lib.hid (HFW.out.call hf2); clear hf2)
      go_roundw
      case rel => exact ⟨k + 1, by omega, by go_num, congrArg Value.string HJ.out, HF2.out⟩
      case measure => simp [intOf]; omega
    · obtain rfl : k = n := by omega
      have HDK := Lib.hid (HD.out off HOF.out)
      have hds := numT_len HOF.out
      have hd20 : (⟨(numT off).toArray⟩ : ByteArray).size ≤ 20 := by rw [tx_size]; exact hds
      have HJ := Lib.hid (show ((⟨(symT (P.take k)).toArray⟩ : ByteArray) ++ ⟨(numT off).toArray⟩) = ⟨(prT P off).toArray⟩ from by
        rw [List.take_of_length_le (by rw [HLA.out]; exact Nat.le_refl _), app_tx]
        rfl)
      clear hds hos htk
      generalize (⟨(symT (P.take k)).toArray⟩ : ByteArray) = O at *
      generalize (⟨(numT off).toArray⟩ : ByteArray) = D at *
      have q1 := fun w => HADD.out O D w (by omega)
      go_wp2_with (go_at_call 27; refine (HDK.out _).mono ?_; rintro e w2 ⟨rfl, hf2⟩; have HF2 := Lib.hid (HFR.out.call hf2); clear hf2)
      go_ret
      exact ⟨ret_eq (congrArg Value.string HJ.out), HF2.out⟩
end Go.Proofs.YtbnaakognnkhdaaGreatDoor
