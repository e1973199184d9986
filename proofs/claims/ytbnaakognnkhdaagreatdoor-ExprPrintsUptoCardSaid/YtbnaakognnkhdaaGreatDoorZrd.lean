/- The program reads what it prints. -/
import Derived.Test.YtbnaakognnkhdaaGreatDoorZu
import Derived.Test.YtbnaakognnkhdaaGreatDoorZy
import Derived.Test.YtbnaakognnkhdaaGreatDoorZmn
namespace Go.Proofs.YtbnaakognnkhdaaGreatDoor
open Go.RowKit
set_option linter.unusedSimpArgs false
set_option linter.unusedVariables false

/-- What stands from a place on. -/
def Rest (s : ByteArray) (a : Nat) (R : List UInt8) : Prop := a ≤ s.size ∧ s.data.toList.drop a = R
/-- No name or number goes on here. -/
def stopB : List UInt8 → Prop
  | [] => True
  | c :: _ => nmB c = false
section
variable {s : ByteArray} {a : Nat} {X Y : List UInt8} {c : UInt8}
theorem Rest.len (h : Rest s a X) : a + X.length = s.size := by
  obtain ⟨h1, h2⟩ := h
  have := congrArg List.length h2
  simp at this
  omega
theorem Rest.move (h : Rest s a (X ++ Y)) : Rest s (a + X.length) Y := by
  have hl := h.len
  refine ⟨by simp at hl; omega, ?_⟩
  rw [← List.drop_drop, h.2, List.drop_left]
theorem Rest.skip (h : Rest s a (c :: Y)) (hc : c.toNat ≠ 32) : skipN s a = a := by
  unfold skipN
  rw [h.2, blL, if_neg hc]
  omega
theorem Rest.peek (h : Rest s a (c :: Y)) : peekN s a = c.toNat := by
  have hl := h.len
  have hlt : a < s.size := by simp at hl; omega
  have h2 := h.2
  rw [drop_at s a hlt] at h2
  injection h2 with h2 _
  unfold peekN
  rw [dif_pos hlt, h2]
theorem Rest.cut (h : Rest s a (X ++ Y)) : cutS s a X.length = ⟨X.toArray⟩ := by
  have e := cut_list s a X.length
  rw [h.2, List.take_left] at e
  apply ByteArray.ext
  apply Array.toList_inj.1
  rw [e]
theorem Rest.stop (h : Rest s a []) : skipN s a = a ∧ peekN s a = 0 ∧ a = s.size := by
  have hl := h.len
  simp at hl
  refine ⟨skip_end (by omega), ?_, hl⟩
  unfold peekN
  rw [dif_neg (by omega)]
end
theorem runL_app : ∀ (X R : List UInt8), (∀ c ∈ X, nmB c = true) → stopB R → runL (X ++ R) = X.length
  | [], [], _, _ => rfl
  | [], c :: r, _, h => by
    have h' : nmB c = false := h
    show runL (c :: r) = 0
    rw [runL, if_neg (by rw [h']; decide)]
  | c :: X, R, hx, h => by
    show runL (c :: (X ++ R)) = X.length + 1
    rw [runL, if_pos (hx c List.mem_cons_self), runL_app X R (fun d hd => hx d (List.mem_cons_of_mem _ hd)) h]
theorem name_nm {l : List UInt8} (h : nameL l = true) : ∀ c ∈ l, nmB c = true := by
  cases l with
  | nil => intro c hc; cases hc
  | cons d r =>
    unfold nameL at h
    simp only [Bool.and_eq_true, List.all_eq_true] at h
    intro c hc
    unfold nmB
    rcases List.mem_cons.1 hc with rfl | hc
    · rw [h.1]; rfl
    · exact h.2 c hc
theorem dec_digs : ∀ (u : Nat), ∀ c ∈ Lib.decDigits u, 48 ≤ c.toNat ∧ c.toNat ≤ 57 := by
  intro u
  induction u using Nat.strongRecOn with
  | ind u ih =>
    intro c hc
    have hd : ∀ k, k < 10 → 48 ≤ (UInt8.ofNat (48 + k)).toNat ∧ (UInt8.ofNat (48 + k)).toNat ≤ 57 := by decide
    by_cases h : 10 ≤ u
    · rw [dec_more u h] at hc
      rcases List.mem_append.1 hc with hc | hc
      · exact ih (u / 10) (by omega) c hc
      · rw [List.mem_singleton.1 hc]; exact hd _ (by omega)
    · rw [dec_one u (by omega)] at hc
      rw [List.mem_singleton.1 hc]; exact hd _ (by omega)
theorem dec_cons (u : Nat) : ∃ c r, Lib.decDigits u = c :: r := by
  by_cases h : 10 ≤ u
  · rw [dec_more u h]
    cases h2 : Lib.decDigits (u / 10) with
    | nil => exact ⟨_, [], rfl⟩
    | cons c r => exact ⟨c, _, rfl⟩
  · rw [dec_one u (by omega)]; exact ⟨_, _, rfl⟩
theorem pu_app : ∀ (l m : List UInt8) (acc v : Nat), Lib.parseUint10 acc l = .ok v → Lib.parseUint10 acc (l ++ m) = Lib.parseUint10 v m
  | [], m, acc, v, h => by
    simp only [Lib.parseUint10] at h
    injection h with h
    rw [h]; rfl
  | c :: r, m, acc, v, h => by
    show Lib.parseUint10 acc (c :: (r ++ m)) = _
    simp only [Lib.parseUint10] at h ⊢
    split at h
    · next h1 =>
      rw [if_pos h1]
      split at h
      · cases h
      · next h2 =>
        rw [if_neg h2]
        split at h
        · cases h
        · next h3 => rw [if_neg h3]; exact pu_app r m _ v h
    · cases h
theorem dec_val : ∀ k, k < 10 → (UInt8.ofNat (48 + k)).toNat = 48 + k := by decide
theorem pu_dec : ∀ u, u < 18446744073709551616 → Lib.parseUint10 0 (Lib.decDigits u) = .ok u := by
  intro u
  induction u using Nat.strongRecOn with
  | ind u ih =>
    intro hu
    by_cases h : 10 ≤ u
    · rw [dec_more u h, pu_app _ _ 0 (u / 10) (ih (u / 10) (by omega) (by omega))]
      simp only [Lib.parseUint10, dec_val (u % 10) (by omega)]
      rw [if_pos (by omega), if_neg (by omega), if_neg (by omega)]
      congr 1; omega
    · rw [dec_one u (by omega)]
      simp only [Lib.parseUint10, dec_val u (by omega)]
      rw [if_pos (by omega), if_neg (by omega), if_neg (by omega)]
      congr 1; omega
theorem itoa_pos {n : Int} (h : 0 ≤ n) : Lib.itoa n = Lib.decDigits n.toNat := by unfold Lib.itoa; rw [if_neg (by omega)]
theorem atoi_pos {n : Int} (h : 0 ≤ n) (hi : I64 n) : Lib.atoiAll (Lib.decDigits n.toNat) = .ok n := by
  unfold I64 at hi
  have hv := pu_dec n.toNat (by omega)
  obtain ⟨c, r, e⟩ := dec_cons n.toNat
  have hc := dec_digs n.toNat c (by rw [e]; exact List.mem_cons_self)
  rw [e] at hv ⊢
  rw [Lib.atoiAll_plain c r (by omega) (by omega)]
  have hm : Lib.parseMag (c :: r) = .ok n.toNat := by unfold Lib.parseMag; rw [if_neg (by simp), hv]
  rw [hm]
  unfold Lib.signless
  simp only
  rw [if_neg (by omega)]
  congr 1; omega
theorem nm_digit {c : UInt8} (h : 48 ≤ c.toNat ∧ c.toNat ≤ 57) : nmB c = true := by
  unfold nmB digB digI
  rw [Bool.or_eq_true]
  exact .inr (decide_eq_true (by omega))
theorem let_digit {c : UInt8} (h : 48 ≤ c.toNat ∧ c.toNat ≤ 57) : letB c = false := by
  unfold letB letI'
  exact decide_eq_false (by omega)
theorem no_0x {l : List UInt8} (h : ∀ c ∈ l, 48 ≤ c.toNat ∧ c.toNat ≤ 57) : Lib.hasPrefix l [48, 120] = false := by
  match l with
  | [] => rfl
  | [c] => simp [Lib.hasPrefix, List.isPrefixOf]
  | c :: d :: r =>
    have hd := h d (by simp)
    have hne : d ≠ 120 := by rintro rfl; simp at hd
    simp [Lib.hasPrefix, List.isPrefixOf, hne, Ne.symm hne]
theorem num_pos {w0 : World} (hl : Laid w0) {n : Int} (h : 0 ≤ n) (hi : I64 n) : NumC w0 ⟨(Lib.decDigits n.toNat).toArray⟩ n := by
  have hsz : (⟨(Lib.decDigits n.toNat).toArray⟩ : ByteArray).size ≤ 20 := by
    rw [tx_size]
    unfold I64 at hi
    exact dec_le 20 _ (by omega) (by omega)
  exact num_of w0 _ n (Nat.le_trans hsz (by decide)) (no_0x (dec_digs _)) (atoi_pos h hi) hi fun w k => by
    have := itoa_any n hi w (hl.fr k)
    rw [itoa_pos h] at this
    exact this
section
variable {w0 : World} {s : ByteArray} {pb d a : Nat} {n : Int} {R : List UInt8}
theorem fac_pos (hl : Laid w0) (hzp : w0.heap.size ≤ pb) (hs : s.size ≤ 140737488351232) (h : 0 ≤ n) (hi : I64 n) (hr : Rest s a (Lib.decDigits n.toNat ++ R)) (hR : stopB R) :
    Rds 58 w0 s pb d a ([], n) (a + (Lib.decDigits n.toNat).length) := by
  have hdg := dec_digs n.toNat
  obtain ⟨c, r, e⟩ := dec_cons n.toNat
  have hc := hdg c (by rw [e]; exact List.mem_cons_self)
  have hr' : Rest s a (c :: (r ++ R)) := by rw [e] at hr; exact hr
  have hsk := hr'.skip (by omega)
  have hpk := hr'.peek
  refine fac_run hzp hs hr.1 (by rw [hsk, hpk]; omega) (by rw [hsk, hpk]; omega) ?_
  rw [hsk]
  have hcut := hr.cut
  refine run_of_num hzp hs hr.1 (by rw [hr.2]; exact runL_app _ _ (fun c hc => nm_digit (hdg c hc)) hR) ?_ ?_
  · rw [hcut]
    show nameL (Lib.decDigits n.toNat) = false
    rw [e]
    unfold nameL
    simp [let_digit hc]
  · rw [hcut]; exact num_pos hl h hi
theorem by_num (m k : Int) : byS ([], m) k = ([], mul64 k m) := by
  have : mergeP k [] ([] : List (ByteArray × Int)) = [] := by rw [mergeP]
  show (mergeP k [] [], mul64 k m) = _
  rw [this]
theorem fac_num (hl : Laid w0) (hzp : w0.heap.size ≤ pb) (hs : s.size ≤ 140737488351232) (hi : I64 n) (hr : Rest s a (numT n ++ R)) (hR : stopB R) :
    Rds 58 w0 s pb 0 a ([], n) (a + (numT n).length) := by
  by_cases h0 : n = -9223372036854775808
  · subst h0
    have e : numT (-9223372036854775808) = minTx := rfl
    rw [e] at hr ⊢
    have hr' : Rest s a (48 :: (minTx.tail ++ R)) := hr
    have hsk := hr'.skip (by decide)
    have hpk := hr'.peek
    refine fac_run hzp hs hr.1 (by rw [hsk, hpk]; decide) (by rw [hsk, hpk]; decide) ?_
    rw [hsk]
    have hcut := hr.cut
    refine run_of_num hzp hs hr.1 (by rw [hr.2]; exact runL_app _ _ (by decide) hR) ?_ ?_
    · rw [hcut]; rfl
    · rw [hcut]; exact num_min w0
  · have e : numT n = Lib.itoa n := by unfold numT; rw [if_neg h0]
    rw [e] at hr ⊢
    have hi' := hi
    unfold I64 at hi'
    by_cases hn : 0 ≤ n
    · rw [itoa_pos hn] at hr ⊢
      exact fac_pos hl hzp hs hn hi hr hR
    · have hm : I64 (-n) := by unfold I64; omega
      rw [itoa_neg (by omega), itoa_pos (show 0 ≤ -n by omega)] at hr ⊢
      have hr' : Rest s a (45 :: (Lib.decDigits (-n).toNat ++ R)) := hr
      have hsk := hr'.skip (by decide)
      have hpk := hr'.peek
      have hr2 : Rest s (a + 1) (Lib.decDigits (-n).toNat ++ R) := Rest.move (X := [45]) hr'
      have hf := fac_neg (d := 0) hzp hs hr.1 (by rw [hsk, hpk]; decide) (by decide) (ok_num (-n)) (by rw [hsk]; exact fac_pos hl hzp hs (by omega) hm hr2 hR)
      rw [by_num, show mul64 (-1) (-n) = n by unfold mul64; rw [show (-1 : Int) * -n = n by omega]; exact wrap_id hi] at hf
      rw [List.length_cons, show a + ((Lib.decDigits (-n).toNat).length + 1) = a + 1 + (Lib.decDigits (-n).toNat).length by omega]
      exact hf
theorem fac_name (hzp : w0.heap.size ≤ pb) (hs : s.size ≤ 140737488351232) {x : ByteArray} (hx : nameB x = true) (hr : Rest s a (x.data.toList ++ R)) (hR : stopB R) :
    Rds 58 w0 s pb 0 a ([(x, 1)], 0) (a + x.data.toList.length) := by
  have hnm := name_nm (show nameL x.data.toList = true from hx)
  have hcut := hr.cut
  have hcut' : cutS s a x.data.toList.length = x := by rw [hcut]
  cases e : x.data.toList with
  | nil => unfold nameB at hx; rw [e] at hx; cases hx
  | cons c r =>
    have hlet : letB c = true := by
      unfold nameB at hx; rw [e] at hx; unfold nameL at hx
      simp only [Bool.and_eq_true] at hx
      exact hx.1
    have hcc : c.toNat ≠ 32 ∧ c.toNat ≠ 40 ∧ c.toNat ≠ 45 := by
      unfold letB letI' at hlet
      have := of_decide_eq_true hlet
      omega
    have hr' : Rest s a (c :: (r ++ R)) := by rw [e] at hr; exact hr
    have hsk := hr'.skip hcc.1
    have hpk := hr'.peek
    rw [← e]
    have hru := run_of_name (w0 := w0) (pb := pb) (m := x.data.toList.length) hs hr.1 (by rw [hr.2]; exact runL_app _ _ hnm hR) (by rw [hcut']; exact hx)
    rw [hcut'] at hru
    exact fac_run hzp hs hr.1 (by rw [hsk, hpk]; exact hcc.2.1) (by rw [hsk, hpk]; exact hcc.2.2) (by rw [hsk]; exact hru)
theorem by_name (x : ByteArray) {m : Int} (h0 : m ≠ 0) (hi : I64 m) : byS ([(x, 1)], 0) m = ([(x, m)], 0) := by
  have e1 : mergeP m [] ([] : List (ByteArray × Int)) = [] := by rw [mergeP]
  have e2 : mul64 m 1 = m := by unfold mul64; rw [Int.mul_one]; exact wrap_id hi
  show (mergeP m [] [(x, 1)], mul64 m 0) = _
  rw [mergeP, e1, e2, mul_zero64]
  unfold pushP
  rw [if_neg h0]
theorem ok_name {x : ByteArray} (hx : nameB x = true) (hz : x.size ≤ 140737488351232) {m : Int} (h0 : m ≠ 0) (hi : I64 m) : OkS ([(x, m)], 0) := ok_one hx hz h0 hi 0
/-- How a symbol is written. -/
def oneT (x : ByteArray × Int) : List UInt8 := numT x.2 ++ [42] ++ x.1.data.toList ++ [43]
theorem symT_cons (x : ByteArray × Int) (r : List (ByteArray × Int)) : symT (x :: r) = oneT x ++ symT r := by simp [symT, oneT]
theorem prod_one (hl : Laid w0) (hzp : w0.heap.size ≤ pb) (hs : s.size ≤ 140737488351232) {x : ByteArray × Int} (hx : nameB x.1 = true) (hz : x.1.size ≤ 140737488351232) (h0 : x.2 ≠ 0) (hi : I64 x.2) (hr : Rest s a (oneT x ++ R)) :
    ∃ c, Rds 51 w0 s pb 0 a ([x], 0) c ∧ Rest s c (43 :: R) ∧ a < c := by
  obtain ⟨y, m⟩ := x
  simp only at hx hz h0 hi
  have hr1 : Rest s a (numT m ++ (42 :: (y.data.toList ++ (43 :: R)))) := by
    have e : oneT (y, m) ++ R = numT m ++ (42 :: (y.data.toList ++ (43 :: R))) := by simp [oneT]
    rw [e] at hr; exact hr
  have hf := fac_num (pb := pb) hl hzp hs hi hr1 (show nmB 42 = false by decide)
  have hr2 := hr1.move
  have hs2 := hr2.skip (by decide)
  have hp2 := hr2.peek
  have hr3 : Rest s (a + (numT m).length + 1) (y.data.toList ++ (43 :: R)) := Rest.move (X := [42]) hr2
  have hg := fac_name (w0 := w0) (pb := pb) hzp hs hx hr3 (show nmB 43 = false by decide)
  have hr4 := hr3.move
  have hs4 := hr4.skip (by decide)
  have hp4 := hr4.peek
  refine ⟨_, rds_some (wa := 0) (product_ok hzp hs hr2.1 (ok_num m) hf (.sym (u := ([(y, 1)], 0)) (by rw [hs2, hp2]; decide) (by rw [hs2]; exact hg) (ok_one hx hz (by decide) (by unfold I64; decide) 0) (by rw [hs2]; omega) hr4.1 (by simp) rfl (by
    have e : byS ([(y, 1)], 0) (([], m) : Sm2).2 = ([(y, m)], 0) := by_name y h0 hi
    rw [e]
    exact .stop (by rw [hs4, hp4]; decide) (by rw [hs4])))), hr4, by omega⟩
theorem prod_off (hl : Laid w0) (hzp : w0.heap.size ≤ pb) (hs : s.size ≤ 140737488351232) (hi : I64 n) (hr : Rest s a (numT n)) :
    Rds 51 w0 s pb 0 a ([], n) s.size ∧ a < s.size := by
  have hr1 : Rest s a (numT n ++ []) := by rw [List.append_nil]; exact hr
  have hf := fac_num (pb := pb) hl hzp hs hi hr1 trivial
  have hr2 := hr1.move
  obtain ⟨q1, q2, q3⟩ := hr2.stop
  have hpos : 0 < (numT n).length := by
    unfold numT
    split
    · decide
    · unfold Lib.itoa
      split
      · simp
      · obtain ⟨c, r, e⟩ := dec_cons n.toNat
        rw [e]; simp
  refine ⟨?_, by omega⟩
  rw [← q3]
  exact rds_some (wa := 0) (product_ok hzp hs hr2.1 (ok_num n) hf (.stop (by rw [q1, q2]; decide) (by rw [q1])))
theorem merge_app {y : ByteArray} {m : Int} (h0 : m ≠ 0) (hi : I64 m) : ∀ P : List (ByteArray × Int), (∀ x ∈ P, ltB x.1 y = true ∧ x.2 ≠ 0) → mergeP 1 P [(y, m)] = P ++ [(y, m)]
  | [], _ => by
    have e1 : mergeP 1 [] ([] : List (ByteArray × Int)) = [] := by rw [mergeP]
    have e2 : mul64 1 m = m := by unfold mul64; rw [Int.one_mul]; exact wrap_id hi
    rw [mergeP, e1, e2]
    unfold pushP
    rw [if_neg h0]; rfl
  | x :: r, h => by
    obtain ⟨h1, h2⟩ := h x List.mem_cons_self
    rw [mergeP, if_pos h1, merge_app h0 hi r (fun z hz => h z (List.mem_cons_of_mem _ hz))]
    unfold pushP
    rw [if_neg h2]; rfl
theorem asc_app : ∀ {P Q : List (ByteArray × Int)}, ascP (P ++ Q) → ascP P ∧ ascP Q ∧ ∀ x ∈ P, ∀ y ∈ Q, ltB x.1 y.1 = true
  | [], Q, h => ⟨trivial, h, fun x hx => by cases hx⟩
  | x :: P, Q, h => by
    obtain ⟨h1, h2, h3, h4⟩ : nameB x.1 = true ∧ x.2 ≠ 0 ∧ (∀ y ∈ P ++ Q, ltB x.1 y.1 = true) ∧ ascP (P ++ Q) := h
    obtain ⟨g1, g2, g3⟩ := asc_app h4
    refine ⟨⟨h1, h2, fun y hy => h3 y (List.mem_append_left _ hy), g1⟩, g2, fun z hz y hy => ?_⟩
    rcases List.mem_cons.1 hz with rfl | hz
    · exact h3 y (List.mem_append_right _ hy)
    · exact g3 z hz y hy
theorem asc_nz : ∀ {P : List (ByteArray × Int)}, ascP P → ∀ x ∈ P, nameB x.1 = true ∧ x.2 ≠ 0
  | [], _, x, hx => by cases hx
  | y :: P, h, x, hx => by
    obtain ⟨h1, h2, h3, h4⟩ : nameB y.1 = true ∧ y.2 ≠ 0 ∧ (∀ z ∈ P, ltB y.1 z.1 = true) ∧ ascP P := h
    rcases List.mem_cons.1 hx with rfl | hx
    · exact ⟨h1, h2⟩
    · exact asc_nz h4 x hx
/-- The rest of the text, behind some symbols. -/
theorem tail_sum (hl : Laid w0) (hzp : w0.heap.size ≤ pb) (hs : s.size ≤ 140737488351232) (hi : I64 n) {P : List (ByteArray × Int)} (hP : ascP P) (h16 : P.length ≤ 16) (hsm : ∀ x ∈ P, x.1.size ≤ 140737488351232 ∧ I64 x.2) :
    ∀ (Q P1 : List (ByteArray × Int)) (a : Nat), P1 ++ Q = P → Rest s a (43 :: (symT Q ++ numT n)) → SumL w0 s pb 0 (P, n) s.size (P1, 0) a
  | [], P1, a, e, hr => by
    rw [List.append_nil] at e
    subst e
    have hs1 := hr.skip (by decide)
    have hp1 := hr.peek
    have hr2 : Rest s (a + 1) (numT n) := Rest.move (X := [43]) hr
    obtain ⟨hq, hlt⟩ := prod_off (pb := pb) hl hzp hs hi hr2
    have eA : addS (P1, 0) ([], n) = (P1, n) := by
      show (mergeP 1 P1 [], add64 0 n) = _
      rw [merge_nil hP (fun x hx => (hsm x hx).2), zero_add64 hi]
    refine .plus (u := ([], n)) (by rw [hs1, hp1]; decide) (by rw [hs1]; exact hq) (ok_num n) (by rw [hs1]; omega) (Nat.le_refl _) (by rw [eA]; exact h16) ?_
    rw [eA]
    have hre : Rest s s.size [] := ⟨Nat.le_refl _, List.drop_eq_nil_of_le (by simp)⟩
    obtain ⟨q1, q2, _⟩ := hre.stop
    exact .stop (by rw [q1, q2]; decide) (by rw [q1, q2]; decide) rfl q1.symm
  | x :: Q, P1, a, e, hr => by
    have hs1 := hr.skip (by decide)
    have hp1 := hr.peek
    have hr2 : Rest s (a + 1) (oneT x ++ (symT Q ++ numT n)) := by
      rw [symT_cons, List.append_assoc] at hr
      exact Rest.move (X := [43]) hr
    have hxP : x ∈ P := by rw [← e]; simp
    obtain ⟨hnx, hzx⟩ := asc_nz hP x hxP
    obtain ⟨hsx, hix⟩ := hsm x hxP
    obtain ⟨c, hq, hr3, hac⟩ := prod_one (pb := pb) hl hzp hs hnx hsx hzx hix hr2
    have hasc : ascP (P1 ++ x :: Q) := by rw [e]; exact hP
    obtain ⟨_, _, hlt⟩ := asc_app hasc
    have hP1 : ∀ y ∈ P1, ltB y.1 x.1 = true ∧ y.2 ≠ 0 := fun y hy => ⟨hlt y hy x List.mem_cons_self, (asc_nz hP y (by rw [← e]; exact List.mem_append_left _ hy)).2⟩
    have eA : addS (P1, 0) ([x], 0) = (P1 ++ [x], 0) := by
      show (mergeP 1 P1 [(x.1, x.2)], add64 0 0) = _
      rw [merge_app hzx hix P1 hP1, add_zero64 i64_zero]
    have hle : (P1 ++ [x]).length ≤ 16 := by rw [← e] at h16; simp at h16 ⊢; omega
    refine .plus (u := ([x], 0)) (by rw [hs1, hp1]; decide) (by rw [hs1]; exact hq) (ok_one hnx hsx hzx hix 0) (by rw [hs1]; omega) hr3.1 (by rw [eA]; exact hle) ?_
    rw [eA]
    exact tail_sum hl hzp hs hi hP h16 hsm Q (P1 ++ [x]) c (by rw [List.append_assoc]; exact e) hr3
theorem sum_text (hl : Laid w0) (hzp : w0.heap.size ≤ pb) (hs : s.size ≤ 140737488351232) (hi : I64 n) {P : List (ByteArray × Int)} (hP : ascP P) (h16 : P.length ≤ 16) (hsm : ∀ x ∈ P, x.1.size ≤ 140737488351232 ∧ I64 x.2) (he : s.data.toList = prT P n) :
    Rds 40 w0 s pb 0 0 (P, n) s.size := by
  have hr : Rest s 0 (symT P ++ numT n) := ⟨Nat.zero_le _, he⟩
  cases P with
  | nil =>
    obtain ⟨hq, hlt⟩ := prod_off (pb := pb) hl hzp hs hi (show Rest s 0 (numT n) from hr)
    have hre : Rest s s.size [] := ⟨Nat.le_refl _, List.drop_eq_nil_of_le (by simp)⟩
    obtain ⟨q1, q2, _⟩ := hre.stop
    exact sum_ok hzp hs (Nat.le_refl _) (ok_num n) hq (.stop (by rw [q1, q2]; decide) (by rw [q1, q2]; decide) rfl q1.symm)
  | cons x Q =>
    obtain ⟨hnx, hzx⟩ := asc_nz hP x List.mem_cons_self
    obtain ⟨hsx, hix⟩ := hsm x List.mem_cons_self
    have hr2 : Rest s 0 (oneT x ++ (symT Q ++ numT n)) := by
      rw [symT_cons, List.append_assoc] at hr; exact hr
    obtain ⟨c, hq, hr3, hac⟩ := prod_one (pb := pb) hl hzp hs hnx hsx hzx hix hr2
    exact sum_ok hzp hs hr3.1 (ok_one hnx hsx hzx hix 0) hq (tail_sum hl hzp hs hi hP h16 hsm Q [x] c rfl hr3)
end
theorem read_c : ReadC Laid Sml := by
  intro a w hl hq hs hn
  have e1 := norm_len hn
  have h16 := norm_plen hn
  have hP := norm_asc hn
  have hsm := norm_mem hs
  have hof := hs.2.2
  have hsm2 : ∀ x ∈ a.P, x.1.size ≤ 1048576 ∧ I64 x.2 := fun x hx => ⟨hq _ (by rw [← norm_fsts hn]; exact List.mem_map.2 ⟨x, hx, rfl⟩), (hsm x hx).2⟩
  have hsz : (textL a).size ≤ 140737488351232 := by
    unfold textL
    rw [tx_size]
    unfold prT
    have h1 := symT_len2 a.P hsm2
    have h2 := numT_len hof
    simp only [List.length_append]
    omega
  have hre : Rest (textL a) (textL a).size [] := ⟨Nat.le_refl _, List.drop_eq_nil_of_le (by simp)⟩
  refine (parse_ok (w := w) (s := textL a) (b' := (textL a).size) (r := (a.P, a.off)) hsz (Nat.le_refl _) hre.stop.1 ⟨hP, by simp only; omega, hsm⟩ (fun pb hpb => sum_text hl hpb hsz hof hP (by omega) hsm rfl)).mono ?_
  rintro e w' ⟨x, he, hat, hf⟩
  refine ⟨x, 0, he, ?_, hf⟩
  have ea : ofP a.P a.off = a := by
    have h1 := norm_fsts hn
    have h2 := norm_snds hn
    unfold ofP
    rw [h1, h2]
  rw [ea] at hat
  exact hat
end Go.Proofs.YtbnaakognnkhdaaGreatDoor
