/- What Text and the document's Text answer. -/
import Derived.Test.YtoookfhaeojfiaaSame
import Derived.Test.YtoookfhaeojfiaaShelf
namespace Go.Proofs.Ytoookfhaeojfiaa
open Go.RowKit

/-- Is there a byte 0 at or behind p? Where the first is, counted from p. -/
def zeroAt : List Int → Option Nat
  | [] => none
  | x :: l => if x = 0 then some 0 else (zeroAt l).map (· + 1)
theorem zeroAt_some {l : List Int} {n : Nat} (h : zeroAt l = some n) : n < l.length ∧ l[n]? = some 0 ∧ ∀ i, i < n → l[i]? ≠ some 0 := by
  induction l generalizing n with
  | nil => cases h
  | cons x l ih =>
    unfold zeroAt at h
    by_cases hx : x = 0
    · rw [if_pos hx] at h
      injection h with h
      subst h hx
      exact ⟨by simp, rfl, fun i hi => by omega⟩
    · rw [if_neg hx] at h
      obtain ⟨m, hm, rfl⟩ := Option.map_eq_some_iff.1 h
      obtain ⟨a, b, c⟩ := ih hm
      refine ⟨by simp; omega, by simpa using b, fun i hi => ?_⟩
      cases i with
      | zero => simpa using hx
      | succ i => simpa using c i (by omega)
theorem zeroAt_none {l : List Int} (h : zeroAt l = none) (i : Nat) (hi : i < l.length) : l[i] ≠ 0 := by
  induction l generalizing i with
  | nil => simp at hi
  | cons x l ih =>
    unfold zeroAt at h
    by_cases hx : x = 0
    · rw [if_pos hx] at h; cases h
    · rw [if_neg hx] at h
      cases i with
      | zero => exact hx
      | succ i => exact ih (by simpa using h) i (by simpa using hi)
theorem zeroAt_of {l : List Int} {n : Nat} (h : l[n]? = some 0) (hb : ∀ i, i < n → l[i]? ≠ some 0) : zeroAt l = some n := by
  have hn : n < l.length := (List.getElem?_eq_some_iff.1 h).1
  cases e : zeroAt l with
  | none => exact absurd (List.getElem?_eq_some_iff.1 h).2 (zeroAt_none e n hn)
  | some m =>
    obtain ⟨_, b, c⟩ := zeroAt_some e
    rcases Nat.lt_trichotomy m n with k | k | k
    · exact absurd b (hb m k)
    · rw [k]
    · exact absurd h (c n k)
theorem zeroAt_of_none {l : List Int} (hb : ∀ i, i < l.length → l[i]? ≠ some 0) : zeroAt l = none := by
  cases e : zeroAt l with
  | none => rfl
  | some m =>
    obtain ⟨a, b, _⟩ := zeroAt_some e
    exact absurd b (hb m a)
def idxI : Option Nat → Int
  | none => -1
  | some n => (n : Int)
theorem zeroAt_index {l : List Int} (hb : By l) : Lib.indexByte (Lib.bytesOf l) 0 = idxI (zeroAt l) := by
  induction l with
  | nil => rfl
  | cons x l ih =>
    have ih := ih fun y hy => hb y (List.mem_cons_of_mem _ hy)
    obtain ⟨x0, x1⟩ := hb x List.mem_cons_self
    unfold zeroAt
    show Lib.indexByte (UInt8.ofNat x.toNat :: Lib.bytesOf l) 0 = _
    unfold Lib.indexByte
    by_cases hx : x = 0
    · subst hx; simp [idxI]
    · have hne : ¬ UInt8.ofNat x.toNat = 0 := fun h => hx (byte_inj ⟨x0, x1⟩ (by omega) (y := 0) (by simpa using h))
      rw [if_neg hx, if_neg (by simpa using hne), ih]
      cases zeroAt l with
      | none => simp [idxI]
      | some n =>
        have : ¬ (n : Int) = -1 := by omega
        simp [idxI, this]
set_option maxHeartbeats 1600000 in
theorem text_out (A : Option Addr) (m c : Nat) (p : Int) (hm : m ≤ maxLen) (h : ¬ (0 ≤ p ∧ p + 1 ≤ m)) (w : World) :
    Calls Try.prog 18 #[.slice A m c, .int .i64 p] w fun e w' => e = .returned (.tuple #[.string ByteArray.empty, .int .i64 21]) ∧ w = w' := by
  have HA := Lib.hid (fun wx => within_no A m c p 1 hm (by omega) (by omega) h wx)
  clear h
  go_enter Try.func18, Try.ntmps18
  go_wp2_with (first | (go_at_call 20; refine (HA.out _).mono ?_; rintro e w1 ⟨rfl, rfl⟩))
  go_ret2
  exact ⟨rfl, rfl⟩
set_option maxHeartbeats 3200000 in
theorem text_no (A : Option Addr) (c a : Nat) (l : List Int) (hb : By l) (hm : l.length ≤ maxLen) (hlc : l.length ≤ c) (hcm : c ≤ maxLen) (ha : a < l.length) (w : World) (hr : Rd u8v w A l) (hz : zeroAt (l.drop a) = none) :
    Calls Try.prog 18 #[.slice A l.length c, .int .i64 (a : Int)] w fun e w' => e = .returned (.tuple #[.string ByteArray.empty, .int .i64 21]) ∧ w = w' := by
  have HA := Lib.hid (fun wx => within_yes A l.length c a 1 hm (by omega) (by omega) (by omega) (by omega) wx)
  obtain ⟨g, o, rfl, hg, hc⟩ := hr (by omega)
  have hx := zeroAt_index (hb.drop a)
  rw [hz] at hx
  have HI := Lib.hid (Try.bytes_IndexByte g (o + a) (l.length - a) (c - a) (l.drop a) 0 w (by simp) (fun i hi => by rw [Nat.add_assoc, hc (a + i) (by omega), List.getD, List.getElem?_drop, List.getElem?_eq_getElem (by omega)]; rfl))
  have e0 : (0 : Int).toNat.toUInt8 = 0 := rfl
  rw [e0, hx] at HI
  clear e0 hx hz hc hr hb
  unfold maxLen at hcm hm
  have hne : ¬ c = a := by omega
  have ha' : (a : Int) ≤ (l.length : Int) := by omega
  go_enter Try.func18, Try.ntmps18
  go_wp2_with (first | (go_at_call 20; refine (HA.out _).mono ?_; rintro e w1 ⟨rfl, rfl⟩) | (go_at_call 24; refine HI.out.mono ?_; rintro e w1 ⟨rfl, hw1⟩; subst hw1))
  go_ret2
  exact ⟨rfl, rfl⟩
set_option maxHeartbeats 3200000 in
theorem text_yes (A : Option Addr) (c a n : Nat) (l : List Int) (hb : By l) (hm : l.length ≤ maxLen) (hlc : l.length ≤ c) (hcm : c ≤ maxLen) (ha : a < l.length) (w : World) (hr : Rd u8v w A l) (hz : zeroAt (l.drop a) = some n) :
    Calls Try.prog 18 #[.slice A l.length c, .int .i64 (a : Int)] w fun e w' => e = .returned (.tuple #[.string (strOfNums ((l.drop a).take n)), .int .i64 0]) ∧ w = w' := by
  have HA := Lib.hid (fun wx => within_yes A l.length c a 1 hm (by omega) (by omega) (by omega) (by omega) wx)
  obtain ⟨g, o, rfl, hg, hc⟩ := hr (by omega)
  have hx := zeroAt_index (hb.drop a)
  rw [hz] at hx
  obtain ⟨hn, _, _⟩ := zeroAt_some hz
  have hn' : a + n < l.length := by simp at hn; omega
  have HI := Lib.hid (Try.bytes_IndexByte g (o + a) (l.length - a) (c - a) (l.drop a) 0 w (by simp) (fun i hi => by rw [Nat.add_assoc, hc (a + i) (by omega), List.getD, List.getElem?_drop, List.getElem?_eq_getElem (by omega)]; rfl))
  have e0 : (0 : Int).toNat.toUInt8 = 0 := rfl
  rw [e0, hx] at HI
  have hk : ∀ cc, (convert 22 9 (.slice (some ⟨g, o + a, none⟩) n cc)).run Try.prog w = .ok (.string (strOfNums ((l.drop a).take n))) w := fun cc =>
    conv_rd' (hr.part a n (by omega) (B := some ⟨g, o + a, none⟩) (fun _ => by unfold Addr.add; by_cases h0 : a = 0 <;> simp [h0])) n cc (by simp; omega) Try.underlying22 Try.underlying5 Try.underlying9
  clear e0 hx hz hc hr hb hn
  unfold maxLen at hcm hm
  have hne : ¬ c = a := by omega
  have ha' : (a : Int) ≤ (l.length : Int) := by omega
  have hab : (a : Int) + (n : Int) ≤ (c : Int) := by omega
  have ek : a + n - a = n := by omega
  generalize strOfNums ((l.drop a).take n) = S at *
  go_enter Try.func18, Try.ntmps18
  go_wp2_with (first | (go_at_call 20; refine (HA.out _).mono ?_; rintro e w1 ⟨rfl, rfl⟩) | (go_at_call 24; refine HI.out.mono ?_; unfold idxI; rintro e w1 ⟨rfl, rfl⟩))
  go_ret2
  exact ⟨rfl, rfl⟩
/-- The document's Text. -/
def RelT (l : List Int) (a : Nat) (i : Value) : Prop := ∃ j : Nat, a + j ≤ l.length ∧ i = .int .i64 ((a : Int) + (j : Int)) ∧ ∀ t, t < j → (l.drop a)[t]? ≠ some 0
theorem rtext_out (A : Option Addr) (m c : Nat) (p : Int) (hm : m ≤ maxLen) (h : ¬ (0 ≤ p ∧ p + 1 ≤ m)) (w : World) :
    Calls Try.prog 17 #[.slice A m c, .int .i64 p] w fun e w' => e = .returned (.tuple #[.string ByteArray.empty, .int .i64 21]) ∧ w = w' := by
  unfold maxLen at hm
  by_cases h0 : 0 ≤ p
  · have h1 : ¬ p < (m : Int) := by omega
    clear h
    go_enter Try.func17, Try.ntmps17
    go_wp2
    go_ret2
    exact ⟨rfl, rfl⟩
  · clear h
    go_enter Try.func17, Try.ntmps17
    go_wp2
    go_ret2
    exact ⟨rfl, rfl⟩
set_option maxHeartbeats 3200000 in
theorem rtext_in (A : Option Addr) (c a : Nat) (l : List Int) (r : Value) (hb : By l) (hm : l.length ≤ maxLen) (hlc : l.length ≤ c) (hcm : c ≤ maxLen) (ha : a < l.length) (w : World) (hr : Rd u8v w A l)
    (hno : zeroAt (l.drop a) = none → r = .tuple #[.string ByteArray.empty, .int .i64 21]) (hyes : ∀ n, zeroAt (l.drop a) = some n → r = .tuple #[.string (strOfNums ((l.drop a).take n)), .int .i64 0]) :
    Calls Try.prog 17 #[.slice A l.length c, .int .i64 (a : Int)] w fun e w' => e = .returned r ∧ w = w' := by
  obtain ⟨g, o, rfl, hg, hc⟩ := hr (by omega)
  have HR := Lib.hid hr
  have HC := Lib.hid hc
  have HN := Lib.hid hno
  have HY := Lib.hid hyes
  unfold maxLen at hcm hm
  have ha' : (a : Int) < (l.length : Int) := by omega
  clear hc hr hb hno hyes
  go_enter Try.func17, Try.ntmps17
  go_wp2
  go_loop [6] (fun i => RelT l a i) (fun i => l.length - (intOf i).toNat)
  case atStart => exact ⟨0, by omega, rfl, fun t ht => by omega⟩
  case round =>
    obtain ⟨j, hj, rfl, hbef⟩ := hrel
    have HB := Lib.hid hbef
    clear hbef
    by_cases hlt : a + j < l.length
    · have hcell := HC.out (a + j) hlt
      have hlt' : (a : Int) + (j : Int) < (l.length : Int) := by omega
      by_cases hz : l[a + j] = 0
      · have hk : ∀ cc, (convert 22 9 (.slice (some ⟨g, o + a, none⟩) j cc)).run Try.prog w = .ok (.string (strOfNums ((l.drop a).take j))) w := fun cc =>
          conv_rd' (HR.out.part a j (by omega) (B := some ⟨g, o + a, none⟩) (fun _ => by unfold Addr.add; by_cases h0 : a = 0 <;> simp [h0])) j cc (by simp; omega) Try.underlying22 Try.underlying5 Try.underlying9
        have hne : ¬ c = a := by omega
        have ek : a + j - a = j := by omega
        have hle : a + j ≤ c := by omega
        have HYY := Lib.hid (HY.out j (zeroAt_of (by rw [List.getElem?_drop, List.getElem?_eq_getElem hlt, hz]) HB.out))
        rw [hz] at hcell
        go_wp2
        go_ret2
        exact ⟨by rw [HYY.out]; rfl, rfl⟩
      · have HZ := Lib.hid (show ∀ t, t < j + 1 → (l.drop a)[t]? ≠ some 0 from fun t ht => by
          by_cases h : t < j
          · exact HB.out t h
          · obtain rfl : t = j := by omega
            rw [List.getElem?_drop, List.getElem?_eq_getElem hlt]
            intro k; injection k with k; exact hz k)
        generalize l[a + j] = X at *
        go_wp2
        go_round
        case rel => exact ⟨j + 1, by omega, by go_num, HZ.out⟩
        case measure => simp [intOf]; omega
    · have HNN := Lib.hid (HN.out (zeroAt_of_none (fun i hi => HB.out i (by simp at hi; omega))))
      go_wp2
      go_ret2
      exact ⟨by rw [HNN.out]; rfl, rfl⟩
end Go.Proofs.Ytoookfhaeojfiaa
