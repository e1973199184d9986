/- What is wrong with regions, wherever the others lie. -/
import Derived.Test.YtelfokoibmpdlaaMi
import Derived.Test.YtelfokoibmpdlaaMe
namespace Go.Proofs.Ytelfokoibmpdlaa
open Go.RowKit
set_option linter.unusedSimpArgs false
set_option linter.unusedVariables false

def sumB : List Rg → Nat
  | [] => 0
  | r :: l => r.bs.length + sumB l
theorem sumB_append : ∀ (l m : List Rg), sumB (l ++ m) = sumB l + sumB m
  | [], m => by simp [sumB]
  | r :: l, m => by simp [sumB, sumB_append l m]; omega
theorem sumB_le : ∀ (l : List Rg) (n : Nat), (∀ r ∈ l, r.bs.length ≤ n) → sumB l ≤ l.length * n
  | [], n, _ => by simp [sumB]
  | r :: l, n, h => by
    have h1 := h r (by simp)
    have h2 := sumB_le l n fun x hx => h x (List.mem_cons_of_mem _ hx)
    simp only [sumB, List.length_cons, Nat.add_mul]; omega
theorem sumB_mem : ∀ {l : List Rg} {r : Rg}, r ∈ l → r.bs.length ≤ sumB l
  | x :: l, r, h => by
    rcases List.mem_cons.1 h with rfl | h
    · simp [sumB]
    · have := sumB_mem h; simp [sumB]; omega
/-- Too many regions, or too many bytes. -/
def tmB (l : List Rg) : Bool := decide (64 < l.length) || decide (67108864 < sumB l)
/-- Some bytes lie beyond the last address. -/
def bydB (r : Rg) : Bool := decide (0 < r.bs.length) && decide (18446744073709551616 < r.pl + r.bs.length)
def badB (r : Rg) : Bool := !(decide (0 ≤ r.pm) && decide (r.pm ≤ 7)) || bydB r
def chkI (l : List Rg) : Int := if tmB l then 73 else if l.any badB then 71 else 0
set_option maxHeartbeats 3200000 in
theorem beyond_any (pl : Nat) (pm : Int) (bs : List Nat) (A : Option Addr) (c : Nat) (hpl : pl < 18446744073709551616) (hn : bs.length ≤ maxLen) (w : World) :
    Calls Try.prog 35 #[.agg #[.int .u64 (pl : Int), .int .i64 pm, .slice A bs.length c]] w fun e w' => e = .returned (.bool (bydB ⟨pl, pm, bs⟩)) ∧ Fr w w' := by
  unfold maxLen at hn
  have HD := Lib.hid (show bydB ⟨pl, pm, bs⟩ = (decide (0 < bs.length) && decide (18446744073709551616 < pl + bs.length)) from rfl)
  generalize bs.length = n at *
  by_cases h0 : 0 < n
  · obtain ⟨m, rfl⟩ : ∃ m, n = m + 1 := ⟨n - 1, by omega⟩
    by_cases h1 : 18446744073709551616 < pl + (m + 1)
    · have h2 : (18446744073709551615 : Int) - (pl : Int) < (m : Int) := by omega
      have HD2 := Lib.hid (show bydB ⟨pl, pm, bs⟩ = true by rw [HD.out]; simp; omega)
      clear HD h1
      go_enter Try.func35, Try.ntmps35
      go_wp2
      go_ret
      exact ⟨ret_bool HD2.out.symm, Fr.alloc (Fr.refl w) _⟩
    · have h2 : ¬ ((18446744073709551615 : Int) - (pl : Int) < (m : Int)) := by omega
      have HD2 := Lib.hid (show bydB ⟨pl, pm, bs⟩ = false by rw [HD.out]; simp; omega)
      clear HD h1
      go_enter Try.func35, Try.ntmps35
      go_wp2
      go_ret
      exact ⟨ret_bool HD2.out.symm, Fr.alloc (Fr.refl w) _⟩
  · obtain rfl : n = 0 := by omega
    have HD2 := Lib.hid (show bydB ⟨pl, pm, bs⟩ = false by rw [HD.out]; simp)
    clear HD
    go_enter Try.func35, Try.ntmps35
    go_wp2
    go_ret
    exact ⟨ret_bool HD2.out.symm, Fr.alloc (Fr.refl w) _⟩
def RelT (l : List Rg) (w : World) (s i : Value) (wr : World) : Prop := ∃ k : Nat, i = .int .i64 (k : Int) ∧ k ≤ l.length ∧ s = .int .i64 (sumB (l.take k) : Int) ∧ Fr w wr
set_option maxHeartbeats 6400000 in
set_option maxRecDepth 100000 in
theorem tooMany_any (A : Option Addr) (l : List Rg) (c : Nat) (w : World) (hA : RowOf RgAt 3 w A l) (hlen : l.length ≤ maxLen) (hby : ∀ r ∈ l, r.bs.length ≤ 140737488351232) :
    Calls Try.prog 34 #[.slice A l.length c] w fun e w' => e = .returned (.bool (tmB l)) ∧ Fr w w' := by
  unfold maxLen at hlen
  have HA := Lib.hid hA
  by_cases h64 : 64 < l.length
  · have HD := Lib.hid (show tmB l = true by simp [tmB, h64])
    clear hA hby
    go_enter Try.func34, Try.ntmps34
    go_wp2
    go_ret
    exact ⟨ret_bool HD.out.symm, Fr.refl w⟩
  · have HD := Lib.hid (show tmB l = decide (67108864 < sumB l) by simp [tmB, h64])
    have HB := Lib.hid (fun k => Nat.le_trans (sumB_le (l.take k) 140737488351232 fun r hr => hby r (List.mem_of_mem_take hr)) (Nat.mul_le_mul_right 140737488351232 (show (l.take k).length ≤ 64 by simp; omega)))
    clear hA hby
    go_enter Try.func34, Try.ntmps34
    go_wp2
    go_loopw [3, 11] (fun s i wr => RelT l w s i wr) (fun _ i _ => l.length - (intOf i).toNat)
    case atStart => exact ⟨0, rfl, by omega, by simp [sumB], Fr.refl w⟩
    case round =>
      obtain ⟨k, rfl, hk, rfl, hf⟩ := hrel
      have HF := Lib.hid hf
      by_cases hlt : k < l.length
      · obtain ⟨b, o, rfl, hx⟩ := (HA.out.fr (fun _ _ _ h => h.fr hf)).at hlt
        rw [Nat.mul_comm 3 k] at hx
        obtain ⟨s, hs, c0, c1, c2⟩ := hx
        have HN := Lib.hid (show sumB (l.take (k + 1)) = sumB (l.take k) + (l[k]).bs.length by rw [List.take_succ_eq_append_getElem hlt, sumB_append]; simp [sumB])
        have hb1 := HB.out (k + 1)
        rw [HN.out] at hb1
        have zb := lt_of_cell c0
        have hki : (k : Int) < (l.length : Int) := by omega
        generalize sumB (l.take k) = q at *
        generalize l[k] = r at *
        obtain ⟨pl, pm, bs⟩ := r
        obtain ⟨sa, sc⟩ := s
        simp only at c0 c1 c2 hb1
        clear hs hf
        generalize hbl : bs.length = n at *
        have HN2 := Lib.hid (show sumB (l.take (k + 1)) = q + n by have := HN.out; simpa [hbl] using this)
        clear HN
        go_wp2
        go_roundw
        case rel => exact ⟨k + 1, rfl, by omega, by rw [HN2.out]; rfl, Fr.alloc HF.out _⟩
        case measure => simp [intOf]; omega
      · obtain rfl : k = l.length := by omega
        rw [List.take_length]
        have hb1 := HB.out l.length
        rw [List.take_length] at hb1
        go_wp2
        go_ret
        exact ⟨bool_iff (by rw [HD.out, decide_eq_true_eq, decide_eq_true_eq]; omega), HF.out⟩
def RelK (l : List Rg) (w : World) (i : Value) (wr : World) : Prop := ∃ k : Nat, i = .int .i64 (k : Int) ∧ k ≤ l.length ∧ (l.take k).any badB = false ∧ Fr w wr
set_option maxHeartbeats 6400000 in
set_option maxRecDepth 100000 in
theorem check_any (A : Option Addr) (l : List Rg) (c : Nat) (w : World) (hA : RowOf RgAt 3 w A l) (hlen : l.length ≤ maxLen) (hby : ∀ r ∈ l, r.bs.length ≤ 140737488351232) :
    Calls Try.prog 23 #[.slice A l.length c] w fun e w' => e = .returned (.int .i64 (chkI l)) ∧ Fr w w' := by
  have HT := Lib.hid (tooMany_any A l c w hA hlen hby)
  have HA := Lib.hid hA
  unfold maxLen at hlen
  clear hA hby
  cases ht : tmB l with
  | true =>
    have HD := Lib.hid (show chkI l = 73 by simp [chkI, ht])
    rw [ht] at HT
    go_enter Try.func23, Try.ntmps23
    go_wp2_with (go_at_call 34; refine HT.out.mono ?_; rintro e w1 ⟨rfl, hf⟩; have HF := Lib.hid hf; clear hf)
    go_ret
    exact ⟨ret_int HD.out.symm, HF.out⟩
  | false =>
    have HD := Lib.hid (show chkI l = if l.any badB then 71 else 0 by simp [chkI, ht])
    rw [ht] at HT
    go_enter Try.func23, Try.ntmps23
    go_wp2_with (go_at_call 34; refine HT.out.mono ?_; rintro e w1 ⟨rfl, hf⟩; have HF1 := Lib.hid hf; clear hf)
    go_loopw [9] (fun i wr => RelK l w i wr) (fun i _ => l.length - (intOf i).toNat)
    case atStart => exact ⟨0, rfl, by omega, by simp, HF1.out⟩
    case round =>
      obtain ⟨k, rfl, hk, hno, hf⟩ := hrel
      have HF := Lib.hid hf
      by_cases hlt : k < l.length
      · obtain ⟨b, o, rfl, hx⟩ := (HA.out.fr (fun _ _ _ h => h.fr hf)).at hlt
        rw [Nat.mul_comm 3 k] at hx
        obtain ⟨s, hs, c0, c1, c2⟩ := hx
        have HN := Lib.hid (show badB l[k] = false → (l.take (k + 1)).any badB = false from fun h => by rw [List.take_succ_eq_append_getElem hlt, List.any_append, hno]; simp [h])
        have HY := Lib.hid (show badB l[k] = true → chkI l = 71 from fun h => by rw [HD.out, if_pos (List.any_eq_true.2 ⟨l[k], List.getElem_mem hlt, h⟩)])
        have zb := lt_of_cell c0
        have hki : (k : Int) < (l.length : Int) := by omega
        have HP := Lib.hid (fun W => isPerm_any (l[k]).pm W)
        have HBY := Lib.hid (fun W => beyond_any (l[k]).pl (l[k]).pm (l[k]).bs s.1 s.2 hs.num.pl (Nat.le_trans hs.cap hs.capm) W)
        generalize l[k] = r at *
        obtain ⟨pl, pm, bs⟩ := r
        obtain ⟨sa, sc⟩ := s
        simp only at c0 c1 c2 HP HBY
        clear hs hf hno
        cases hp : (decide (0 ≤ pm) && decide (pm ≤ 7)) with
        | false =>
          have HY2 := Lib.hid (HY.out (by simp only [badB, hp]; rfl))
          rw [hp] at HP
          clear HY HN HBY hp
          go_wp2_with (go_at_call 31; refine (HP.out _).mono ?_; rintro e w2 ⟨rfl, rfl⟩)
          go_ret
          exact ⟨ret_int HY2.out.symm, Fr.alloc HF.out _⟩
        | true =>
          rw [hp] at HP
          cases hb : bydB ⟨pl, pm, bs⟩ with
          | true =>
            have HY2 := Lib.hid (HY.out (by simp only [badB, hp, hb]; rfl))
            rw [hb] at HBY
            clear HY HN hp hb
            go_wp2_with (first | (go_at_call 31; refine (HP.out _).mono ?_; rintro e w2 ⟨rfl, rfl⟩) | (go_at_call 35; refine (HBY.out _).mono ?_; rintro e w3 ⟨rfl, hf⟩; have HF3 := Lib.hid hf; clear hf))
            go_ret
            exact ⟨ret_int HY2.out.symm, (Fr.alloc HF.out _).call HF3.out⟩
          | false =>
            have HN2 := Lib.hid (HN.out (by simp only [badB, hp, hb]; rfl))
            rw [hb] at HBY
            clear HY HN hp hb
            go_wp2_with (first | (go_at_call 31; refine (HP.out _).mono ?_; rintro e w2 ⟨rfl, rfl⟩) | (go_at_call 35; refine (HBY.out _).mono ?_; rintro e w3 ⟨rfl, hf⟩; have HF3 := Lib.hid hf; clear hf))
            go_roundw
            case rel => exact ⟨k + 1, rfl, by omega, HN2.out, (Fr.alloc HF.out _).call HF3.out⟩
            case measure => simp [intOf]; omega
      · obtain rfl : k = l.length := by omega
        rw [List.take_length] at hno
        have HD2 := Lib.hid (show chkI l = 0 by rw [HD.out, hno]; rfl)
        clear hno
        go_wp2
        go_ret
        exact ⟨ret_int HD2.out.symm, HF.out⟩
end Go.Proofs.Ytelfokoibmpdlaa
