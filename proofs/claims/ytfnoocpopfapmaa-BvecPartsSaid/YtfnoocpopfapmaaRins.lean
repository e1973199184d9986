/- The document's Insert. -/
import Derived.Test.YtfnoocpopfapmaaRmk
namespace Go.Proofs.Ytfnoocpopfapmaa
open Go.RowKit

section
variable {α : Type} {f : α → Value} {w : World} {base n c : Nat} {e : TypeId} {A : Option Addr} {l : List α}
theorem Own.block (h : Own f w base e (.slice A n c) l) (hl : l.length = n) (hn : 0 < n) : ∃ g, A = some ⟨g, 0, none⟩ ∧ base ≤ g ∧ g < w.heap.size := by
  unfold Own at h
  rw [hl] at h
  obtain ⟨g, cap, hv, hb, hlt⟩ := World.ownsRow.form h hn
  injection hv with e1 e2 e3
  exact ⟨g, e1, hb, hlt⟩
theorem Own.thaw {g : Nat} (h : Own f w base e (.slice (some ⟨g, 0, none⟩) n c) l) (hl : l.length = n) (j : Nat) : w.frozen? ⟨g, j, none⟩ = false := by
  unfold Own at h
  rw [hl] at h
  exact World.ownsRow.frozenAt h j
theorem Own.store {g : Nat} (h : Own f w base e (.slice (some ⟨g, 0, none⟩) n c) l) (hl : l.length = n) (j : Nat) (x : α) : Own f (w.setCell ⟨g, j, none⟩ (f x)) base e (.slice (some ⟨g, 0, none⟩) n c) (l.set j x) := by
  unfold Own at h ⊢
  rw [hl] at h
  rw [List.length_set, hl, List.map_set]
  exact (World.ownsRow.stored h j (f x)).1
theorem Own.rd (h : Own f w base e (.slice A n c) l) (hl : l.length = n) : Rd f w A l := by
  subst hl
  exact Rd.of_own h
theorem Rd.store {A : Option Addr} (h : Rd f w A l) {g : Nat} (hg : ∀ k o, A = some ⟨k, o, none⟩ → k ≠ g) (j : Nat) (u : Value) : Rd f (w.setCell ⟨g, j, none⟩ u) A l := fun hl => by
  obtain ⟨k, o, e, hk, hc⟩ := h hl
  refine ⟨k, o, e, by simpa using hk, fun i hi => ?_⟩
  rw [World.cell?_setCell_other w _ _ _ (fun h => hg k o e (by injection h with h; exact h.symm))]
  exact hc i hi
end
/-- v with the lowest j bits of u from y on, bit by bit. -/
def insB (v u : Int) (y j t : Nat) : Bool := if y ≤ t ∧ t < y + j then bitI u (t - y) else bitI v t
def insL (n : Nat) (v u : Int) (y j : Nat) : List Bool := (List.range n).map (insB v u y j)
theorem insL_length (n : Nat) (v u : Int) (y j : Nat) : (insL n v u y j).length = n := by simp [insL]
theorem insL_zero (n : Nat) (v u : Int) (y : Nat) : insL n v u y 0 = bitsI n v := by
  unfold insL bitsI
  refine List.map_congr_left fun t _ => ?_
  unfold insB
  rw [if_neg (by omega)]
theorem insL_succ (n : Nat) (v u : Int) (y j : Nat) (h : y + j < n) : (insL n v u y j).set (y + j) (bitI u j) = insL n v u y (j + 1) := by
  apply List.ext_getElem
  · simp [insL]
  · intro t h1 h2
    rw [List.getElem_set]
    simp only [insL, List.getElem_map, List.getElem_range]
    unfold insB
    by_cases e : y + j = t
    · subst e
      rw [if_pos rfl, if_pos (by omega), Nat.add_sub_cancel_left]
    · rw [if_neg e]
      by_cases k : y ≤ t ∧ t < y + j
      · rw [if_pos k, if_pos (by omega)]
      · rw [if_neg k, if_neg (by omega)]
theorem bitI_nat (m t : Nat) : bitI (m : Int) t = m.testBit t := by
  unfold bitI
  have e : ((2 ^ t : Nat) : Int) = (2 : Int) ^ t := by simp
  rw [← e, Nat.testBit_eq_decide_div_mod_eq]
  refine decide_eq_decide.2 ?_
  omega
theorem insL_all (n : Nat) (v u y X : Nat) (hX : y + X ≤ n) (hn : n ≤ 128) (hu : u < 2 ^ X) (hv : v < 2 ^ n) : insL n (v : Int) (u : Int) y X = bitsI n ((insN v y X u : Nat) : Int) := by
  unfold insL bitsI
  refine List.map_congr_left fun t _ => ?_
  unfold insB
  rw [bitI_nat, bitI_nat, bitI_nat, insN_bit v y X u t (by omega) hu (Nat.lt_of_lt_of_le hv (Nat.pow_le_pow_right (by decide) hn))]
def RelS (w : World) (n X y : Nat) (v u : Int) (base : Nat) (A B : Option Addr) (c : Nat) (i : Value) (wr : World) : Prop :=
  ∃ j : Nat, j ≤ X ∧ i = .int .i64 (j : Int) ∧ Own bolv wr base 4 (.slice A n c) (insL n v u y j) ∧ Rd bolv wr B (bitsI X u) ∧ Fr w wr
theorem box_two (w : World) (a b c d e f : Value) :
    Bk (((w.alloc (.cells #[a, b, c] 24)).alloc (.cells #[d, e, f] 24)).alloc (.cells #[.int .i64 0, .int .u64 0, .int .u64 0] 24)) w.heap.size 24 #[a, b, c] ∧
    Bk (((w.alloc (.cells #[a, b, c] 24)).alloc (.cells #[d, e, f] 24)).alloc (.cells #[.int .i64 0, .int .u64 0, .int .u64 0] 24)) (w.heap.size + 1) 24 #[d, e, f] ∧
    Bk (((w.alloc (.cells #[a, b, c] 24)).alloc (.cells #[d, e, f] 24)).alloc (.cells #[.int .i64 0, .int .u64 0, .int .u64 0] 24)) (w.heap.size + 1 + 1) 24 #[.int .i64 0, .int .u64 0, .int .u64 0] := by
  refine ⟨((Bk.new w _ _).fr ((Fr.refl _).alloc _)).fr ((Fr.refl _).alloc _), ?_, ?_⟩
  · have h := Bk.new (w.alloc (.cells #[a, b, c] 24)) 24 #[d, e, f]
    rw [show (w.alloc (.cells #[a, b, c] 24)).heap.size = w.heap.size + 1 by simp] at h
    exact h.fr ((Fr.refl _).alloc _)
  · have h := Bk.new ((w.alloc (.cells #[a, b, c] 24)).alloc (.cells #[d, e, f] 24)) 24 #[.int .i64 0, .int .u64 0, .int .u64 0]
    rw [show ((w.alloc (.cells #[a, b, c] 24)).alloc (.cells #[d, e, f] 24)).heap.size = w.heap.size + 1 + 1 by simp] at h
    exact h
set_option maxHeartbeats 6400000 in
set_option maxRecDepth 10000 in
theorem rinsert_ok (n y X : Nat) (v u : Int) (h : Norm n v) (k : Norm X u) (hX : y + X ≤ n) (w : World) :
    Calls Try.prog 18 #[bv n v, .int .i64 (y : Int), bv X u] w fun e w' => e = .returned (bv n ((insN v.toNat y X u.toNat : Nat) : Int)) ∧ Fr w w' := by
  have hlv := h.lt128
  have hlu := k.lt128
  obtain ⟨a1, a2, v0, v1⟩ := h
  obtain ⟨b1, b2, u0, u1⟩ := k
  rw [Int.toNat_natCast] at v1 u1
  have HN := Lib.hid (fun wx => rnormal_any n v v0 hlv wx)
  rw [norm_to ⟨a1, a2, v0, by rw [Int.toNat_natCast]; exact v1⟩] at HN
  have HM := Lib.hid (fun wx => rnormal_any X u u0 hlu wx)
  rw [norm_to ⟨b1, b2, u0, by rw [Int.toNat_natCast]; exact u1⟩] at HM
  have HO := Lib.hid (fun wx => of_b n v (by omega) wx)
  have HP := Lib.hid (fun wx => of_b X u (by omega) wx)
  have c1 := two_pow_cast X
  have c3 := two_pow_cast n
  have hall := insL_all n v.toNat u.toNat y X hX (by omega) (by omega) (by omega)
  rw [Int.toNat_of_nonneg v0, Int.toNat_of_nonneg u0] at hall
  have hlt := insN_lt v.toNat y X u.toNat n hX (by omega) (by omega) (by omega)
  have HT := Lib.hid (fun A c wx hr => to_any A n c ((insN v.toNat y X u.toNat : Nat) : Int) (by omega) (by omega) wx hr)
  rw [Int.emod_eq_of_lt (by omega) (by omega)] at HT
  generalize insN v.toNat y X u.toNat = Z at *
  have HALL := Lib.hid hall
  obtain ⟨x1, x2, x3⟩ := box_two w (.int .i64 (n : Int)) (.int .u64 (hi v)) (.int .u64 (lo v)) (.int .i64 (X : Int)) (.int .u64 (hi u)) (.int .u64 (lo u))
  have B1 := Lib.hid x1
  have B2 := Lib.hid x2
  have B3 := Lib.hid x3
  have hyn : (y : Int) ≤ (n : Int) - (X : Int) := by omega
  have hX1 : 1 ≤ X := by omega
  have hn2 : n ≤ 128 := by omega
  clear x1 x2 x3 hall hlt c1 c3 v0 v1 u0 u1 hlv hlu a1 a2 b1 b2
  go_enter Try.func18, Try.ntmps18
  go_wp2_with fail
  refine (HN.out _).mono ?_
  rintro e w1 ⟨rfl, hf⟩
  have HS1 := Lib.hid hf
  obtain ⟨p0, p1, p2⟩ := (B1.out.fr hf).three
  obtain ⟨q0, q1, q2⟩ := (B2.out.fr hf).three
  clear hf
  go_wp2_with fail
  refine (HM.out _).mono ?_
  rintro e w2 ⟨rfl, hf⟩
  have HS2 := Lib.hid (HS1.out.call hf)
  obtain ⟨p3, p4, p5⟩ := (B1.out.fr HS2.out).three
  obtain ⟨q3, q4, q5⟩ := (B2.out.fr HS2.out).three
  clear hf
  go_wp2_with fail
  refine (HO.out _).mono ?_
  rintro e w3 ⟨A3, c3, rfl, ho, hr, hl3, hm3, hf⟩
  have HO3 := Lib.hid ho
  have HF3 := Lib.hid hf
  have HS3 := Lib.hid (HS2.out.call hf)
  obtain ⟨q6, q7, q8⟩ := (B2.out.fr HS3.out).three
  clear hf ho hr
  go_wp2_with fail
  refine (HP.out _).mono ?_
  rintro e w4 ⟨A4, c4, rfl, ho, hr, hl4, hm4, hf⟩
  have HO4 := Lib.hid ho
  have HR4 := Lib.hid hr
  have HF4 := Lib.hid hf
  have HS4 := Lib.hid (HS3.out.call hf)
  clear hf ho hr
  go_wp2_with fail
  obtain ⟨g, rfl, hgb, hgl⟩ := HO3.out.block (bitsI_length _ _) (by omega)
  obtain ⟨g', rfl, hgb', hgl'⟩ := HO4.out.block (bitsI_length _ _) (by omega)
  have HGB := Lib.hid hgb
  have HNE := Lib.hid (show g' ≠ g by omega)
  clear hgb hgl hgb' hgl'
  go_loopw [37] (fun i wr => RelS w2 n X y v u w2.heap.size (some ⟨g, 0, none⟩) (some ⟨g', 0, none⟩) c3 i wr) (fun i _ => X - (intOf i).toNat)
  case atStart =>
    have HS24 := Lib.hid (show Fr w2 w4 from HF3.out.call HF4.out)
    exact ⟨0, by omega, rfl, by rw [insL_zero]; exact HO3.out.fr HF4.out, HR4.out, HS24.out⟩
  case round =>
    obtain ⟨j, hj, rfl, hown, hrd, hfr⟩ := hrel
    have HOW := Lib.hid hown
    have HRD := Lib.hid hrd
    have HFR := Lib.hid hfr
    clear hown hrd hfr
    by_cases hlt : j < X
    · obtain ⟨k, o, hk, _, hc⟩ := HRD.out (by rw [bitsI_length]; omega)
      injection hk with hk
      injection hk with e1 e2
      subst e1 e2
      have hcell := hc j (by rw [bitsI_length]; exact hlt)
      rw [bitsI_get, Nat.zero_add] at hcell
      change _ = some (Value.bool _) at hcell
      obtain ⟨k2, o2, hk2, _, hc2⟩ := (HOW.out.rd (insL_length _ _ _ _ _)) (by rw [insL_length]; omega)
      injection hk2 with hk2
      injection hk2 with e1 e2
      subst e1 e2
      obtain ⟨old, hcl⟩ : ∃ old, wr.cell? ⟨g, y + j, none⟩ = some old := ⟨_, by have h := hc2 (y + j) (by rw [insL_length]; omega); rw [Nat.zero_add] at h; exact h⟩
      have hfree := HOW.out.thaw (insL_length _ _ _ _ _) (y + j)
      have HSU := Lib.hid (insL_succ n v u y j (by omega))
      generalize bitI u j = q at *
      clear hc hc2
      have hyj : (y : Int) + (j : Int) < (n : Int) := by omega
      go_wp2
      go_roundw
      case rel => exact ⟨j + 1, by omega, by go_num, by rw [← HSU.out]; exact HOW.out.store (insL_length _ _ _ _ _) _ q, HRD.out.store (fun k o h => by injection h with h; injection h with h; subst h; exact HNE.out) _ _, HFR.out.set HGB.out _⟩
      case measure => simp [intOf]; omega
    · obtain rfl : j = X := by omega
      have HRL := Lib.hid (HOW.out.rd (insL_length _ _ _ _ _))
      have HRL2 := Lib.hid (show Rd bolv wr (some ⟨g, 0, none⟩) (bitsI n (Z : Int)) by have h := HRL.out; rw [HALL.out] at h; exact h)
      go_wp2_with (first
        | (go_at_call 40
           refine (HT.out _ _ _ HRL2.out).mono ?_
           rintro e w5 ⟨rfl, hf⟩
           have HS5 := Lib.hid ((HS2.out.call HFR.out).call hf)
           obtain ⟨r0, r1, r2⟩ := (B3.out.fr HS5.out).three
           obtain ⟨t0, t1, t2⟩ := (B3.out.fr HS5.out).frees
           clear hf))
      have HF := Lib.hid (((((Fr.refl w).alloc _).alloc _).alloc _).call HS5.out)
      exact bodyPost_ret (v := bv n (Z : Int)) (by simp [results, Try.results18, go_sem, *]) rfl ⟨rfl, by repeat (first | with_reducible exact HF.out | (with_reducible refine Fr.set ?_ (by simp; try omega) _))⟩
end Go.Proofs.Ytfnoocpopfapmaa
