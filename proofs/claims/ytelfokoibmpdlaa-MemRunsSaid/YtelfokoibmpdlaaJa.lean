/- Regions in any order, and the same ones by rising places: what lies at an address. -/
import Derived.Test.YtelfokoibmpdlaaMa
namespace Go.Proofs.Ytelfokoibmpdlaa
set_option linter.unusedSimpArgs false
set_option linter.unusedVariables false

/-- The region is at the address. -/
def hitB (r : Rg) (a : Nat) : Bool := decide (r.pl ≤ a) && decide (a < r.top)
/-- Has a region this one permission? (As the document's package asks.) -/
def perB (r : Rg) (q : Int) : Bool := decide (Int.tmod (Int.tdiv r.pm q) 2 = 1)
/-- Has bytes. -/
def nbB (r : Rg) : Bool := decide (0 < r.bs.length)
/-- Regions in any order, and those that have bytes by rising places. -/
structure Lnk (lw lp : List Rg) : Prop where
  good : Good lp
  perm : lp.Perm (lw.filter nbB)
theorem hit_ne {r : Rg} {a : Nat} (h : hitB r a = true) : nbB r = true := by
  simp only [hitB, Bool.and_eq_true, decide_eq_true_eq] at h
  have h2 : a < r.pl + r.bs.length := h.2
  simp only [nbB, decide_eq_true_eq]; omega
theorem Lnk.mem {lw lp : List Rg} (h : Lnk lw lp) {r : Rg} {a : Nat} (hr : r ∈ lw) (ha : hitB r a = true) : r ∈ lp :=
  h.perm.mem_iff.2 (List.mem_filter.2 ⟨hr, hit_ne ha⟩)
theorem Lnk.back {lw lp : List Rg} (h : Lnk lw lp) {r : Rg} (hr : r ∈ lp) : r ∈ lw := (List.mem_filter.1 (h.perm.mem_iff.1 hr)).1
/-- In a good list an address is in one region at most. -/
theorem good_hit : ∀ {l : List Rg} {q : Int} {a : Nat} {r : Rg}, Good l → r ∈ l → hitB r a = true → cel l q a = if prm r.pm q then r.bs[a - r.pl]? else none
  | [], _, _, _, _, h, _ => by simp at h
  | s :: l, q, a, r, hg, hr, ha => by
    have ha' := ha
    simp only [hitB, Bool.and_eq_true, decide_eq_true_eq] at ha'
    rcases List.mem_cons.1 hr with rfl | hr
    · exact cel_in ha'.1 ha'.2
    · rw [cel_out (.inr (Nat.le_trans (hg.above r hr) ha'.1))]
      exact good_hit hg.tail hr ha
theorem cel_no {l : List Rg} {q : Int} {a : Nat} (h : ∀ r ∈ l, hitB r a = false) : cel l q a = none := by
  unfold cel
  rw [List.find?_eq_none.2]
  intro r hr
  have := h r hr
  simpa [hitB] using this
theorem per_prm {pm : Int} (h0 : 0 ≤ pm) (h1 : pm ≤ 7) {q : Int} (hq : q = 1 ∨ q = 2 ∨ q = 4) : decide (Int.tmod (Int.tdiv pm q) 2 = 1) = prm pm q := by
  have key : ∀ p : Fin 8, ∀ q : Fin 3, decide (Int.tmod (Int.tdiv ((p.val : Nat) : Int) (((2 ^ q.val : Nat)) : Int)) 2 = 1) = prm ((p.val : Nat) : Int) ((2 ^ q.val : Nat) : Int) := by decide
  have hp : ((pm.toNat : Nat) : Int) = pm := by omega
  rcases hq with rfl | rfl | rfl
  · have := key ⟨pm.toNat, by omega⟩ 0; simpa [hp] using this
  · have := key ⟨pm.toNat, by omega⟩ 1; simpa [hp] using this
  · have := key ⟨pm.toNat, by omega⟩ 2; simpa [hp] using this
/-- The place that the document's package finds. -/
def plc (lw : List Rg) (q : Int) (a : Nat) : Option Nat := lw.findIdx? fun r => hitB r a && perB r q
theorem plc_some {lw lp : List Rg} (h : Lnk lw lp) {q : Int} (hq : q = 1 ∨ q = 2 ∨ q = 4) {a i : Nat} (hp : plc lw q a = some i) : ∃ hi : i < lw.length, (lw[i]).pl ≤ a ∧ a < (lw[i]).top ∧ cel lp q a = (lw[i]).bs[a - (lw[i]).pl]? := by
  unfold plc at hp
  rw [List.findIdx?_eq_some_iff_getElem] at hp
  obtain ⟨hi, h1, _⟩ := hp
  simp only [Bool.and_eq_true] at h1
  have hm := h.mem (List.getElem_mem hi) h1.1
  have hok := h.good.ok _ hm
  have h2 := good_hit (q := q) h.good hm h1.1
  have h3 : prm (lw[i]).pm q = true := by rw [← per_prm hok.lo hok.hi hq]; exact h1.2
  rw [h3, if_pos rfl] at h2
  have h4 := h1.1
  simp only [hitB, Bool.and_eq_true, decide_eq_true_eq] at h4
  exact ⟨hi, h4.1, h4.2, h2⟩
theorem plc_none {lw lp : List Rg} (h : Lnk lw lp) {q : Int} (hq : q = 1 ∨ q = 2 ∨ q = 4) {a : Nat} (hp : plc lw q a = none) : cel lp q a = none := by
  unfold plc at hp
  rw [List.findIdx?_eq_none_iff] at hp
  by_cases hx : ∃ r ∈ lp, hitB r a = true
  · obtain ⟨r, hr, ha⟩ := hx
    have hok := h.good.ok _ hr
    rw [good_hit h.good hr ha]
    have h1 := hp r (h.back hr)
    rw [ha, Bool.true_and] at h1
    have h2 : prm r.pm q = false := by rw [← per_prm hok.lo hok.hi hq]; exact h1
    rw [h2]; rfl
  · refine cel_no fun r hr => ?_
    cases hh : hitB r a with
    | false => rfl
    | true => exact absurd ⟨r, hr, hh⟩ hx
theorem nb_put (r : Rg) (a : Nat) (vs : List Nat) : nbB (r.put a vs) = nbB r := by unfold nbB; rw [put_len]
theorem upd_filter : ∀ (l : List Rg) (a : Nat) (vs : List Nat), (upd l a vs).filter nbB = upd (l.filter nbB) a vs
  | [], _, _ => rfl
  | r :: l, a, vs => by
    have := upd_filter l a vs
    unfold upd at this ⊢
    simp only [List.map_cons, List.filter_cons, nb_put]
    split
    · rw [List.map_cons, this]
    · exact this
theorem Lnk.upd {lw lp : List Rg} (h : Lnk lw lp) (a : Nat) {vs : List Nat} (hv : Bys vs) : Lnk (upd lw a vs) (upd lp a vs) := by
  refine ⟨upd_good h.good hv, ?_⟩
  rw [upd_filter]
  exact h.perm.map _
theorem cel_over {l : List Rg} (hg : Good l) (q : Int) {a : Nat} (ha : 18446744073709551616 ≤ a) : cel l q a = none := by
  refine cel_no fun r hr => ?_
  have h2 := (hg.ok r hr).top
  simp only [hitB, Bool.and_eq_false_iff, decide_eq_false_iff_not]
  omega
/-- All from m on are there. -/
def fulB (l : List Rg) (a N m : Nat) : Bool := decide ((runB (cel l 4) (a + m) (N - m)).length = N - m)
def nmJ (l : List Rg) (a N m : Nat) : Nat := leN (runB (cel l 4) (a + m) (N - m))
theorem fulB_none {l : List Rg} {a N j : Nat} (hj : j < N) (h : cel l 4 (a + j) = none) : fulB l a N 0 = false := by
  cases hf : fulB l a N 0 with
  | false => rfl
  | true =>
    unfold fulB at hf
    simp only [Nat.add_zero, Nat.sub_zero, decide_eq_true_eq] at hf
    have := (runB_full N a).1 hf j hj
    rw [h] at this; cases this
theorem fulB_some {l : List Rg} {a N m b : Nat} (hm : m < N) (h : cel l 4 (a + m) = some b) (hf : fulB l a N (m + 1) = true) : fulB l a N m = true ∧ nmJ l a N m = b + 256 * nmJ l a N (m + 1) := by
  unfold fulB nmJ at *
  have e : runB (cel l 4) (a + m) (N - m) = b :: runB (cel l 4) (a + (m + 1)) (N - (m + 1)) := by
    rw [show N - m = (N - (m + 1)) + 1 by omega]
    conv => lhs; unfold runB
    rw [h]; rfl
  rw [e]
  refine ⟨?_, rfl⟩
  simp only [List.length_cons, decide_eq_true_eq] at hf ⊢
  omega
theorem nmJ_lt {l : List Rg} (hg : Good l) (a N m : Nat) (hN : N ≤ 8) : nmJ l a N m < 18446744073709551616 := by
  have h1 := leN_lt (runB_bys hg 4 (a + m) (N - m))
  have h2 := runB_length_le (cel l 4) (N - m) (a + m)
  have h3 : (256 : Nat) ^ (runB (cel l 4) (a + m) (N - m)).length ≤ 256 ^ 8 := Nat.pow_le_pow_right (by decide) (by omega)
  have h4 : (256 : Nat) ^ 8 = 18446744073709551616 := by decide
  unfold nmJ; omega
end Go.Proofs.Ytelfokoibmpdlaa
