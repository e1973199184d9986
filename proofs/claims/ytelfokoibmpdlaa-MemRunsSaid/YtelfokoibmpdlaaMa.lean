/- What memory in regions is: plain lists and numbers; nothing of the program. -/
import Derived.WalkKit
namespace Go.Proofs.Ytelfokoibmpdlaa
set_option linter.unusedSimpArgs false
set_option linter.unusedVariables false

/-- A region: its place, its permissions, its bytes. -/
structure Rg where
  (pl : Nat) (pm : Int) (bs : List Nat)
instance : Inhabited Rg := ⟨⟨0, 0, []⟩⟩
/-- Have permissions all that is asked? -/
def prm (pm q : Int) : Bool := decide (pm.toNat &&& q.toNat = q.toNat)
def Rg.top (r : Rg) : Nat := r.pl + r.bs.length
/-- Bytes are numbers below 256. -/
def Bys (l : List Nat) : Prop := ∀ x ∈ l, x < 256
structure RgOk (r : Rg) : Prop where
  some : 0 < r.bs.length
  top : r.top ≤ 18446744073709551616
  lo : 0 ≤ r.pm
  hi : r.pm ≤ 7
  bys : Bys r.bs
/-- Regions that have bytes, by rising places, none over another. -/
structure Good (l : List Rg) : Prop where
  ok : ∀ r ∈ l, RgOk r
  rise : l.Pairwise fun a b => a.top ≤ b.pl
theorem Good.tail {r : Rg} {l : List Rg} (h : Good (r :: l)) : Good l := ⟨fun x hx => h.ok x (List.mem_cons_of_mem _ hx), (List.pairwise_cons.1 h.rise).2⟩
theorem Good.above {r : Rg} {l : List Rg} (h : Good (r :: l)) : ∀ x ∈ l, r.top ≤ x.pl := (List.pairwise_cons.1 h.rise).1
theorem Good.ahead {l m : List Rg} (h : Good (l ++ m)) : Good m := ⟨fun x hx => h.ok x (by simp [hx]), (List.pairwise_append.1 h.rise).2.1⟩
/-- What lies at an address that has the permissions. -/
def cel (l : List Rg) (q : Int) (a : Nat) : Option Nat := match l.find? fun r => decide (r.pl ≤ a ∧ a < r.top) with
  | some r => if prm r.pm q then r.bs[a - r.pl]? else none
  | none => none
/-- As much as there is, one address after the other, at most n. -/
def runB (f : Nat → Option Nat) : Nat → Nat → List Nat
  | _, 0 => []
  | a, n + 1 => match f a with
    | some b => b :: runB f (a + 1) n
    | none => []
/-- The bytes of a first region that is asked, as far as n. -/
def Rg.cut (r : Rg) (a n : Nat) : List Nat := (r.bs.drop (a - r.pl)).take n
/-- What is found by going through regions. -/
def got : List Rg → Nat → Nat → Int → List Nat
  | [], _, _, _ => []
  | r :: l, a, n, q => if n = 0 ∨ a < r.pl ∨ prm r.pm q = false then [] else r.cut a n ++ got l (a + (r.cut a n).length) (n - (r.cut a n).length) q
theorem runB_length_le (f : Nat → Option Nat) : ∀ (n a : Nat), (runB f a n).length ≤ n
  | 0, _ => by simp [runB]
  | n + 1, a => by
    unfold runB
    cases f a with
    | none => simp
    | some b => have := runB_length_le f n (a + 1); simp; omega
theorem runB_congr {f g : Nat → Option Nat} : ∀ (n a : Nat), (∀ x, a ≤ x → f x = g x) → runB f a n = runB g a n
  | 0, _, _ => by simp [runB]
  | n + 1, a, h => by
    unfold runB
    rw [h a (Nat.le_refl _)]
    cases g a with
    | none => rfl
    | some b => rw [runB_congr n (a + 1) fun x hx => h x (by omega)]
theorem runB_front {f : Nat → Option Nat} : ∀ (p : List Nat) (a n : Nat), p.length ≤ n → (∀ (k x : Nat), p[k]? = some x → f (a + k) = some x) → runB f a n = p ++ runB f (a + p.length) (n - p.length)
  | [], a, n, _, _ => by simp
  | x :: p, a, 0, h, _ => by simp at h
  | x :: p, a, n + 1, h, hf => by
    have h0 := hf 0 x rfl
    simp at h0
    conv => lhs; unfold runB
    rw [h0]
    simp only [List.cons_append, List.length_cons]
    rw [runB_front p (a + 1) n (by simpa using h) fun k y hk => by have := hf (k + 1) y (by simpa using hk); rw [← this]; congr 1; omega]
    rw [show a + (p.length + 1) = a + 1 + p.length by omega, show n + 1 - (p.length + 1) = n - p.length by omega]
theorem runB_get {f : Nat → Option Nat} : ∀ (n a k x : Nat), (runB f a n)[k]? = some x → f (a + k) = some x
  | 0, a, k, x, h => by simp [runB] at h
  | n + 1, a, k, x, h => by
    unfold runB at h
    cases hf : f a with
    | none => rw [hf] at h; simp at h
    | some b =>
      rw [hf] at h
      simp only at h
      cases k with
      | zero => simp at h; subst h; simpa using hf
      | succ k =>
        have := runB_get n (a + 1) k x (by simpa using h)
        rw [← this]; congr 1; omega
theorem runB_full {f : Nat → Option Nat} : ∀ (n a : Nat), (runB f a n).length = n ↔ ∀ k, k < n → (f (a + k)).isSome
  | 0, a => by simp [runB]
  | n + 1, a => by
    unfold runB
    cases hf : f a with
    | none =>
      constructor
      · intro h; simp at h
      · intro h; have := h 0 (by omega); simp [hf] at this
    | some b =>
      simp only [List.length_cons, Nat.add_right_cancel_iff]
      rw [runB_full n (a + 1)]
      constructor
      · intro h k hk
        cases k with
        | zero => simp [hf]
        | succ k => have := h k (by omega); rwa [show a + (k + 1) = a + 1 + k by omega]
      · intro h k hk
        have := h (k + 1) (by omega); rwa [show a + (k + 1) = a + 1 + k by omega] at this
theorem cut_len (r : Rg) (a n : Nat) : (r.cut a n).length = min n (r.bs.length - (a - r.pl)) := by unfold Rg.cut; simp
theorem cel_nil (q : Int) (a : Nat) : cel [] q a = none := rfl
theorem cel_in {r : Rg} {l : List Rg} {q : Int} {a : Nat} (h1 : r.pl ≤ a) (h2 : a < r.top) : cel (r :: l) q a = if prm r.pm q then r.bs[a - r.pl]? else none := by
  unfold cel; simp [List.find?, h1, h2]
theorem cel_out {r : Rg} {l : List Rg} {q : Int} {a : Nat} (h : a < r.pl ∨ r.top ≤ a) : cel (r :: l) q a = cel l q a := by
  unfold cel
  have : decide (r.pl ≤ a ∧ a < r.top) = false := by simp; omega
  simp [List.find?, this]
theorem cel_low : ∀ {l : List Rg} {q : Int} {a : Nat}, (∀ r ∈ l, a < r.pl) → cel l q a = none
  | [], _, _, _ => rfl
  | r :: l, q, a, h => by rw [cel_out (.inl (h r (by simp)))]; exact cel_low fun x hx => h x (List.mem_cons_of_mem _ hx)
theorem runB_none {f : Nat → Option Nat} {a : Nat} (h : f a = none) (n : Nat) : runB f a n = [] := by
  cases n with
  | zero => rfl
  | succ n => unfold runB; rw [h]
/-- Going through regions finds what there is. -/
theorem got_run : ∀ (l : List Rg) (a n : Nat) (q : Int), Good l → (∀ r ∈ l, a < r.top) → got l a n q = runB (cel l q) a n
  | [], a, n, q, _, _ => by rw [runB_none rfl]; rfl
  | r :: l, a, n, q, hg, ha => by
    have hr := hg.ok r (by simp)
    have hat := ha r (by simp)
    have hab := hg.above
    unfold got
    by_cases h0 : n = 0
    · subst h0; simp [runB]
    by_cases h1 : a < r.pl
    · rw [if_pos (.inr (.inl h1)), runB_none]
      rw [cel_out (.inl h1)]
      exact cel_low fun x hx => by have := hab x hx; unfold Rg.top at this; omega
    cases h2 : prm r.pm q with
    | false =>
      rw [if_pos (.inr (.inr rfl)), runB_none]
      rw [cel_in (by omega) hat, h2]; rfl
    | true =>
      rw [if_neg (by simp [h0, h1])]
      have hc := cut_len r a n
      have ht : r.top = r.pl + r.bs.length := rfl
      rw [runB_front (f := cel (r :: l) q) (r.cut a n) a n (by omega) fun k x hk => by
        have hkl := (List.getElem?_eq_some_iff.1 hk).1
        rw [cel_in (by omega) (by omega), h2, if_pos rfl]
        unfold Rg.cut at hk
        rw [List.getElem?_take, if_pos (by omega), List.getElem?_drop] at hk
        rw [show a + k - r.pl = a - r.pl + k by omega]
        exact hk]
      congr 1
      by_cases hn : (r.cut a n).length = n
      · rw [hn, Nat.sub_self]
        cases l with
        | nil => simp [got, runB]
        | cons s l => simp [got, runB]
      · have he : a + (r.cut a n).length = r.top := by omega
        rw [he, got_run l r.top _ q hg.tail fun x hx => by have h3 := hab x hx; have h4 := (hg.tail.ok x hx).some; unfold Rg.top at *; omega]
        exact runB_congr _ _ fun x hx => (cel_out (.inr hx)).symm
/-- The first region that ends above an address. -/
def from_ (l : List Rg) (a : Nat) : List Rg := l.dropWhile fun r => decide (r.top ≤ a)
theorem from_spec : ∀ {l : List Rg} {a : Nat}, Good l → ∃ k, k ≤ l.length ∧ from_ l a = l.drop k ∧ (∀ r ∈ l.take k, r.top ≤ a) ∧ (∀ r ∈ l.drop k, a < r.top)
  | [], a, _ => ⟨0, by simp, by simp [from_], by simp, by simp⟩
  | r :: l, a, hg => by
    unfold from_
    by_cases h : r.top ≤ a
    · obtain ⟨k, h1, h2, h3, h4⟩ := from_spec (a := a) hg.tail
      refine ⟨k + 1, by simpa using h1, by simp only [List.dropWhile_cons, decide_eq_true h, if_true, List.drop_succ_cons]; exact h2, fun x hx => ?_, fun x hx => h4 x (by simpa using hx)⟩
      simp only [List.take_succ_cons, List.mem_cons] at hx
      rcases hx with rfl | hx
      · exact h
      · exact h3 x hx
    · refine ⟨0, by simp, by simp [List.dropWhile_cons, h], by simp, fun x hx => ?_⟩
      simp only [List.drop_zero, List.mem_cons] at hx
      rcases hx with rfl | hx
      · omega
      · have h1 := hg.above x hx
        have h2 := (hg.tail.ok x hx).some
        unfold Rg.top at *; omega
theorem cel_append_out {q : Int} {a : Nat} : ∀ {l m : List Rg}, (∀ r ∈ l, r.top ≤ a) → cel (l ++ m) q a = cel m q a
  | [], _, _ => rfl
  | r :: l, m, h => by
    rw [List.cons_append, cel_out (.inr (h r (by simp)))]
    exact cel_append_out fun x hx => h x (List.mem_cons_of_mem _ hx)
/-- What the regions of a memory hold from an address on. -/
theorem from_run {l : List Rg} (hg : Good l) (a n : Nat) (q : Int) : got (from_ l a) a n q = runB (cel l q) a n := by
  obtain ⟨k, h1, h2, h3, h4⟩ := from_spec (a := a) hg
  have e : l = l.take k ++ l.drop k := (List.take_append_drop k l).symm
  have hg2 : Good (l.drop k) := by rw [e] at hg; exact hg.ahead
  rw [h2, got_run _ a n q hg2 h4]
  refine runB_congr _ _ fun x hx => ?_
  conv => rhs; rw [e]
  exact (cel_append_out fun r hr => Nat.le_trans (h3 r hr) hx).symm
/-- The number that bytes make, the lowest first. -/
def leN : List Nat → Nat
  | [] => 0
  | b :: r => b + 256 * leN r
/-- A number's lowest bytes. -/
def bytesN : Nat → Nat → List Nat
  | 0, _ => []
  | n + 1, v => v % 256 :: bytesN n (v / 256)
theorem bytesN_length : ∀ (n v : Nat), (bytesN n v).length = n
  | 0, _ => rfl
  | n + 1, v => by simp [bytesN, bytesN_length n]
theorem bytesN_bys : ∀ (n v : Nat), Bys (bytesN n v)
  | 0, _ => by intro x hx; simp [bytesN] at hx
  | n + 1, v => by
    intro x hx
    simp only [bytesN, List.mem_cons] at hx
    rcases hx with rfl | hx
    · exact Nat.mod_lt _ (by decide)
    · exact bytesN_bys n _ x hx
theorem bytesN_get : ∀ (n v k : Nat) (h : k < n), (bytesN n v)[k]'(by rw [bytesN_length]; exact h) = v / 256 ^ k % 256
  | n + 1, v, 0, _ => by simp [bytesN]
  | n + 1, v, k + 1, h => by
    simp only [bytesN, List.getElem_cons_succ]
    rw [bytesN_get n (v / 256) k (by omega), Nat.div_div_eq_div_mul, Nat.pow_succ, Nat.mul_comm]
theorem leN_bytesN : ∀ (n v : Nat), leN (bytesN n v) = v % 256 ^ n
  | 0, v => by simp [bytesN, leN, Nat.mod_one]
  | n + 1, v => by
    simp only [bytesN, leN, leN_bytesN n]
    rw [Nat.pow_succ, Nat.mul_comm (256 ^ n) 256, Nat.mod_mul]
theorem leN_lt : ∀ {l : List Nat}, Bys l → leN l < 256 ^ l.length
  | [], _ => by simp [leN]
  | b :: r, h => by
    have h1 := leN_lt (l := r) fun x hx => h x (List.mem_cons_of_mem _ hx)
    have h2 := h b (by simp)
    simp only [leN, List.length_cons, Nat.pow_succ]
    omega
theorem leN_append : ∀ (l m : List Nat), leN (l ++ m) = leN l + 256 ^ l.length * leN m
  | [], m => by simp [leN]
  | b :: r, m => by
    simp only [List.cons_append, leN, leN_append r m, List.length_cons, Nat.pow_succ]
    rw [Nat.mul_add, Nat.mul_comm (256 ^ r.length) 256, Nat.mul_assoc]; omega
theorem runB_bys {l : List Rg} (hg : Good l) (q : Int) (a n : Nat) : Bys (runB (cel l q) a n) := by
  intro x hx
  obtain ⟨k, hk, rfl⟩ := List.getElem_of_mem hx
  have h := runB_get (f := cel l q) n a k _ (List.getElem?_eq_getElem hk)
  unfold cel at h
  split at h
  · rename_i r hr
    split at h
    · have hm := List.mem_of_find?_eq_some hr
      exact (hg.ok r hm).bys _ (List.mem_of_getElem? h)
    · cases h
  · cases h
/-- Bytes are put at an address on, into a region. -/
def Rg.put (r : Rg) (a : Nat) (vs : List Nat) : Rg := ⟨r.pl, r.pm, r.bs.mapIdx fun k x => if a ≤ r.pl + k then vs.getD (r.pl + k - a) x else x⟩
def upd (l : List Rg) (a : Nat) (vs : List Nat) : List Rg := l.map (·.put a vs)
theorem put_len (r : Rg) (a : Nat) (vs : List Nat) : (r.put a vs).bs.length = r.bs.length := by simp [Rg.put]
theorem put_top (r : Rg) (a : Nat) (vs : List Nat) : (r.put a vs).top = r.top := by unfold Rg.top; rw [put_len]; rfl
theorem upd_nil (l : List Rg) (a : Nat) : upd l a [] = l := by
  unfold upd
  conv => rhs; rw [← List.map_id l]
  refine List.map_congr_left fun r _ => ?_
  obtain ⟨pl, pm, bs⟩ := r
  simp only [Rg.put, List.getD_nil, ite_self, id]
  congr 1
  exact List.ext_getElem (by simp) (by simp)
theorem upd_good {l : List Rg} (hg : Good l) {a : Nat} {vs : List Nat} (hv : Bys vs) : Good (upd l a vs) := by
  refine ⟨fun r hr => ?_, ?_⟩
  · obtain ⟨s, hs, rfl⟩ := List.mem_map.1 hr
    have h := hg.ok s hs
    refine ⟨by rw [put_len]; exact h.some, by rw [put_top]; exact h.top, h.lo, h.hi, fun x hx => ?_⟩
    obtain ⟨k, hk, rfl⟩ := List.getElem_of_mem hx
    simp only [Rg.put, List.getElem_mapIdx]
    have hk2 : k < s.bs.length := by rw [put_len] at hk; exact hk
    split
    · rw [List.getD]
      cases e : vs[s.pl + k - a]? with
      | none => exact h.bys _ (List.getElem_mem hk2)
      | some y => exact hv _ (List.mem_of_getElem? e)
    · exact h.bys _ (List.getElem_mem hk2)
  · unfold upd
    rw [List.pairwise_map]
    refine hg.rise.imp fun {x y} h => ?_
    rw [put_top]; exact h
theorem upd_cel {l : List Rg} (q : Int) (a : Nat) (vs : List Nat) (x : Nat) : cel (upd l a vs) q x = (cel l q x).map fun b => if a ≤ x then vs.getD (x - a) b else b := by
  have hf : (upd l a vs).find? (fun r => decide (r.pl ≤ x ∧ x < r.top)) = (l.find? fun r => decide (r.pl ≤ x ∧ x < r.top)).map (·.put a vs) := by
    unfold upd
    rw [List.find?_map]
    congr 1
    refine congrArg (fun f => l.find? f) (funext fun r => ?_)
    simp only [Function.comp, put_top]; rfl
  unfold cel
  rw [hf]
  cases hc : l.find? (fun r => decide (r.pl ≤ x ∧ x < r.top)) with
  | none => rfl
  | some r =>
    have hin := List.find?_some hc
    simp only [decide_eq_true_eq] at hin
    simp only [Option.map_some]
    show (if prm r.pm q then (r.put a vs).bs[x - r.pl]? else none) = _
    split
    · simp only [Rg.put, List.getElem?_mapIdx]
      rw [show r.pl + (x - r.pl) = x by omega]
    · rfl
end Go.Proofs.Ytelfokoibmpdlaa
