/- The toy, reckoned: what it is, in whatever world. -/
import Derived.Test.YtcndmiolaheaeabGreatDoorEt
namespace Go.Proofs.YtcndmiolaheaeabGreatDoor
open Go.RowKit
set_option linter.unusedSimpArgs false
set_option linter.unusedVariables false

/-- A cell under other numbers. -/
def rn1 (g : Nat → Nat) : Value → Value
  | .pointer (some ⟨b, o, s⟩) => .pointer (some ⟨g b, o, s⟩)
  | .slice (some ⟨b, o, s⟩) l c => .slice (some ⟨g b, o, s⟩) l c
  | v => v
/-- A cell whose numbers are below n. -/
def flat (n : Nat) : Value → Bool
  | .bool _ | .int _ _ | .string _ | .pointer none | .slice none _ _ | .nilIface | .nilFunc => true
  | .pointer (some a) => decide (a.block < n)
  | .slice (some a) _ _ => decide (a.block < n)
  | _ => false
theorem rn1_ok {n : Nat} {A A' : Nat → Prop} {p : Nat → Pla} {g : Nat → Nat} (hA : ∀ i, i < n → A' i) {v v' : Value} (hf : flat n v = true) (h : VR A p (rn1 g v) v') : VR A' (fun i => p (g i)) v v' := by
  cases v with
  | bool b => cases h; exact .bool b
  | int k x => cases h; exact .int k x
  | string s => cases h; exact .str s
  | pointer a =>
    cases a with
    | none => cases h; exact .pnil
    | some a =>
      obtain ⟨b, o, s⟩ := a
      have hb : b < n := by simpa [flat] using hf
      cases h with
      | ptr _ _ h1 => exact .ptr b o (hA b hb)
  | slice a l c =>
    cases a with
    | none => cases h; exact .snil
    | some a =>
      obtain ⟨b, o, s⟩ := a
      have hb : b < n := by simpa [flat] using hf
      cases h with
      | slc _ _ _ _ c' h1 h2 h3 => exact .slc b o l c c' (hA b hb) h2 h3
      | szero _ _ b' o' h1 => exact .szero b o b' o' (hA b hb)
      | sfor _ _ a' c' h1 h2 => exact .sfor b o a' c' (hA b hb) h2
  | nilIface => cases h; exact .inil
  | nilFunc => cases h; exact .fnil
  | _ => simp [flat] at hf
theorem rnL_ok {n : Nat} {A A' : Nat → Prop} {p : Nat → Pla} {g : Nat → Nat} (hA : ∀ i, i < n → A' i) {xs : List Value} {ys : List Value} (hf : xs.all (flat n) = true) (h : VL A p (xs.map (rn1 g)) ys) : VL A' (fun i => p (g i)) xs ys := by
  refine ⟨by simpa using h.1, fun i v hv => ?_⟩
  obtain ⟨v', h1, h2⟩ := h.2 i (rn1 g v) (by simp [hv])
  exact ⟨v', h1, rn1_ok hA (List.all_eq_true.1 hf _ (List.mem_of_getElem? hv)) h2⟩
/-- The small heap is a part of the great one, under other numbers. -/
def partOf (S H : Hp) (g : Nat → Nat) : Bool :=
  decide (S.l.length = S.n) && (List.range S.n).all (fun i => match S.get i, H.get (g i) with
    | some b, some c => all2 (veq 9) (b.cs.map (rn1 g)) c.cs && decide (b.ty = c.ty) && decide (b.esz = c.esz) && b.own == c.own && b.cs.all (flat S.n)
    | _, _ => false) && (List.range S.n).all (fun i => (List.range S.n).all fun j => decide (i = j) || !decide (g i = g j))
theorem partOf_ok {S H : Hp} {g : Nat → Nat} {p : Nat → Pla} {w : World} (hp : partOf S H g = true) (h : Rel p H w) :
    Rel (fun i => p (g i)) S w ∧ (∀ i, i < S.n → S.al i) ∧ ∀ i b, S.get i = some b → ∃ c, H.get (g i) = some c ∧ c.own = b.own := by
  unfold partOf at hp
  simp only [Bool.and_eq_true, decide_eq_true_eq, List.all_eq_true, List.mem_range, Bool.or_eq_true, Bool.not_eq_true', decide_eq_false_iff_not] at hp
  obtain ⟨⟨h1, h2⟩, h3⟩ := hp
  have key : ∀ i, i < S.n → ∃ b c, S.get i = some b ∧ H.get (g i) = some c ∧ b.cs.map (rn1 g) = c.cs ∧ b.ty = c.ty ∧ b.esz = c.esz ∧ b.own = c.own ∧ b.cs.all (flat S.n) = true := by
    intro i hi
    have := h2 i hi
    split at this
    · rename_i b c hb hc
      simp only [Bool.and_eq_true, decide_eq_true_eq, beq_iff_eq] at this
      obtain ⟨⟨⟨⟨k1, k2⟩, k3⟩, k4⟩, k5⟩ := this
      exact ⟨b, c, hb, hc, all2_ok (veq_ok 9) _ _ k1, k2, k3, k4, k5⟩
    · cases this
  have hal : ∀ i, i < S.n → S.al i := fun i hi => by
    obtain ⟨b, c, hb, _⟩ := key i hi
    exact Hp.al_of_get hb
  have lt : ∀ i b, S.get i = some b → i < S.n := fun i b hb => Hp.lt_of_ent (by rw [Hp.ent_of_get hb]; simp)
  refine ⟨⟨h1, ?_, ?_, ?_, ?_, ?_⟩, hal, ?_⟩
  · intro i b hb k v hv
    obtain ⟨b', c, hb', hc, k1, k2, k3, k4, k5⟩ := key i (lt i b hb)
    rw [hb] at hb'; injection hb' with hb'; subst hb'
    obtain ⟨v', g1, g2⟩ := h.cell (g i) c hc k (rn1 g v) (by rw [← k1]; simp [hv])
    exact ⟨v', g1, rn1_ok hal (List.all_eq_true.1 k5 _ (List.mem_of_getElem? hv)) g2⟩
  · intro i b hb ho
    obtain ⟨b', c, hb', hc, k1, k2, k3, k4, k5⟩ := key i (lt i b hb)
    rw [hb] at hb'; injection hb' with hb'; subst hb'
    obtain ⟨cs', g1, g2, g3, g4⟩ := h.own (g i) c hc (by rw [← k4]; exact ho)
    exact ⟨cs', by rw [k2]; exact g1, g2, g3, by rw [k3]; exact g4⟩
  · intro i b hb
    obtain ⟨b', c, hb', hc, k1, k2, k3, k4, k5⟩ := key i (lt i b hb)
    rw [hb] at hb'; injection hb' with hb'; subst hb'
    rw [k3]; exact h.esz (g i) c hc
  · intro i b hb
    obtain ⟨b', c, hb', hc, _⟩ := key i (lt i b hb)
    exact h.lt (g i) c hc
  · intro i j b c hb hc ho e
    obtain ⟨b', b2, hb', hb2, k1, k2, k3, k4, k5⟩ := key i (lt i b hb)
    obtain ⟨c', c2, hc', hc2, _⟩ := key j (lt j c hc)
    rw [hb] at hb'; injection hb' with hb'; subst hb'
    have hg := h.apart (g i) (g j) b2 c2 hb2 hc2 (by rw [← k4]; exact ho) e
    rcases h3 i (lt i b hb) j (lt j c hc) with h4 | h4
    · exact h4
    · exact absurd hg h4
  · intro i b hb
    obtain ⟨b', c, hb', hc, k1, k2, k3, k4, k5⟩ := key i (lt i b hb)
    rw [hb] at hb'; injection hb' with hb'; subst hb'
    exact ⟨c, hc, k4.symm⟩
def toyIds : List Nat := [173, 280, 419, 495, 772, 780, 790, 934, 1010, 1023]
def toyV : Value := .agg #[.string ⟨#[116, 111, 121]⟩, .int .i64 1, .slice (some ⟨0, 0, none⟩) 1 1, .slice none 0 0, .slice none 0 0, .slice (some ⟨1, 0, none⟩) 1 1, .slice (some ⟨9, 0, none⟩) 2 2, .slice none 0 0, .slice none 0 0, .slice none 0 0, .slice none 0 0, .slice none 0 0, .slice none 0 0]
def toyH : Hp := ⟨10, [.live ⟨[.string ⟨#[105, 110, 99]⟩, .string ⟨#[105, 110, 99, 32, 100]⟩, .slice (some ⟨2, 0, none⟩) 1 1, .slice (some ⟨3, 0, none⟩) 2 2, .slice (some ⟨6, 0, none⟩) 1 1, .string ⟨#[100, 101, 99]⟩, .string ⟨#[100, 101, 99, 32, 100]⟩, .slice (some ⟨7, 0, none⟩) 1 1, .slice (some ⟨8, 0, none⟩) 2 2, .slice none 0 0], 48, 5, true⟩,
  .live ⟨[.string ⟨#[48, 48, 48, 48, 48, 49]⟩, .int .i64 (-1), .int .i64 0, .int .i64 0, .string ⟨#[]⟩, .int .i64 0, .int .i64 1, .int .i64 0], 144, 4, true⟩,
  .live ⟨[.string ⟨#[100]⟩, .int .i64 0], 77, 2, true⟩,
  .live ⟨[.int .i64 31, .int .i64 0, .int .i64 0, .int .i64 0, .slice (some ⟨5, 0, none⟩) 1 1], 42, 5, true⟩,
  .live ⟨[.int .i64 1, .int .i64 0, .int .i64 0, .int .i64 0, .slice (some ⟨4, 0, none⟩) 2 2], 42, 5, true⟩,
  .live ⟨[.int .i64 21, .int .i64 0, .int .i64 0, .int .i64 0, .slice none 0 0, .int .i64 20, .int .i64 8, .int .i64 1, .int .i64 0, .slice none 0 0], 42, 5, true⟩,
  .live ⟨[.string ⟨#[48, 48, 48, 48, 48, 48]⟩, .int .i64 (-1), .int .i64 0, .int .i64 0, .string ⟨#[]⟩, .int .i64 0, .int .i64 1, .int .i64 0], 144, 4, true⟩,
  .live ⟨[.string ⟨#[100]⟩, .int .i64 0], 77, 2, true⟩,
  .live ⟨[.string ⟨#[114]⟩, .int .i64 1, .int .i64 0, .int .i64 2, .int .i64 0, .int .i64 0, .slice none 0 0], 80, 7, true⟩,
  .live ⟨[.string ⟨#[120]⟩, .int .i64 4, .int .i64 8, .int .i64 (-1)], 138, 4, true⟩]⟩

def toyG (i : Nat) : Nat := toyIds.getD i 0
/-- The reckoning's end is the toy. -/
def isToy (r : Option (Value × Hp)) : Bool := match r, toyV with
  | some (.agg vs, H), .agg us => all2 (veq 9) (us.toList.map (rn1 toyG)) vs.toList && us.toList.all (flat toyH.n) && partOf toyH H toyG
  | _, _ => false
set_option maxRecDepth 100000 in
theorem toy_eval : isToy (callF Tryz.prog (runF Tryz.prog (extP toyS toyL) 3000) [] 13 [] ⟨0, []⟩) = true := by kernel_rfl
end Go.Proofs.YtcndmiolaheaeabGreatDoor
