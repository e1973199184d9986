/- Lists of names with numbers, looked up by name; memory that stays but for some blocks. Nothing of the program. -/
import Derived.Test.YtbnaakognnkhdaaGreatDoorNj
import Derived.Maps.RangeWalk
import Derived.Maps.Ext
import Derived.Maps.OwnSet
import Derived.Sort.KeysCollected
namespace Go.Proofs.YtbnaakognnkhdaaGreatDoor
open Go.RowKit
set_option linter.unusedSimpArgs false
set_option linter.unusedVariables false

/-- Nothing that was there has turned but the blocks of S. -/
structure Kp (S : Nat → Prop) (w w' : World) : Prop where
  os : w'.os = w.os
  tape : w'.tape = w.tape
  output : w'.output = w.output
  size : w.heap.size ≤ w'.heap.size
  block : ∀ b, b < w.heap.size → ¬ S b → w'.heap[b]? = w.heap[b]?
section
variable {S S' : Nat → Prop} {a b c w w' : World}
theorem Kp.of (h : Fr a b) : Kp S a b := ⟨h.os, h.tape, h.output, h.size, fun k hk _ => h.block k hk⟩
theorem Kp.refl (S : Nat → Prop) (w : World) : Kp S w w := Kp.of (Fr.refl w)
theorem Kp.trans (h : Kp S a b) (k : Kp S' b c) (hs : ∀ x, x < a.heap.size → S' x → S x) : Kp S a c :=
  ⟨k.os.trans h.os, k.tape.trans h.tape, k.output.trans h.output, Nat.le_trans h.size k.size, fun x hx hn => (k.block x (Nat.lt_of_lt_of_le hx h.size) fun q => hn (hs x hx q)).trans (h.block x hx hn)⟩
theorem Kp.call (h : Kp S a b) (k : Kp S b c) : Kp S a c := h.trans k fun _ _ q => q
theorem Kp.fr (h : Kp S a b) (k : Fr b c) : Kp S a c := h.call (Kp.of k)
theorem Kp.mono (h : Kp S a b) (hs : ∀ x, x < a.heap.size → S x → S' x) : Kp S' a b := ⟨h.os, h.tape, h.output, h.size, fun x hx hn => h.block x hx fun q => hn (hs x hx q)⟩
theorem Kp.to (h : Kp S a b) (hs : ∀ x, S x → a.heap.size ≤ x) : Fr a b := ⟨h.os, h.tape, h.output, h.size, fun x hx => h.block x hx fun q => by have := hs x q; omega⟩
theorem Kp.alloc (h : Kp S a b) (o : Obj) : Kp S a (b.alloc o) := h.fr ((Fr.refl b).alloc o)
theorem Kp.drew (h : Kp S a b) : Kp S a b.drew := h.fr (Fr.drew (Fr.refl b))
theorem Kp.drewN (h : Kp S a b) (n : Nat) : Kp S a (b.drewN n) := h.fr (Fr.drewN (Fr.refl b) n)
theorem Kp.set (h : Kp S a b) {p : Addr} (hp : S p.block ∨ a.heap.size ≤ p.block) (v : Value) : Kp S a (b.setCell p v) :=
  ⟨h.os, h.tape, h.output, by have := h.size; simpa using this, fun k hk hn => (Below.heap_setCell b p v k (by rintro rfl; rcases hp with q | q; exact hn q; omega)).trans (h.block k hk hn)⟩
theorem Kp.grown {row : Option Nat} (h : Kp S a b) (k : b.grownBy c row) (hr : ∀ j, row = some j → S j ∨ a.heap.size ≤ j) : Kp S a c :=
  ⟨k.os.trans h.os, k.tape.trans h.tape, k.output.trans h.output, Nat.le_trans h.size k.size, fun x hx hn => (k.block x (Nat.lt_of_lt_of_le hx h.size) fun e => by
    rcases hr x e.symm with q | q
    · exact hn q
    · omega).trans (h.block x hx hn)⟩
theorem heap_cell {b o : Nat} (h : w'.heap[b]? = w.heap[b]?) : w'.cell? ⟨b, o, none⟩ = w.cell? ⟨b, o, none⟩ := by unfold World.cell?; rw [h]
theorem heap_frozen {b o : Nat} (h : w'.heap[b]? = w.heap[b]?) : w'.frozen? ⟨b, o, none⟩ = w.frozen? ⟨b, o, none⟩ := by unfold World.frozen?; rw [h]
theorem Kp.get (h : Kp S w w') {b o : Nat} {v : Value} (hb : ¬ S b) (hc : w.cell? ⟨b, o, none⟩ = some v) : w'.cell? ⟨b, o, none⟩ = some v := (heap_cell (h.block b (lt_of_cell hc) hb)).trans hc
theorem Kp.free (h : Kp S w w') {b o : Nat} {v : Value} (hb : ¬ S b) (hc : w.cell? ⟨b, o, none⟩ = some v) (hf : w.frozen? ⟨b, o, none⟩ = false) : w'.frozen? ⟨b, o, none⟩ = false := (heap_frozen (h.block b (lt_of_cell hc) hb)).trans hf
end

/-! ### lists of names with numbers -/
def look : List (ByteArray × Int) → ByteArray → Int
  | [], _ => 0
  | x :: r, s => if x.1 = s then x.2 else look r s
theorem look_none {s : ByteArray} : ∀ {l : List (ByteArray × Int)}, (∀ x ∈ l, x.1 ≠ s) → look l s = 0
  | [], _ => rfl
  | x :: r, h => by
    rw [look, if_neg (h x List.mem_cons_self)]
    exact look_none fun y hy => h y (List.mem_cons_of_mem _ hy)
theorem look_lt {s : ByteArray} {l : List (ByteArray × Int)} (h : ∀ x ∈ l, ltB s x.1 = true) : look l s = 0 :=
  look_none fun x hx e => by have := h x hx; rw [e, lt_irrefl'] at this; cases this
theorem look_some {s : ByteArray} : ∀ {l : List (ByteArray × Int)}, look l s ≠ 0 → ∃ x ∈ l, x.1 = s ∧ x.2 = look l s
  | [], h => absurd rfl h
  | x :: r, h => by
    rw [look] at h ⊢
    by_cases e : x.1 = s
    · rw [if_pos e]; exact ⟨x, List.mem_cons_self, e, rfl⟩
    · rw [if_neg e] at h ⊢
      obtain ⟨y, h1, h2⟩ := look_some h
      exact ⟨y, List.mem_cons_of_mem _ h1, h2⟩
theorem look_mem : ∀ {l : List (ByteArray × Int)}, ascP l → ∀ x ∈ l, look l x.1 = x.2
  | y :: r, h, x, hx => by
    rw [look]
    rcases List.mem_cons.1 hx with rfl | hx
    · rw [if_pos rfl]
    · have h1 := h.2.2.1 x hx
      rw [if_neg (fun e => by rw [e, lt_irrefl'] at h1; cases h1)]
      exact look_mem h.2.2.2 x hx
/-- Rising lists that answer alike are one. -/
theorem asc_ext : ∀ {l m : List (ByteArray × Int)}, ascP l → ascP m → (∀ s, look l s = look m s) → l = m
  | [], [], _, _, _ => rfl
  | [], y :: s, _, hm, h => by
    have := h y.1
    rw [look_mem hm y List.mem_cons_self] at this
    exact absurd this.symm hm.2.1
  | x :: r, [], hl, _, h => by
    have := h x.1
    rw [look_mem hl x List.mem_cons_self] at this
    exact absurd this hl.2.1
  | x :: r, y :: s, hl, hm, h => by
    have e1 : x.1 = y.1 := by
      refine lt_tri ?_ ?_
      · cases hc : ltB x.1 y.1 with
        | false => rfl
        | true =>
          have h1 := h x.1
          rw [look_mem hl x List.mem_cons_self, look_lt (l := y :: s) fun z hz => by
            rcases List.mem_cons.1 hz with rfl | hz
            · exact hc
            · exact lt_trans' hc (hm.2.2.1 z hz)] at h1
          exact absurd h1 hl.2.1
      · cases hc : ltB y.1 x.1 with
        | false => rfl
        | true =>
          have h1 := h y.1
          rw [look_mem hm y List.mem_cons_self, look_lt (l := x :: r) fun z hz => by
            rcases List.mem_cons.1 hz with rfl | hz
            · exact hc
            · exact lt_trans' hc (hl.2.2.1 z hz)] at h1
          exact absurd h1.symm hm.2.1
    have e2 : x.2 = y.2 := by
      have h1 := h x.1
      rw [look_mem hl x List.mem_cons_self, e1, look_mem hm y List.mem_cons_self] at h1
      exact h1
    have e3 : r = s := asc_ext hl.2.2.2 hm.2.2.2 fun z => by
      by_cases hz : x.1 = z
      · subst hz
        rw [look_lt hl.2.2.1, look_lt (by rw [e1]; exact hm.2.2.1)]
      · have := h z
        rw [look, look, if_neg hz, if_neg (by rw [← e1]; exact hz)] at this
        exact this
    rw [e3, Prod.ext e1 e2]
theorem wrap_id {x : Int} (h : I64 x) : wrap64 x = x := by unfold I64 at h; unfold wrap64; omega
theorem wrap_wrap (x : Int) : wrap64 (wrap64 x) = wrap64 x := wrap_id (wrap64_i64 _)
theorem add_zero64 {x : Int} (h : I64 x) : add64 x 0 = x := by unfold add64; rw [Int.add_zero, wrap_id h]
theorem zero_add64 {x : Int} (h : I64 x) : add64 0 x = x := by unfold add64; rw [Int.zero_add, wrap_id h]
theorem i64_zero : I64 0 := by unfold I64; decide
theorem mul_zero64 (k : Int) : mul64 k 0 = 0 := by unfold mul64; rw [Int.mul_zero, wrap_id i64_zero]
theorem mul_i64 (k x : Int) : I64 (mul64 k x) := wrap64_i64 _
theorem add_i64 (k x : Int) : I64 (add64 k x) := wrap64_i64 _
theorem look_push {s : ByteArray} {n : Int} {l : List (ByteArray × Int)} (h : ∀ y ∈ l, ltB s y.1 = true) (t : ByteArray) : look (pushP s n l) t = if s = t then n else look l t := by
  unfold pushP
  split
  · next h0 =>
    subst h0
    split
    · next e => subst e; exact look_lt h
    · rfl
  · rfl
theorem look_i64 {l : List (ByteArray × Int)} (h : ∀ x ∈ l, I64 x.2) (s : ByteArray) : I64 (look l s) := by
  by_cases h0 : look l s = 0
  · rw [h0]; unfold I64; decide
  · obtain ⟨x, h1, _, h3⟩ := look_some h0
    rw [← h3]; exact h x h1
/-- What the sum of two answers. -/
theorem look_merge {k : Int} : ∀ (N : Nat) (l m : List (ByteArray × Int)), l.length + m.length ≤ N → ascP l → ascP m → (∀ x ∈ l, I64 x.2) → ∀ t, look (mergeP k l m) t = add64 (look l t) (mul64 k (look m t)) := by
  intro N
  induction N with
  | zero =>
    intro l m h _ _ _ t
    have e1 : l = [] := List.eq_nil_of_length_eq_zero (by omega)
    have e2 : m = [] := List.eq_nil_of_length_eq_zero (by omega)
    subst e1 e2
    rw [mergeP]
    simp only [look]
    rw [mul_zero64, add_zero64 i64_zero]
  | succ N ih =>
    intro l m h hl hm il t
    match l, m with
    | [], [] =>
      rw [mergeP]
      simp only [look]
      rw [mul_zero64, add_zero64 i64_zero]
    | x :: r, [] =>
      rw [mergeP, look_push fun y hy => by
        rcases merge_mem _ r [] (Nat.le_refl _) y hy with ⟨z, hz, e⟩ | ⟨z, hz, e⟩
        · rw [← e]; exact hl.2.2.1 z hz
        · cases hz]
      have i2 := ih r [] (by simp at h ⊢; omega) hl.2.2.2 hm (fun y hy => il y (List.mem_cons_of_mem _ hy)) t
      by_cases e : x.1 = t
      · simp only [look, if_pos e]
        rw [mul_zero64, add_zero64 (il x List.mem_cons_self)]
      · rw [if_neg e, i2]
        simp only [look, if_neg e]
    | [], y :: s =>
      rw [mergeP, look_push fun y' hy => by
        rcases merge_mem _ [] s (Nat.le_refl _) y' hy with ⟨z, hz, e⟩ | ⟨z, hz, e⟩
        · cases hz
        · rw [← e]; exact hm.2.2.1 z hz]
      have i2 := ih [] s (by simp at h ⊢; omega) hl hm.2.2.2 il t
      by_cases e : y.1 = t
      · simp only [look, if_pos e]
        rw [zero_add64 (mul_i64 _ _)]
      · rw [if_neg e, i2]
        simp only [look, if_neg e]
    | x :: r, y :: s =>
      rw [mergeP]
      have ir : ∀ z ∈ r, I64 z.2 := fun z hz => il z (List.mem_cons_of_mem _ hz)
      split
      · next hlt =>
        have a1 : ∀ z ∈ y :: s, ltB x.1 z.1 = true := fun z hz => by
          rcases List.mem_cons.1 hz with rfl | hz
          · exact hlt
          · exact lt_trans' hlt (hm.2.2.1 z hz)
        rw [look_push fun y' hy => by
          rcases merge_mem _ r (y :: s) (Nat.le_refl _) y' hy with ⟨z, hz, e⟩ | ⟨z, hz, e⟩
          · rw [← e]; exact hl.2.2.1 z hz
          · rw [← e]; exact a1 z hz]
        have i2 := ih r (y :: s) (by simp at h ⊢; omega) hl.2.2.2 hm ir t
        by_cases e : x.1 = t
        · have e0 : look (y :: s) t = 0 := by rw [← e]; exact look_lt a1
          have e1 : look (x :: r) t = x.2 := by rw [look, if_pos e]
          rw [e0, mul_zero64, if_pos e, e1, add_zero64 (il x List.mem_cons_self)]
        · have e1 : look (x :: r) t = look r t := by rw [look, if_neg e]
          rw [if_neg e, i2, e1]
      · next hn =>
        have hn' : ltB x.1 y.1 = false := by simpa using hn
        split
        · next hlt =>
          have a1 : ∀ z ∈ x :: r, ltB y.1 z.1 = true := fun z hz => by
            rcases List.mem_cons.1 hz with rfl | hz
            · exact hlt
            · exact lt_trans' hlt (hl.2.2.1 z hz)
          rw [look_push fun y' hy => by
            rcases merge_mem _ (x :: r) s (Nat.le_refl _) y' hy with ⟨z, hz, e⟩ | ⟨z, hz, e⟩
            · rw [← e]; exact a1 z hz
            · rw [← e]; exact hm.2.2.1 z hz]
          have i2 := ih (x :: r) s (by simp at h ⊢; omega) hl hm.2.2.2 il t
          by_cases e : y.1 = t
          · have e0 : look (x :: r) t = 0 := by rw [← e]; exact look_lt a1
            have e1 : look (y :: s) t = y.2 := by rw [look, if_pos e]
            rw [e0, if_pos e, e1, zero_add64 (mul_i64 _ _)]
          · rw [if_neg e, i2]
            have e1 : look (y :: s) t = look s t := by rw [look, if_neg e]
            rw [e1]
        · next hn2 =>
          have he := lt_tri hn' (show ltB y.1 x.1 = false by simpa using hn2)
          rw [look_push fun y' hy => by
            rcases merge_mem _ r s (Nat.le_refl _) y' hy with ⟨z, hz, e⟩ | ⟨z, hz, e⟩
            · rw [← e]; exact hl.2.2.1 z hz
            · rw [← e, he]; exact hm.2.2.1 z hz]
          have i2 := ih r s (by simp at h ⊢; omega) hl.2.2.2 hm.2.2.2 ir t
          by_cases e : x.1 = t
          · have e1 : look (y :: s) t = y.2 := by rw [look, if_pos (he ▸ e)]
            have e2 : look (x :: r) t = x.2 := by rw [look, if_pos e]
            rw [e1, if_pos e, e2]
          · have e1 : look (y :: s) t = look s t := by rw [look, if_neg (he ▸ e)]
            have e2 : look (x :: r) t = look r t := by rw [look, if_neg e]
            rw [if_neg e, i2, e1, e2]
/-- Some of it. -/
theorem look_filter (g : ByteArray → Bool) (s : ByteArray) : ∀ l : List (ByteArray × Int), look (l.filter fun x => g x.1) s = if g s = true then look l s else 0
  | [] => by simp [look]
  | x :: r => by
    have ih := look_filter g s r
    cases hx : g x.1 with
    | true =>
      rw [List.filter_cons_of_pos (by simpa using hx), look, look]
      by_cases e : x.1 = s
      · rw [if_pos e, if_pos e, if_pos (by rw [← e]; exact hx)]
      · rw [if_neg e, if_neg e, ih]
    | false =>
      rw [List.filter_cons_of_neg (by simp [hx]), ih, look]
      by_cases e : x.1 = s
      · have : g s = false := by rw [← e]; exact hx
        simp [this]
      · rw [if_neg e]
theorem asc_filter (g : ByteArray → Bool) : ∀ {l : List (ByteArray × Int)}, ascP l → ascP (l.filter fun x => g x.1)
  | [], _ => trivial
  | x :: r, h => by
    have ih := asc_filter g h.2.2.2
    cases hx : g x.1 with
    | true =>
      rw [List.filter_cons_of_pos (by simpa using hx)]
      exact ⟨h.1, h.2.1, fun y hy => h.2.2.1 y (List.mem_filter.1 hy).1, ih⟩
    | false =>
      rw [List.filter_cons_of_neg (by simp [hx])]
      exact ih

/-! ### a map as read -/
def Kl (s : ByteArray) : Lit := .string s.data.toList
theorem Kl_inj {s t : ByteArray} (h : Kl s = Kl t) : s = t := by
  unfold Kl at h
  injection h with h
  exact ByteArray.ext (Array.toList_inj.1 h)
theorem Kl_same (s t : ByteArray) : (Kl s).sameKey (Kl t) = decide (s = t) := by
  by_cases e : s = t
  · subst e; simp [Kl, Lit.sameKey]
  · have : ¬ s.data = t.data := fun h => e (ByteArray.ext h)
    simp [Kl, Lit.sameKey, e, this]
theorem Kl_key (s : ByteArray) : Go.WideAt.IsKeyLit (Kl s) := by unfold Kl; trivial
theorem before_less : ∀ x y : List UInt8, bytesBefore x y = Op.bytesLess x y
  | [], [] => rfl
  | [], _ :: _ => rfl
  | _ :: _, [] => rfl
  | a :: x, b :: y => by simp only [bytesBefore, Op.bytesLess, before_less x y]
theorem Kl_before (s t : ByteArray) : (Kl s).before (Kl t) = ltB s t := by
  unfold Kl ltB
  rw [ByteArray.toList_eq, ByteArray.toList_eq]
  exact before_less _ _
def nD (n : Int) : DataW Unit := .lit (.int .i64 n)
def eD (x : ByteArray × Int) : Lit × DataW Unit := (Kl x.1, nD x.2)
/-- The list as a map is read. -/
def dP (P : List (ByteArray × Int)) : DataW Unit := .map (P.map eD)
theorem size_dP (P : List (ByteArray × Int)) : Go.Maps.size (dP P) = P.length := by simp [dP, Go.Maps.size]
theorem keys_dP (P : List (ByteArray × Int)) : strKeys (dP P) = P.map fun x => x.1.data.toList := by simp [dP, strKeys, eD, Kl, strOf, Function.comp_def]
theorem at_dP (s : ByteArray) (z : DataW Unit) : ∀ {P : List (ByteArray × Int)}, ascP P → (dP P).atKey (Kl s) z = if look P s = 0 then z else nD (look P s)
  | [], _ => rfl
  | x :: r, h => by
    have ih := at_dP s z h.2.2.2
    unfold dP at ih ⊢
    unfold DataW.atKey at ih ⊢
    simp only [List.map_cons, List.find?_cons, eD, Kl_same] at ih ⊢
    rw [look]
    by_cases e : x.1 = s
    · rw [if_pos e, if_neg h.2.1]
      simp [e]
    · rw [if_neg e, ← ih]
      simp [e]
theorem asc_canon : ∀ {P : List (ByteArray × Int)}, ascP P → Go.Maps.Canon (dP P) := fun {P} h => by
  refine ⟨_, rfl, ?_, fun p hp => ?_⟩
  · induction P with
    | nil => simp
    | cons x r ih =>
      rw [List.map_cons]
      refine List.pairwise_cons.2 ⟨fun q hq => ?_, ih h.2.2.2⟩
      obtain ⟨y, hy, rfl⟩ := List.mem_map.1 hq
      show (Kl x.1).before (Kl y.1) = true
      rw [Kl_before]; exact h.2.2.1 y hy
  · obtain ⟨x, _, rfl⟩ := List.mem_map.1 hp
    exact Kl_key _
theorem has_dP (s : ByteArray) {P : List (ByteArray × Int)} (h : ascP P) : Go.Maps.has (dP P) (Kl s) = decide (look P s ≠ 0) := by
  by_cases e : look P s = 0
  · rw [Go.Maps.has_false_of_atKey fun z => by rw [at_dP s z h, if_pos e]]
    simp [e]
  · rw [Go.Maps.has_true_of_atKey (y := nD (look P s)) fun z => by rw [at_dP s z h, if_neg e]]
    simp [e]
/-- What the keys of strings are. -/
theorem str_of_key {P : Program} {k : TypeId} (hk : P.underlying k = some .string) {R : Value → Option (DataW Unit × List MemPlace)} {w : World} {b n : Nat} {D : DataW Unit} (h : w.ownsMap P k R b n D) {kl : Lit} (hh : Go.Maps.has D kl = true) : ∃ s : ByteArray, kl = Kl s := by
  obtain ⟨es, rfl, hko⟩ := h.keysOf
  obtain ⟨p, hp, hs⟩ := List.any_eq_true.1 hh
  have e := Go.WideAt.sameKey_eq hs
  obtain ⟨v, hv⟩ := hko p hp
  obtain ⟨s, _, hl, _⟩ := Go.WideMaps.string_of_keyOf hk hv
  exact ⟨s, by rw [← e, hl]; rfl⟩
/-- A map that answers as the list does is the list. -/
theorem own_eq {P : Program} {k : TypeId} (hk : P.underlying k = some .string) {R : Value → Option (DataW Unit × List MemPlace)} {w : World} {b n : Nat} {D : DataW Unit} (h : w.ownsMap P k R b n D) {L : List (ByteArray × Int)} (hL : ascP L)
    (ha : ∀ s z, D.atKey (Kl s) z = if look L s = 0 then z else nD (look L s)) : D = dP L := by
  have hs : ∀ s, Go.Maps.has D (Kl s) = decide (look L s ≠ 0) := fun s => by
    by_cases e : look L s = 0
    · rw [Go.Maps.has_false_of_atKey fun z => by rw [ha s z, if_pos e]]
      simp [e]
    · rw [Go.Maps.has_true_of_atKey (y := nD (look L s)) fun z => by rw [ha s z, if_neg e]]
      simp [e]
  refine Go.Maps.ext (h.canon (Go.Maps.string_keyed hk)) (asc_canon hL) (fun kl => ?_) fun kl z hh => ?_
  · cases hd : Go.Maps.has D kl with
    | true =>
      obtain ⟨s, rfl⟩ := str_of_key hk h hd
      rw [hs s] at hd
      rw [has_dP s hL, hd]
    | false =>
      cases hp : Go.Maps.has (dP L) kl with
      | false => rfl
      | true =>
        obtain ⟨p, hp', hq⟩ := List.any_eq_true.1 hp
        obtain ⟨x, hx, rfl⟩ := List.mem_map.1 hp'
        have e : Kl x.1 = kl := Go.WideAt.sameKey_eq hq
        rw [← e, hs x.1, look_mem hL x hx] at hd
        have := asc_ne hL x hx
        simp [this] at hd
  · obtain ⟨s, rfl⟩ := str_of_key hk h hh
    rw [ha s z, at_dP s z hL]
where
  asc_ne : ∀ {l : List (ByteArray × Int)}, ascP l → ∀ x ∈ l, x.2 ≠ 0
    | y :: r, h, x, hx => by
      rcases List.mem_cons.1 hx with rfl | hx
      · exact h.2.1
      · exact asc_ne h.2.2.2 x hx
theorem own_tight {P : Program} {k : TypeId} {R : Value → Option (DataW Unit × List MemPlace)} {w : World} {b n : Nat} {D : DataW Unit} (h : w.ownsMap P k R b n D) : w.ownsMap P k R b (Go.Maps.size D) D := by
  obtain ⟨es, clock, hb, F, hs, rfl⟩ := h
  refine ⟨es, clock, hb, F, ?_, rfl⟩
  simp [Go.Maps.size, length_sorted]
theorem own_keep {P : Program} {k : TypeId} {R : Value → Option (DataW Unit × List MemPlace)} {w w' : World} {b n : Nat} {D : DataW Unit} (h : w.ownsMap P k R b n D) (e : w'.heap[b]? = w.heap[b]?) : w'.ownsMap P k R b n D := by
  obtain ⟨es, clock, hb, F, hs, hD⟩ := h
  exact ⟨es, clock, e.trans hb, F, hs, hD⟩
/-- The sorted keys. -/
theorem le_of_less : ∀ x y : List UInt8, Op.bytesLess x y = true → x ≤ y
  | _, [], h => by simp [Op.bytesLess] at h
  | [], _ :: _, _ => List.nil_le _
  | a :: x, b :: y, h => by
    simp only [Op.bytesLess, Bool.or_eq_true, Bool.and_eq_true, decide_eq_true_eq, beq_iff_eq] at h
    rw [List.cons_le_cons_iff]
    rcases h with h | ⟨rfl, h⟩
    · exact .inl h
    · exact .inr ⟨rfl, le_of_less x y h⟩
theorem asc_sorted : ∀ {P : List (ByteArray × Int)}, ascP P → (P.map fun x => x.1.data.toList).Pairwise fun x y => leB x y = true
  | [], _ => by simp
  | x :: r, h => by
    rw [List.map_cons]
    refine List.pairwise_cons.2 ⟨fun q hq => ?_, asc_sorted h.2.2.2⟩
    obtain ⟨y, hy, rfl⟩ := List.mem_map.1 hq
    have h1 := h.2.2.1 y hy
    unfold ltB at h1
    rw [ByteArray.toList_eq, ByteArray.toList_eq] at h1
    simpa [leB] using le_of_less _ _ h1
theorem sorted_keys {P : List (ByteArray × Int)} (h : ascP P) {ss : List (List UInt8)} (hp : ss.Perm (strKeys (dP P))) : ss.mergeSort leB = P.map fun x => x.1.data.toList := by
  rw [mergeSort_of_perm hp, keys_dP]
  exact List.mergeSort_of_pairwise (asc_sorted h)
end Go.Proofs.YtbnaakognnkhdaaGreatDoor
