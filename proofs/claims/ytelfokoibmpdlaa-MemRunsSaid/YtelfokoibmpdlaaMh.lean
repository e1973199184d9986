/- Rows of regions that a call makes; appending to rows of structs. -/
import Derived.Test.YtelfokoibmpdlaaMb
import Derived.Test.YtelfokoibmpdlaaRow
namespace Go.Proofs.Ytelfokoibmpdlaa
open Go.RowKit
set_option linter.unusedSimpArgs false
set_option linter.unusedVariables false

theorem add_zero_k (g k : Nat) : (⟨g, 0, none⟩ : Addr).add k = ⟨g, k, none⟩ := by unfold Addr.add; by_cases h0 : k = 0 <;> simp [h0]
/-- What an append leaves. -/
def GrewK (w : World) (base : Nat) (e : TypeId) (size : Nat) (v : Value) (n : Nat) (xs : List Value) (v' : Value) (w' : World) : Prop :=
  w'.ownsRow base e size v' n xs ∧ w.grownBy w' v.ownBlock ∧ (v'.ownBlock = v.ownBlock ∨ v'.ownBlock = some w.heap.size)
/-- The cells that an append reads. -/
def Src (w : World) (A : Option Addr) (news : List Value) : Prop := 0 < news.length → ∃ ad, A = some ad ∧ ∀ j u, news[j]? = some u → w.cell? (ad.add j) = some u
theorem Src.rd {α : Type} {f : α → Value} {w : World} {A : Option Addr} {l : List α} (h : Rd f w A l) : Src w A (l.map f) := fun h0 => h.adds (by simpa using h0)
theorem run_appendk {P : Program} (w : World) (base : Nat) (t ty e : TypeId) (size : Nat) {z : Value} {bytes : Nat} (ht : P.underlying t = some (.slice e))
    (hi : (P.info? e).map (fun i => (i.zero, i.size, i.bytes)) = some (some z, size, bytes)) (hz : z.cells.size = size) (hs0 : 0 < size)
    (v : Value) (n : Nat) (xs : List Value) (hown : w.ownsRow base e size v n xs) (A : Option Addr) (m c : Nat) (news : List Value) (hl : news.length = m * size) (hr : Src w A news) (hA : A = none → m = 0) (h1 : ∀ u ∈ news, u.oneCell' = true)
    (h63 : n + m ≤ maxLen) (hbytes : (n + m) * bytes ≤ 140737488355328) (hbase : base ≤ w.heap.size) :
    ∃ v' w', (Builtin.append_ #[t, t] ty #[v, .slice A m c]).run P w = .ok v' w' ∧ GrewK w base e size v (n + m) (xs ++ news) v' w' := by
  obtain ⟨i, hi', hz0, hz1, hz2⟩ := info_parts hi
  rcases A with _ | ad
  · obtain rfl := hA rfl
    have hn : news = [] := List.eq_nil_of_length_eq_zero (by omega)
    subst hn
    exact ⟨v, w, run_append_none w base t ty e i size ht hi' v _ _ hown c, by simpa using hown, World.grownBy.refl w _, .inl rfl⟩
  · have hcells : ∀ j u, news[j]? = some u → w.cell? (ad.add j) = some u := fun j u hu => by
      obtain ⟨ad', e1, h⟩ := hr (by have := (List.getElem?_eq_some_iff.1 hu).1; omega)
      injection e1 with e1; subst e1
      exact h j u hu
    obtain ⟨v', w', hrun, h2, h3, _, h5⟩ := run_append_own_at (P := P) w base t ty e i z size bytes ht hi' hz0 hz1 hz2 hz hs0 v n xs hown ad m c news hl hcells h1 h63 hbytes hbase
    exact ⟨v', w', hrun, h2, h3, h5⟩
theorem wp_appendk {P : Program} (w : World) {o : Oper} {a : Act} {K : Act → World → Prop} {Q : Exit → Act → World → Prop} (s x : Operand) (t : TypeId)
    (ho : o.op = .call { callee := .builtin .append, args := #[s, x], argTypes := #[t, t] })
    (base : Nat) (e : TypeId) (size : Nat) {z : Value} {bytes : Nat} (ht : P.underlying t = some (.slice e))
    (hi : (P.info? e).map (fun i => (i.zero, i.size, i.bytes)) = some (some z, size, bytes)) (hz : z.cells.size = size) (hs0 : 0 < size)
    (v : Value) (n : Nat) (xs : List Value) (hs : a.eval s = v) (hown : w.ownsRow base e size v n xs) (A : Option Addr) (m c : Nat) (news : List Value) (hx : a.eval x = .slice A m c) (hl : news.length = m * size) (hr : Src w A news) (hA : A = none → m = 0) (h1 : ∀ u ∈ news, u.oneCell' = true)
    (h63 : n + m ≤ maxLen) (hbytes : (n + m) * bytes ≤ 140737488355328) (hbase : base ≤ w.heap.size)
    (h : ∀ v' w', Hid (GrewK w base e size v (n + m) (xs ++ news) v' w') → K (a.put o.dst v') w') : o.wp P a w K Q := by
  obtain ⟨v', w', hrun, hg⟩ := run_appendk (P := P) w base t o.type e size ht hi hz hs0 v n xs hown A m c news hl hr hA h1 h63 hbytes hbase
  unfold Oper.wp execOp
  simp only [ho, resolve, invoke, builtin, Sem.run_bind, Sem.run_pure, Result.andThen_ok, List.map_toArray, List.map_cons, List.map_nil, hs, hx, hrun]
  exact h v' w' hg
/-- As a step of the walk. -/
theorem wpList_appendk {P : Program} (w : World) {ops : Array Oper} {rest : List Oper} {o : Oper} {a : Act} {Q : Exit → Act → World → Prop} (hgd : o.guard = none) (s x : Operand) (t : TypeId)
    (ho : o.op = .call { callee := .builtin .append, args := #[s, x], argTypes := #[t, t] })
    (base : Nat) (e : TypeId) (size : Nat) {z : Value} {bytes : Nat} (ht : P.underlying t = some (.slice e))
    (hi : (P.info? e).map (fun i => (i.zero, i.size, i.bytes)) = some (some z, size, bytes)) (hz : z.cells.size = size) (hs0 : 0 < size)
    (v : Value) (n : Nat) (xs : List Value) (hs : a.eval s = v) (hown : w.ownsRow base e size v n xs) (A : Option Addr) (m c : Nat) (news : List Value) (hx : a.eval x = .slice A m c) (hl : news.length = m * size) (hr : Src w A news) (hA : A = none → m = 0) (h1 : ∀ u ∈ news, u.oneCell' = true)
    (h63 : n + m ≤ maxLen) (hbytes : (n + m) * bytes ≤ 140737488355328) (hbase : base ≤ w.heap.size)
    (h : ∀ v' w', Hid (GrewK w base e size v (n + m) (xs ++ news) v' w') → wpList P ops Q rest (a.put o.dst v') w') : wpList P ops Q (o :: rest) a w :=
  wpList_plain hgd fun _ hK => wp_appendk w s x t ho base e size ht hi hz hs0 v n xs hs hown A m c news hx hl hr hA h1 h63 hbytes hbase fun v' w' h2 => hK _ _ (h v' w' h2)
theorem GrewK.kp {w : World} {base : Nat} {e : TypeId} {size : Nat} {v : Value} {n : Nat} {xs : List Value} {v' : Value} {w' : World} (h : GrewK w base e size v n xs v' w') : Kp (fun b => v.ownBlock = some b) w w' :=
  ⟨h.2.1.os, h.2.1.tape, h.2.1.output, h.2.1.size, fun b hb hn => World.grownBy.block h.2.1 b hb fun e => hn e.symm⟩
/-- Where a region's bytes lie: the address, the room. -/
abbrev Sl := Option Addr × Nat
def rgCells (x : Rg × Sl) : List Value := [.int .u64 (x.1.pl : Int), .int .i64 x.1.pm, .slice x.2.1 x.1.bs.length x.2.2]
def flatR (ps : List (Rg × Sl)) : List Value := ps.flatMap rgCells
theorem flatR_length : ∀ ps : List (Rg × Sl), (flatR ps).length = ps.length * 3
  | [] => rfl
  | x :: r => by
    have := flatR_length r
    simp only [flatR, List.flatMap_cons, List.length_append, List.length_cons] at this ⊢
    rw [this]; simp [rgCells]; omega
theorem flatR_snoc (ps : List (Rg × Sl)) (x : Rg × Sl) : flatR (ps ++ [x]) = flatR ps ++ rgCells x := by simp [flatR]
theorem flatR_get : ∀ (ps : List (Rg × Sl)) (i t : Nat) (x : Rg × Sl), ps[i]? = some x → t < 3 → (flatR ps)[i * 3 + t]? = (rgCells x)[t]?
  | [], i, t, x, h, _ => by simp at h
  | y :: r, 0, t, x, h, ht => by
    simp at h; subst h
    simp only [flatR, List.flatMap_cons]
    rw [List.getElem?_append_left (by simp [rgCells]; omega)]; congr 1; omega
  | y :: r, i + 1, t, x, h, ht => by
    have := flatR_get r i t x (by simpa using h) ht
    simp only [flatR, List.flatMap_cons] at this ⊢
    rw [List.getElem?_append_right (by simp [rgCells]; omega), ← this]
    congr 1; simp [rgCells]; omega
theorem flatR_one (ps : List (Rg × Sl)) : ∀ u ∈ flatR ps, u.oneCell' = true := by
  intro u hu
  obtain ⟨x, _, hx⟩ := List.mem_flatMap.1 hu
  simp [rgCells] at hx
  rcases hx with rfl | rfl | rfl <;> rfl
/-- A region's numbers. -/
structure RgIn (r : Rg) : Prop where
  pl : r.pl < 18446744073709551616
  lo : -9223372036854775808 ≤ r.pm
  hi : r.pm ≤ 9223372036854775807
  bys : Bys r.bs
/-- Its bytes can be read where they lie. -/
structure SlAt (w : World) (x : Rg × Sl) : Prop where
  num : RgIn x.1
  cap : x.1.bs.length ≤ x.2.2
  capm : x.2.2 ≤ maxLen
  rd : Rd u8n w x.2.1 x.1.bs
theorem SlAt.fr {w w' : World} {x : Rg × Sl} (h : SlAt w x) (k : Fr w w') : SlAt w' x := ⟨h.num, h.cap, h.capm, h.rd.fr k⟩
theorem Rd.kp {α : Type} {f : α → Value} {S : Nat → Prop} {w w' : World} {A : Option Addr} {l : List α} (h : Rd f w A l) (k : Kp S w w') (hn : 0 < l.length → ∀ a, A = some a → ¬ S a.block) : Rd f w' A l := fun hl => by
  obtain ⟨g, o, e, hg, hc⟩ := h hl
  have := hn hl _ e
  exact ⟨g, o, e, Nat.lt_of_lt_of_le hg k.size, fun i hi => k.get this (hc i hi)⟩
theorem SlAt.kp {S : Nat → Prop} {w w' : World} {x : Rg × Sl} (h : SlAt w x) (k : Kp S w w') (hn : 0 < x.1.bs.length → ∀ a, x.2.1 = some a → ¬ S a.block) : SlAt w' x := ⟨h.num, h.cap, h.capm, h.rd.kp k hn⟩
/-- A region in memory. -/
def RgAt (w : World) (b o : Nat) (r : Rg) : Prop := ∃ s : Sl, SlAt w (r, s) ∧ w.cell? ⟨b, o, none⟩ = some (.int .u64 (r.pl : Int)) ∧ w.cell? ⟨b, o + 1, none⟩ = some (.int .i64 r.pm) ∧ w.cell? ⟨b, o + 2, none⟩ = some (.slice s.1 r.bs.length s.2)
theorem RgAt.fr {w w' : World} {b o : Nat} {r : Rg} (h : RgAt w b o r) (k : Fr w w') : RgAt w' b o r := by
  obtain ⟨s, h0, h1, h2, h3⟩ := h; exact ⟨s, h0.fr k, k.get h1, k.get h2, k.get h3⟩
/-- A row of regions that the call has made: what it holds; its cells; where the bytes lie. -/
structure RowsAt (w : World) (B : Nat) (v : Value) (ps : List (Rg × Sl)) : Prop where
  own : w.ownsRow B 49 3 v ps.length (flatR ps)
  sl : ∀ x ∈ ps, SlAt w x
  off : ∀ x ∈ ps, 0 < x.1.bs.length → ∀ a, x.2.1 = some a → v.ownBlock ≠ some a.block
theorem RowsAt.fr {w w' : World} {B : Nat} {v : Value} {ps : List (Rg × Sl)} (h : RowsAt w B v ps) (k : Fr w w') : RowsAt w' B v ps :=
  ⟨h.own.kept (row := none) ⟨k.os, k.tape, k.output, k.size, fun i hi _ => k.block i hi⟩ (by cases v.ownBlock; exact .inl rfl; exact .inr (by simp)), fun x hx => (h.sl x hx).fr k, h.off⟩
/-- Its value. -/
theorem RowsAt.val {w : World} {B : Nat} {v : Value} {ps : List (Rg × Sl)} (h : RowsAt w B v ps) : ∃ A c, v = .slice A ps.length c ∧ ps.length ≤ c ∧ c ≤ maxLen ∧ (A = none → ps.length = 0) ∧ ∀ a, A = some a → ∃ g, a = ⟨g, 0, none⟩ ∧ B ≤ g ∧ g < w.heap.size ∧ v.ownBlock = some g := by
  rcases h.own.2 with ⟨hv, hn⟩ | ⟨g, cap, cur, hv, hb, hg, hc, hm, _⟩
  · exact ⟨none, 0, by rw [hv, hn], by omega, Nat.zero_le _, fun _ => hn, fun a h => by cases h⟩
  · refine ⟨_, cap, hv, hc, hm, (fun h => nomatch h), fun a h => ?_⟩
    injection h with h; subst h
    exact ⟨g, rfl, hb, (h.own.lt g (by rw [hv]; rfl)).2, by rw [hv]; rfl⟩
theorem RowsAt.cell {w : World} {B : Nat} {v : Value} {ps : List (Rg × Sl)} (h : RowsAt w B v ps) {g : Nat} (hg : v.ownBlock = some g) {i t : Nat} {x : Rg × Sl} {u : Value} (hi : ps[i]? = some x) (ht : t < 3) (hu : (rgCells x)[t]? = some u) : w.cell? ⟨g, i * 3 + t, none⟩ = some u := by
  have := h.own.cells hg (i * 3 + t) u (by rw [flatR_get ps i t x hi ht]; exact hu)
  rw [add_zero_k] at this
  exact this
/-- One region more. -/
theorem RowsAt.grow {W w6 : World} {B : Nat} {v v6 : Value} {ps : List (Rg × Sl)} {x : Rg × Sl} (h : RowsAt W B v ps) (hx : SlAt W x) (hxo : 0 < x.1.bs.length → ∀ a, x.2.1 = some a → v.ownBlock ≠ some a.block)
    (hg : GrewK W B 49 3 v (ps.length + 1) (flatR ps ++ rgCells x) v6 w6) : RowsAt w6 B v6 (ps ++ [x]) := by
  have hk := hg.kp
  have hlt : ∀ y : Rg × Sl, SlAt W y → 0 < y.1.bs.length → ∀ a, y.2.1 = some a → a.block < W.heap.size := fun y hy h0 a ha => by
    obtain ⟨g, o, e, hgl, _⟩ := hy.rd h0
    rw [ha] at e; injection e with e; subst e; exact hgl
  refine ⟨?_, fun y hy => ?_, fun y hy h0 a ha => ?_⟩
  · rw [flatR_snoc, List.length_append]; exact hg.1
  · rcases List.mem_append.1 hy with hy | hy
    · exact (h.sl y hy).kp hk fun h0 a ha => h.off y hy h0 a ha
    · obtain rfl := List.mem_singleton.1 hy
      exact hx.kp hk fun h0 a ha => hxo h0 a ha
  · have h1 : SlAt W y ∧ v.ownBlock ≠ some a.block := by
      rcases List.mem_append.1 hy with hy | hy
      · exact ⟨h.sl y hy, h.off y hy h0 a ha⟩
      · obtain rfl := List.mem_singleton.1 hy
        exact ⟨hx, hxo h0 a ha⟩
    rcases hg.2.2 with e | e
    · rw [e]; exact h1.2
    · rw [e]; intro q; injection q with q
      have := hlt y h1.1 h0 a ha; omega
theorem RowsAt.base {W : World} {B : Nat} {v : Value} {ps : List (Rg × Sl)} (h : RowsAt W B v ps) : ∀ k, v.ownBlock = some k → B ≤ k ∧ k < W.heap.size := h.own.lt
end Go.Proofs.Ytelfokoibmpdlaa
