/- append onto a row of the call's own, its source read by Rd; nothing of the program. -/
import Derived.Test.YtbnaakognnkhdaaGreatDoorFr
import Derived.OwnWalk
import Derived.RegionTactic
namespace Go.Proofs.YtbnaakognnkhdaaGreatDoor
open Go.RowKit

/-- A row of the call's own that holds the list l. -/
def Own {α : Type} (f : α → Value) (w : World) (base : Nat) (e : TypeId) (v : Value) (l : List α) : Prop := w.ownsRow base e 1 v l.length (l.map f)
section
variable {α : Type} {f : α → Value} {w w' : World} {base : Nat} {e : TypeId} {v : Value} {l : List α}
theorem Own.nil : Own f w base e (.slice none 0 0) ([] : List α) := World.ownsRow_nil w base e 1
/-- Its value is a slice of its length. -/
theorem Own.val (h : Own f w base e v l) : ∃ A c, v = .slice A l.length c ∧ l.length ≤ c ∧ c ≤ maxLen ∧ Rd f w A l := by
  have h0 := h
  rcases h.2 with ⟨hv, hn⟩ | ⟨g, cap, cur, hv, _, _, hc, hm, _⟩
  · have hl : l = [] := List.eq_nil_of_length_eq_zero hn
    subst hv hl
    exact ⟨none, 0, rfl, Nat.le_refl _, Nat.zero_le _, Rd.nil⟩
  · subst hv
    exact ⟨_, cap, rfl, hc, hm, Rd.of_own h0⟩
theorem Own.kept (h : Own f w base e v l) {row : Option Nat} (hg : w.grownBy w' row) (hne : v.ownBlock = none ∨ v.ownBlock ≠ row) : Own f w' base e v l := World.ownsRow.kept h hg hne
theorem Own.fr (h : Own f w base e v l) (k : Fr w w') : Own f w' base e v l := by
  refine h.kept (row := none) ⟨k.os, k.tape, k.output, k.size, fun i hi _ => k.block i hi⟩ ?_
  cases hv : v.ownBlock
  · exact .inl rfl
  · exact .inr (by simp)
theorem Own.alloc (h : Own f w base e v l) (o : Obj) : Own f (w.alloc o) base e v l := h.fr ((Fr.refl w).alloc o)
theorem Own.drew (h : Own f w base e v l) : Own f w.drew base e v l := h.fr (Fr.drew (Fr.refl w))
theorem Own.base_le (h : Own f w base e v l) : ∀ k, v.ownBlock = some k → base ≤ k := fun k hk => (World.ownsRow.lt h k hk).1
end

theorem run_append_none {P : Program} (w : World) (base : Nat) (t ty e : TypeId) (i : TypeInfo) (size : Nat) (ht : P.underlying t = some (.slice e)) (hi : P.info? e = some i)
    (v : Value) (n : Nat) (xs : List Value) (hown : w.ownsRow base e size v n xs) (c : Nat) : (Builtin.append_ #[t, t] ty #[v, .slice none 0 c]).run P w = .ok v w := by
  rcases hown.2 with ⟨rfl, rfl⟩ | ⟨g, cap, cur, rfl, _, _, hnc, _⟩
  · simp [Builtin.append_, run_underlying ht, sizeOf, typeInfo, hi, Builtin.lenOf, Builtin.firstCells]
  · simp [Builtin.append_, run_underlying ht, sizeOf, typeInfo, hi, Builtin.lenOf, Builtin.firstCells, hnc, storeCells]
/-- What an append leaves. -/
def Grew {α : Type} (f : α → Value) (w : World) (base : Nat) (e : TypeId) (v : Value) (l : List α) (v' : Value) (w' : World) : Prop :=
  Own f w' base e v' l ∧ w.grownBy w' v.ownBlock ∧ (v'.ownBlock = v.ownBlock ∨ v'.ownBlock = some w.heap.size)
theorem run_append_rd {P : Program} {α : Type} {f : α → Value} (h1 : ∀ x, (f x).oneCell' = true) (w : World) (base : Nat) (t ty e : TypeId) {z : Value} {bytes : Nat} (ht : P.underlying t = some (.slice e))
    (hi : (P.info? e).map (fun i => (i.zero, i.size, i.bytes)) = some (some z, 1, bytes)) (hz : z.cells.size = 1)
    (v : Value) (l : List α) (hown : Own f w base e v l) (A : Option Addr) (m : Nat) (c : Nat) (news : List α) (hm : news.length = m) (hr : Rd f w A news)
    (h63 : l.length + m ≤ maxLen) (hbytes : (l.length + m) * bytes ≤ 140737488355328) (hbase : base ≤ w.heap.size) :
    ∃ v' w', (Builtin.append_ #[t, t] ty #[v, .slice A m c]).run P w = .ok v' w' ∧ Grew f w base e v (l ++ news) v' w' := by
  subst hm
  obtain ⟨i, hi', hz0, hz1, hz2⟩ := info_parts hi
  have hone : ∀ u ∈ news.map f, u.oneCell' = true := fun u hu => by
    obtain ⟨x, _, rfl⟩ := List.mem_map.1 hu
    exact h1 x
  rcases A with _ | ad
  · have hn : news = [] := by
      cases news with
      | nil => rfl
      | cons x r =>
        obtain ⟨_, _, h, _⟩ := hr (by simp)
        cases h
    subst hn
    exact ⟨v, w, run_append_none w base t ty e i 1 ht hi' v _ _ hown c, by simpa using hown, World.grownBy.refl w _, .inl rfl⟩
  · have hcells : ∀ j u, (news.map f)[j]? = some u → w.cell? (ad.add j) = some u := fun j u hu => by
      have hl : 0 < news.length := by
        have := (List.getElem?_eq_some_iff.1 hu).1
        simp at this; omega
      obtain ⟨ad', h, k⟩ := hr.adds hl
      injection h with h
      subst h
      exact k j u hu
    obtain ⟨v', w', hrun, h2, h3, _, h5⟩ := run_append_own_at (P := P) w base t ty e i z 1 bytes ht hi' hz0 hz1 hz2 hz (by omega) v l.length (l.map f) hown ad news.length c (news.map f) (by simp) hcells hone h63 hbytes hbase
    refine ⟨v', w', hrun, ?_, h3, h5⟩
    unfold Own
    rw [List.length_append, List.map_append]
    exact h2
theorem wp_append_rd {P : Program} {α : Type} {f : α → Value} (h1 : ∀ x, (f x).oneCell' = true) (w : World) {o : Oper} {a : Act} {K : Act → World → Prop} {Q : Exit → Act → World → Prop} (s x : Operand) (t : TypeId)
    (ho : o.op = .call { callee := .builtin .append, args := #[s, x], argTypes := #[t, t] })
    (base : Nat) (e : TypeId) {z : Value} {bytes : Nat} (ht : P.underlying t = some (.slice e))
    (hi : (P.info? e).map (fun i => (i.zero, i.size, i.bytes)) = some (some z, 1, bytes)) (hz : z.cells.size = 1)
    (v : Value) (l : List α) (hs : a.eval s = v) (hown : Own f w base e v l) (A : Option Addr) (m c : Nat) (news : List α) (hx : a.eval x = .slice A m c) (hm : news.length = m) (hr : Rd f w A news)
    (h63 : l.length + m ≤ maxLen) (hbytes : (l.length + m) * bytes ≤ 140737488355328) (hbase : base ≤ w.heap.size)
    (h : ∀ v' w', Hid (Grew f w base e v (l ++ news) v' w') → K (a.put o.dst v') w') : o.wp P a w K Q := by
  obtain ⟨v', w', hrun, hg⟩ := run_append_rd (P := P) h1 w base t o.type e ht hi hz v l hown A m c news hm hr h63 hbytes hbase
  unfold Oper.wp execOp
  simp only [ho, resolve, invoke, builtin, Sem.run_bind, Sem.run_pure, Result.andThen_ok, List.map_toArray, List.map_cons, List.map_nil, hs, hx, hrun]
  exact h v' w' hg
/-- As a step of the walk. -/
theorem wpList_append_rd {P : Program} {α : Type} {f : α → Value} (h1 : ∀ x, (f x).oneCell' = true) (w : World) {ops : Array Oper} {rest : List Oper} {o : Oper} {a : Act} {Q : Exit → Act → World → Prop} (hgd : o.guard = none) (s x : Operand) (t : TypeId)
    (ho : o.op = .call { callee := .builtin .append, args := #[s, x], argTypes := #[t, t] })
    (base : Nat) (e : TypeId) {z : Value} {bytes : Nat} (ht : P.underlying t = some (.slice e))
    (hi : (P.info? e).map (fun i => (i.zero, i.size, i.bytes)) = some (some z, 1, bytes)) (hz : z.cells.size = 1)
    (v : Value) (l : List α) (hs : a.eval s = v) (hown : Own f w base e v l) (A : Option Addr) (m c : Nat) (news : List α) (hx : a.eval x = .slice A m c) (hm : news.length = m) (hr : Rd f w A news)
    (h63 : l.length + m ≤ maxLen) (hbytes : (l.length + m) * bytes ≤ 140737488355328) (hbase : base ≤ w.heap.size)
    (h : ∀ v' w', Hid (Grew f w base e v (l ++ news) v' w') → wpList P ops Q rest (a.put o.dst v') w') : wpList P ops Q (o :: rest) a w :=
  wpList_plain hgd fun _ hK => wp_append_rd h1 w s x t ho base e ht hi hz v l hs hown A m c news hx hm hr h63 hbytes hbase fun v' w' h2 => hK _ _ (h v' w' h2)
/-- As a step of a region that draws its order. -/
theorem step_append_rd {P : Program} {α : Type} {f : α → Value} (h1 : ∀ x, (f x).oneCell' = true) (w : World) {ops : Array Oper} {o : Oper} {a : Act} {K : Act → World → Prop} {Q : Exit → Act → World → Prop} {E : Prop} (hgd : o.guard = none) (s x : Operand) (t : TypeId)
    (ho : o.op = .call { callee := .builtin .append, args := #[s, x], argTypes := #[t, t] })
    (base : Nat) (e : TypeId) {z : Value} {bytes : Nat} (ht : P.underlying t = some (.slice e))
    (hi : (P.info? e).map (fun i => (i.zero, i.size, i.bytes)) = some (some z, 1, bytes)) (hz : z.cells.size = 1)
    (v : Value) (l : List α) (hs : a.eval s = v) (hown : Own f w base e v l) (A : Option Addr) (m c : Nat) (news : List α) (hx : a.eval x = .slice A m c) (hm : news.length = m) (hr : Rd f w A news)
    (h63 : l.length + m ≤ maxLen) (hbytes : (l.length + m) * bytes ≤ 140737488355328) (hbase : base ≤ w.heap.size)
    (h : ∀ v' w', Hid (Grew f w base e v (l ++ news) v' w') → K (a.put o.dst v') w') :
    if Region.wanted o (yielded ops a.tmps) = true then Oper.wp P o a w K Q else E := by
  have hw : Region.wanted o (yielded ops a.tmps) = true := by simp [Region.wanted, hgd]
  rw [if_pos hw]
  exact wp_append_rd h1 w s x t ho base e ht hi hz v l hs hown A m c news hx hm hr h63 hbytes hbase h
section
variable {α : Type} {f : α → Value} {W w w' : World} {base : Nat} {e : TypeId} {v v' : Value} {l : List α}
theorem Grew.own (h : Grew f w base e v l v' w') : Own f w' base e v' l := h.1
/-- Old memory: what lies below the row's base. -/
theorem Grew.fr (h : Grew f w base e v l v' w') (hb : Fr W w) (hW : W.heap.size ≤ base) (hv : ∀ k, v.ownBlock = some k → base ≤ k) : Fr W w' :=
  Below.grown hb h.2.1 hb.size (fun k hk => Nat.le_trans hW (hv k hk))
end
end Go.Proofs.YtbnaakognnkhdaaGreatDoor
