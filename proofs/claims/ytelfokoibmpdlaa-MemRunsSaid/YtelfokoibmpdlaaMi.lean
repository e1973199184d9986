/- The document's Copy: regions with bytes of their own. -/
import Derived.Test.YtelfokoibmpdlaaMh
import Derived.Test.YtelfokoibmpdlaaMo
import Derived.LoopTactic
namespace Go.Proofs.Ytelfokoibmpdlaa
open Go.RowKit
set_option linter.unusedSimpArgs false
set_option linter.unusedVariables false

theorem Try.infoB : (Try.prog.info? 5).map (fun i => (i.zero, i.size, i.bytes)) = some (some (.int .u8 0), 1, 1) := by kernel_rfl
theorem Try.infoR : (Try.prog.info? 49).map (fun i => (i.zero, i.size, i.bytes)) = some (some (.agg #[.int .u64 0, .int .i64 0, .slice none 0 0]), 3, 40) := by kernel_rfl
theorem one_u8n (l : List Nat) : ∀ u ∈ l.map u8n, u.oneCell' = true := fun u hu => by
  obtain ⟨x, _, rfl⟩ := List.mem_map.1 hu; rfl
theorem Rd.nil_len {α : Type} {f : α → Value} {w : World} {A : Option Addr} {l : List α} (h : Rd f w A l) : A = none → l.length = 0 := fun e => by
  rcases Nat.eq_zero_or_pos l.length with h0 | h0
  · exact h0
  · obtain ⟨g, o, e', _⟩ := h h0; rw [e] at e'; cases e'
/-- A fresh copy of bytes: what an append onto nothing leaves. -/
theorem own_rd {w : World} {B : Nat} {e : TypeId} {v : Value} {l : List Nat} (h : w.ownsRow B e 1 v l.length (l.map u8n)) : ∃ s : Sl, v = .slice s.1 l.length s.2 ∧ l.length ≤ s.2 ∧ s.2 ≤ maxLen ∧ Rd u8n w s.1 l ∧ ∀ a, s.1 = some a → v.ownBlock = some a.block ∧ a.off = 0 ∧ a.spot = none ∧ B ≤ a.block ∧ a.block < w.heap.size := by
  have h0 := h
  rcases h.2 with ⟨hv, hn⟩ | ⟨g, cap, cur, hv, hb, _, hc, hm, _⟩
  · have hl : l = [] := List.eq_nil_of_length_eq_zero hn
    subst hv hl
    exact ⟨(none, 0), rfl, Nat.le_refl _, Nat.zero_le _, Rd.nil, fun a ha => by cases ha⟩
  · subst hv
    exact ⟨(_, cap), rfl, hc, hm, Rd.of_own h0, fun a ha => by injection ha with ha; subst ha; exact ⟨rfl, rfl, rfl, hb, (h0.lt g rfl).2⟩⟩
theorem own_made {e : TypeId} {size B : Nat} (w : World) (n : Nat) (hn : n = w.heap.size) (hB : B ≤ w.heap.size) : (w.alloc (.cells #[] e)).ownsRow B e size (.slice (some ⟨n, 0, none⟩) 0 0) 0 [] := by
  subst hn
  exact World.ownsRow_made w #[] 0 hB (by decide) (by simp)
def RelC (l : List Rg) (w : World) (v i : Value) (wr : World) : Prop := ∃ (k : Nat) (ps : List (Rg × Sl)), i = .int .i64 (k : Int) ∧ k ≤ l.length ∧ ps.map (·.1) = l.take k ∧ RowsAt wr w.heap.size v ps ∧ Fr w wr
set_option maxHeartbeats 6400000 in
set_option maxRecDepth 100000 in
theorem copy_any (A : Option Addr) (l : List Rg) (c : Nat) (w : World) (hA : RowOf RgAt 3 w A l) (hlen : l.length * 40 ≤ 140737488351232) (hby : ∀ r ∈ l, r.bs.length ≤ 140737488351232) :
    Calls Try.prog 8 #[.slice A l.length c] w fun e w' => ∃ v ps, e = .returned v ∧ ps.map (·.1) = l ∧ RowsAt w' w.heap.size v ps ∧ Fr w w' := by
  have HA := Lib.hid hA
  have HB := Lib.hid hby
  clear hA hby
  go_enter Try.func8, Try.ntmps8
  go_wp2
  go_loopw [3, 9] (fun v i wr => RelC l w v i wr) (fun _ i _ => l.length - (intOf i).toNat)
  case atStart => exact ⟨0, [], rfl, by omega, by simp, ⟨World.ownsRow_made _ #[] 0 (Nat.le_refl _) (by decide) rfl, fun x hx => by simp at hx, fun x hx => by simp at hx⟩, Fr.alloc (Fr.refl w) _⟩
  case round =>
    obtain ⟨k, ps, rfl, hk, hps, hrows, hf⟩ := hrel
    have HF := Lib.hid hf
    have HR := Lib.hid hrows
    by_cases hlt : k < l.length
    · obtain ⟨b, o, rfl, hx⟩ := (HA.out.fr (fun _ _ _ h => h.fr hf)).at hlt
      rw [Nat.mul_comm 3 k] at hx
      obtain ⟨s, hs, c0, c1, c2⟩ := hx
      have hrb := HB.out _ (List.getElem_mem hlt)
      have hpl : ps.length = k := by have := congrArg List.length hps; simp at this; omega
      have HS := Lib.hid hs
      have HN := Lib.hid (List.take_succ_eq_append_getElem hlt)
      have zb := lt_of_cell c0
      have hki : (k : Int) < (l.length : Int) := by omega
      generalize l[k] = r at *
      obtain ⟨pl, pm, bs⟩ := r
      obtain ⟨sa, sc⟩ := s
      simp only at c0 c1 c2 hrb
      have hml : bs.length ≤ maxLen := Nat.le_trans HS.out.cap HS.out.capm
      clear hrows hs hf
      go_wp2_with (at_builtin; refine wpList_appendk _ rfl (.tmp 13) (.tmp 15) 44 rfl w.heap.size 5 1 Try.underlying44 Try.infoB rfl (by decide) (.slice (some ⟨wr.heap.size + 1, 0, none⟩) 0 0) 0 [] rfl ?_ sa bs.length sc (bs.map u8n) rfl ?_ ?_ ?_ ?_ ?_ ?_ ?_ ?_)
      · exact own_made _ _ (by simp) (by have := HF.out.size; simp; omega)
      · simp
      · exact Src.rd ((HS.out.rd.alloc _).alloc _)
      · exact HS.out.rd.nil_len
      · exact one_u8n bs
      · omega
      · omega
      · have := HF.out.size; simp; omega
      intro v5 w5 HG5
      have hk5 := HG5.out.kp
      have hn5 : ∀ x, x ≠ wr.heap.size + 1 → ¬ (some (wr.heap.size + 1) = some x) := fun x hx h => hx (by injection h with h; exact h.symm)
      have b0 := hk5.get (b := wr.heap.size) (o := 0) (v := .int .u64 (pl : Int)) (hn5 _ (by omega)) (by simp)
      have b1 := hk5.get (b := wr.heap.size) (o := 1) (v := .int .i64 pm) (hn5 _ (by omega)) (by simp)
      have b2 := hk5.get (b := wr.heap.size) (o := 2) (v := .slice sa bs.length sc) (hn5 _ (by omega)) (by simp)
      have f2 := hk5.free (b := wr.heap.size) (o := 2) (v := .slice sa bs.length sc) (hn5 _ (by omega)) (by simp) (by simp)
      have zs := HG5.out.kp.size
      have zs2 : wr.heap.size + 2 ≤ w5.heap.size := by simpa using zs
      obtain ⟨⟨ta, tc⟩, rfl, ht1, ht2, ht3, ht4⟩ := own_rd HG5.out.1
      clear hk5 hn5 c0 c1 c2 zs
      have hblk : ∀ a, ta = some a → a.block = wr.heap.size + 1 ∨ a.block = wr.heap.size + 2 := fun a ha => by
        have h1 := (ht4 a ha).1
        rcases HG5.out.2.2 with e | e
        · rw [h1] at e; injection e with e; exact .inl e
        · rw [h1] at e; injection e with e; exact .inr (by simpa using e)
      have k1 : Kp (fun x => wr.heap.size ≤ x) wr w5 := (Kp.of (Fr.alloc (Fr.alloc (Fr.refl wr) _) _)).call (HG5.out.kp.mono fun x _ hx => by have hx : some (wr.heap.size + 1) = some x := hx; injection hx with hx; omega)
      have hW := fun (u : Value) (ob : Obj) => ((k1.set (p := ⟨wr.heap.size, 2, none⟩) (.inl (Nat.le_refl _)) u).alloc ob).to fun x hx => hx
      have hsx := fun (u : Value) (ob : Obj) => show SlAt ((w5.setCell ⟨wr.heap.size, 2, none⟩ u).alloc ob) (⟨pl, pm, bs⟩, (ta, tc)) from
        ⟨HS.out.num, ht1, ht2, ht3.kp (S := fun x => x = wr.heap.size) ((Kp.set (S := fun x => x = wr.heap.size) (Kp.refl _ _) (.inl rfl) _).alloc _) fun _ a ha h => by have := hblk a ha; omega⟩
      have HW := Lib.hid hW
      have HSX := Lib.hid hsx
      have HBK := Lib.hid hblk
      clear hW hsx hblk k1 ht1 ht2 ht3 ht4 HG5
      have hpl2 : ps.length + 1 ≤ l.length := by omega
      go_wp2_with (at_builtin; refine wpList_appendk _ rfl (.tmp 18) (.tmp 20) 23 rfl w.heap.size 49 3 Try.underlying23 Try.infoR rfl (by decide) _ ps.length (flatR ps) rfl ?_ (some ⟨w5.heap.size, 0, none⟩) 1 1 (rgCells (⟨pl, pm, bs⟩, (ta, tc))) rfl ?_ ?_ ?_ ?_ ?_ ?_ ?_ ?_)
      · exact (HR.out.fr (HW.out _ _)).own
      · rfl
      · intro _
        refine ⟨_, rfl, fun j u hj => ?_⟩
        rw [add_zero_k]
        simp only [rgCells] at hj
        match j, hj with
        | 0, hj => obtain rfl : _ = u := Option.some.inj hj; rw [World.cell?_alloc_at _ _ _ _ (by simp)]; rfl
        | 1, hj => obtain rfl : _ = u := Option.some.inj hj; rw [World.cell?_alloc_at _ _ _ _ (by simp)]; rfl
        | 2, hj => obtain rfl : _ = u := Option.some.inj hj; rw [World.cell?_alloc_at _ _ _ _ (by simp)]; rfl
      · intro h; cases h
      · intro u hu; simp [rgCells] at hu; rcases hu with rfl | rfl | rfl <;> rfl
      · unfold maxLen; omega
      · omega
      · have := HF.out.size; have := HW.out (.bool true) (.cells #[] 0); have := this.size; simp at this ⊢; omega
      intro v6 w6 HG6
      have hrows6 := (HR.out.fr (HW.out _ _)).grow (HSX.out _ _) (fun h0 a ha h => by have h1 := HBK.out a ha; have h2 := (HR.out.base _ h).2; omega) (by have h := HG6.out; rw [← hpl] at h; exact h)
      have hf6 : Fr w w6 := ((Kp.of (HF.out.call (HW.out _ _))).call HG6.out.kp).to fun x hx => (HR.out.base x hx).1
      have HR6 := Lib.hid hrows6
      have HF6 := Lib.hid hf6
      clear hrows6 hf6 HG6
      go_wp2
      go_roundw
      case rel => exact ⟨k + 1, ps ++ [(⟨pl, pm, bs⟩, (ta, tc))], rfl, by omega, by rw [List.map_append, hps, HN.out]; rfl, HR6.out, HF6.out⟩
      case measure => simp [intOf]; omega
    · obtain rfl : k = l.length := by omega
      go_wp2
      go_ret
      exact ⟨_, ps, rfl, by rw [hps, List.take_length], HR.out, HF.out⟩
end Go.Proofs.Ytelfokoibmpdlaa
