/- The document's Copy once more: where the copies lie, and that they may be written. -/
import Derived.Test.YtelfokoibmpdlaaMp
namespace Go.Proofs.Ytelfokoibmpdlaa
open Go.RowKit
set_option linter.unusedSimpArgs false
set_option linter.unusedVariables false

def RelCW (l : List Rg) (w : World) (v i : Value) (wr : World) : Prop := ∃ (k : Nat) (ps : List (Rg × Sl)) (G C : Nat → Nat) (gr : Nat), i = .int .i64 (k : Int) ∧ k ≤ l.length ∧ ps.length = k ∧ wr.ownsRow w.heap.size 49 3 v k (flatR ps) ∧ v.ownBlock = some gr ∧ Fr w wr ∧
  (∀ j, ∀ h : j < l.length, j < k → ps[j]? = some (l[j], (some ⟨G j, 0, none⟩, C j)) ∧ BytesAt wr (G j) (l[j]).bs ∧ w.heap.size ≤ G j ∧ G j < wr.heap.size ∧ G j ≠ gr ∧ (l[j]).bs.length ≤ C j ∧ C j ≤ maxLen) ∧
  (∀ i j, i < k → j < k → G i = G j → i = j)
set_option maxHeartbeats 6400000 in
set_option maxRecDepth 100000 in
theorem copyW_any (A : Option Addr) (l : List Rg) (c : Nat) (w : World) (hA : RowOf RgAt 3 w A l) (hlen : l.length * 40 ≤ 140737488351232) (hby : ∀ r ∈ l, r.bs.length ≤ 140737488351232) :
    Calls Try.prog 8 #[.slice A l.length c] w fun e w' => ∃ M : Lo, e = .returned (.slice M.A l.length M.cr) ∧ MRows w' w.heap.size M l ∧ Fr w w' := by
  have HA := Lib.hid hA
  have HB := Lib.hid hby
  clear hA hby
  go_enter Try.func8, Try.ntmps8
  go_wp2
  go_loopw [3, 9] (fun v i wr => RelCW l w v i wr) (fun _ i _ => l.length - (intOf i).toNat)
  case atStart => exact ⟨0, [], fun _ => 0, fun _ => 0, w.heap.size, rfl, by omega, rfl, World.ownsRow_made _ #[] 0 (Nat.le_refl _) (by decide) rfl, rfl, Fr.alloc (Fr.refl w) _, fun j h h2 => by omega, fun i j h => by omega⟩
  case round =>
    obtain ⟨k, ps, G, C, gr, rfl, hk, hpl, hown, hgr, hf, hG, hone⟩ := hrel
    have HF := Lib.hid hf
    have HO := Lib.hid hown
    have HG := Lib.hid hG
    have H1 := Lib.hid hone
    have HGR := Lib.hid hgr
    have hgl := hown.lt gr hgr
    by_cases hlt : k < l.length
    · obtain ⟨b, o, rfl, hx⟩ := (HA.out.fr (fun _ _ _ h => h.fr hf)).at hlt
      rw [Nat.mul_comm 3 k] at hx
      obtain ⟨s, hs, c0, c1, c2⟩ := hx
      have hrb := HB.out _ (List.getElem_mem hlt)
      have HS := Lib.hid hs
      have zb := lt_of_cell c0
      have hki : (k : Int) < (l.length : Int) := by omega
      have HLK := Lib.hid (show ∃ r, r = l[k] from ⟨_, rfl⟩)
      obtain ⟨r, hr⟩ := HLK.out
      have HRK := Lib.hid hr
      rw [← hr] at c0 c1 c2 hrb HS
      clear hr HLK
      obtain ⟨pl, pm, bs⟩ := r
      obtain ⟨sa, sc⟩ := s
      simp only at c0 c1 c2 hrb
      have hml : bs.length ≤ maxLen := Nat.le_trans HS.out.cap HS.out.capm
      clear hown hs hf hG hone hgr
      go_wp2_with (at_builtin; refine wpList_appendk _ rfl (.tmp 13) (.tmp 15) 44 rfl w.heap.size 5 1 Try.underlying44 Try.infoB rfl (by decide) (.slice (some ⟨wr.heap.size + 1, 0, none⟩) 0 0) 0 [] rfl ?_ sa bs.length sc (bs.map u8n) rfl ?_ ?_ ?_ ?_ ?_ ?_ ?_ ?_)
      · exact own_made _ _ (by simp) (by have := HF.out.size; simp; omega)
      · simp
      · exact Src.rd ((HS.out.rd.alloc _).alloc _)
      · exact HS.out.rd.nil_len
      · exact one_u8n bs
      · omega
      · omega
      · have := HF.out.size; simp; omega
      intro v5 w5 HG5
      have hk5 := HG5.out.kp
      have hn5 : ∀ x, x ≠ wr.heap.size + 1 → ¬ (some (wr.heap.size + 1) = some x) := fun x hx h => hx (by injection h with h; exact h.symm)
      have b0 := hk5.get (b := wr.heap.size) (o := 0) (v := .int .u64 (pl : Int)) (hn5 _ (by omega)) (by simp)
      have b1 := hk5.get (b := wr.heap.size) (o := 1) (v := .int .i64 pm) (hn5 _ (by omega)) (by simp)
      have b2 := hk5.get (b := wr.heap.size) (o := 2) (v := .slice sa bs.length sc) (hn5 _ (by omega)) (by simp)
      have f2 := hk5.free (b := wr.heap.size) (o := 2) (v := .slice sa bs.length sc) (hn5 _ (by omega)) (by simp) (by simp)
      have zs := HG5.out.kp.size
      have zs2 : wr.heap.size + 2 ≤ w5.heap.size := by simpa using zs
      have hex : ∃ g tc, v5 = .slice (some ⟨g, 0, none⟩) bs.length tc ∧ bs.length ≤ tc ∧ tc ≤ maxLen ∧ BytesAt w5 g bs ∧ (g = wr.heap.size + 1 ∨ g = wr.heap.size + 2) ∧ g < w5.heap.size := by
        have hown5 := HG5.out.1
        have h22 := HG5.out.2.2
        have e1 : (Value.slice (some ⟨wr.heap.size + 1, 0, none⟩) 0 0).ownBlock = some (wr.heap.size + 1) := rfl
        rw [e1] at h22
        rcases hown5.2 with ⟨hv, _⟩ | ⟨g, cap, cur, hv, _, _, hc, hm, _⟩
        · subst hv
          rcases h22 with e | e <;> cases e
        · subst hv
          refine ⟨g, cap, rfl, hc, hm, fun k x hx => ⟨?_, hown5.frozenAt k⟩, ?_, (hown5.lt g rfl).2⟩
          · have hk : k < bs.length := (List.getElem?_eq_some_iff.1 hx).1
            rw [hown5.cellAt k (by omega)]
            simp [hx]
          · rcases h22 with e | e
            · left; have e : some g = some (wr.heap.size + 1) := e; injection e
            · right; have e : some g = some _ := e; injection e with e; simpa using e
      obtain ⟨ta, tc, rfl, ht1, ht2, ht3, ht4, ht5⟩ := hex
      have k1 : Kp (fun x => wr.heap.size ≤ x) wr w5 := (Kp.of (Fr.alloc (Fr.alloc (Fr.refl wr) _) _)).call (HG5.out.kp.mono fun x _ hx => by have hx : some (wr.heap.size + 1) = some x := hx; injection hx with hx; omega)
      have hW := fun (u : Value) (ob : Obj) => ((k1.set (p := ⟨wr.heap.size, 2, none⟩) (.inl (Nat.le_refl _)) u).alloc ob).to fun x hx => hx
      have hsx := fun (u : Value) (ob : Obj) => ht3.kp (S := fun x => x = wr.heap.size) ((Kp.set (S := fun x => x = wr.heap.size) (p := ⟨wr.heap.size, 2, none⟩) (Kp.refl _ _) (.inl rfl) u).alloc ob) (by omega)
      have HW := Lib.hid hW
      have HSX := Lib.hid hsx
      clear hW hsx k1 ht3 HG5
      have hpl2 : ps.length + 1 ≤ l.length := by omega
      go_wp2_with (at_builtin; refine wpList_appendk _ rfl (.tmp 18) (.tmp 20) 23 rfl w.heap.size 49 3 Try.underlying23 Try.infoR rfl (by decide) _ k (flatR ps) rfl ?_ (some ⟨w5.heap.size, 0, none⟩) 1 1 (rgCells (⟨pl, pm, bs⟩, (some ⟨ta, 0, none⟩, tc))) rfl ?_ ?_ ?_ ?_ ?_ ?_ ?_ ?_)
      · have k5 := HW.out (.slice (some ⟨ta, 0, none⟩) bs.length tc) (.cells #[.int .u64 (pl : Int), .int .i64 pm, .slice (some ⟨ta, 0, none⟩) bs.length tc] 49)
        exact HO.out.kept (row := none) ⟨k5.os, k5.tape, k5.output, k5.size, fun i hi _ => k5.block i hi⟩ (.inr (by show u3.ownBlock ≠ none; rw [HGR.out]; simp))
      · rfl
      · intro _
        refine ⟨_, rfl, fun j u hj => ?_⟩
        rw [add_zero_k]
        simp only [rgCells] at hj
        match j, hj with
        | 0, hj => obtain rfl : _ = u := Option.some.inj hj; rw [World.cell?_alloc_at _ _ _ _ (by simp)]; rfl
        | 1, hj => obtain rfl : _ = u := Option.some.inj hj; rw [World.cell?_alloc_at _ _ _ _ (by simp)]; rfl
        | 2, hj => obtain rfl : _ = u := Option.some.inj hj; rw [World.cell?_alloc_at _ _ _ _ (by simp)]; rfl
      · intro h; cases h
      · intro u hu; simp [rgCells] at hu; rcases hu with rfl | rfl | rfl <;> rfl
      · unfold maxLen; omega
      · omega
      · have := HF.out.size; have := HW.out (.bool true) (.cells #[] 0); have := this.size; simp at this ⊢; omega
      intro v6 w6 HG6
      have HG6' := Lib.hid HG6.out
      clear HG6
      go_wp2
      go_roundw
      case rel =>
        have hk6 := HG6'.out.kp
        have hf6 : Fr w w6 := ((Kp.of (HF.out.call (HW.out _ _))).call hk6).to fun x hx => by
          have hx : u3.ownBlock = some x := hx
          rw [HGR.out] at hx; injection hx with hx; omega
        obtain ⟨gr6, hgr6, hgr7⟩ : ∃ gr6, v6.ownBlock = some gr6 ∧ (gr6 = gr ∨ w5.heap.size ≤ gr6) := by
          rcases HG6'.out.2.2 with e | e
          · exact ⟨gr, e.trans HGR.out, .inl rfl⟩
          · exact ⟨_, e, .inr (by simp)⟩
        have hnS : ∀ x, x ≠ gr → ¬ u3.ownBlock = some x := fun x hx h => by rw [HGR.out] at h; injection h with h; exact hx h.symm
        refine ⟨k + 1, ps ++ [(⟨pl, pm, bs⟩, (some ⟨ta, 0, none⟩, tc))], fun i => if i = k then ta else G i, fun i => if i = k then tc else C i, gr6, rfl, by omega, by simp [hpl], ?_, hgr6, hf6, ?_, ?_⟩
        · rw [flatR_snoc]; exact HG6'.out.1
        · intro j hj hjk
          have hs6 := hk6.size
          have hs5 : w5.heap.size ≤ w6.heap.size := Nat.le_trans (by simp) hs6
          by_cases e : j = k
          · subst e
            simp only [if_true]
            rw [← HRK.out]
            exact ⟨by rw [List.getElem?_append_right (by omega), hpl]; simp, (HSX.out _ _).kp hk6 (hnS _ (by omega)), by have := HF.out.size; omega, by omega, by omega, ht1, ht2⟩
          · simp only [if_neg e]
            obtain ⟨q1, q2, q3, q4, q5, q6, q7⟩ := HG.out j hj (by omega)
            exact ⟨by rw [List.getElem?_append_left (by omega)]; exact q1, ((q2.kp (S := fun _ => False) (Kp.of (HW.out _ _)) id).kp hk6 (hnS _ q5)), q3, by omega, by omega, q6, q7⟩
        · intro i j hi hj hij
          by_cases e : i = k
          · by_cases e2 : j = k
            · omega
            · simp only [if_pos e, if_neg e2] at hij
              have := (HG.out j (by omega) (by omega)).2.2.2.1
              omega
          · by_cases e2 : j = k
            · simp only [if_neg e, if_pos e2] at hij
              have := (HG.out i (by omega) (by omega)).2.2.2.1
              omega
            · simp only [if_neg e, if_neg e2] at hij
              exact H1.out i j (by omega) (by omega) hij
      case measure => simp [intOf]; omega
    · obtain rfl : k = l.length := by omega
      have hform : ∃ cr, u3 = .slice (some ⟨gr, 0, none⟩) l.length cr ∧ l.length ≤ cr ∧ cr ≤ maxLen := by
        rcases hown.2 with ⟨hv, _⟩ | ⟨g, cap, cur, hv, _, _, hc, hm, _⟩
        · rw [hv] at hgr; cases hgr
        · rw [hv] at hgr
          have hgr : some g = some gr := hgr
          injection hgr with hgr; subst hgr
          exact ⟨cap, hv, hc, hm⟩
      obtain ⟨cr, rfl, hcr, hcm⟩ := hform
      have hcellAt : ∀ i t x u, t < 3 → ps[i]? = some x → (rgCells x)[t]? = some u → wr.cell? ⟨gr, i * 3 + t, none⟩ = some u := fun i t x u ht hx hu => by
        have hi : i < ps.length := (List.getElem?_eq_some_iff.1 hx).1
        rw [hown.cellAt (i * 3 + t) (by omega), flatR_get ps i t x hx ht]; exact hu
      have HCA := Lib.hid hcellAt
      clear hown hG hone hf hcellAt hgr
      go_wp2
      go_ret
      refine ⟨⟨0, gr, cr, some ⟨gr, 0, none⟩, G, C⟩, rfl, ⟨hcr, hcm, fun _ => rfl, fun i hi => HCA.out i 0 _ _ (by omega) (HG.out i hi hi).1 rfl, fun i hi => HCA.out i 1 _ _ (by omega) (HG.out i hi hi).1 rfl, fun i hi => HCA.out i 2 _ _ (by omega) (HG.out i hi hi).1 rfl,
        fun i hi => (HG.out i hi hi).2.2.2.2.2, fun i hi => (HG.out i hi hi).2.1, fun i j hi hj e => H1.out i j hi hj e, fun i hi => (HG.out i hi hi).2.2.2.2.1, fun _ => hgl.1, fun i hi => ⟨(HG.out i hi hi).2.2.1, (HG.out i hi hi).2.2.2.1⟩, fun h => nomatch h⟩, HF.out⟩
end Go.Proofs.Ytelfokoibmpdlaa
