/- New: memory with regions, their bytes copied. -/
import Derived.Test.YtelfokoibmpdlaaMm
namespace Go.Proofs.Ytelfokoibmpdlaa
open Go.RowKit
set_option linter.unusedSimpArgs false
set_option linter.unusedVariables false

theorem flatR_set : ∀ (ps : List (Rg × Sl)) (k : Nat) (r : Rg) (s s' : Sl), ps[k]? = some (r, s) → (flatR ps).set (k * 3 + 2) (.slice s'.1 r.bs.length s'.2) = flatR (ps.set k (r, s'))
  | [], k, r, s, s', h => by simp at h
  | y :: l, 0, r, s, s', h => by
    simp at h; subst h
    simp [flatR, rgCells]
  | y :: l, k + 1, r, s, s', h => by
    have := flatR_set l k r s s' (by simpa using h)
    simp only [flatR, List.flatMap_cons, List.set_cons_succ] at this ⊢
    rw [← this, List.set_append_right _ _ (by simp [rgCells]; omega)]
    congr 2; simp [rgCells]; omega
/-- So far copied: the row, the new blocks. -/
def RelM (l : List Rg) (ps0 : List (Rg × Sl)) (w : World) (gr cr : Nat) (x : Value) (wr : World) : Prop := ∃ (k : Nat) (ps : List (Rg × Sl)) (G C : Nat → Nat), x = .int .i64 (k : Int) ∧ k ≤ l.length ∧ ps.map (·.1) = l ∧
  wr.ownsRow w.heap.size 49 3 (.slice (some ⟨gr, 0, none⟩) l.length cr) l.length (flatR ps) ∧ Fr w wr ∧
  (∀ i, ∀ h : i < l.length, i < k → ps[i]? = some (l[i], (some ⟨G i, 0, none⟩, C i)) ∧ BytesAt wr (G i) (l[i]).bs ∧ w.heap.size ≤ G i ∧ G i < wr.heap.size ∧ G i ≠ gr ∧ (l[i]).bs.length ≤ C i ∧ C i ≤ maxLen) ∧
  (∀ i j, i < k → j < k → G i = G j → i = j) ∧ (∀ i, k ≤ i → ps[i]? = ps0[i]?)
/-- Regions that a call has copied, row and bytes. -/
structure MRows (w : World) (B : Nat) (M : Lo) (l : List Rg) : Prop where
  cap : l.length ≤ M.cr
  capm : M.cr ≤ maxLen
  addr : 0 < l.length → M.A = some ⟨M.br, 0, none⟩
  row0 : ∀ (i : Nat) (h : i < l.length), w.cell? ⟨M.br, i * 3, none⟩ = some (.int .u64 (l[i].pl : Int))
  row1 : ∀ (i : Nat) (h : i < l.length), w.cell? ⟨M.br, i * 3 + 1, none⟩ = some (.int .i64 l[i].pm)
  row2 : ∀ (i : Nat) (h : i < l.length), w.cell? ⟨M.br, i * 3 + 2, none⟩ = some (.slice (some ⟨M.G i, 0, none⟩) l[i].bs.length (M.C i))
  caps : ∀ (i : Nat) (h : i < l.length), l[i].bs.length ≤ M.C i ∧ M.C i ≤ maxLen
  bytes : ∀ (i : Nat) (h : i < l.length), BytesAt w (M.G i) l[i].bs
  one : ∀ i j, i < l.length → j < l.length → M.G i = M.G j → i = j
  apr : ∀ i, i < l.length → M.G i ≠ M.br
  newr : 0 < l.length → B ≤ M.br
  newg : ∀ i, i < l.length → B ≤ M.G i ∧ M.G i < w.heap.size
  nil : M.A = none → M.cr = 0
set_option maxHeartbeats 6400000 in
set_option maxRecDepth 100000 in
theorem copied_any (A : Option Addr) (l : List Rg) (c : Nat) (w : World) (hA : RowOf RgAt 3 w A l) (hn : A = none → c = 0 ∧ l = []) (hlen : l.length ≤ 64) (hok : ∀ r ∈ l, 0 < r.bs.length ∧ r.bs.length ≤ 67108864) :
    Calls Try.prog 26 #[.slice A l.length c] w fun e w' => ∃ M : Lo, e = .returned (.slice M.A l.length M.cr) ∧ MRows w' w.heap.size M l ∧ Fr w w' := by
  obtain ⟨ps0, hps0, hsl0, hsrc⟩ := rows_pairs hA
  have hl0 : ps0.length = l.length := by rw [← hps0]; simp
  rcases A with _ | a
  · obtain ⟨rfl, rfl⟩ := hn rfl
    have heq := eql_nil 23 49 none 0 0 Try.underlying23
    have HC : ∀ W, Calls Try.prog 40 #[.slice none 0 0] W fun e w' => e = .returned (.slice none 0 0) ∧ W = w' := fun W => by
      have h := heq W
      go_enter Try.func40, Try.ntmps40
      go_wp2
      go_ret
      exact ⟨rfl, rfl⟩
    have HC := Lib.hid HC
    clear hA hsl0 hsrc hps0 hl0 hok hn heq
    go_enter Try.func26, Try.ntmps26
    go_wp2_with (go_at_call 40; refine (HC.out _).mono ?_; rintro e w1 ⟨rfl, rfl⟩)
    go_loopw [9] (fun x wr => x = .int .i64 0 ∧ Fr w wr) (fun _ _ => 0)
    case atStart => exact ⟨rfl, Fr.refl w⟩
    case round =>
      obtain ⟨rfl, hf⟩ := hrel
      have HF := Lib.hid hf
      clear hf
      go_wp2
      go_ret
      exact ⟨⟨0, 0, 0, none, fun _ => 0, fun _ => 0⟩, rfl, ⟨by simp, by decide, fun h => by simp at h, fun i h => by simp at h, fun i h => by simp at h, fun i h => by simp at h, fun i h => by simp at h, fun i h => by simp at h, fun i j h => by simp at h, fun i h => by simp at h, fun h => by simp at h, fun i h => by simp at h, fun _ => rfl⟩, HF.out⟩
  · have HC := Lib.hid (cloneR_any a ps0 c w hsl0 hsrc (by omega))
    rw [hl0] at HC
    have HSL := Lib.hid hsl0
    have HOK := Lib.hid hok
    clear hA hsrc hok hn hsl0
    go_enter Try.func26, Try.ntmps26
    go_wp2_with (go_at_call 40; refine HC.out.mono ?_; rintro e w1 ⟨gr, cr, rfl, ho, hcr, hcm, hf⟩; have HO := Lib.hid ho; have HF1 := Lib.hid hf; clear ho hf)
    go_loopw [9] (fun x wr => RelM l ps0 w gr cr x wr) (fun x _ => l.length - (intOf x).toNat)
    case atStart => exact ⟨0, ps0, fun _ => 0, fun _ => 0, rfl, by omega, hps0, HO.out, HF1.out, fun i h h2 => by omega, fun i j h => by omega, fun i _ => rfl⟩
    case round =>
      obtain ⟨k, ps, G, C, rfl, hk, hps, how, hf, hG, hone, hrest⟩ := hrel
      have HF := Lib.hid hf
      have HW := Lib.hid how
      have HG := Lib.hid hG
      have H1 := Lib.hid hone
      have HR := Lib.hid hrest
      have hgl := how.lt gr rfl
      have hpsl : ps.length = l.length := by rw [← hps]; simp
      by_cases hlt : k < l.length
      · have hk0 : ps[k]? = ps0[k]? := hrest k (Nat.le_refl _)
        have hp0 : ps0[k]? = some (ps0[k]'(by omega)) := List.getElem?_eq_getElem _
        have hx1 : (ps0[k]'(by omega)).1 = l[k] := by
          have : (ps0.map (·.1))[k]? = some (ps0[k]'(by omega)).1 := by simp [hp0]
          rw [hps0, List.getElem?_eq_getElem hlt] at this
          injection this with this; exact this.symm
        have hsx := HSL.out _ (List.getElem_mem (show k < ps0.length by omega))
        have hokk := HOK.out _ (List.getElem_mem hlt)
        generalize ps0[k]'(by omega) = x at *
        obtain ⟨r, sa, sc⟩ := x
        simp only at hx1
        subst hx1
        rw [hp0] at hk0
        obtain ⟨aa, haa⟩ : ∃ aa, sa = some aa := by
          obtain ⟨g, o, e, _⟩ := hsx.rd hokk.1; exact ⟨_, e⟩
        subst haa
        have hcB := cloneB_any aa (l[k]).bs sc wr hokk.1 ((hsx.fr hf).rd) hokk.2
        have HCB := Lib.hid hcB
        have c2 : wr.cell? ⟨gr, k * 3 + 2, none⟩ = some (.slice (some aa) (l[k]).bs.length sc) := by
          rw [how.cellAt (k * 3 + 2) (by omega), flatR_get ps k 2 _ hk0 (by omega)]; rfl
        have f2 := how.frozenAt (k * 3 + 2)
        have C2 := Lib.hid c2
        have F2 := Lib.hid f2
        have HK0 := Lib.hid hk0
        have hki : (k : Int) < (l.length : Int) := by omega
        have zg := hgl.2
        clear hG hone hrest hf how hsx hcB f2 hk0 hp0
        go_wp2_with fail
        refine HCB.out.mono ?_
        rintro e w5 ⟨g, c', rfl, h1, h2, h3, h4, h5, h6⟩
        have d2 := h6.get C2.out
        have e2 := h6.free C2.out F2.out
        have zg5 := lt_of_cell d2
        have H3 := Lib.hid h3
        have H6 := Lib.hid h6
        clear h3 h6 c2
        go_wp2
        go_roundw
        case rel =>
          have hne : ∀ x, x ≠ gr → ¬ (fun b => b = gr) x := fun x hx h => hx h
          have hset : ∀ u : Value, Kp (fun b => b = gr) w5 (w5.setCell ⟨gr, k * 3 + 2, none⟩ u) := fun u => Kp.set (S := fun b => b = gr) (Kp.refl _ _) (.inl rfl) _
          refine ⟨k + 1, ps.set k (l[k], (some ⟨g, 0, none⟩, c')), fun i => if i = k then g else G i, fun i => if i = k then c' else C i, rfl, by omega, ?_, ?_, ((HF.out.call H6.out).set hgl.1 _), ?_, ?_, ?_⟩
          · rw [List.map_set, hps]
            exact List.ext_getElem (by simp) fun i q1 q2 => by
              rw [List.getElem_set]; split
              · rename_i e; subst e; rfl
              · rfl
          · have hk5 := HW.out.kept (row := none) ⟨H6.out.os, H6.out.tape, H6.out.output, H6.out.size, fun i hi _ => H6.out.block i hi⟩ (.inr (by simp [Value.ownBlock]))
            have := hk5.stored (k * 3 + 2) (.slice (some ⟨g, 0, none⟩) (l[k]).bs.length c')
            rw [flatR_set ps k (l[k]) (some aa, sc) (some ⟨g, 0, none⟩, c') HK0.out] at this
            exact this.1
          · intro i hi hik
            by_cases e : i = k
            · subst e
              simp only [if_true]
              refine ⟨by rw [List.getElem?_set_self (by omega)], H3.out.kp (hset _) (hne g (by omega)), by have := HF.out.size; omega, by simpa using h5, by omega, h1, h2⟩
            · simp only [if_neg e]
              obtain ⟨q1, q2, q3, q4, q5, q6, q7⟩ := HG.out i hi (by omega)
              refine ⟨by rw [List.getElem?_set_ne (Ne.symm e)]; exact q1, (q2.kp (S := fun _ => False) (Kp.of H6.out) id).kp (hset _) (hne _ q5), q3, by have := H6.out.size; simp; omega, q5, q6, q7⟩
          · intro i j hi hj hij
            by_cases e : i = k
            · by_cases e2 : j = k
              · omega
              · simp only [if_pos e, if_neg e2] at hij
                have := (HG.out j (by omega) (by omega)).2.2.2.1
                omega
            · by_cases e2 : j = k
              · simp only [if_neg e, if_pos e2] at hij
                have := (HG.out i (by omega) (by omega)).2.2.2.1
                omega
              · simp only [if_neg e, if_neg e2] at hij
                exact H1.out i j (by omega) (by omega) hij
          · intro i hi
            rw [List.getElem?_set_ne (by omega)]
            exact HR.out i (by omega)
        case measure => simp [intOf]; omega
      · obtain rfl : k = l.length := by omega
        have hcellAt : ∀ i t x u, t < 3 → ps[i]? = some x → (rgCells x)[t]? = some u → wr.cell? ⟨gr, i * 3 + t, none⟩ = some u := fun i t x u ht hx hu => by
          have hi : i < ps.length := (List.getElem?_eq_some_iff.1 hx).1
          rw [how.cellAt (i * 3 + t) (by omega), flatR_get ps i t x hx ht]; exact hu
        have HCA := Lib.hid hcellAt
        clear how hG hone hrest hf hcellAt
        go_wp2
        go_ret
        refine ⟨⟨0, gr, cr, some ⟨gr, 0, none⟩, G, C⟩, rfl, ⟨by simpa [hl0] using hcr, hcm, fun _ => rfl, fun i hi => HCA.out i 0 _ _ (by omega) (HG.out i hi hi).1 rfl, fun i hi => HCA.out i 1 _ _ (by omega) (HG.out i hi hi).1 rfl, fun i hi => HCA.out i 2 _ _ (by omega) (HG.out i hi hi).1 rfl,
          fun i hi => (HG.out i hi hi).2.2.2.2.2, fun i hi => (HG.out i hi hi).2.1, fun i j hi hj e => H1.out i j hi hj e, fun i hi => (HG.out i hi hi).2.2.2.2.1, fun _ => hgl.1, fun i hi => ⟨(HG.out i hi hi).2.2.1, (HG.out i hi hi).2.2.2.1⟩, fun h => nomatch h⟩, HF.out⟩
end Go.Proofs.Ytelfokoibmpdlaa
