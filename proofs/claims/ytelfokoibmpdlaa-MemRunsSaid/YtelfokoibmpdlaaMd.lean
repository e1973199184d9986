/- Going through the memory's own bytes, a region's at a time. -/
import Derived.Test.YtelfokoibmpdlaaMc
namespace Go.Proofs.Ytelfokoibmpdlaa
open Go.RowKit
set_option linter.unusedSimpArgs false
set_option linter.unusedVariables false

theorem from_first {l : List Rg} {a k : Nat} (hg : Good l) (h : FirstAt l a k) : from_ l a = l.drop k := by
  obtain ⟨k', h1, h2, h3, h4⟩ := from_spec (a := a) hg
  rcases Nat.lt_trichotomy k k' with q | q | q
  · have g := h.2.2 k (by omega) (Nat.le_refl _)
    have g2 := h3 (l[k]'(by omega)) (List.mem_take_iff_getElem.2 ⟨k, by omega, rfl⟩)
    omega
  · rw [h2, q]
  · have hk := h.1
    have g := h.2.1 k' (by omega) q
    have g2 := h4 (l[k']'(by omega)) (List.mem_drop_iff_getElem.2 ⟨0, by omega, by simp⟩)
    omega
theorem wrap_nat (z : Nat) : IntKind.u64.wrap (z : Int) = ((z % 18446744073709551616 : Nat) : Int) := by
  simp [IntKind.wrap, IntKind.bits, IntKind.signed]
/-- What a round of the walk over regions has. -/
def RelP (S : Nat → Prop) (I : Nat → World → Prop) (l : List Rg) (a : Nat) (n q : Int) (f T : Nat) (w : World) (x y : Value) (wr : World) : Prop :=
  ∃ t k : Nat, y = .int .i64 (t : Int) ∧ t ≤ l.length - f ∧ x = .int .i64 (n - (k : Int)) ∧ k ≤ n.toNat ∧ Kp S w wr ∧ I k wr ∧ wr.cell? ⟨w.heap.size + 1, 0, none⟩ = some (.int .u64 (((a + k) % 18446744073709551616 : Nat) : Int)) ∧ wr.frozen? ⟨w.heap.size + 1, 0, none⟩ = false ∧
    k + (got (l.drop (f + t)) (a + k) (n.toNat - k) q).length = T ∧ (∀ (i : Nat) (h : i < l.length), f + t ≤ i → a + k < (l[i]).top) ∧ (k = 0 ∨ ∀ (i : Nat) (h : i < l.length), f + t ≤ i → a + k ≤ (l[i]).pl)
set_option maxHeartbeats 6400000 in
set_option maxRecDepth 100000 in
theorem pieces_any {w : World} {M : Lo} {l : List Rg} (hg : Good l) (hm : MemAt w M l) (hl : l.length ≤ 64) (a : Nat) (ha : a < 18446744073709551616) (n q : Int) (hn0 : -9223372036854775808 ≤ n) (hn : n ≤ 15) (hq0 : 0 ≤ q) (hq : q ≤ 7)
    (g : FuncId) (cap : Array Value) (eg : ∀ args w, (callFunc g args).run Try.prog w = .ok (.enter g args) w) (S : Nat → Prop) (hS : ∀ b, S b → b < w.heap.size ∧ b ≠ M.bm ∧ (0 < l.length → b ≠ M.br)) (I : Nat → World → Prop) (h0 : I 0 w)
    (hfr : ∀ k w1 w2, Kp S w w1 → I k w1 → Kp (fun b => b = w.heap.size ∨ b = w.heap.size + 1) w1 w2 → I k w2)
    (hstep : ∀ (k i off m c : Nat) (w1 : World) (hi : i < l.length), Kp S w w1 → I k w1 → (l[i]).pl + off = a + k → 0 < m → off + m ≤ (l[i]).bs.length → ((k + m : Nat) : Int) ≤ n → prm (l[i]).pm q = true → m ≤ c → c ≤ maxLen →
      Calls Try.prog g (#[.slice (some ⟨M.G i, off, none⟩) m c] ++ cap) w1 fun e w2 => e = .returned (.tuple #[]) ∧ I (k + m) w2 ∧ Kp S w1 w2) :
    Calls Try.prog 27 #[.pointer (some ⟨M.bm, 0, none⟩), .int .u64 (a : Int), .int .i64 n, .int .i64 q, .func (.func g) #[] cap] w fun e w' => e = .returned (.tuple #[]) ∧ I (got (from_ l a) a n.toNat q).length w' ∧ Kp S w w' := by
  have HS := Lib.hid (fun (w1 : World) (k : Fr w w1) (b5 b6 : Nat) => search_any hg (hm.fr k) hl a b5 b6 ha)
  have HG := Lib.hid hg
  have HM := Lib.hid hm
  have HFR := Lib.hid hfr
  have HST := Lib.hid hstep
  have HI := Lib.hid h0
  have HSS := Lib.hid hS
  have root := hm.root
  have hcap := hm.cap
  have hcapm := hm.capm
  clear hg hm hfr hstep h0 hS
  have W2 : Fr w ((w.alloc (.cells #[.pointer (some ⟨M.bm, 0, none⟩)] 26)).alloc (.cells #[.int .u64 (a : Int)] 32)) := Fr.alloc (Fr.alloc (Fr.refl w) _) _
  have z1 := lt_of_cell root
  have hT : ∃ T, (got (from_ l a) a n.toNat q).length = T := ⟨_, rfl⟩
  obtain ⟨T, hT⟩ := hT
  rw [hT]
  have HT := Lib.hid hT
  clear hT
  go_enter Try.func27, Try.ntmps27
  go_wp2_with fail
  refine (HS.out _ W2 w.heap.size (w.heap.size + 1) (by simp) (by simp)).mono ?_
  rintro e w1 ⟨f, rfl, hf, hw⟩
  have HF := Lib.hid (W2.call hw)
  have b5 := hw.get (b := w.heap.size) (o := 0) (v := .pointer (some ⟨M.bm, 0, none⟩)) (by simp)
  have b6 := hw.get (b := w.heap.size + 1) (o := 0) (v := .int .u64 (a : Int)) (by simp)
  have f6 := hw.free (b := w.heap.size + 1) (o := 0) (v := .int .u64 (a : Int)) (by simp) (by simp)
  have root1 := HF.out.get root
  have hfl := hf.1
  have HFA := Lib.hid hf
  clear hw hf root W2 HS
  have HD := Lib.hid (from_first HG.out HFA.out)
  have kp1 : Kp S w w1 := Kp.of HF.out
  have HK1 := Lib.hid kp1
  have HI1 := Lib.hid (HFR.out 0 w w1 (Kp.refl S w) HI.out (Kp.of HF.out))
  have r0 : RelP S I l a n q f T w (.int .i64 n) (.int .i64 0) w1 := ⟨0, 0, rfl, by omega, by simp, by omega, HK1.out, HI1.out, by simp only [Nat.add_zero, Nat.mod_eq_of_lt ha]; exact b6, f6, by
    simp only [Nat.add_zero, Nat.sub_zero, Nat.zero_add]; rw [← HD.out]; exact HT.out, fun i h h2 => by have := HFA.out.2.2 i h (by omega); omega, .inl rfl⟩
  have R0 := Lib.hid r0
  clear r0 kp1
  by_cases hfe : f = l.length
  · subst hfe
    have hroot2 : ∃ A', (if M.cr = l.length then M.A else M.A.map (·.add (l.length * 3))) = A' := ⟨_, rfl⟩
    clear HM HG HFA HST HFR HD
    by_cases hcr : M.cr = l.length
    · rw [hcr] at root1
      go_wp2_with fail
      go_loopw [2, 28] (fun x y wr => RelP S I l a n q l.length T w x y wr) (fun _ y _ => l.length - (intOf y).toNat)
      case atStart => exact R0.out
      case round =>
        obtain ⟨t, k, rfl, ht, rfl, hk, hkp, hI, c6, g6, hgt, hlow, hnx⟩ := hrel
        obtain rfl : t = 0 := by omega
        have hTk : T = k := by simp [got] at hgt; omega
        go_wp2
        go_end0
        exact ⟨rfl, hTk ▸ hI, hkp⟩
    · go_wp2_with fail
      go_loopw [2, 28] (fun x y wr => RelP S I l a n q l.length T w x y wr) (fun _ y _ => l.length - (intOf y).toNat)
      case atStart => exact R0.out
      case round =>
        obtain ⟨t, k, rfl, ht, rfl, hk, hkp, hI, c6, g6, hgt, hlow, hnx⟩ := hrel
        obtain rfl : t = 0 := by omega
        have hTk : T = k := by simp [got] at hgt; omega
        go_wp2
        go_end0
        exact ⟨rfl, hTk ▸ hI, hkp⟩
  · have hcr : ¬ M.cr = f := by omega
    have hA := HM.out.addr (by omega)
    rw [hA] at root1
    go_wp2_with fail
    go_loopw [2, 28] (fun x y wr => RelP S I l a n q f T w x y wr) (fun _ y _ => l.length - (intOf y).toNat)
    case atStart => exact R0.out
    case round =>
      obtain ⟨t, k, rfl, ht, rfl, hk, hkp, hI, c6, g6, hgt, hlow, hnx⟩ := hrel
      have HKP := Lib.hid hkp
      have HI := Lib.hid hI
      by_cases htl : t < l.length - f
      · have hi : f + t < l.length := by omega
        have nbr : ¬ S M.br := fun h => (HSS.out _ h).2.2 (by omega) rfl
        have e3 : (f + t) * 3 = f * 3 + t * 3 := by omega
        have r0 := hkp.get nbr (HM.out.row0 (f + t) hi)
        have r1 := hkp.get nbr (HM.out.row1 (f + t) hi)
        have r2 := hkp.get nbr (HM.out.row2 (f + t) hi)
        rw [e3] at r0 r1 r2
        have hc := HM.out.caps (f + t) hi
        have hok := HG.out.ok _ (List.getElem_mem hi)
        have hdr : l.drop (f + t) = l[f + t] :: l.drop (f + (t + 1)) := by rw [show f + (t + 1) = f + t + 1 by omega]; exact List.drop_eq_getElem_cons hi
        have hlo := hlow (f + t) hi (Nat.le_refl _)
        have zbr := lt_of_cell r0
        have z6 := lt_of_cell c6
        have ztl : (t : Int) < ((l.length - f : Nat) : Int) := by omega
        have hTn : n.toNat - k = 0 → T = k := fun h => by rw [h, hdr] at hgt; unfold got at hgt; simp at hgt; omega
        have hTp : a + k < (l[f + t]).pl → T = k := fun h => by rw [hdr] at hgt; unfold got at hgt; rw [if_pos (.inr (.inl h))] at hgt; simp at hgt; omega
        have hTq : prm (l[f + t]).pm q = false → T = k := fun h => by rw [hdr] at hgt; unfold got at hgt; rw [if_pos (.inr (.inr h))] at hgt; simp at hgt; omega
        have hTg : ¬ n.toNat - k = 0 → ¬ a + k < (l[f + t]).pl → prm (l[f + t]).pm q = true → k + (min (n.toNat - k) ((l[f + t]).bs.length - (a + k - (l[f + t]).pl))) + (got (l.drop (f + (t + 1))) (a + k + (min (n.toNat - k) ((l[f + t]).bs.length - (a + k - (l[f + t]).pl)))) (n.toNat - k - (min (n.toNat - k) ((l[f + t]).bs.length - (a + k - (l[f + t]).pl)))) q).length = T := fun h1 h2 h3 => by
          rw [hdr] at hgt; unfold got at hgt; rw [if_neg (by simp [h1, h2, h3])] at hgt
          rw [List.length_append, cut_len] at hgt
          omega
        have hpr := prm_ne hok.lo hok.hi hq0 hq
        have htp := hok.top
        have hsm := hok.some
        have hak : a + k < 18446744073709551616 := by
          rcases hnx with h | h
          · omega
          · have := h (f + t) hi (Nat.le_refl _); unfold Rg.top at htp; omega
        have hnxt : ∀ (m : Nat), m ≤ (l[f + t]).bs.length - (a + k - (l[f + t]).pl) → (l[f + t]).pl ≤ a + k → (∀ (i : Nat) (h : i < l.length), f + (t + 1) ≤ i → a + (k + m) < (l[i]).top) ∧ (∀ (i : Nat) (h : i < l.length), f + (t + 1) ≤ i → a + (k + m) ≤ (l[i]).pl) := fun m hm hp => by
          have h2 : ∀ (i : Nat) (h : i < l.length), f + (t + 1) ≤ i → a + (k + m) ≤ (l[i]).pl := fun i h h3 => by
            have := List.pairwise_iff_getElem.1 HG.out.rise (f + t) i hi h (by omega)
            unfold Rg.top at this hlo; omega
          refine ⟨fun i h h3 => ?_, h2⟩
          have h4 := h2 i h h3
          have h5 := (HG.out.ok _ (List.getElem_mem h)).some
          unfold Rg.top; omega
        have HSP := Lib.hid (fun (off m c : Nat) (w1 : World) => HST.out k (f + t) off m c w1 hi)
        rw [Nat.mod_eq_of_lt hak] at c6
        unfold Rg.top at hlo htp
        have HN := Lib.hid hnxt
        have HTN := Lib.hid hTn
        have HTP := Lib.hid hTp
        have HTQ := Lib.hid hTq
        have HTG := Lib.hid hTg
        clear hTn hTp hTq hTg hnxt hdr hgt hlow hnx hkp hI hok e3
        generalize hplg : (l[f + t]).pl = pl at *
        generalize hpmg : (l[f + t]).pm = pm at *
        generalize hlng : (l[f + t]).bs.length = len at *
        clear hplg hpmg hlng
        by_cases hnk : n - (k : Int) ≤ 0
        · have hTk := HTN.out (by omega)
          go_wp2
          refine bodyPost_ret (results_none rfl _ _ _) rfl ?_
          exact ⟨rfl, hTk ▸ HFR.out k wr _ HKP.out HI.out (Kp.of (Fr.alloc (Fr.refl _) _)), HKP.out.alloc _⟩
        · by_cases h1 : a + k < pl
          · have hTk := HTP.out h1
            have hgo : ((a + k : Nat) : Int) < (pl : Int) := by omega
            go_wp2
            refine bodyPost_ret (results_none rfl _ _ _) rfl ?_
            exact ⟨rfl, hTk ▸ HFR.out k wr _ HKP.out HI.out (Kp.of (Fr.alloc (Fr.refl _) _)), HKP.out.alloc _⟩
          · obtain ⟨off, hoff⟩ : ∃ off, a + k = pl + off := ⟨a + k - pl, by omega⟩
            obtain ⟨nk, hnk2⟩ : ∃ nk : Nat, n - (k : Int) = (nk : Int) := ⟨(n - k).toNat, by omega⟩
            rw [hoff] at c6
            cases hp : prm pm q with
            | false =>
              have hTk := HTQ.out hp
              rw [hp] at hpr
              go_wp2
              refine bodyPost_ret (results_none rfl _ _ _) rfl ?_
              exact ⟨rfl, hTk ▸ HFR.out k wr _ HKP.out HI.out (Kp.of (Fr.alloc (Fr.refl _) _)), HKP.out.alloc _⟩
            | true =>
              rw [hp] at hpr
              have hcm : ¬ M.C (f + t) = off := by omega
              go_wp2_with fail
              · refine (HSP.out off (len - off) (M.C (f + t) - off) _ (HKP.out.alloc _) (HFR.out k wr _ HKP.out HI.out (Kp.of (Fr.alloc (Fr.refl _) _))) hoff.symm (by omega) (by omega) (by omega) hp (by omega) (by omega)).mono ?_
                rintro e w5 ⟨rfl, hI5, hk5⟩
                have n6 : ¬ S (w.heap.size + 1) := fun h => by have := (HSS.out _ h).1; omega
                have c7 := hk5.get n6 ((Fr.alloc (Fr.refl wr) _).get c6)
                have g7 := hk5.free n6 ((Fr.alloc (Fr.refl wr) _).get c6) ((Fr.alloc (Fr.refl wr) _).free c6 g6)
                have KP5 := Lib.hid ((HKP.out.alloc _).call hk5)
                have HI5 := Lib.hid hI5
                have z7 := lt_of_cell c7
                clear hI5 hk5 c6 g6 r0 r1 r2
                go_wp2
                go_roundw
                case rel =>
                  have e1 : n.toNat - k = nk := by omega
                  have e2 : a + k - pl = off := by omega
                  have hT := HTG.out (by omega) h1 hp
                  rw [e1, e2, show min nk (len - off) = len - off by omega] at hT
                  have hN := HN.out (len - off) (by omega) (by omega)
                  refine ⟨t + 1, k + (len - off), rfl, by omega, congrArg (Value.int .i64) (by omega), by omega, KP5.out.set (.inr (by show w.heap.size ≤ w.heap.size + 1; omega)) _, HFR.out _ w5 _ KP5.out HI5.out ((Kp.refl _ _).set (.inl (.inr rfl)) _), ?_, by simpa using g7, ?_, hN.1, .inr hN.2⟩
                  · rw [World.cell?_setCell_same _ _ _ c7]
                    exact congrArg (fun z => some (Value.int .u64 z)) ((congrArg IntKind.u64.wrap (show _ = ((a + (k + (len - off)) : Nat) : Int) by omega)).trans (wrap_nat _))
                  · rw [show a + (k + (len - off)) = a + k + (len - off) by omega, show n.toNat - (k + (len - off)) = nk - (len - off) by omega]; exact hT
                case measure => simp [intOf]; omega
              · refine (HSP.out off (nk) (M.C (f + t) - off) _ (HKP.out.alloc _) (HFR.out k wr _ HKP.out HI.out (Kp.of (Fr.alloc (Fr.refl _) _))) hoff.symm (by omega) (by omega) (by omega) hp (by omega) (by omega)).mono ?_
                rintro e w5 ⟨rfl, hI5, hk5⟩
                have n6 : ¬ S (w.heap.size + 1) := fun h => by have := (HSS.out _ h).1; omega
                have c7 := hk5.get n6 ((Fr.alloc (Fr.refl wr) _).get c6)
                have g7 := hk5.free n6 ((Fr.alloc (Fr.refl wr) _).get c6) ((Fr.alloc (Fr.refl wr) _).free c6 g6)
                have KP5 := Lib.hid ((HKP.out.alloc _).call hk5)
                have HI5 := Lib.hid hI5
                have z7 := lt_of_cell c7
                clear hI5 hk5 c6 g6 r0 r1 r2
                go_wp2
                go_roundw
                case rel =>
                  have e1 : n.toNat - k = nk := by omega
                  have e2 : a + k - pl = off := by omega
                  have hT := HTG.out (by omega) h1 hp
                  rw [e1, e2, show min nk (len - off) = nk by omega] at hT
                  have hN := HN.out (nk) (by omega) (by omega)
                  refine ⟨t + 1, k + (nk), rfl, by omega, congrArg (Value.int .i64) (by omega), by omega, KP5.out.set (.inr (by show w.heap.size ≤ w.heap.size + 1; omega)) _, HFR.out _ w5 _ KP5.out HI5.out ((Kp.refl _ _).set (.inl (.inr rfl)) _), ?_, by simpa using g7, ?_, hN.1, .inr hN.2⟩
                  · rw [World.cell?_setCell_same _ _ _ c7]
                    exact congrArg (fun z => some (Value.int .u64 z)) ((congrArg IntKind.u64.wrap (show _ = ((a + (k + (nk)) : Nat) : Int) by omega)).trans (wrap_nat _))
                  · rw [show a + (k + (nk)) = a + k + (nk) by omega, show n.toNat - (k + (nk)) = nk - (nk) by omega]; exact hT
                case measure => simp [intOf]; omega
      · have hTk : T = k := by rw [List.drop_eq_nil_of_le (by omega)] at hgt; simp [got] at hgt; omega
        go_wp2
        go_end0
        exact ⟨rfl, hTk ▸ HI.out, HKP.out⟩
end Go.Proofs.Ytelfokoibmpdlaa
