/- New: memory with regions, or what is wrong with them. -/
import Derived.Test.YtelfokoibmpdlaaMp
namespace Go.Proofs.Ytelfokoibmpdlaa
open Go.RowKit
set_option linter.unusedSimpArgs false
set_option linter.unusedVariables false

theorem chk_ok {l : List Rg} (h : chkI l = 0) : l.length ≤ 64 ∧ (∀ r ∈ l, r.bs.length ≤ 67108864) ∧ ∀ r ∈ l, 0 ≤ r.pm ∧ r.pm ≤ 7 ∧ (0 < r.bs.length → r.top ≤ 18446744073709551616) := by
  unfold chkI at h
  split at h
  · cases h
  · rename_i h1
    split at h
    · cases h
    · rename_i h2
      simp only [tmB, Bool.or_eq_true, decide_eq_true_eq, not_or, Nat.not_lt] at h1
      refine ⟨h1.1, fun r hr => Nat.le_trans (sumB_mem hr) h1.2, fun r hr => ?_⟩
      have h3 : badB r = false := by
        cases hb : badB r with
        | false => rfl
        | true => exact absurd (List.any_eq_true.2 ⟨r, hr, hb⟩) h2
      simp only [badB, bydB, Bool.or_eq_false_iff, Bool.not_eq_false', Bool.and_eq_true, decide_eq_true_eq, Bool.and_eq_false_iff, decide_eq_false_iff_not] at h3
      refine ⟨h3.1.1, h3.1.2, fun h0 => ?_⟩
      unfold Rg.top
      rcases h3.2 with q | q <;> omega
theorem good_of {l : List Rg} (hok : ∀ r ∈ l, RgOk r) (hno : ¬ OvP l) : Good l := by
  refine ⟨hok, List.pairwise_iff_getElem.2 ?_⟩
  have key : ∀ (d i : Nat) (h : i + d + 1 < l.length), (l[i]).top ≤ (l[i + d + 1]).pl := by
    intro d
    induction d with
    | zero =>
      intro i h
      rcases Nat.lt_or_ge (l[i + 1]).pl (l[i]).top with q | q
      · exact absurd ⟨i, by omega, q⟩ hno
      · exact q
    | succ d ih =>
      intro i h
      have h1 := ih i (by omega)
      rcases Nat.lt_or_ge (l[i + d + 1 + 1]).pl (l[i + d + 1]).top with q | q
      · exact absurd ⟨i + d + 1, by omega, q⟩ hno
      · have h2 : (l[i + d + 1]).top = (l[i + d + 1]).pl + (l[i + d + 1]).bs.length := rfl
        show (l[i]).top ≤ (l[i + d + 1 + 1]).pl
        omega
  intro i j hi hj hij
  obtain ⟨d, rfl⟩ : ∃ d, j = i + d + 1 := ⟨j - i - 1, by omega⟩
  exact key d i hj
/-- What New answers. -/
def NewP (l : List Rg) (w : World) (e : Ending) (w' : World) : Prop :=
  (∃ z : Int, z ≠ 0 ∧ e = .returned (.tuple #[.pointer none, .int .i64 z]) ∧ (z = chkI l ∨ chkI l = 0 ∧ z = 72 ∧ ∃ l' : List Rg, l'.Perm (l.filter neB) ∧ l'.Pairwise (fun a b => a.pl ≤ b.pl) ∧ OvP l')) ∨
  (∃ (M : Lo) (l' : List Rg), e = .returned (.tuple #[.pointer (some ⟨M.bm, 0, none⟩), .int .i64 0]) ∧ (chkI l = 0 ∧ (M.A = none → M.cr = 0)) ∧ l'.Perm (l.filter neB) ∧ Good l' ∧ l'.length ≤ 64 ∧ MemAt w' M l' ∧ w.heap.size ≤ M.bm ∧ (0 < l'.length → w.heap.size ≤ M.br) ∧ ∀ i, i < l'.length → w.heap.size ≤ M.G i)
set_option maxHeartbeats 6400000 in
set_option maxRecDepth 100000 in
theorem new_any (A : Option Addr) (l : List Rg) (c : Nat) (w : World) (hA : RowOf RgAt 3 w A l) (hlen : l.length ≤ maxLen) (hby : ∀ r ∈ l, r.bs.length ≤ 140737488351232) :
    Calls Try.prog 9 #[.slice A l.length c] w fun e w' => NewP l w e w' ∧ Fr w w' := by
  have HCK := Lib.hid (check_any A l c w hA hlen hby)
  have HA := Lib.hid hA
  clear hlen hby hA
  by_cases hc : chkI l = 0
  · obtain ⟨hl64, hsz, hok⟩ := chk_ok hc
    rw [hc] at HCK
    have hbys : ∀ r ∈ l, Bys r.bs := fun r hr => by
      obtain ⟨i, hi, rfl⟩ := List.getElem_of_mem hr
      obtain ⟨b, o, _, s, hs, _⟩ := HA.out.at hi
      exact hs.num.bys
    have HIN := Lib.hid (fun (w1 : World) (k : Fr w w1) => inPlace_any A l c w1 (HA.out.fr fun _ _ _ h => h.fr k) hl64)
    have hfm : ∀ l' : List Rg, l'.Perm (l.filter neB) → ∀ r ∈ l', RgOk r ∧ r.bs.length ≤ 67108864 := fun l' hp r hr => by
      have h1 := hp.mem_iff.1 hr
      obtain ⟨h2, h3⟩ := List.mem_filter.1 h1
      have h4 : 0 < r.bs.length := by simpa [neB] using h3
      obtain ⟨q1, q2, q3⟩ := hok r h2
      exact ⟨⟨h4, q3 h4, q1, q2, hbys r h2⟩, hsz r h2⟩
    have hfl : ∀ l' : List Rg, l'.Perm (l.filter neB) → l'.length ≤ 64 := fun l' hp => by
      have := hp.length_eq; have := List.length_filter_le neB l; omega
    have HFM := Lib.hid hfm
    have HFL := Lib.hid hfl
    have HC0 := Lib.hid hc
    clear hok hsz hbys hfm hfl hc
    go_enter Try.func9, Try.ntmps9
    go_wp2_with (go_at_call 23; refine HCK.out.mono ?_; rintro e w1 ⟨rfl, hf⟩; have HF1 := Lib.hid hf; clear hf)
    refine (HIN.out _ HF1.out).mono ?_
    rintro e w2 ⟨A', c', l', rfl, hc1, hc2, hn, hrow, hperm, hsort, hf⟩
    have HF2 := Lib.hid (HF1.out.call hf)
    have HROW := Lib.hid hrow
    have HP := Lib.hid hperm
    have HS := Lib.hid hsort
    have HN := Lib.hid (fun h : A' = none => (⟨hn h, List.eq_nil_of_length_eq_zero (by have := hn h; omega)⟩ : c' = 0 ∧ l' = []))
    have HOV := Lib.hid (fun (w3 : World) (k : Fr w2 w3) => overlap_any A' l' c' w3 (hrow.fr fun _ _ _ h => h.fr k) (HFL.out l' hperm) fun r hr => ⟨(HFM.out l' hperm r hr).1.some, (HFM.out l' hperm r hr).1.top⟩)
    clear hf hrow hperm hsort hn
    go_wp2_with fail
    refine (HOV.out _ (Fr.refl _)).mono ?_
    rintro e w3 ⟨b, rfl, hb, hf3⟩
    have HF3 := Lib.hid hf3
    have HB := Lib.hid hb
    clear hf3 hb
    cases b with
    | true =>
      go_wp2
      go_ret2
      exact ⟨.inl ⟨72, by decide, rfl, .inr ⟨HC0.out, rfl, l', HP.out, HS.out, HB.out.1 (by first | rfl | trivial)⟩⟩, HF2.out.call HF3.out⟩
    | false =>
      have HCP := Lib.hid (copied_any A' l' c' w3 (HROW.out.fr fun _ _ _ h => h.fr HF3.out) HN.out (HFL.out l' HP.out) fun r hr => ⟨(HFM.out l' HP.out r hr).1.some, (HFM.out l' HP.out r hr).2⟩)
      have HG := Lib.hid (good_of (fun r hr => (HFM.out l' HP.out r hr).1) fun h => by have := HB.out.2 h; cases this)
      clear HIN HOV
      go_wp2_with (go_at_call 26; refine HCP.out.mono ?_; rintro e w4 ⟨M, rfl, hm, hf4⟩; have HM := Lib.hid hm; have HF4 := Lib.hid hf4; clear hm hf4)
      go_ret2
      have hsz : w.heap.size ≤ w3.heap.size := (HF2.out.call HF3.out).size
      have hsz4 : w3.heap.size ≤ w4.heap.size := HF4.out.size
      refine ⟨.inr ⟨⟨w4.heap.size, M.br, M.cr, M.A, M.G, M.C⟩, l', rfl, ⟨HC0.out, HM.out.nil⟩, HP.out, HG.out, HFL.out l' HP.out, ?_, by show w.heap.size ≤ w4.heap.size; omega, fun h0 => by have := HM.out.newr h0; show w.heap.size ≤ M.br; omega, fun i hi => by have := (HM.out.newg i hi).1; show w.heap.size ≤ M.G i; omega⟩, Fr.alloc ((HF2.out.call HF3.out).call HF4.out) _⟩
      have hk := Fr.alloc (Fr.refl w4) (.cells #[.slice M.A l'.length M.cr] 57)
      exact ⟨by simp, HM.out.cap, HM.out.capm, HM.out.addr, fun i hi => hk.get (HM.out.row0 i hi), fun i hi => hk.get (HM.out.row1 i hi), fun i hi => hk.get (HM.out.row2 i hi), HM.out.caps, fun i hi => (HM.out.bytes i hi).kp (S := fun _ => False) (Kp.of hk) id, HM.out.one, fun i hi => ⟨by have := (HM.out.newg i hi).2; show M.G i ≠ w4.heap.size; omega, HM.out.apr i hi⟩⟩
  · have HC := Lib.hid hc
    have hb : (chkI l != 0) = true := by simpa using hc
    generalize hz : chkI l = z at *
    go_enter Try.func9, Try.ntmps9
    go_wp2_with (go_at_call 23; refine HCK.out.mono ?_; rintro e w1 ⟨rfl, hf⟩; have HF1 := Lib.hid hf; clear hf)
    go_ret2
    exact ⟨.inl ⟨z, HC.out, rfl, .inl hz.symm⟩, HF1.out⟩
end Go.Proofs.Ytelfokoibmpdlaa
