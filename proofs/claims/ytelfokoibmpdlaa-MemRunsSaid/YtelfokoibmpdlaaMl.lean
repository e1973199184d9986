/- The regions that have bytes, by rising places; do some share an address? -/
import Derived.Test.YtelfokoibmpdlaaMk
namespace Go.Proofs.Ytelfokoibmpdlaa
open Go.RowKit
set_option linter.unusedSimpArgs false
set_option linter.unusedVariables false

def neB (r : Rg) : Bool := decide (0 < r.bs.length)
def RelF (l : List Rg) (w : World) (v i : Value) (wr : World) : Prop := ∃ (k : Nat) (ps : List (Rg × Sl)), i = .int .i64 (k : Int) ∧ k ≤ l.length ∧ ps.map (·.1) = (l.take k).filter neB ∧ RowsAt wr w.heap.size v ps ∧ Fr w wr
set_option maxHeartbeats 6400000 in
set_option maxRecDepth 100000 in
theorem inPlace_any (A : Option Addr) (l : List Rg) (c : Nat) (w : World) (hA : RowOf RgAt 3 w A l) (hlen : l.length ≤ 64) :
    Calls Try.prog 24 #[.slice A l.length c] w fun e w' => ∃ (A' : Option Addr) (c' : Nat) (l' : List Rg), e = .returned (.slice A' l'.length c') ∧ l'.length ≤ c' ∧ c' ≤ maxLen ∧ (A' = none → c' = 0) ∧ RowOf RgAt 3 w' A' l' ∧ l'.Perm (l.filter neB) ∧ l'.Pairwise (fun a b => a.pl ≤ b.pl) ∧ Fr w w' := by
  have HA := Lib.hid hA
  clear hA
  go_enter Try.func24, Try.ntmps24
  go_wp2
  go_loopw [3, 8] (fun v i wr => RelF l w v i wr) (fun _ i _ => l.length - (intOf i).toNat)
  case atStart => exact ⟨0, [], rfl, by omega, by simp, ⟨World.ownsRow_nil _ _ _ _, fun x hx => by simp at hx, fun x hx => by simp at hx⟩, Fr.refl w⟩
  case round =>
    obtain ⟨k, ps, rfl, hk, hps, hrows, hf⟩ := hrel
    have HF := Lib.hid hf
    have HR := Lib.hid hrows
    have hpl : ps.length ≤ k := by
      have h1 := congrArg List.length hps
      have h2 := List.length_filter_le neB (l.take k)
      simp at h1 h2; omega
    by_cases hlt : k < l.length
    · obtain ⟨b, o, rfl, hx0⟩ := HA.out.at hlt
      obtain ⟨s0, hs0, d0, d1, d2⟩ := hx0
      have hsb := hs0.rd
      obtain ⟨s, hs, c0, c1, c2⟩ : RgAt wr b (o + 3 * k) l[k] := RgAt.fr ⟨s0, hs0, d0, d1, d2⟩ hf
      have hs1 : s = s0 := by
        have h1 := hf.get d2
        rw [h1] at c2; injection c2 with c2; injection c2 with e1 e2 e3
        exact Prod.ext e1.symm e3.symm
      subst hs1
      rw [Nat.mul_comm 3 k] at c0 c1 c2
      have HS := Lib.hid hs
      have HN := Lib.hid (List.take_succ_eq_append_getElem hlt)
      have zb := lt_of_cell c0
      have hki : (k : Int) < (l.length : Int) := by omega
      have hold : 0 < (l[k]).bs.length → ∀ a, s.1 = some a → a.block < w.heap.size := fun h0 a ha => by
        obtain ⟨g, o', e, hgl, _⟩ := hsb h0
        rw [ha] at e; injection e with e; subst e; exact hgl
      have HO := Lib.hid hold
      generalize l[k] = r at *
      obtain ⟨pl, pm, bs⟩ := r
      obtain ⟨sa, sc⟩ := s
      simp only at c0 c1 c2
      have hml : bs.length ≤ 9223372036854775807 := Nat.le_trans (Nat.le_trans HS.out.cap HS.out.capm) (by decide)
      clear hrows hs hf hs0 d0 d1 d2 hsb hold
      by_cases hne : 0 < bs.length
      · have hfl : (l.take (k + 1)).filter neB = ps.map (·.1) ++ [⟨pl, pm, bs⟩] := by rw [HN.out, List.filter_append, hps]; simp [neB, hne]
        have HFL := Lib.hid hfl
        clear hfl HN
        go_wp2_with (at_builtin; refine wpList_appendk _ rfl (.tmp 16) (.tmp 18) 23 rfl w.heap.size 49 3 Try.underlying23 Try.infoR rfl (by decide) _ ps.length (flatR ps) rfl ?_ (some ⟨wr.heap.size + 1, 0, none⟩) 1 1 (rgCells (⟨pl, pm, bs⟩, (sa, sc))) rfl ?_ ?_ ?_ ?_ ?_ ?_ ?_ ?_)
        · exact (HR.out.fr (Fr.alloc (Fr.alloc (Fr.refl wr) _) _)).own
        · rfl
        · intro _
          refine ⟨_, rfl, fun j u hj => ?_⟩
          rw [add_zero_k]
          simp only [rgCells] at hj
          match j, hj with
          | 0, hj => obtain rfl : _ = u := Option.some.inj hj; rw [World.cell?_alloc_at _ _ _ _ (by simp)]; rfl
          | 1, hj => obtain rfl : _ = u := Option.some.inj hj; rw [World.cell?_alloc_at _ _ _ _ (by simp)]; rfl
          | 2, hj => obtain rfl : _ = u := Option.some.inj hj; rw [World.cell?_alloc_at _ _ _ _ (by simp)]; rfl
        · intro u hu; simp [rgCells] at hu; rcases hu with rfl | rfl | rfl <;> rfl
        · unfold maxLen; omega
        · omega
        · have := HF.out.size; simp; omega
        intro v6 w6 HG6
        have hW := fun (o1 o2 : Obj) => Fr.alloc (Fr.alloc (Fr.refl wr) o1) o2
        have hrows6 := (HR.out.fr (hW _ _)).grow (HS.out.fr (hW _ _)) (fun h0 a ha h => by have h1 := HO.out h0 a ha; have h2 := (HR.out.base _ h).1; omega) HG6.out
        have hf6 : Fr w w6 := ((Kp.of (HF.out.call (hW _ _))).call HG6.out.kp).to fun x hx => (HR.out.base x hx).1
        have HR6 := Lib.hid hrows6
        have HF6 := Lib.hid hf6
        clear hrows6 hf6 HG6 hW
        go_wp2
        go_roundw
        case rel => exact ⟨k + 1, ps ++ [(⟨pl, pm, bs⟩, (sa, sc))], rfl, by omega, by rw [List.map_append, HFL.out]; rfl, HR6.out, HF6.out⟩
        case measure => simp [intOf]; omega
      · have hfl : (l.take (k + 1)).filter neB = ps.map (·.1) := by rw [HN.out, List.filter_append, hps]; simp [neB, hne]
        have hb0 : bs.length = 0 := by omega
        have HFL := Lib.hid hfl
        clear hfl HN hne
        go_wp2
        go_roundw
        case rel => exact ⟨k + 1, ps, rfl, by omega, HFL.out.symm, HR.out.fr (Fr.alloc (Fr.refl wr) _), Fr.alloc HF.out _⟩
        case measure => simp [intOf]; omega
    · obtain rfl : k = l.length := by omega
      rw [List.take_length] at hps
      have HPS := Lib.hid hps
      obtain ⟨A', c', hv, hc1, hc2, hn, hg⟩ := HR.out.val
      have hv2 := hv
      clear hrows hf hps
      rcases A' with _ | a
      · have hz := hn rfl
        have hps0 : ps = [] := List.eq_nil_of_length_eq_zero hz
        subst hps0
        have hv3 : u3 = .slice none 0 0 ∨ ∃ x, u3.ownBlock = some x := by
          rcases HR.out.own.2 with ⟨q, _⟩ | ⟨x, _, _, q, _⟩
          · exact .inl q
          · exact .inr ⟨x, by rw [q]; rfl⟩
        have hv4 : u3 = .slice none 0 0 := by
          rcases hv3 with q | ⟨x, q⟩
          · exact q
          · rw [hv] at q; cases q
        subst hv4
        have HC := Lib.hid (fun W => AnyF.slices_SortFunc_none Try.sortRg none 0 (.func (.func 37) #[] #[]) W)
        change Hid (∀ W, Calls Try.prog 36 _ _ _) at HC
        clear hv hv2 hv3
        go_wp2_with (go_at_call 36; refine (HC.out _).mono ?_; rintro e w1 ⟨rfl, hw1⟩)
        go_ret
        subst hw1
        exact ⟨none, 0, [], rfl, by simp, Nat.zero_le _, fun _ => rfl, fun h => absurd h (by simp), by rw [← HPS.out]; exact .nil, List.Pairwise.nil, HF.out⟩
      · obtain ⟨g, rfl, hg1, hg2, hg3⟩ := hg a rfl
        subst hv
        have HC := Lib.hid (sort_any wr w.heap.size g c' ps HR.out (by omega))
        clear hv2
        go_wp2_with (go_at_call 36; refine HC.out.mono ?_; rintro e w1 ⟨rfl, qs, q1, q2, q3, q4, q5⟩; have H4 := Lib.hid q4; have H5 := Lib.hid q5; have H3 := Lib.hid q3; have H2 := Lib.hid q2; clear q4 q5 q3 q2)
        go_ret
        refine ⟨some ⟨g, 0, none⟩, c', qs.map (·.1), (by rw [List.length_map, q1]; rfl), by rw [List.length_map, q1]; exact hc1, hc2, (fun h => nomatch h), H4.out, ?_, H3.out, ((Kp.of HF.out).call H5.out).to fun x hx => by omega⟩
        rw [← HPS.out]; exact H2.out.map _
/-- A region begins ahead of the end of the one ahead of it. -/
def OvP (l : List Rg) : Prop := ∃ j, ∃ h : j + 1 < l.length, (l[j + 1]).pl < (l[j]).top
def RelO (l : List Rg) (w : World) (i : Value) (wr : World) : Prop := ∃ k : Nat, i = .int .i64 (k : Int) ∧ 1 ≤ k ∧ (k ≤ l.length ∨ k = 1) ∧ (∀ j, ∀ h : j + 1 < l.length, j + 1 < k → (l[j]).top ≤ (l[j + 1]).pl) ∧ Fr w wr
set_option maxHeartbeats 6400000 in
set_option maxRecDepth 100000 in
theorem overlap_any (A : Option Addr) (l : List Rg) (c : Nat) (w : World) (hA : RowOf RgAt 3 w A l) (hlen : l.length ≤ 64) (hok : ∀ r ∈ l, 0 < r.bs.length ∧ r.top ≤ 18446744073709551616) :
    Calls Try.prog 25 #[.slice A l.length c] w fun e w' => ∃ b : Bool, e = .returned (.bool b) ∧ (b = true ↔ OvP l) ∧ Fr w w' := by
  have HA := Lib.hid hA
  have HK := Lib.hid hok
  clear hA hok
  go_enter Try.func25, Try.ntmps25
  go_wp2
  go_loopw [3] (fun i wr => RelO l w i wr) (fun i _ => l.length + 1 - (intOf i).toNat)
  case atStart => exact ⟨1, rfl, by omega, .inr rfl, fun j h h2 => by omega, Fr.refl w⟩
  case round =>
    obtain ⟨k, rfl, hk1, hk2, hno, hf⟩ := hrel
    have HF := Lib.hid hf
    have HNO := Lib.hid hno
    by_cases hlt : k < l.length
    · obtain ⟨j, rfl⟩ : ∃ j, k = j + 1 := ⟨k - 1, by omega⟩
      obtain ⟨b, o, rfl, hx⟩ := (HA.out.fr (fun _ _ _ h => h.fr hf)).at hlt
      obtain ⟨b', o', e', hy⟩ := (HA.out.fr (fun _ _ _ h => h.fr hf)).at (show j < l.length by omega)
      injection e' with e'; injection e' with e1 e2; subst e1 e2
      rw [Nat.mul_comm 3 (j + 1)] at hx
      rw [Nat.mul_comm 3 j] at hy
      obtain ⟨s, hs, c0, c1, c2⟩ := hx
      obtain ⟨t, ht, d0, d1, d2⟩ := hy
      have hok := HK.out _ (List.getElem_mem (show j < l.length by omega))
      have HY := Lib.hid (show (l[j + 1]).pl < (l[j]).top → OvP l from fun h => ⟨j, hlt, h⟩)
      have HN := Lib.hid (show (l[j]).top ≤ (l[j + 1]).pl → ∀ i, ∀ h : i + 1 < l.length, i + 1 < j + 1 + 1 → (l[i]).top ≤ (l[i + 1]).pl from fun h i hi h2 => by
        by_cases e : i = j
        · subst e; exact h
        · exact hno i hi (by omega))
      have htop : (l[j]).top = (l[j]).pl + (l[j]).bs.length := rfl
      have HL := Lib.hid (fun W => last_any (l[j]).pl (l[j]).pm t.1 (l[j]).bs.length t.2 hok.1 hok.2 (Nat.le_trans (Nat.le_trans ht.cap ht.capm) (by decide)) W)
      obtain ⟨h0, h1⟩ := hok
      rw [htop] at HY HN h1
      generalize (l[j + 1]).pl = p1 at *
      generalize (l[j]).pl = p0 at *
      generalize (l[j]).pm = pm at *
      generalize (l[j]).bs.length = n at *
      have hji : (j : Int) + 1 < (l.length : Int) := by omega
      have hji2 : (j : Int) < (l.length : Int) := by omega
      have a0 := fun ex : Ext wr => ex.get c0
      have b0 := fun ex : Ext wr => ex.get d0
      have b1 := fun ex : Ext wr => ex.get d1
      have b2 := fun ex : Ext wr => ex.get d2
      have HR := Lib.hid (fun ex : Ext wr => HL.out ex.world)
      have hdec : decide (p1 ≤ p0 + n - 1) = decide (p1 < p0 + n) := by
        by_cases q : p1 < p0 + n
        · rw [decide_eq_true q, decide_eq_true]; omega
        · rw [decide_eq_false q, decide_eq_false]; omega
      clear hs ht c0 c1 c2 d0 d1 d2 hf hno htop
      go_wp2_with fail
      refine wp_region_ext (by kernel_rfl) (by kernel_rfl) ?_
      repeat (go_big_quiet_step ((go_at_call 39; exact ext_of (HR.out _))))
      refine wpQuiet_nil ?_
      intro w4 hw4
      obtain ⟨y4, hy4⟩ := hw4
      have hb4 : Fr wr w4 := by rw [hy4]; exact y4.fr
      have HB4 := Lib.hid hb4
      clear hy4 y4 hb4
      by_cases hov : p1 < p0 + n
      · have HY2 := Lib.hid (HY.out hov)
        go_wp2
        go_ret
        exact ⟨true, rfl, by simp [HY2.out], HF.out.call HB4.out⟩
      · have HN2 := Lib.hid (HN.out (by omega))
        go_wp2
        go_roundw
        case rel => exact ⟨j + 1 + 1, rfl, by omega, .inl (by omega), HN2.out, HF.out.call HB4.out⟩
        case measure => simp [intOf]; omega
    · have HD := Lib.hid (show ¬ OvP l from fun ⟨j, h, h2⟩ => by have := hno j h (by omega); omega)
      have hge : (l.length : Int) ≤ (k : Int) := by omega
      go_wp2
      go_ret
      exact ⟨false, rfl, by simp [HD.out], HF.out⟩
end Go.Proofs.Ytelfokoibmpdlaa
