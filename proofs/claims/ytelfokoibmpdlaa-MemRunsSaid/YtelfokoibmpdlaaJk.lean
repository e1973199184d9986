/- The document's Check: what is wrong with regions. -/
import Derived.Test.YtelfokoibmpdlaaMq
namespace Go.Proofs.Ytelfokoibmpdlaa
open Go.RowKit
set_option linter.unusedSimpArgs false
set_option linter.unusedVariables false

/-- The second begins within the first. -/
def ovr (a b : Rg) : Prop := 0 < a.bs.length ∧ 0 < b.bs.length ∧ a.pl ≤ b.pl ∧ b.pl < a.top
/-- No two share an address. -/
def ApP (l : List Rg) : Prop := ∀ (i j : Nat) (hi : i < l.length) (hj : j < l.length), i ≠ j → ¬ ovr l[i] l[j]
theorem ap_pair (l : List Rg) : ApP l ↔ l.Pairwise fun a b => ¬ ovr a b ∧ ¬ ovr b a := by
  rw [List.pairwise_iff_getElem]
  constructor
  · intro h i j hi hj hij
    exact ⟨h i j hi hj (by omega), h j i hj hi (by omega)⟩
  · intro h i j hi hj hne
    rcases Nat.lt_or_ge i j with q | q
    · exact (h i j hi hj q).1
    · exact (h j i hj hi (by omega)).2
theorem ap_filter (l : List Rg) : ApP l ↔ ApP (l.filter neB) := by
  rw [ap_pair, ap_pair, List.pairwise_filter]
  constructor
  · intro h; exact h.imp fun q _ _ => q
  · intro h
    refine h.imp fun {a b} q => ?_
    by_cases ha : 0 < a.bs.length
    · by_cases hb : 0 < b.bs.length
      · exact q (by simpa [neB] using ha) (by simpa [neB] using hb)
      · exact ⟨fun h => hb h.2.1, fun h => hb h.1⟩
    · exact ⟨fun h => ha h.1, fun h => ha h.2.1⟩
theorem ap_perm {l m : List Rg} (h : l.Perm m) : ApP l ↔ ApP m := by
  rw [ap_pair, ap_pair]
  exact List.Perm.pairwise_iff (fun q => ⟨q.2, q.1⟩) h
theorem good_ap {l : List Rg} (h : Good l) : ApP l := by
  rw [ap_pair]
  refine h.rise.imp fun {a b} q => ⟨fun k => ?_, fun k => ?_⟩
  · obtain ⟨_, _, _, k4⟩ := k; omega
  · obtain ⟨k1, k2, k3, k4⟩ := k
    have : a.top = a.pl + a.bs.length := rfl
    omega
theorem ov_ap {l l' : List Rg} (hp : l'.Perm (l.filter neB)) (hs : l'.Pairwise fun a b => a.pl ≤ b.pl) (ho : OvP l') : ¬ ApP l := fun h => by
  rw [ap_filter, ← ap_perm hp] at h
  obtain ⟨j, hj, hlt⟩ := ho
  have hm : ∀ i, ∀ h : i < l'.length, 0 < (l'[i]).bs.length := fun i hi => by
    have := (List.mem_filter.1 (hp.mem_iff.1 (List.getElem_mem hi))).2
    simpa [neB] using this
  exact h j (j + 1) (by omega) hj (by omega) ⟨hm _ _, hm _ _, List.pairwise_iff_getElem.1 hs j (j + 1) (by omega) hj (by omega), hlt⟩
/-- What Check answers. -/
def CkP (l : List Rg) (z : Int) : Prop := (chkI l ≠ 0 ∧ z = chkI l) ∨ (chkI l = 0 ∧ ¬ ApP l ∧ z = 72) ∨ (chkI l = 0 ∧ ApP l ∧ z = 0)
def RelCa (l : List Rg) (w : World) (y z : Value) (wr : World) : Prop := ∃ (k : Nat) (t : Int), z = .int .i64 (k : Int) ∧ k ≤ l.length ∧ y = .int .i64 t ∧ (l.length ≤ 64 → t = (sumB (l.take k) : Int)) ∧ Fr w wr
def RelCb (l : List Rg) (w : World) (z : Value) (wr : World) : Prop := ∃ k : Nat, z = .int .i64 (k : Int) ∧ k ≤ l.length ∧ (l.take k).any badB = false ∧ Fr w wr
def RelCc (l : List Rg) (w : World) (z : Value) (wr : World) : Prop := ∃ k : Nat, z = .int .i64 (k : Int) ∧ k ≤ l.length ∧ (∀ (i j : Nat) (hi : i < l.length) (hj : j < l.length), i < k → i ≠ j → ¬ ovr l[i] l[j]) ∧ Fr w wr
def RelCd (l : List Rg) (i : Nat) (w : World) (ab pl : Nat) (sl : Value) (z : Value) (wr : World) : Prop := ∃ k : Nat, z = .int .i64 (k : Int) ∧ k ≤ l.length ∧ (∀ (hi : i < l.length) (j : Nat) (hj : j < l.length), j < k → i ≠ j → ¬ ovr l[i] l[j]) ∧ wr.cell? ⟨ab, 0, none⟩ = some (.int .u64 (pl : Int)) ∧ wr.cell? ⟨ab, 2, none⟩ = some sl ∧ Fr w wr
def RelC0 (l : List Rg) (w : World) (y z : Value) (wr : World) : Prop := ∃ (k : Nat) (t : Int), z = .int .i64 (k : Int) ∧ k ≤ l.length ∧ y = .int .i64 t ∧ Fr w wr
set_option maxHeartbeats 12800000 in
set_option maxRecDepth 100000 in
theorem rcheck_any (A : Option Addr) (l : List Rg) (c : Nat) (w : World) (hA : RowOf RgAt 3 w A l) (hlen : l.length ≤ maxLen) (hby : ∀ r ∈ l, r.bs.length ≤ 140737488351232) :
    Calls Try.prog 10 #[.slice A l.length c] w fun e w' => ∃ z, e = .returned (.int .i64 z) ∧ CkP l z ∧ Fr w w' := by
  unfold maxLen at hlen
  have HA := Lib.hid hA
  have HB := Lib.hid (fun k => Nat.le_trans (sumB_le (l.take k) 140737488351232 fun r hr => hby r (List.mem_of_mem_take hr)) (Nat.mul_le_mul_right 140737488351232 (show (l.take k).length ≤ l.length by simp; omega)))
  have HBY := Lib.hid hby
  clear hA hby
  by_cases h64 : l.length ≤ 64
  · go_enter Try.func10, Try.ntmps10
    go_wp2
    go_loopw [3, 14] (fun y z wr => RelT l w y z wr) (fun _ z _ => l.length - (intOf z).toNat)
    case atStart => exact ⟨0, rfl, by omega, by simp [sumB], Fr.refl w⟩
    case round =>
      obtain ⟨k, rfl, hk, rfl, hf⟩ := hrel
      have HF := Lib.hid hf
      by_cases hlt : k < l.length
      · obtain ⟨b, o, rfl, hx⟩ := (HA.out.fr (fun _ _ _ h => h.fr hf)).at hlt
        rw [Nat.mul_comm 3 k] at hx
        obtain ⟨s, hs, c0, c1, c2⟩ := hx
        have HN := Lib.hid (show sumB (l.take (k + 1)) = sumB (l.take k) + (l[k]).bs.length by rw [List.take_succ_eq_append_getElem hlt, sumB_append]; simp [sumB])
        have hb1 := HB.out (k + 1)
        rw [HN.out] at hb1
        have hb3 : sumB (l.take k) + (l[k]).bs.length ≤ 9007199254740992 := by omega
        clear hb1
        have zb := lt_of_cell c0
        have hki : (k : Int) < (l.length : Int) := by omega
        generalize sumB (l.take k) = q at *
        clear hs hf
        generalize (l[k]).pl = pl at *
        generalize (l[k]).pm = pm at *
        generalize (l[k]).bs.length = n at *
        go_wp2
        go_roundw
        case rel => first | exact ⟨k + 1, rfl, by omega, by rw [HN.out]; rfl, Fr.alloc HF.out _⟩ | ((repeat apply Exists.intro); first | exact ⟨⟨k + 1, rfl, by omega, by rw [HN.out]; rfl, Fr.alloc HF.out _⟩, rfl⟩ | exact ⟨⟨k + 1, rfl, by omega, by rw [HN.out]; rfl, Fr.alloc HF.out _⟩, rfl, rfl⟩ | exact ⟨⟨k + 1, rfl, by omega, by rw [HN.out]; rfl, Fr.alloc HF.out _⟩, rfl, rfl, rfl⟩ | exact ⟨⟨k + 1, rfl, by omega, by rw [HN.out]; rfl, Fr.alloc HF.out _⟩, rfl, rfl, rfl, rfl⟩ | exact ⟨⟨k + 1, rfl, by omega, by rw [HN.out]; rfl, Fr.alloc HF.out _⟩, rfl, rfl, rfl, rfl, rfl⟩ | exact ⟨⟨k + 1, rfl, by omega, by rw [HN.out]; rfl, Fr.alloc HF.out _⟩, rfl, rfl, rfl, rfl, rfl, rfl⟩ | exact ⟨⟨k + 1, rfl, by omega, by rw [HN.out]; rfl, Fr.alloc HF.out _⟩, rfl, rfl, rfl, rfl, rfl, rfl, rfl⟩ | exact ⟨⟨k + 1, rfl, by omega, by rw [HN.out]; rfl, Fr.alloc HF.out _⟩, rfl, rfl, rfl, rfl, rfl, rfl, rfl, rfl⟩)
        case measure => simp [intOf]; omega

      · obtain rfl : k = l.length := by omega
        have hb1 := HB.out l.length
        rw [List.take_length] at hb1 ⊢
        have hb3 : sumB l ≤ 9007199254740992 := by omega
        clear hb1
        by_cases hs : 67108864 < sumB l
        · have HD := Lib.hid (show CkP l 73 from .inl (by have h : chkI l = 73 := by simp [chkI, tmB, hs]
                                                          rw [h]; exact ⟨by decide, rfl⟩))
          clear hf
          go_wp2
          go_ret
          exact ⟨73, rfl, HD.out, HF.out⟩
        · have HCK := Lib.hid (show chkI l = if l.any badB then 71 else 0 by
            have : tmB l = false := by simp [tmB]; omega
            simp [chkI, this])
          clear hf
          go_wp2
          go_loopw [33] (fun z wr2 => RelCb l w z wr2) (fun z _ => l.length - (intOf z).toNat)
          case atStart => exact ⟨0, rfl, by omega, by simp, HF.out⟩
          case round =>
            clear HF
            obtain ⟨k, rfl, hk, hno, hf⟩ := hrel
            have HF := Lib.hid hf
            by_cases hlt : k < l.length
            · obtain ⟨b, o, rfl, hx⟩ := (HA.out.fr (fun _ _ _ h => h.fr hf)).at hlt
              rw [Nat.mul_comm 3 k] at hx
              obtain ⟨s, hs2, c0, c1, c2⟩ := hx
              have HN := Lib.hid (show badB l[k] = false → (l.take (k + 1)).any badB = false from fun h => by rw [List.take_succ_eq_append_getElem hlt, List.any_append, hno]; simp [h])
              have HY := Lib.hid (show badB l[k] = true → CkP l 71 from fun h => .inl (by
                have h2 : chkI l = 71 := by rw [HCK.out, if_pos (List.any_eq_true.2 ⟨l[k], List.getElem_mem hlt, h⟩)]
                rw [h2]; exact ⟨by decide, rfl⟩))
              have zb := lt_of_cell c0
              have hki : (k : Int) < (l.length : Int) := by omega
              have hbad : badB l[k] = (!(decide (0 ≤ (l[k]).pm) && decide ((l[k]).pm ≤ 7)) || (decide (0 < (l[k]).bs.length) && decide (18446744073709551616 < (l[k]).pl + (l[k]).bs.length))) := rfl
              have hpl := hs2.num.pl
              have hcc := Nat.le_trans hs2.cap hs2.capm
              unfold maxLen at hcc
              simp only at hpl hcc
              clear hs2 hf hno
              generalize badB l[k] = bd at *
              generalize (l[k]).pl = pl at *
              generalize (l[k]).pm = pm at *
              generalize (l[k]).bs.length = n at *
              by_cases p0 : 0 ≤ pm
              · by_cases p7 : pm ≤ 7
                · by_cases n0 : 0 < n
                  · obtain ⟨m, rfl⟩ : ∃ m, n = m + 1 := ⟨n - 1, by omega⟩
                    by_cases ov : 18446744073709551616 ≤ pl + m
                    · have HY2 := Lib.hid (HY.out (by rw [hbad]; simp; omega))
                      have hw : IntKind.u64.wrap ((pl : Int) + (m : Int)) = (pl : Int) + (m : Int) - 18446744073709551616 := by
                        simp [IntKind.wrap, IntKind.bits, IntKind.signed]; omega
                      clear HY HN hbad
                      go_wp2
                      go_ret
                      exact ⟨71, rfl, HY2.out, Fr.alloc HF.out _⟩
                    · have HN2 := Lib.hid (HN.out (by rw [hbad]; simp; omega))
                      clear HY HN hbad
                      go_wp2
                      go_roundw
                      case rel => first | exact ⟨k + 1, rfl, by omega, HN2.out, Fr.alloc HF.out _⟩ | ((repeat apply Exists.intro); first | exact ⟨⟨k + 1, rfl, by omega, HN2.out, Fr.alloc HF.out _⟩, rfl⟩ | exact ⟨⟨k + 1, rfl, by omega, HN2.out, Fr.alloc HF.out _⟩, rfl, rfl⟩ | exact ⟨⟨k + 1, rfl, by omega, HN2.out, Fr.alloc HF.out _⟩, rfl, rfl, rfl⟩ | exact ⟨⟨k + 1, rfl, by omega, HN2.out, Fr.alloc HF.out _⟩, rfl, rfl, rfl, rfl⟩ | exact ⟨⟨k + 1, rfl, by omega, HN2.out, Fr.alloc HF.out _⟩, rfl, rfl, rfl, rfl, rfl⟩ | exact ⟨⟨k + 1, rfl, by omega, HN2.out, Fr.alloc HF.out _⟩, rfl, rfl, rfl, rfl, rfl, rfl⟩ | exact ⟨⟨k + 1, rfl, by omega, HN2.out, Fr.alloc HF.out _⟩, rfl, rfl, rfl, rfl, rfl, rfl, rfl⟩ | exact ⟨⟨k + 1, rfl, by omega, HN2.out, Fr.alloc HF.out _⟩, rfl, rfl, rfl, rfl, rfl, rfl, rfl, rfl⟩)
                      case measure => simp [intOf]; omega

                  · have HN2 := Lib.hid (HN.out (by rw [hbad]; simp; omega))
                    clear HY HN hbad
                    go_wp2
                    go_roundw
                    case rel => first | exact ⟨k + 1, rfl, by omega, HN2.out, Fr.alloc HF.out _⟩ | ((repeat apply Exists.intro); first | exact ⟨⟨k + 1, rfl, by omega, HN2.out, Fr.alloc HF.out _⟩, rfl⟩ | exact ⟨⟨k + 1, rfl, by omega, HN2.out, Fr.alloc HF.out _⟩, rfl, rfl⟩ | exact ⟨⟨k + 1, rfl, by omega, HN2.out, Fr.alloc HF.out _⟩, rfl, rfl, rfl⟩ | exact ⟨⟨k + 1, rfl, by omega, HN2.out, Fr.alloc HF.out _⟩, rfl, rfl, rfl, rfl⟩ | exact ⟨⟨k + 1, rfl, by omega, HN2.out, Fr.alloc HF.out _⟩, rfl, rfl, rfl, rfl, rfl⟩ | exact ⟨⟨k + 1, rfl, by omega, HN2.out, Fr.alloc HF.out _⟩, rfl, rfl, rfl, rfl, rfl, rfl⟩ | exact ⟨⟨k + 1, rfl, by omega, HN2.out, Fr.alloc HF.out _⟩, rfl, rfl, rfl, rfl, rfl, rfl, rfl⟩ | exact ⟨⟨k + 1, rfl, by omega, HN2.out, Fr.alloc HF.out _⟩, rfl, rfl, rfl, rfl, rfl, rfl, rfl, rfl⟩)
                    case measure => simp [intOf]; omega

                · have HY2 := Lib.hid (HY.out (by rw [hbad]; simp; omega))
                  clear HY HN hbad
                  go_wp2
                  go_ret
                  exact ⟨71, rfl, HY2.out, Fr.alloc HF.out _⟩
              · have HY2 := Lib.hid (HY.out (by rw [hbad]; simp; omega))
                clear HY HN hbad
                go_wp2
                go_ret
                exact ⟨71, rfl, HY2.out, Fr.alloc HF.out _⟩
            · obtain rfl : k = l.length := by omega
              rw [List.take_length] at hno
              have HC0 := Lib.hid (show chkI l = 0 by rw [HCK.out, hno]; rfl)
              have HSZ := Lib.hid (chk_ok HC0.out).2.1
              clear hno hf
              go_wp2
              go_loopw [67] (fun z wr2 => RelCc l w z wr2) (fun z _ => l.length - (intOf z).toNat)
              case atStart => exact ⟨0, rfl, by omega, fun i j hi hj h => by omega, HF.out⟩
              case round =>
                clear HF
                obtain ⟨i, rfl, hi, hno, hf⟩ := hrel
                have HF := Lib.hid hf
                have HNO := Lib.hid hno
                clear hno
                by_cases hlt : i < l.length
                · obtain ⟨b, o, rfl, hx⟩ := (HA.out.fr (fun _ _ _ h => h.fr hf)).at hlt
                  rw [Nat.mul_comm 3 i] at hx
                  obtain ⟨s, hs2, c0, c1, c2⟩ := hx
                  have hii : (i : Int) < (l.length : Int) := by omega
                  have zb := lt_of_cell c0
                  have hszi := HSZ.out _ (List.getElem_mem hlt)
                  have hpli := hs2.num.pl
                  simp only at hpli
                  clear hs2 hf
                  go_wp2
                  go_loopw [74] (fun z wr2 => RelCd l i w wr.heap.size (l[i]).pl (.slice s.1 (l[i]).bs.length s.2) z wr2) (fun z _ => l.length - (intOf z).toNat)
                  case atStart => exact ⟨0, rfl, by omega, fun hi j hj h => by omega, by simp, by simp, Fr.alloc HF.out _⟩
                  case round =>
                    obtain ⟨j, rfl, hj, hno, a0, a2, hf2⟩ := hrel
                    have HF2 := Lib.hid hf2
                    have HNJ := Lib.hid hno
                    clear hno
                    have za := lt_of_cell a0
                    have K0 := Lib.hid (fun ob => (Fr.alloc (Fr.refl _) ob).get a0)
                    have K2 := Lib.hid (fun ob => (Fr.alloc (Fr.refl _) ob).get a2)
                    by_cases hjl : j < l.length
                    · obtain ⟨b', o', e', hy⟩ := (HA.out.fr (fun _ _ _ h => h.fr hf2)).at hjl
                      injection e' with e'; injection e' with e1 e2; subst e1 e2
                      rw [Nat.mul_comm 3 j] at hy
                      obtain ⟨t, ht2, d0, d1, d2⟩ := hy
                      have hji : (j : Int) < (l.length : Int) := by omega
                      have zd := lt_of_cell d0
                      have hszj := HSZ.out _ (List.getElem_mem hjl)
                      have hplj := ht2.num.pl
                      simp only at hplj
                      have hov : ovr l[i] l[j] ↔ (0 < (l[i]).bs.length ∧ 0 < (l[j]).bs.length ∧ (l[i]).pl ≤ (l[j]).pl ∧ (l[j]).pl < (l[i]).pl + (l[i]).bs.length) := Iff.rfl
                      have HN := Lib.hid (show (i ≠ j → ¬ ovr l[i] l[j]) → ∀ (hi : i < l.length) (t : Nat) (ht : t < l.length), t < j + 1 → i ≠ t → ¬ ovr l[i] l[t] from fun h hi t ht h2 hne => by
                        by_cases e : t = j
                        · subst e; exact h hne
                        · exact HNJ.out hi t ht (by omega) hne)
                      have HY := Lib.hid (show i ≠ j → ovr l[i] l[j] → CkP l 72 from fun h1 h2 => .inr (.inl ⟨HC0.out, fun h => h i j hlt hjl h1 h2, rfl⟩))
                      clear ht2 hf2
                      generalize ovr l[i] l[j] = OV at *
                      generalize (l[i]).pl = pa at *
                      generalize (l[i]).bs.length = na at *
                      generalize (l[j]).pl = pb at *
                      generalize (l[j]).pm = pmb at *
                      generalize (l[j]).bs.length = nb at *
                      by_cases hij : i = j
                      · obtain rfl : j = i := hij.symm
                        have HN2 := Lib.hid (HN.out fun h => absurd rfl h)
                        clear HN HY hov
                        go_wp2
                        go_roundw
                        case rel => first | exact ⟨j + 1, rfl, by omega, HN2.out, K0.out _, K2.out _, Fr.alloc HF2.out _⟩ | ((repeat apply Exists.intro); first | exact ⟨⟨j + 1, rfl, by omega, HN2.out, K0.out _, K2.out _, Fr.alloc HF2.out _⟩, rfl⟩ | exact ⟨⟨j + 1, rfl, by omega, HN2.out, K0.out _, K2.out _, Fr.alloc HF2.out _⟩, rfl, rfl⟩ | exact ⟨⟨j + 1, rfl, by omega, HN2.out, K0.out _, K2.out _, Fr.alloc HF2.out _⟩, rfl, rfl, rfl⟩ | exact ⟨⟨j + 1, rfl, by omega, HN2.out, K0.out _, K2.out _, Fr.alloc HF2.out _⟩, rfl, rfl, rfl, rfl⟩ | exact ⟨⟨j + 1, rfl, by omega, HN2.out, K0.out _, K2.out _, Fr.alloc HF2.out _⟩, rfl, rfl, rfl, rfl, rfl⟩ | exact ⟨⟨j + 1, rfl, by omega, HN2.out, K0.out _, K2.out _, Fr.alloc HF2.out _⟩, rfl, rfl, rfl, rfl, rfl, rfl⟩ | exact ⟨⟨j + 1, rfl, by omega, HN2.out, K0.out _, K2.out _, Fr.alloc HF2.out _⟩, rfl, rfl, rfl, rfl, rfl, rfl, rfl⟩ | exact ⟨⟨j + 1, rfl, by omega, HN2.out, K0.out _, K2.out _, Fr.alloc HF2.out _⟩, rfl, rfl, rfl, rfl, rfl, rfl, rfl, rfl⟩)
                        case measure => simp [intOf]; omega
                      · have hiji : ((i : Int) != (j : Int)) = true := by rw [bne_iff_ne]; omega
                        by_cases n1 : 0 < na
                        · by_cases n2 : 0 < nb
                          · by_cases p1 : pa ≤ pb
                            · obtain ⟨d, rfl⟩ : ∃ d, pb = pa + d := ⟨pb - pa, by omega⟩
                              by_cases p2 : d < na
                              · have HY2 := Lib.hid (HY.out hij (hov.2 ⟨n1, n2, p1, by omega⟩))
                                clear HN HY hov
                                go_wp2
                                go_ret
                                exact ⟨72, rfl, HY2.out, Fr.alloc HF2.out _⟩
                              · have HN2 := Lib.hid (HN.out fun _ h => by have := hov.1 h; omega)
                                have hw : IntKind.u64.wrap ((pa : Int) + (d : Int) - (pa : Int)) = (d : Int) := by rw [wrap64]; omega
                                clear HN HY hov
                                go_wp2
                                go_roundw
                                case rel => first | exact ⟨j + 1, rfl, by omega, HN2.out, K0.out _, K2.out _, Fr.alloc HF2.out _⟩ | ((repeat apply Exists.intro); first | exact ⟨⟨j + 1, rfl, by omega, HN2.out, K0.out _, K2.out _, Fr.alloc HF2.out _⟩, rfl⟩ | exact ⟨⟨j + 1, rfl, by omega, HN2.out, K0.out _, K2.out _, Fr.alloc HF2.out _⟩, rfl, rfl⟩ | exact ⟨⟨j + 1, rfl, by omega, HN2.out, K0.out _, K2.out _, Fr.alloc HF2.out _⟩, rfl, rfl, rfl⟩ | exact ⟨⟨j + 1, rfl, by omega, HN2.out, K0.out _, K2.out _, Fr.alloc HF2.out _⟩, rfl, rfl, rfl, rfl⟩ | exact ⟨⟨j + 1, rfl, by omega, HN2.out, K0.out _, K2.out _, Fr.alloc HF2.out _⟩, rfl, rfl, rfl, rfl, rfl⟩ | exact ⟨⟨j + 1, rfl, by omega, HN2.out, K0.out _, K2.out _, Fr.alloc HF2.out _⟩, rfl, rfl, rfl, rfl, rfl, rfl⟩ | exact ⟨⟨j + 1, rfl, by omega, HN2.out, K0.out _, K2.out _, Fr.alloc HF2.out _⟩, rfl, rfl, rfl, rfl, rfl, rfl, rfl⟩ | exact ⟨⟨j + 1, rfl, by omega, HN2.out, K0.out _, K2.out _, Fr.alloc HF2.out _⟩, rfl, rfl, rfl, rfl, rfl, rfl, rfl, rfl⟩)
                                case measure => simp [intOf]; omega
                            · have HN2 := Lib.hid (HN.out fun _ h => by have := hov.1 h; omega)
                              have p1i : (pb : Int) < (pa : Int) := by omega
                              clear HN HY hov
                              go_wp2
                              go_roundw
                              case rel => first | exact ⟨j + 1, rfl, by omega, HN2.out, K0.out _, K2.out _, Fr.alloc HF2.out _⟩ | ((repeat apply Exists.intro); first | exact ⟨⟨j + 1, rfl, by omega, HN2.out, K0.out _, K2.out _, Fr.alloc HF2.out _⟩, rfl⟩ | exact ⟨⟨j + 1, rfl, by omega, HN2.out, K0.out _, K2.out _, Fr.alloc HF2.out _⟩, rfl, rfl⟩ | exact ⟨⟨j + 1, rfl, by omega, HN2.out, K0.out _, K2.out _, Fr.alloc HF2.out _⟩, rfl, rfl, rfl⟩ | exact ⟨⟨j + 1, rfl, by omega, HN2.out, K0.out _, K2.out _, Fr.alloc HF2.out _⟩, rfl, rfl, rfl, rfl⟩ | exact ⟨⟨j + 1, rfl, by omega, HN2.out, K0.out _, K2.out _, Fr.alloc HF2.out _⟩, rfl, rfl, rfl, rfl, rfl⟩ | exact ⟨⟨j + 1, rfl, by omega, HN2.out, K0.out _, K2.out _, Fr.alloc HF2.out _⟩, rfl, rfl, rfl, rfl, rfl, rfl⟩ | exact ⟨⟨j + 1, rfl, by omega, HN2.out, K0.out _, K2.out _, Fr.alloc HF2.out _⟩, rfl, rfl, rfl, rfl, rfl, rfl, rfl⟩ | exact ⟨⟨j + 1, rfl, by omega, HN2.out, K0.out _, K2.out _, Fr.alloc HF2.out _⟩, rfl, rfl, rfl, rfl, rfl, rfl, rfl, rfl⟩)
                              case measure => simp [intOf]; omega
                          · have HN2 := Lib.hid (HN.out fun _ h => by have := hov.1 h; omega)
                            clear HN HY hov
                            go_wp2
                            go_roundw
                            case rel => first | exact ⟨j + 1, rfl, by omega, HN2.out, K0.out _, K2.out _, Fr.alloc HF2.out _⟩ | ((repeat apply Exists.intro); first | exact ⟨⟨j + 1, rfl, by omega, HN2.out, K0.out _, K2.out _, Fr.alloc HF2.out _⟩, rfl⟩ | exact ⟨⟨j + 1, rfl, by omega, HN2.out, K0.out _, K2.out _, Fr.alloc HF2.out _⟩, rfl, rfl⟩ | exact ⟨⟨j + 1, rfl, by omega, HN2.out, K0.out _, K2.out _, Fr.alloc HF2.out _⟩, rfl, rfl, rfl⟩ | exact ⟨⟨j + 1, rfl, by omega, HN2.out, K0.out _, K2.out _, Fr.alloc HF2.out _⟩, rfl, rfl, rfl, rfl⟩ | exact ⟨⟨j + 1, rfl, by omega, HN2.out, K0.out _, K2.out _, Fr.alloc HF2.out _⟩, rfl, rfl, rfl, rfl, rfl⟩ | exact ⟨⟨j + 1, rfl, by omega, HN2.out, K0.out _, K2.out _, Fr.alloc HF2.out _⟩, rfl, rfl, rfl, rfl, rfl, rfl⟩ | exact ⟨⟨j + 1, rfl, by omega, HN2.out, K0.out _, K2.out _, Fr.alloc HF2.out _⟩, rfl, rfl, rfl, rfl, rfl, rfl, rfl⟩ | exact ⟨⟨j + 1, rfl, by omega, HN2.out, K0.out _, K2.out _, Fr.alloc HF2.out _⟩, rfl, rfl, rfl, rfl, rfl, rfl, rfl, rfl⟩)
                            case measure => simp [intOf]; omega
                        · have HN2 := Lib.hid (HN.out fun _ h => by have := hov.1 h; omega)
                          clear HN HY hov
                          go_wp2
                          go_roundw
                          case rel => first | exact ⟨j + 1, rfl, by omega, HN2.out, K0.out _, K2.out _, Fr.alloc HF2.out _⟩ | ((repeat apply Exists.intro); first | exact ⟨⟨j + 1, rfl, by omega, HN2.out, K0.out _, K2.out _, Fr.alloc HF2.out _⟩, rfl⟩ | exact ⟨⟨j + 1, rfl, by omega, HN2.out, K0.out _, K2.out _, Fr.alloc HF2.out _⟩, rfl, rfl⟩ | exact ⟨⟨j + 1, rfl, by omega, HN2.out, K0.out _, K2.out _, Fr.alloc HF2.out _⟩, rfl, rfl, rfl⟩ | exact ⟨⟨j + 1, rfl, by omega, HN2.out, K0.out _, K2.out _, Fr.alloc HF2.out _⟩, rfl, rfl, rfl, rfl⟩ | exact ⟨⟨j + 1, rfl, by omega, HN2.out, K0.out _, K2.out _, Fr.alloc HF2.out _⟩, rfl, rfl, rfl, rfl, rfl⟩ | exact ⟨⟨j + 1, rfl, by omega, HN2.out, K0.out _, K2.out _, Fr.alloc HF2.out _⟩, rfl, rfl, rfl, rfl, rfl, rfl⟩ | exact ⟨⟨j + 1, rfl, by omega, HN2.out, K0.out _, K2.out _, Fr.alloc HF2.out _⟩, rfl, rfl, rfl, rfl, rfl, rfl, rfl⟩ | exact ⟨⟨j + 1, rfl, by omega, HN2.out, K0.out _, K2.out _, Fr.alloc HF2.out _⟩, rfl, rfl, rfl, rfl, rfl, rfl, rfl, rfl⟩)
                          case measure => simp [intOf]; omega
                    · obtain rfl : j = l.length := by omega
                      have HR := Lib.hid (show ∀ (i1 j1 : Nat) (hi : i1 < l.length) (hj : j1 < l.length), i1 < i + 1 → i1 ≠ j1 → ¬ ovr l[i1] l[j1] from fun i1 j1 h1 h2 h3 hne => by
                        by_cases e : i1 = i
                        · subst e; exact HNJ.out h1 j1 h2 h2 hne
                        · exact HNO.out i1 j1 h1 h2 (by omega) hne)
                      clear hf2 a0 a2 K0 K2
                      go_wp2
                      go_roundw
                      case rel => first | exact ⟨i + 1, rfl, by omega, HR.out, HF2.out⟩ | ((repeat apply Exists.intro); first | exact ⟨⟨i + 1, rfl, by omega, HR.out, HF2.out⟩, rfl⟩ | exact ⟨⟨i + 1, rfl, by omega, HR.out, HF2.out⟩, rfl, rfl⟩ | exact ⟨⟨i + 1, rfl, by omega, HR.out, HF2.out⟩, rfl, rfl, rfl⟩ | exact ⟨⟨i + 1, rfl, by omega, HR.out, HF2.out⟩, rfl, rfl, rfl, rfl⟩ | exact ⟨⟨i + 1, rfl, by omega, HR.out, HF2.out⟩, rfl, rfl, rfl, rfl, rfl⟩ | exact ⟨⟨i + 1, rfl, by omega, HR.out, HF2.out⟩, rfl, rfl, rfl, rfl, rfl, rfl⟩ | exact ⟨⟨i + 1, rfl, by omega, HR.out, HF2.out⟩, rfl, rfl, rfl, rfl, rfl, rfl, rfl⟩ | exact ⟨⟨i + 1, rfl, by omega, HR.out, HF2.out⟩, rfl, rfl, rfl, rfl, rfl, rfl, rfl, rfl⟩)
                      case measure => simp [intOf]; omega
                · obtain rfl : i = l.length := by omega
                  have HD := Lib.hid (show CkP l 0 from .inr (.inr ⟨HC0.out, fun i j hi hj hne => HNO.out i j hi hj hi hne, rfl⟩))
                  clear hf
                  go_wp2
                  go_ret
                  exact ⟨0, rfl, HD.out, HF.out⟩
  · have HD := Lib.hid (show CkP l 73 from .inl (by have h : chkI l = 73 := by simp [chkI, tmB]; omega
                                                    rw [h]; exact ⟨by decide, rfl⟩))
    go_enter Try.func10, Try.ntmps10
    go_wp2
    go_loopw [3, 14] (fun y z wr => RelC0 l w y z wr) (fun _ z _ => l.length - (intOf z).toNat)
    case atStart => exact ⟨0, _, rfl, by omega, rfl, Fr.refl w⟩
    case round =>
      obtain ⟨k, t, rfl, hk, rfl, hf⟩ := hrel
      have HF := Lib.hid hf
      by_cases hlt : k < l.length
      · obtain ⟨b, o, rfl, hx⟩ := (HA.out.fr (fun _ _ _ h => h.fr hf)).at hlt
        rw [Nat.mul_comm 3 k] at hx
        obtain ⟨s, hs, c0, c1, c2⟩ := hx
        have zb := lt_of_cell c0
        have hki : (k : Int) < (l.length : Int) := by omega
        clear hs hf
        generalize (l[k]).pl = pl at *
        generalize (l[k]).pm = pm at *
        generalize (l[k]).bs.length = n at *
        go_wp2
        go_roundw
        case rel => first | exact ⟨k + 1, _, rfl, by omega, rfl, Fr.alloc HF.out _⟩ | ((repeat apply Exists.intro); first | exact ⟨⟨k + 1, _, rfl, by omega, rfl, Fr.alloc HF.out _⟩, rfl⟩ | exact ⟨⟨k + 1, _, rfl, by omega, rfl, Fr.alloc HF.out _⟩, rfl, rfl⟩ | exact ⟨⟨k + 1, _, rfl, by omega, rfl, Fr.alloc HF.out _⟩, rfl, rfl, rfl⟩ | exact ⟨⟨k + 1, _, rfl, by omega, rfl, Fr.alloc HF.out _⟩, rfl, rfl, rfl, rfl⟩ | exact ⟨⟨k + 1, _, rfl, by omega, rfl, Fr.alloc HF.out _⟩, rfl, rfl, rfl, rfl, rfl⟩ | exact ⟨⟨k + 1, _, rfl, by omega, rfl, Fr.alloc HF.out _⟩, rfl, rfl, rfl, rfl, rfl, rfl⟩ | exact ⟨⟨k + 1, _, rfl, by omega, rfl, Fr.alloc HF.out _⟩, rfl, rfl, rfl, rfl, rfl, rfl, rfl⟩ | exact ⟨⟨k + 1, _, rfl, by omega, rfl, Fr.alloc HF.out _⟩, rfl, rfl, rfl, rfl, rfl, rfl, rfl, rfl⟩)
        case measure => simp [intOf]; omega
      · obtain rfl : k = l.length := by omega
        have h65 : (64 : Int) < (l.length : Int) := by omega
        go_wp2
        go_ret
        exact ⟨73, rfl, HD.out, HF.out⟩
end Go.Proofs.Ytelfokoibmpdlaa
