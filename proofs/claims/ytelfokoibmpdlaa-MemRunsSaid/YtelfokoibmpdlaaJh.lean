/- The document's Holds. -/
import Derived.Test.YtelfokoibmpdlaaJa
import Derived.Test.YtelfokoibmpdlaaMj
import Derived.Test.YtelfokoibmpdlaaMf
namespace Go.Proofs.Ytelfokoibmpdlaa
open Go.RowKit
set_option linter.unusedSimpArgs false
set_option linter.unusedVariables false

/-- An address lies in a region that has all of the permissions. -/
def thB (lw : List Rg) (q : Int) (a : Nat) : Bool := lw.any fun r => hitB r a && prm r.pm q
theorem th_cel {lw lp : List Rg} (h : Lnk lw lp) (q : Int) (a : Nat) : thB lw q a = (cel lp q a).isSome := by
  cases ht : thB lw q a with
  | true =>
    obtain ⟨r, hr, h2⟩ := List.any_eq_true.1 ht
    simp only [Bool.and_eq_true] at h2
    have hm := h.mem hr h2.1
    rw [good_hit h.good hm h2.1, h2.2, if_pos rfl]
    have h3 := h2.1
    simp only [hitB, Bool.and_eq_true, decide_eq_true_eq] at h3
    have htp : r.top = r.pl + r.bs.length := rfl
    rw [List.getElem?_eq_getElem (by omega)]; rfl
  | false =>
    have hno : ∀ r ∈ lw, (hitB r a && prm r.pm q) = false := fun r hr => by
      cases hh : (hitB r a && prm r.pm q) with
      | false => rfl
      | true => rw [thB, List.any_eq_true.2 ⟨r, hr, hh⟩] at ht; cases ht
    by_cases hx : ∃ r ∈ lp, hitB r a = true
    · obtain ⟨r, hr, ha⟩ := hx
      rw [good_hit h.good hr ha]
      have h1 := hno r (h.back hr)
      rw [ha, Bool.true_and] at h1
      rw [h1]; rfl
    · rw [cel_no fun r hr => by
        cases hh : hitB r a with
        | false => rfl
        | true => exact absurd ⟨r, hr, hh⟩ hx]
      rfl
theorem hld_eq {l : List Rg} (hg : Good l) (a N : Nat) (q : Int) (hN1 : 1 ≤ N) (hN8 : N ≤ 8) (q0 : 0 ≤ q) (q7 : q ≤ 7) : hldB l a (N : Int) q = true ↔ ∀ k, k < N → (cel l q (a + k)).isSome = true := by
  rw [← runB_full]
  unfold hldB
  rw [Int.toNat_natCast, from_run hg]
  simp only [Bool.and_eq_true, decide_eq_true_eq]
  omega
def RelHi (lw : List Rg) (q : Int) (a : Nat) (w : World) (y z : Value) (wr : World) : Prop := ∃ k : Nat, z = .int .i64 (k : Int) ∧ k ≤ lw.length ∧ y = .bool (thB (lw.take k) q a) ∧ Fr w wr
def RelHo (lp : List Rg) (q : Int) (a N : Nat) (w : World) (z : Value) (wr : World) : Prop := ∃ k : Nat, z = .int .i64 (k : Int) ∧ k ≤ N ∧ (∀ j, j < k → (cel lp q (a + j)).isSome = true) ∧ Fr w wr
set_option maxHeartbeats 6400000 in
set_option maxRecDepth 100000 in
theorem rholds_any {lw lp : List Rg} (hL : Lnk lw lp) (A : Option Addr) (c : Nat) (w : World) (hA : RowOf RgAt 3 w A lw) (hlen : lw.length ≤ 64) (hsm : ∀ r ∈ lw, r.bs.length ≤ 67108864) (a : Nat) (ha : a < 18446744073709551616) (n q : Int) :
    Calls Try.prog 17 #[.slice A lw.length c, .int .u64 (a : Int), .int .i64 n, .int .i64 q] w fun e w' => e = .returned (.bool (hldB lp a n q)) ∧ Fr w w' := by
  by_cases hin : (1 ≤ n ∧ n ≤ 8) ∧ (0 ≤ q ∧ q ≤ 7)
  · obtain ⟨⟨hi1, hi8⟩, q0, q7⟩ := hin
    obtain ⟨N, rfl⟩ : ∃ N : Nat, n = (N : Int) := ⟨n.toNat, by omega⟩
    have HLD := Lib.hid (hld_eq hL.good a N q (by omega) (by omega) q0 q7)
    have HA := Lib.hid hA
    have HSM := Lib.hid hsm
    have HL := Lib.hid hL
    clear hA hL hsm
    go_enter Try.func17, Try.ntmps17
    go_wp2
    go_loopw [9] (fun z wr => RelHo lp q a N w z wr) (fun z _ => N - (intOf z).toNat)
    case atStart => exact ⟨0, rfl, by omega, fun j h => by omega, Fr.refl w⟩
    case round =>
      obtain ⟨k, rfl, hk, hall, hf⟩ := hrel
      have HF := Lib.hid hf
      have HAL := Lib.hid hall
      clear hf hall
      by_cases hkN : k < N
      · have hkn : (k : Int) < (N : Int) := by omega
        obtain ⟨a', ha'⟩ : ∃ a', (a + k) % 18446744073709551616 = a' := ⟨_, rfl⟩
        have ha2 : a' < 18446744073709551616 := by omega
        have hwr : IntKind.u64.wrap ((a : Int) + (k : Int)) = (a' : Int) := by
          rw [wrap64]; omega
        go_wp2
        go_loopw [12, 44] (fun y z wr2 => RelHi lw q a' wr y z wr2) (fun _ z _ => lw.length - (intOf z).toNat)
        case atStart => exact ⟨0, rfl, by omega, by simp [thB], Fr.refl wr⟩
        case round =>
          obtain ⟨i, rfl, hi, rfl, hf2⟩ := hrel
          have HF2 := Lib.hid hf2
          by_cases hlt : i < lw.length
          · obtain ⟨b, o, rfl, hx⟩ := (HA.out.fr (fun _ _ _ h => h.fr (HF.out.call hf2))).at hlt
            rw [Nat.mul_comm 3 i] at hx
            obtain ⟨s, hs, c0, c1, c2⟩ := hx
            have HN := Lib.hid (show thB (lw.take (i + 1)) q a' = (thB (lw.take i) q a' || (hitB lw[i] a' && prm (lw[i]).pm q)) by unfold thB; rw [List.take_succ_eq_append_getElem hlt, List.any_append]; simp)
            have hok := fun (h : hitB lw[i] a' = true) => (HL.out.good.ok _ (HL.out.mem (List.getElem_mem hlt) h))
            have hsz := HSM.out _ (List.getElem_mem hlt)
            have hpm : hitB lw[i] a' = true → bits BinOp.and IntKind.i64 (lw[i]).pm q = (((lw[i]).pm.toNat &&& q.toNat : Nat) : Int) := fun h => prm_and (hok h).lo (hok h).hi q0 q7
            have hpr : prm (lw[i]).pm q = decide ((lw[i]).pm.toNat &&& q.toNat = q.toNat) := rfl
            have hhit : hitB lw[i] a' = (decide ((lw[i]).pl ≤ a') && decide (a' < (lw[i]).pl + (lw[i]).bs.length)) := rfl
            have zb := lt_of_cell c0
            have hii : (i : Int) < (lw.length : Int) := by omega
            clear hs hf2 hok
            generalize (lw[i]).pl = pl at *
            generalize (lw[i]).pm = pm at *
            generalize (lw[i]).bs.length = nn at *
            generalize hitB lw[i] a' = hb at *
            generalize prm pm q = pb at *
            generalize htk : thB (lw.take i) q a' = tb at *
            clear htk
            cases tb with
            | true =>
              have HN2 := Lib.hid (show thB (lw.take (i + 1)) q a' = true by rw [HN.out]; rfl)
              clear HN hpm hpr hhit
              by_cases q1 : pl ≤ a'
              · go_wp2
                go_roundw
                case rel => exact ⟨i + 1, rfl, by omega, by rw [HN2.out], Fr.alloc HF2.out _⟩
                case measure => simp [intOf]; omega
              · have q1i : (a' : Int) < (pl : Int) := by omega
                go_wp2
                go_roundw
                case rel => exact ⟨i + 1, rfl, by omega, by rw [HN2.out], Fr.alloc HF2.out _⟩
                case measure => simp [intOf]; omega
            | false =>
              by_cases q1 : pl ≤ a'
              · obtain ⟨d, rfl⟩ : ∃ d, a' = pl + d := ⟨a' - pl, by omega⟩
                by_cases q2 : d < nn
                · have hbt : hb = true := by rw [hhit]; simp; omega
                  have hpm2 := hpm hbt
                  subst hbt
                  by_cases q3 : pm.toNat &&& q.toNat = q.toNat
                  · have hx : bits BinOp.and IntKind.i64 pm q = q := by rw [hpm2, q3]; omega
                    have HN2 := Lib.hid (show thB (lw.take (i + 1)) q (pl + d) = true by rw [HN.out, hpr, decide_eq_true q3]; rfl)
                    clear HN hpm hpr hhit hpm2 q3
                    go_wp2
                    refine ⟨?_, ?measure⟩
                    (repeat apply Exists.intro)
                    (first | refine ⟨?rel, rfl⟩ | refine ⟨?rel, rfl, rfl⟩ | refine ⟨?rel, rfl, rfl, rfl⟩ | refine ⟨?rel, rfl, rfl, rfl, rfl⟩ | refine ⟨?rel, rfl, rfl, rfl, rfl, rfl⟩ | refine ⟨?rel, rfl, rfl, rfl, rfl, rfl, rfl⟩ | refine ⟨?rel, rfl, rfl, rfl, rfl, rfl, rfl, rfl⟩ | refine ⟨?rel, rfl, rfl, rfl, rfl, rfl, rfl, rfl, rfl⟩)
                    case rel => exact ⟨i + 1, rfl, by omega, by rw [HN2.out], Fr.alloc HF2.out _⟩
                    case measure => simp [intOf]; omega
                  · have hx : ¬ bits BinOp.and IntKind.i64 pm q = q := by rw [hpm2]; omega
                    have HN2 := Lib.hid (show thB (lw.take (i + 1)) q (pl + d) = false by rw [HN.out, hpr, decide_eq_false q3]; rfl)
                    clear HN hpm hpr hhit hpm2 q3
                    go_wp2
                    refine ⟨?_, ?measure⟩
                    (repeat apply Exists.intro)
                    (first | refine ⟨?rel, rfl⟩ | refine ⟨?rel, rfl, rfl⟩ | refine ⟨?rel, rfl, rfl, rfl⟩ | refine ⟨?rel, rfl, rfl, rfl, rfl⟩ | refine ⟨?rel, rfl, rfl, rfl, rfl, rfl⟩ | refine ⟨?rel, rfl, rfl, rfl, rfl, rfl, rfl⟩ | refine ⟨?rel, rfl, rfl, rfl, rfl, rfl, rfl, rfl⟩ | refine ⟨?rel, rfl, rfl, rfl, rfl, rfl, rfl, rfl, rfl⟩)
                    case rel => exact ⟨i + 1, rfl, by omega, by rw [HN2.out]; simp [hx], Fr.alloc HF2.out _⟩
                    case measure => simp [intOf]; omega
                · have hbt : hb = false := by rw [hhit]; simp; omega
                  subst hbt
                  have HN2 := Lib.hid (show thB (lw.take (i + 1)) q (pl + d) = false by rw [HN.out]; rfl)
                  clear HN hpm hpr hhit
                  go_wp2
                  refine ⟨?_, ?measure⟩
                  (repeat apply Exists.intro)
                  (first | refine ⟨?rel, rfl⟩ | refine ⟨?rel, rfl, rfl⟩ | refine ⟨?rel, rfl, rfl, rfl⟩ | refine ⟨?rel, rfl, rfl, rfl, rfl⟩ | refine ⟨?rel, rfl, rfl, rfl, rfl, rfl⟩ | refine ⟨?rel, rfl, rfl, rfl, rfl, rfl, rfl⟩ | refine ⟨?rel, rfl, rfl, rfl, rfl, rfl, rfl, rfl⟩ | refine ⟨?rel, rfl, rfl, rfl, rfl, rfl, rfl, rfl, rfl⟩)
                  case rel => exact ⟨i + 1, rfl, by omega, by rw [HN2.out], Fr.alloc HF2.out _⟩
                  case measure => simp [intOf]; omega
              · have q1i : (a' : Int) < (pl : Int) := by omega
                have hbt : hb = false := by rw [hhit]; simp; omega
                subst hbt
                have HN2 := Lib.hid (show thB (lw.take (i + 1)) q a' = false by rw [HN.out]; rfl)
                clear HN hpm hpr hhit
                go_wp2
                go_roundw
                case rel => exact ⟨i + 1, rfl, by omega, by rw [HN2.out], Fr.alloc HF2.out _⟩
                case measure => simp [intOf]; omega
          · obtain rfl : i = lw.length := by omega
            rw [List.take_length]
            have HT := Lib.hid (th_cel HL.out q a')
            by_cases hb : a + k < 18446744073709551616
            · obtain rfl : a' = a + k := by omega
              cases ht : thB lw q (a + k) with
              | true =>
                have HT2 := Lib.hid (show (cel lp q (a + k)).isSome = true by rw [← HT.out, ht])
                clear ht hf2
                go_wp2
                go_roundw
                case rel => exact ⟨k + 1, rfl, by omega, fun j hj => by
                  by_cases e : j = k
                  · subst e; exact HT2.out
                  · exact HAL.out j (by omega), HF.out.call HF2.out⟩
                case measure => simp [intOf]; omega
              | false =>
                have HD := Lib.hid (show hldB lp a (N : Int) q = false by
                  cases hh : hldB lp a (N : Int) q with
                  | false => rfl
                  | true => have := HLD.out.1 hh k hkN; rw [← HT.out, ht] at this; cases this)
                clear ht hf2
                go_wp2
                go_ret
                exact ⟨by rw [HD.out]; rfl, HF.out.call HF2.out⟩
            · have hlt2 : a' < a := by omega
              have hlti : (a' : Int) < (a : Int) := by omega
              have HD := Lib.hid (show hldB lp a (N : Int) q = false by
                cases hh : hldB lp a (N : Int) q with
                | false => rfl
                | true => have := HLD.out.1 hh k hkN; rw [cel_over HL.out.good q (by omega)] at this; cases this)
              clear hf2 ha'
              go_wp2
              go_ret
              exact ⟨by rw [HD.out]; rfl, HF.out.call HF2.out⟩
      · obtain rfl : k = N := by omega
        have HD := Lib.hid (HLD.out.2 HAL.out)
        go_wp2
        go_ret
        exact ⟨by rw [HD.out]; rfl, HF.out⟩
  · have HN := Lib.hid (show hldB lp a n q = false by
      cases hh : hldB lp a n q with
      | false => rfl
      | true => unfold hldB at hh; simp only [Bool.and_eq_true, decide_eq_true_eq] at hh; exact absurd ⟨hh.1.1, hh.1.2⟩ hin)
    clear hA hL hsm
    by_cases q1 : 1 ≤ n
    · by_cases q2 : n ≤ 8
      · by_cases q3 : 0 ≤ q
        · have q4 : 7 < q := by omega
          go_enter Try.func17, Try.ntmps17
          go_wp2
          go_ret
          exact ⟨by rw [HN.out]; rfl, Fr.refl _⟩
        · have q4 : q < 0 := by omega
          go_enter Try.func17, Try.ntmps17
          go_wp2
          go_ret
          exact ⟨by rw [HN.out]; rfl, Fr.refl _⟩
      · have q4 : 8 < n := by omega
        go_enter Try.func17, Try.ntmps17
        go_wp2
        go_ret
        exact ⟨by rw [HN.out]; rfl, Fr.refl _⟩
    · have q4 : n < 1 := by omega
      go_enter Try.func17, Try.ntmps17
      go_wp2
      go_ret
      exact ⟨by rw [HN.out]; rfl, Fr.refl _⟩
end Go.Proofs.Ytelfokoibmpdlaa
