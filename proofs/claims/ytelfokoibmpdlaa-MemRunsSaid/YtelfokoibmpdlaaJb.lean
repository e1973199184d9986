/- The document's Place: the region and the place within it of an address with a permission. -/
import Derived.Test.YtelfokoibmpdlaaJa
import Derived.Test.YtelfokoibmpdlaaMj
namespace Go.Proofs.Ytelfokoibmpdlaa
open Go.RowKit
set_option linter.unusedSimpArgs false
set_option linter.unusedVariables false

/-- What Place answers. -/
def plcV (lw : List Rg) (a : Nat) : Option Nat → Value
  | none => .tuple #[.int .i64 (-1), .int .i64 0]
  | some i => .tuple #[.int .i64 (i : Int), .int .i64 ((a - (lw.getD i default).pl : Nat) : Int)]
def RelPl (lw : List Rg) (q : Int) (a : Nat) (w : World) (i : Value) (wr : World) : Prop := ∃ k : Nat, i = .int .i64 (k : Int) ∧ k ≤ lw.length ∧ (∀ j, ∀ h : j < lw.length, j < k → (hitB lw[j] a && perB lw[j] q) = false) ∧ Fr w wr
set_option maxHeartbeats 6400000 in
set_option maxRecDepth 100000 in
theorem place_any (A : Option Addr) (lw : List Rg) (c : Nat) (w : World) (hA : RowOf RgAt 3 w A lw) (hlen : lw.length ≤ 64) (hsm : ∀ r ∈ lw, r.bs.length ≤ 67108864) (a : Nat) (ha : a < 18446744073709551616) (q : Int) (hq : q = 1 ∨ q = 2 ∨ q = 4) :
    Calls Try.prog 29 #[.slice A lw.length c, .int .u64 (a : Int), .int .i64 q] w fun e w' => e = .returned (plcV lw a (plc lw q a)) ∧ Fr w w' := by
  have HA := Lib.hid hA
  have HSM := Lib.hid hsm
  have hq0 : ¬ q = 0 := by omega
  have hqm : ¬ q = -1 := by omega
  clear hA hsm
  go_enter Try.func29, Try.ntmps29
  go_wp2
  go_loopw [12] (fun i wr => RelPl lw q a w i wr) (fun i _ => lw.length - (intOf i).toNat)
  case atStart => exact ⟨0, rfl, by omega, fun j h h2 => by omega, Fr.refl w⟩
  case round =>
    obtain ⟨k, rfl, hk, hno, hf⟩ := hrel
    have HF := Lib.hid hf
    by_cases hlt : k < lw.length
    · obtain ⟨b, o, rfl, hx⟩ := (HA.out.fr (fun _ _ _ h => h.fr hf)).at hlt
      rw [Nat.mul_comm 3 k] at hx
      obtain ⟨s, hs, c0, c1, c2⟩ := hx
      have hN : (hitB lw[k] a && perB lw[k] q) = false → ∀ j, ∀ h : j < lw.length, j < k + 1 → (hitB lw[j] a && perB lw[j] q) = false := fun h j hj h2 => by
        by_cases e : j = k
        · subst e; exact h
        · exact hno j hj (by omega)
      have hY : (hitB lw[k] a && perB lw[k] q) = true → plc lw q a = some k := fun h => by
        unfold plc
        rw [List.findIdx?_eq_some_iff_getElem]
        exact ⟨hlt, h, fun j hj => by have := hno j (by omega) hj; simp [this]⟩
      have HN := Lib.hid hN
      have HY := Lib.hid hY
      have hD : lw.getD k default = lw[k] := by simp [List.getD, hlt]
      have HD := Lib.hid hD
      have hsz := HSM.out _ (List.getElem_mem hlt)
      have hsn := hs.num
      have hper : perB lw[k] q = decide (Int.tmod (Int.tdiv (lw[k]).pm q) 2 = 1) := rfl
      have hhit : hitB lw[k] a = (decide ((lw[k]).pl ≤ a) && decide (a < (lw[k]).pl + (lw[k]).bs.length)) := rfl
      have hki : (k : Int) < (lw.length : Int) := by omega
      have zb := lt_of_cell c0
      clear hN hY hs hf hno
      generalize hpl : (lw[k]).pl = pl at *
      generalize hpm : (lw[k]).pm = pm at *
      generalize hbl : (lw[k]).bs.length = n at *
      have h64a : -9223372036854775808 ≤ pm := hpm ▸ hsn.lo
      have h64b : pm ≤ 9223372036854775807 := hpm ▸ hsn.hi
      clear hsn hbl
      by_cases q1 : pl ≤ a
      · obtain ⟨d, rfl⟩ : ∃ d, a = pl + d := ⟨a - pl, by omega⟩
        by_cases q2 : d < n
        · have hh : hitB lw[k] (pl + d) = true := by rw [hhit]; simp; omega
          rw [hh, Bool.true_and, hper] at HN HY
          clear hh hhit hper
          by_cases q3 : Int.tmod (Int.tdiv pm q) 2 = 1
          · have HY2 := Lib.hid (HY.out (decide_eq_true q3))
            have HV := Lib.hid (show plcV lw (pl + d) (some k) = .tuple #[.int .i64 (k : Int), .int .i64 (d : Int)] by simp only [plcV]; rw [HD.out, hpl, Nat.add_sub_cancel_left])
            clear HN HY hpl
            go_wp2
            go_quiet (fail)
            go_wp2
            go_ret2
            exact ⟨(ret2_eq rfl (congrArg (Value.int .i64) (show (pl : Int) + (d : Int) - (pl : Int) = (d : Int) by omega))).trans (by rw [HY2.out, HV.out]; rfl), Fr.drewN (Fr.alloc HF.out _) _⟩
          · have HN2 := Lib.hid (HN.out (decide_eq_false q3))
            clear HN HY hpl
            go_wp2
            refine ⟨?_, ?measure⟩
            (repeat apply Exists.intro)
            refine ⟨?rel, rfl⟩
            case rel => exact ⟨k + 1, rfl, by omega, HN2.out, Fr.alloc HF.out _⟩
            case measure => simp [intOf]; omega
        · have hh : hitB lw[k] (pl + d) = false := by rw [hhit]; simp; omega
          rw [hh, Bool.false_and] at HN
          have HN2 := Lib.hid (HN.out rfl)
          clear HN HY hpl hh hhit hper
          go_wp2
          refine ⟨?_, ?measure⟩
          (repeat apply Exists.intro)
          refine ⟨?rel, rfl, rfl, rfl, rfl, rfl⟩
          case rel => exact ⟨k + 1, rfl, by omega, HN2.out, Fr.alloc HF.out _⟩
          case measure => simp [intOf]; omega
      · have hh : hitB lw[k] a = false := by rw [hhit]; simp; omega
        rw [hh, Bool.false_and] at HN
        have HN2 := Lib.hid (HN.out rfl)
        have q1i : (a : Int) < (pl : Int) := by omega
        clear HN HY hpl hh hhit hper
        go_wp2
        refine ⟨?rel, ?measure⟩
        case rel => exact ⟨k + 1, rfl, by omega, HN2.out, Fr.alloc HF.out _⟩
        case measure => simp [intOf]; omega
    · obtain rfl : k = lw.length := by omega
      have HP := Lib.hid (show plc lw q a = none by
        unfold plc
        rw [List.findIdx?_eq_none_iff]
        intro r hr
        obtain ⟨i, hi, rfl⟩ := List.getElem_of_mem hr
        exact hno i hi hi)
      go_wp2
      go_ret2
      exact ⟨by rw [HP.out]; rfl, HF.out⟩
end Go.Proofs.Ytelfokoibmpdlaa
