/- MemBack answers true. -/
import Derived.Test.YtelfokoibmpdlaaMq
import Derived.Test.YtelfokoibmpdlaaMn
namespace Go.Proofs.Ytelfokoibmpdlaa
open Go.RowKit
set_option linter.unusedSimpArgs false
set_option linter.unusedVariables false

theorem RowsAt.row {w : World} {B : Nat} {v : Value} {ps : List (Rg × Sl)} (h : RowsAt w B v ps) {l : List Rg} (hl : ps.map (·.1) = l) : ∃ A c, v = .slice A l.length c ∧ RowOf RgAt 3 w A l := by
  have hlen : ps.length = l.length := by rw [← hl]; simp
  obtain ⟨A, c, hv, h1, h2, h3, h4⟩ := h.val
  refine ⟨A, c, by rw [hv, hlen], fun h0 => ?_⟩
  rcases A with _ | a
  · have := h3 rfl; omega
  · obtain ⟨g, rfl, _, _, hg⟩ := h4 a rfl
    refine ⟨g, 0, rfl, fun i hi => ?_⟩
    have hp : ps[i]? = some (ps[i]'(by omega)) := List.getElem?_eq_getElem _
    have hx : (ps[i]'(by omega)).1 = l[i] := by
      have : (ps.map (·.1))[i]? = some (ps[i]'(by omega)).1 := by simp [hp]
      rw [hl, List.getElem?_eq_getElem hi] at this
      injection this with this; exact this.symm
    refine ⟨(ps[i]'(by omega)).2, by rw [← hx]; exact h.sl _ (List.getElem_mem _), ?_, ?_, ?_⟩
    · have := h.cell hg (t := 0) hp (by omega) rfl; rw [Nat.zero_add, Nat.mul_comm 3 i, ← hx]; exact this
    · have := h.cell hg (t := 1) hp (by omega) rfl; rw [Nat.zero_add, Nat.mul_comm 3 i, ← hx]; exact this
    · have := h.cell hg (t := 2) hp (by omega) rfl; rw [Nat.zero_add, Nat.mul_comm 3 i, ← hx]; exact this
theorem ld_one {l : List Rg} (hg : Good l) (a : Nat) : ldN l a 1 = cel l 4 a := by
  unfold ldN hldB
  have h1 : (1 : Int).toNat = 1 := rfl
  rw [h1, from_run hg]
  rcases hc : cel l 4 a with _ | b
  · simp [runB, hc]
  · simp [runB, hc, leN]
theorem ld_full {l : List Rg} (hg : Good l) {a : Nat} {n : Int} {v x : Nat} (h : ldN (upd l a (bytesN n.toNat v)) a n = some x) : x = v % 256 ^ n.toNat := by
  unfold ldN at h
  split at h
  · rename_i hh
    injection h with h
    have hg2 : Good (upd l a (bytesN n.toNat v)) := upd_good hg (bytesN_bys _ _)
    unfold hldB at hh
    simp only [Bool.and_eq_true, decide_eq_true_eq] at hh
    obtain ⟨⟨⟨hn1, hn8⟩, _⟩, hlen⟩ := hh
    rw [from_run hg2] at h hlen
    have e : runB (cel (upd l a (bytesN n.toNat v)) 4) a n.toNat = bytesN n.toNat v := by
      refine List.ext_getElem (by rw [bytesN_length]; omega) fun k h1 h2 => ?_
      have hk := runB_get n.toNat a k _ (List.getElem?_eq_getElem h1)
      rw [upd_cel] at hk
      cases hc : cel l 4 (a + k) with
      | none => rw [hc] at hk; cases hk
      | some b =>
        rw [hc] at hk
        simp only [Option.map_some, Option.some.injEq] at hk
        rw [if_pos (by omega), show a + k - a = k by omega, List.getD, List.getElem?_eq_getElem h2] at hk
        exact hk.symm
    rw [e, leN_bytesN] at h
    exact h.symm
  · cases h
theorem ld_look {l : List Rg} (hg : Good l) (a n v x : Nat) (hn : n ≤ 8) : (ldN (upd l a (bytesN n v)) x 1).isSome = (ldN l x 1).isSome ∧ ((x < a ∨ a + n ≤ x) → ldN (upd l a (bytesN n v)) x 1 = ldN l x 1) := by
  rw [ld_one hg, ld_one (upd_good hg (bytesN_bys _ _)), upd_cel]
  refine ⟨by cases cel l 4 x <;> rfl, fun h => ?_⟩
  cases cel l 4 x with
  | none => rfl
  | some b =>
    simp only [Option.map_some]
    congr 1
    split
    · rw [List.getD, List.getElem?_eq_none (by rw [bytesN_length]; omega)]; rfl
    · rfl
/-- The law's own Op. -/
structure OpAt (w : World) (b a : Nat) (n : Int) (v : Nat) : Prop where
  at_ : w.cell? ⟨b, 1, none⟩ = some (.int .u64 (a : Int))
  n : w.cell? ⟨b, 2, none⟩ = some (.int .i64 n)
  v : w.cell? ⟨b, 3, none⟩ = some (.int .u64 (v : Int))
  f : w.frozen? ⟨b, 3, none⟩ = false
theorem OpAt.kp {S : Nat → Prop} {w w' : World} {b a : Nat} {n : Int} {v : Nat} (h : OpAt w b a n v) (k : Kp S w w') (hn : ¬ S b) : OpAt w' b a n v := ⟨k.get hn h.at_, k.get hn h.n, k.get hn h.v, k.free hn h.v h.f⟩
theorem OpAt.fr {w w' : World} {b a : Nat} {n : Int} {v : Nat} (h : OpAt w b a n v) (k : Fr w w') : OpAt w' b a n v := h.kp (S := fun _ => False) (Kp.of k) id
set_option maxHeartbeats 12800000 in
set_option maxRecDepth 100000 in
theorem back_walk (A : Option Addr) (c : Nat) (l0 : List Rg) (kd : Int) (a : Nat) (n : Int) (v look : Nat) (w : World) (hA : RowOf RgAt 3 w A l0) (hlen : l0.length * 40 ≤ 140737488351232) (hby : ∀ r ∈ l0, r.bs.length ≤ 140737488351232)
    (ha : a < 18446744073709551616) (hv : v < 18446744073709551616) (hlook : look < 18446744073709551616) (hn0 : -9223372036854775808 ≤ n) (hn1 : n ≤ 9223372036854775807) :
    Calls Try.prog 5 #[.slice A l0.length c, .agg #[.int .i64 kd, .int .u64 (a : Int), .int .i64 n, .int .u64 (v : Int)], .int .u64 (look : Int)] w fun e w' => e = .returned (.bool true) ∧ Fr w w' := by
  have HA := Lib.hid hA
  have HCP := Lib.hid (fun (w1 : World) (k : Fr w w1) => copy_any A l0 c w1 (HA.out.fr fun _ _ _ h => h.fr k) hlen hby)
  have hlm : l0.length ≤ maxLen := by unfold maxLen; omega
  have HNW := Lib.hid (fun (A' : Option Addr) (c' : Nat) (w1 : World) (h : RowOf RgAt 3 w1 A' l0) => new_any A' l0 c' w1 h hlm hby)
  have HB0 := Lib.hid (show OpAt (w.alloc (.cells #[.int .i64 kd, .int .u64 (a : Int), .int .i64 n, .int .u64 (v : Int)] 34)) w.heap.size a n v from ⟨by simp, by simp, by simp, by simp⟩)
  have HW0 := Lib.hid (Fr.alloc (Fr.refl w) (.cells #[.int .i64 kd, .int .u64 (a : Int), .int .i64 n, .int .u64 (v : Int)] 34))
  clear hA hlen hby hlm
  go_enter Try.func5, Try.ntmps5
  go_wp2_with (go_at_call 7; refine (alive7 _).mono ?_; rintro e w1 ⟨rfl, hf⟩; have HF1 := Lib.hid (HW0.out.call hf); have HB1 := Lib.hid (HB0.out.fr hf); have hs1 := hf.size; clear hf)
  refine (HCP.out _ HF1.out).mono ?_
  rintro e w2 ⟨vv, ps, rfl, hps, hrows, hf2⟩
  obtain ⟨A', c', rfl, hrow⟩ := hrows.row hps
  have HF2 := Lib.hid (HF1.out.call hf2)
  have HB2 := Lib.hid (HB1.out.fr hf2)
  have HROW := Lib.hid hrow
  have hs2 := hf2.size
  clear hrows hrow hf2 hps
  go_wp2_with fail
  refine (HNW.out A' c' _ HROW.out).mono ?_
  rintro e w3 ⟨hnew, hf3⟩
  have HF3 := Lib.hid (HF2.out.call hf3)
  have HB3 := Lib.hid (HB2.out.fr hf3)
  have hs0 : w.heap.size + 1 ≤ w1.heap.size := by simpa using hs1
  rcases hnew with ⟨z, hz, rfl, _⟩ | ⟨M, l, rfl, _, _, hg, hl64, hm, hbm, hbr, hbg⟩
  · clear hf3
    go_wp2
    all_goals (go_ret; exact ⟨rfl, HF3.out⟩)
  · have HM3 := Lib.hid hm
    have HG := Lib.hid hg
    have HBG := Lib.hid hbg
    have HL1 := Lib.hid (load_any hg hm hl64 look hlook 1)
    have nG : ¬ GS M l.length w.heap.size := fun ⟨i, hi, e⟩ => by have := hbg i hi; omega
    have HNG := Lib.hid nG
    clear hf3 hm hg hbg nG hbr
    go_wp2_with fail
    refine HL1.out.mono ?_
    rintro e w4 ⟨rfl, hf4⟩
    have HF4 := Lib.hid (HF3.out.call hf4)
    have HB4 := Lib.hid (HB3.out.fr hf4)
    have HM4 := Lib.hid (HM3.out.fr hf4)
    obtain ⟨d1, d2, d3, d4⟩ := HB4.out
    have HST := Lib.hid (store_any HG.out HM4.out hl64 a ha n v hv)
    clear hf4
    go_wp2_with fail
    refine HST.out.mono ?_
    cases hok : hldB l a n 2 with
    | false =>
      rintro e w5 ⟨rfl, hk5, hf5, hm5⟩
      have hf5 := hf5 rfl
      rw [if_neg (by simp)] at hm5
      have HF5 := Lib.hid (HF4.out.call hf5)
      have HB5 := Lib.hid (HB4.out.fr hf5)
      have HM5 := Lib.hid hm5
      have HL2 := Lib.hid (load_any HG.out hm5 hl64 look hlook 1)
      clear hk5 hf5 hm5 d1 d2 d3 d4 hok
      go_wp2_with fail
      refine HL2.out.mono ?_
      rintro e w6 ⟨rfl, hf6⟩
      have HF6 := Lib.hid (HF5.out.call hf6)
      obtain ⟨d1, d2, d3, d4⟩ := HB5.out.fr hf6
      have HL3 := Lib.hid (load_any HG.out (HM5.out.fr hf6) hl64 a ha n)
      clear hf6
      by_cases q1 : a ≤ look
      · by_cases q2 : 0 < n
        · obtain ⟨nn, rfl⟩ : ∃ nn : Nat, n = (nn : Int) := ⟨n.toNat, by omega⟩
          go_wp2_with fail
          all_goals
            refine HL3.out.mono ?_
            rintro e w7 ⟨rfl, hf7⟩
            have HF7 := Lib.hid (HF6.out.call hf7)
            clear hf7
            go_wp2
            go_ret
            exact ⟨rfl, HF7.out⟩
        · go_wp2_with fail
          all_goals
            refine HL3.out.mono ?_
            rintro e w7 ⟨rfl, hf7⟩
            have HF7 := Lib.hid (HF6.out.call hf7)
            clear hf7
            go_wp2
            go_ret
            exact ⟨rfl, HF7.out⟩
      · go_wp2_with fail
        all_goals
          refine HL3.out.mono ?_
          rintro e w7 ⟨rfl, hf7⟩
          have HF7 := Lib.hid (HF6.out.call hf7)
          clear hf7
          go_wp2
          go_ret
          exact ⟨rfl, HF7.out⟩
    | true =>
      rintro e w5 ⟨rfl, hk5, _, hm5⟩
      rw [if_pos rfl] at hm5
      have hrange : 1 ≤ n ∧ n ≤ 8 := by
        unfold hldB at hok
        simp only [Bool.and_eq_true, decide_eq_true_eq] at hok
        exact hok.1.1
      obtain ⟨N, rfl⟩ : ∃ N : Nat, n = (N : Int) := ⟨n.toNat, by omega⟩
      rw [Int.toNat_natCast] at hm5
      have hN1 : 1 ≤ N := by omega
      have hN8 : N ≤ 8 := by omega
      have hG2 : Good (upd l a (bytesN N v)) := upd_good HG.out (bytesN_bys _ _)
      have hl2 : (upd l a (bytesN N v)).length ≤ 64 := by rw [upd_len]; exact hl64
      have hbase : ∀ x, GS M l.length x → w.heap.size ≤ x := fun x ⟨i, hi, e⟩ => by have := HBG.out i hi; omega
      have HF5 := Lib.hid (((Kp.of HF4.out).call hk5).to hbase)
      have HB5 := Lib.hid (HB4.out.kp hk5 HNG.out)
      have HM5 := Lib.hid hm5
      have HL2 := Lib.hid (load_any hG2 hm5 hl2 look hlook 1)
      have HLK := Lib.hid (ld_look HG.out a N v look hN8)
      have HFU := Lib.hid (fun x => ld_full (l := l) HG.out (a := a) (n := (N : Int)) (v := v) (x := x))
      rw [Int.toNat_natCast] at HFU
      clear hk5 hm5 d1 d2 d3 d4 hok hbase hrange hn0 hn1
      have HL3 := Lib.hid (fun (w6 : World) (k : Fr w5 w6) => load_any hG2 (HM5.out.fr k) hl2 a ha (N : Int))
      generalize ldN (upd l a (bytesN N v)) look 1 = x2 at *
      generalize ldN (upd l a (bytesN N v)) a (N : Int) = x3 at *
      generalize ldN l look 1 = x1 at *
      have hNi : (0 : Int) < (N : Int) := by omega
      by_cases hin : a ≤ look ∧ look < a + N
      · obtain ⟨q1, q2⟩ := hin
        obtain ⟨df, rfl⟩ : ∃ df, look = a + df := ⟨look - a, by omega⟩
        have q3 : df < N := by omega
        rw [HLK.out.1] at HL2
        clear HLK q2
        go_wp2_with fail
        refine HL2.out.mono ?_
        rintro e w6 ⟨rfl, hf6⟩
        have HF6 := Lib.hid (HF5.out.call hf6)
        obtain ⟨d1, d2, d3, d4⟩ := HB5.out.fr hf6
        have HL4 := Lib.hid (HL3.out w6 hf6)
        clear hf6
        go_wp2_with fail
        all_goals
          rcases x3 with _ | x
          · refine HL4.out.mono ?_
            rintro e w7 ⟨rfl, hf7⟩
            have HF7 := Lib.hid (HF6.out.call hf7)
            clear hf7
            go_wp2
            go_ret
            exact ⟨rfl, HF7.out⟩
          · obtain rfl := HFU.out x rfl
            have hc : N = 1 ∨ N = 2 ∨ N = 3 ∨ N = 4 ∨ N = 5 ∨ N = 6 ∨ N = 7 ∨ N = 8 := by omega
            clear HFU HL3
            rcases hc with rfl | rfl | rfl | rfl | rfl | rfl | rfl | rfl
            all_goals
              refine HL4.out.mono ?_
              rintro e w7 ⟨rfl, hf7⟩
              have HF7 := Lib.hid (HF6.out.call hf7)
              obtain ⟨e1, e2, e3, e4⟩ := OpAt.fr ⟨d1, d2, d3, d4⟩ hf7
              clear hf7
              go_wp2
              go_ret
              exact ⟨by first | rfl | exact ret_bool (by simp; omega), by first | exact HF7.out | exact HF7.out.set (Nat.le_refl _) _⟩
      · have hx : x2 = x1 := HLK.out.2 (by omega)
        subst hx
        clear HLK hin
        go_wp2_with fail
        refine HL2.out.mono ?_
        rintro e w6 ⟨rfl, hf6⟩
        have HF6 := Lib.hid (HF5.out.call hf6)
        obtain ⟨d1, d2, d3, d4⟩ := HB5.out.fr hf6
        have HL4 := Lib.hid (HL3.out w6 hf6)
        clear hf6
        go_wp2_with fail
        all_goals
          rcases x3 with _ | x
          · refine HL4.out.mono ?_
            rintro e w7 ⟨rfl, hf7⟩
            have HF7 := Lib.hid (HF6.out.call hf7)
            clear hf7
            go_wp2
            go_ret
            exact ⟨rfl, HF7.out⟩
          · obtain rfl := HFU.out x rfl
            have hc : N = 1 ∨ N = 2 ∨ N = 3 ∨ N = 4 ∨ N = 5 ∨ N = 6 ∨ N = 7 ∨ N = 8 := by omega
            clear HFU HL3
            rcases hc with rfl | rfl | rfl | rfl | rfl | rfl | rfl | rfl
            all_goals
              refine HL4.out.mono ?_
              rintro e w7 ⟨rfl, hf7⟩
              have HF7 := Lib.hid (HF6.out.call hf7)
              obtain ⟨e1, e2, e3, e4⟩ := OpAt.fr ⟨d1, d2, d3, d4⟩ hf7
              clear hf7
              go_wp2
              go_ret
              exact ⟨by first | rfl | exact ret_bool (by simp; omega), by first | exact HF7.out | exact HF7.out.set (Nat.le_refl _) _⟩
end Go.Proofs.Ytelfokoibmpdlaa
