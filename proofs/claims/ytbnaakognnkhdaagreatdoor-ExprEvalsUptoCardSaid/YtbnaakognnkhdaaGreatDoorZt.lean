/- The program's Eval. -/
import Derived.Test.YtbnaakognnkhdaaGreatDoorZm
import Derived.Test.YtbnaakognnkhdaaGreatDoorNl
import Derived.Test.YtbnaakognnkhdaaGreatDoorShelf
namespace Go.Proofs.YtbnaakognnkhdaaGreatDoor
open Go.RowKit
set_option linter.unusedSimpArgs false
set_option linter.unusedVariables false

theorem idxFrom_fnd (names : List ByteArray) (s : ByteArray) : ∀ (m j : Nat), names.length - j = m → j ≤ names.length → Lib.idxFromS (names.drop j) s j = fndK names s j := by
  intro m
  induction m with
  | zero =>
    intro j h1 h2
    obtain rfl : j = names.length := by omega
    rw [List.drop_length, fndK_end]
    rfl
  | succ m ih =>
    intro j h1 h2
    have hj : j < names.length := by omega
    rw [List.drop_eq_getElem_cons hj, fndK_at hj, Lib.idxFromS, ih (j + 1) (by omega) (by omega)]
theorem idx_fnd (names : List ByteArray) (s : ByteArray) : Lib.idxOfS names s = fndK names s 0 := idxFrom_fnd names s _ 0 rfl (Nat.zero_le _)
theorem index_any (names : List ByteArray) (s : ByteArray) (N : Option Addr) (cn p : Nat) (w : World) (hp : names.length = p) (h3 : SmS names) (hN : Rd strv w N names) :
    Calls Tryz.prog 28 #[.slice N p cn, .string s] w fun e w' => e = .returned (.int .i64 (fndK names s 0)) ∧ w' = w := by
  subst hp
  rw [← idx_fnd]
  by_cases h0 : names = []
  · subst h0
    exact Tryz.slices_Index_string_empty N cn s w
  · have hl : 0 < names.length := List.length_pos_iff.2 h0
    obtain ⟨g, o, rfl, _, hc⟩ := hN (by omega)
    have h := Tryz.slices_Index_string g o names.length cn names s w (Nat.le_refl _) (by have := h3.1; omega) (fun j hj => by
      rw [hc j hj]
      simp [List.getD, List.getElem?_eq_getElem hj, strv])
    rw [List.take_length] at h
    exact h
def RelEv (ss : List ByteArray) (ts : List Int) (off : Int) (names : List ByteArray) (vals : List Int) (W : World) (s8 s20 : Value) (wr : World) : Prop :=
  ∃ (i : Nat) (v : Int), i ≤ ss.length ∧ s8 = .int .i64 v ∧ s20 = .int .i64 (i : Int) ∧ evalK ss ts names vals 0 off = evalK ss ts names vals i v ∧ Fr W wr
set_option maxHeartbeats 6400000 in
set_option maxRecDepth 100000 in
theorem evalx_any (ss : List ByteArray) (ts : List Int) (off : Int) (names : List ByteArray) (vals : List Int) (A B N V : Option Addr) (c d cn cv n m p q : Nat) (w : World) (hn : ss.length = n) (hm : ts.length = m) (hp : names.length = p) (hq : vals.length = q)
    (h1 : SmS ss) (h2 : SmT ts) (h3 : SmS names) (h4 : SmT vals) (ha : Rd strv w A ss) (hb : Rd intv w B ts) (hN : Rd strv w N names) (hV : Rd intv w V vals) :
    Calls Tryz.prog 16 #[.agg #[.slice A n c, .slice B m d, .int .i64 off], .slice N p cn, .slice V q cv] w fun e w' => e = .returned (.tuple #[.int .i64 (evalL ss ts off names vals).1, .bool (evalL ss ts off names vals).2]) ∧ Fr w w' := by
  have HNO := Lib.hid (fun (w1 : World) (k : Fr w w1) => isNormal_any ss ts off A B c d n m w1 hn hm h1 h2 (ha.fr k) (hb.fr k))
  have HIX := Lib.hid (fun (w1 : World) (k : Fr w w1) (s : ByteArray) => index_any names s N cn p w1 hp h3 (hN.fr k))
  have hp1 : p ≤ 9223372036854775807 := by have := h3.1; omega
  have hq1 : q ≤ 9223372036854775807 := by have := h4.1; omega
  have hn1 : n ≤ 9223372036854775807 := by have := h1.1; omega
  have HA := Lib.hid ha
  have HB := Lib.hid hb
  have HV := Lib.hid hV
  have HLA := Lib.hid hn
  have HLB := Lib.hid hm
  have HLN := Lib.hid hp
  have HLV := Lib.hid hq
  have HF0 := Lib.hid ((Fr.refl w).alloc (.cells #[.slice A n c, .slice B m d, .int .i64 off] 25))
  have HX := Lib.hid (BlkC.alloc (w := w) (t := 25) (cs := #[.slice A n c, .slice B m d, .int .i64 off]))
  by_cases hno : normB ss ts = true
  · have HE := Lib.hid (show evalL ss ts off names vals = evalK ss ts names vals 0 off by unfold evalL; rw [if_pos hno])
    have hlen : n = m := by
      unfold normB at hno
      simp only [Bool.and_eq_true, decide_eq_true_eq] at hno
      omega
    subst hlen
    rw [hno] at HNO
    clear ha hb hN hV hn hm hp hq h1 h2 h3 h4 hno
    generalize evalL ss ts off names vals = R at *
    go_enter Tryz.func16, Tryz.ntmps16
    go_wp2_with ((go_at_call 18; refine (HNO.out _ HF0.out).mono ?_; rintro e w1 ⟨rfl, hf1⟩; have HF1 := Lib.hid (HF0.out.call hf1); obtain ⟨x0, x1, x2⟩ := (HX.out.fr hf1).three; have zw := lt_of_cell x0; clear hf1))
    go_loopw [8, 20] (fun s8 s20 wr => RelEv ss ts off names vals w1 s8 s20 wr) (fun _ s20 _ => n - (intOf s20).toNat)
    case atStart => exact ⟨0, off, Nat.zero_le _, rfl, rfl, rfl, Fr.refl _⟩
    case round =>
      obtain ⟨i, v, hi, rfl, rfl, hev, hfr⟩ := hrel
      rw [HLA.out] at hi
      have HEV := Lib.hid hev
      have HFR := Lib.hid (HF1.out.call hfr)
      have HFW := Lib.hid hfr
      have X0 := hfr.get x0
      have X1 := hfr.get x1
      have X2 := hfr.get x2
      have zr := lt_of_cell X0
      clear hev hfr
      by_cases hlt : i < n
      · have hxa : i < ss.length := by rw [HLA.out]; exact hlt
        have hxb : i < ts.length := by rw [HLB.out]; exact hlt
        obtain ⟨ga, oa, rfl, _, hca⟩ := HA.out (by omega)
        obtain ⟨gb, ob, rfl, _, hcb⟩ := HB.out (by omega)
        have a1 : wr.cell? ⟨ga, oa + i, none⟩ = some (.string ss[i]) := HFR.out.get (hca i hxa)
        have b1 : wr.cell? ⟨gb, ob + i, none⟩ = some (.int .i64 ts[i]) := HFR.out.get (hcb i hxb)
        have zla := lt_of_cell a1
        have zlb := lt_of_cell b1
        have HKN := Lib.hid (evalK_none (ss := ss) (ts := ts) (names := names) (vals := vals) (i := i) (v := v) hxa)
        have HKF := Lib.hid (fun (q : Nat) => evalK_far (ss := ss) (ts := ts) (names := names) (vals := vals) (i := i) (v := v) hxa (q := q))
        have HKS := Lib.hid (fun (q : Nat) => evalK_some (ss := ss) (ts := ts) (names := names) (vals := vals) (i := i) (v := v) hxa hxb (q := q))
        have HI := Lib.hid (HIX.out wr HFR.out ss[i])
        clear hca hcb
        generalize ss[i] = s at *
        generalize ts[i] = t at *
        rcases fndK_range names s 0 with hf | ⟨f, hfl, hf⟩
        · have HK := Lib.hid (HKN.out hf)
          rw [hf] at HI
          clear hf
          go_wp2_with (go_at_call 28; refine HI.out.mono ?_; rintro e w2 ⟨rfl, rfl⟩)
          go_ret2
          exact ⟨pair_ret (by rw [HE.out, HEV.out, HK.out]), HFR.out⟩
        · rw [hf] at HI
          have hf63 : f ≤ 9223372036854775807 := by rw [HLN.out] at hfl; omega
          by_cases hfv : f < q
          · have hxv : f < vals.length := by rw [HLV.out]; exact hfv
            have HK := Lib.hid (HKS.out f hf hxv)
            obtain ⟨gv, ov, rfl, _, hcv⟩ := HV.out (by omega)
            have v1 : wr.cell? ⟨gv, ov + f, none⟩ = some (.int .i64 vals[f]) := HFR.out.get (hcv f hxv)
            have zlv := lt_of_cell v1
            clear hcv hf
            generalize vals[f] = x at *
            go_wp2_with (go_at_call 28; refine HI.out.mono ?_; rintro e w2 ⟨rfl, rfl⟩)
            go_quiet (fail)
            go_wp2
            go_roundw
            case rel => exact ⟨i + 1, _, by rw [HLA.out]; omega, rfl, by go_num, by rw [HEV.out, HK.out], Fr.drewN HFW.out _⟩
            case measure => simp [intOf]; omega
          · have HK := Lib.hid (HKF.out f hf (by rw [HLV.out]; omega))
            clear hf
            go_wp2_with (go_at_call 28; refine HI.out.mono ?_; rintro e w2 ⟨rfl, rfl⟩)
            go_ret2
            exact ⟨pair_ret (by rw [HE.out, HEV.out, HK.out]), HFR.out⟩
      · obtain rfl : i = n := by omega
        go_wp2
        go_ret2
        exact ⟨pair_ret (by rw [HE.out, HEV.out, ← HLA.out, evalK_end]), HFR.out⟩
  · have hno' : normB ss ts = false := by simpa using hno
    have HE := Lib.hid (show evalL ss ts off names vals = (0, false) by unfold evalL; rw [hno']; rfl)
    rw [hno'] at HNO
    clear ha hb hN hV hn hm hp hq h1 h2 h3 h4 hno hno'
    go_enter Tryz.func16, Tryz.ntmps16
    go_wp2_with ((go_at_call 18; refine (HNO.out _ HF0.out).mono ?_; rintro e w1 ⟨rfl, hf1⟩; have HF1 := Lib.hid (HF0.out.call hf1); clear hf1))
    go_ret2
    exact ⟨pair_ret HE.out, HF1.out⟩
theorem eval_c : EvalC := by
  intro a F u names vals N V cn cv p q w hs h3 h4 hp hq h hN hV
  obtain ⟨A, B, c, d, rfl, h1, h2, _⟩ := h
  exact evalx_any a.ss a.ts a.off names vals A B N V c d cn cv _ _ p q w rfl rfl hp hq hs.1 hs.2.1 h3 h4 h1 h2 hN hV
end Go.Proofs.YtbnaakognnkhdaaGreatDoor
