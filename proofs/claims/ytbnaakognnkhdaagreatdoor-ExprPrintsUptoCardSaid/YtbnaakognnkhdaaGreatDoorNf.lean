/- The value of a sum: the document's Eval. -/
import Derived.Test.YtbnaakognnkhdaaGreatDoorNd
namespace Go.Proofs.YtbnaakognnkhdaaGreatDoor
open Go.RowKit
set_option linter.unusedSimpArgs false
set_option linter.unusedVariables false

/-- The first place from j on that has the name, or -1. -/
def fndK (names : List ByteArray) (s : ByteArray) (j : Nat) : Int := if h : j < names.length then if names[j] = s then (j : Int) else fndK names s (j + 1) else -1
termination_by names.length - j
theorem fndK_end (names : List ByteArray) (s : ByteArray) : fndK names s names.length = -1 := by rw [fndK]; simp
theorem fndK_at {names : List ByteArray} {s : ByteArray} {j : Nat} (h : j < names.length) : fndK names s j = if names[j] = s then (j : Int) else fndK names s (j + 1) := by rw [fndK]; simp [h]
theorem fndK_range (names : List ByteArray) (s : ByteArray) (j : Nat) : fndK names s j = -1 ∨ ∃ q : Nat, q < names.length ∧ fndK names s j = (q : Int) := by
  by_cases h : j < names.length
  · rw [fndK_at h]
    by_cases e : names[j] = s
    · rw [if_pos e]; exact .inr ⟨j, h, rfl⟩
    · rw [if_neg e]; exact fndK_range names s (j + 1)
  · rw [fndK, dif_neg h]; exact .inl rfl
termination_by names.length - j
/-- The value of a sum from its i-th symbol on. -/
def evalK (ss : List ByteArray) (ts : List Int) (names : List ByteArray) (vals : List Int) (i : Nat) (v : Int) : Int × Bool :=
  if h : i < ss.length then
    match vals[(fndK names ss[i] 0).toNat]? with
    | some x => if fndK names ss[i] 0 < 0 then (0, false) else evalK ss ts names vals (i + 1) (wrap64 (v + wrap64 (ts.getD i 0 * x)))
    | none => (0, false)
  else (v, true)
termination_by ss.length - i
def evalL (ss : List ByteArray) (ts : List Int) (off : Int) (names : List ByteArray) (vals : List Int) : Int × Bool := if normB ss ts then evalK ss ts names vals 0 off else (0, false)
section
variable {ss : List ByteArray} {ts : List Int} {names : List ByteArray} {vals : List Int} {i : Nat} {v : Int}
theorem evalK_end : evalK ss ts names vals ss.length v = (v, true) := by rw [evalK]; simp
theorem evalK_none (h : i < ss.length) (hf : fndK names ss[i] 0 = -1) : evalK ss ts names vals i v = (0, false) := by
  rw [evalK, dif_pos h, hf]
  cases vals[(-1 : Int).toNat]? <;> simp
theorem evalK_far (h : i < ss.length) {q : Nat} (hf : fndK names ss[i] 0 = (q : Int)) (hq : vals.length ≤ q) : evalK ss ts names vals i v = (0, false) := by
  rw [evalK, dif_pos h, hf, Int.toNat_natCast, List.getElem?_eq_none hq]
theorem evalK_some (h : i < ss.length) (ht : i < ts.length) {q : Nat} (hf : fndK names ss[i] 0 = (q : Int)) (hq : q < vals.length) : evalK ss ts names vals i v = evalK ss ts names vals (i + 1) (wrap64 (v + wrap64 (ts[i] * vals[q]))) := by
  rw [evalK, dif_pos h, hf, Int.toNat_natCast, List.getElem?_eq_getElem hq]
  have hn : ¬ ((q : Int) < 0) := by omega
  simp [List.getD, List.getElem?_eq_getElem ht, hn]
end
theorem pair_ret {R : Int × Bool} {a : Int} {b : Bool} (h : R = (a, b)) : Ending.returned (.tuple #[.int .i64 a, .bool b]) = .returned (.tuple #[.int .i64 R.1, .bool R.2]) := by rw [h]
def RelE (ss : List ByteArray) (ts : List Int) (off : Int) (names : List ByteArray) (vals : List Int) (W : World) (s8 s21 : Value) (wr : World) : Prop :=
  ∃ (i : Nat) (v : Int), i ≤ ss.length ∧ s8 = .int .i64 v ∧ s21 = .int .i64 (i : Int) ∧ evalK ss ts names vals 0 off = evalK ss ts names vals i v ∧ Fr W wr
def RelF (names : List ByteArray) (s : ByteArray) (s11 s12 : Value) : Prop := ∃ q : Nat, q ≤ names.length ∧ s12 = .int .i64 ((q : Int) - 1) ∧ s11 = .int .i64 (fndK names s q)
set_option maxHeartbeats 6400000 in
set_option maxRecDepth 100000 in
theorem evall_any (ss : List ByteArray) (ts : List Int) (off : Int) (names : List ByteArray) (vals : List Int) (A B N V : Option Addr) (c d cn cv n m p q : Nat) (w : World) (hn : ss.length = n) (hm : ts.length = m) (hp : names.length = p) (hq : vals.length = q)
    (h1 : SmS ss) (h2 : SmT ts) (h3 : SmS names) (h4 : SmT vals) (ha : Rd strv w A ss) (hb : Rd intv w B ts) (hN : Rd strv w N names) (hV : Rd intv w V vals) :
    Calls Tryz.prog 17 #[.agg #[.slice A n c, .slice B m d, .int .i64 off], .slice N p cn, .slice V q cv] w fun e w' => e = .returned (.tuple #[.int .i64 (evalL ss ts off names vals).1, .bool (evalL ss ts off names vals).2]) ∧ Fr w w' := by
  have HNO := Lib.hid (fun (w1 : World) (k : Fr w w1) => normal_any ss ts off A B c d n m w1 hn hm h1 h2 (ha.fr k) (hb.fr k))
  have hp1 : p ≤ 9223372036854775807 := by have := h3.1; omega
  have hq1 : q ≤ 9223372036854775807 := by have := h4.1; omega
  have hn1 : n ≤ 9223372036854775807 := by have := h1.1; omega
  have HA := Lib.hid ha
  have HB := Lib.hid hb
  have HNN := Lib.hid hN
  have HV := Lib.hid hV
  have HLA := Lib.hid hn
  have HLB := Lib.hid hm
  have HLN := Lib.hid hp
  have HLV := Lib.hid hq
  have HF0 := Lib.hid ((Fr.refl w).alloc (.cells #[.slice A n c, .slice B m d, .int .i64 off] 25))
  have HX := Lib.hid (BlkC.alloc (w := w) (t := 25) (cs := #[.slice A n c, .slice B m d, .int .i64 off]))
  by_cases hno : normB ss ts = true
  · have HE := Lib.hid (show evalL ss ts off names vals = evalK ss ts names vals 0 off by unfold evalL; rw [if_pos hno])
    have hlen : n = m := by
      unfold normB at hno
      simp only [Bool.and_eq_true, decide_eq_true_eq] at hno
      omega
    subst hlen
    rw [hno] at HNO
    clear ha hb hN hV hn hm hp hq h1 h2 h3 h4 hno
    generalize evalL ss ts off names vals = R at *
    go_enter Tryz.func17, Tryz.ntmps17
    go_wp2_with ((go_at_call 11; refine (HNO.out _ HF0.out).mono ?_; rintro e w1 ⟨rfl, hf1⟩; have HF1 := Lib.hid (HF0.out.call hf1); obtain ⟨x0, x1, x2⟩ := (HX.out.fr hf1).three; have zw := lt_of_cell x0; clear hf1))
    go_loopw [8, 21] (fun s8 s21 wr => RelE ss ts off names vals w1 s8 s21 wr) (fun _ s21 _ => n - (intOf s21).toNat)
    case atStart => exact ⟨0, off, Nat.zero_le _, rfl, rfl, rfl, Fr.refl _⟩
    case round =>
      obtain ⟨i, v, hi, rfl, rfl, hev, hfr⟩ := hrel
      rw [HLA.out] at hi
      have HEV := Lib.hid hev
      have HFR := Lib.hid (HF1.out.call hfr)
      have HFW := Lib.hid hfr
      have X0 := hfr.get x0
      have X1 := hfr.get x1
      have X2 := hfr.get x2
      have zr := lt_of_cell X0
      clear hev hfr
      by_cases hlt : i < n
      · have hxa : i < ss.length := by rw [HLA.out]; exact hlt
        have hxb : i < ts.length := by rw [HLB.out]; exact hlt
        obtain ⟨ga, oa, rfl, _, hca⟩ := HA.out (by omega)
        obtain ⟨gb, ob, rfl, _, hcb⟩ := HB.out (by omega)
        have a1 : wr.cell? ⟨ga, oa + i, none⟩ = some (.string ss[i]) := HFR.out.get (hca i hxa)
        have b1 : wr.cell? ⟨gb, ob + i, none⟩ = some (.int .i64 ts[i]) := HFR.out.get (hcb i hxb)
        have zla := lt_of_cell a1
        have zlb := lt_of_cell b1
        have HKN := Lib.hid (evalK_none (ss := ss) (ts := ts) (names := names) (vals := vals) (i := i) (v := v) hxa)
        have HKF := Lib.hid (fun (q : Nat) => evalK_far (ss := ss) (ts := ts) (names := names) (vals := vals) (i := i) (v := v) hxa (q := q))
        have HKS := Lib.hid (fun (q : Nat) => evalK_some (ss := ss) (ts := ts) (names := names) (vals := vals) (i := i) (v := v) hxa hxb (q := q))
        clear hca hcb
        generalize ss[i] = s at *
        generalize ts[i] = t at *
        go_wp2
        go_loop [11, 12] (fun s11 s12 => RelF names s s11 s12) (fun _ s12 => (intOf s12 + 1).toNat)
        case atStart => exact ⟨p, by rw [HLN.out]; omega, by go_num, by rw [← HLN.out, fndK_end]⟩
        case round =>
          obtain ⟨k, hk, rfl, rfl⟩ := hrel
          rw [HLN.out] at hk
          by_cases hk0 : 0 < k
          · obtain ⟨j, rfl⟩ : ∃ j, k = j + 1 := ⟨k - 1, by omega⟩
            have hxn : j < names.length := by rw [HLN.out]; omega
            obtain ⟨gn, on, rfl, _, hcn⟩ := HNN.out (by omega)
            have n1 : wr.cell? ⟨gn, on + j, none⟩ = some (.string names[j]) := HFR.out.get (hcn j hxn)
            have zln := lt_of_cell n1
            have HAT := Lib.hid (fndK_at (s := s) hxn)
            have ej : ((j + 1 : Nat) : Int) - 1 = (j : Int) := by omega
            rw [ej]
            clear hcn
            generalize names[j] = y at *
            by_cases hys : y = s
            · subst hys
              go_wp2
              go_round
              case rel => exact ⟨j, by omega, by go_num, by rw [HAT.out, if_pos rfl]⟩
              case measure => simp [intOf]
            · have e1 : (y.toList == s.toList) = false := by rw [str_beq, decide_eq_false hys]
              go_wp2
              go_round
              case rel => exact ⟨j, by omega, by go_num, by rw [HAT.out, if_neg hys]⟩
              case measure => simp [intOf]
          · obtain rfl : k = 0 := by omega
            rcases fndK_range names s 0 with hf | ⟨f, hfl, hf⟩
            · have HK := Lib.hid (HKN.out hf)
              rw [hf]
              clear hf
              go_wp2
              go_ret2
              exact ⟨pair_ret (by rw [HE.out, HEV.out, HK.out]), HFR.out⟩
            · rw [hf]
              have hf63 : f ≤ 9223372036854775807 := by rw [HLN.out] at hfl; omega
              have ef : ((f : Int) < 0) = False := by simp
              by_cases hfv : f < q
              · have hxv : f < vals.length := by rw [HLV.out]; exact hfv
                have HK := Lib.hid (HKS.out f hf hxv)
                obtain ⟨gv, ov, rfl, _, hcv⟩ := HV.out (by omega)
                have v1 : wr.cell? ⟨gv, ov + f, none⟩ = some (.int .i64 vals[f]) := HFR.out.get (hcv f hxv)
                have zlv := lt_of_cell v1
                clear hcv hf
                generalize vals[f] = x at *
                go_wp2_with fail
                go_quiet (fail)
                go_wp2
                go_roundw
                case rel => exact ⟨i + 1, _, by rw [HLA.out]; omega, rfl, by go_num, by rw [HEV.out, HK.out], Fr.drewN HFW.out _⟩
                case measure => simp [intOf]; omega
              · have HK := Lib.hid (HKF.out f hf (by rw [HLV.out]; omega))
                clear hf
                go_wp2
                go_ret2
                exact ⟨pair_ret (by rw [HE.out, HEV.out, HK.out]), HFR.out⟩
      · obtain rfl : i = n := by omega
        go_wp2
        go_ret2
        exact ⟨pair_ret (by rw [HE.out, HEV.out, ← HLA.out, evalK_end]), HFR.out⟩
  · have hno' : normB ss ts = false := by simpa using hno
    have HE := Lib.hid (show evalL ss ts off names vals = (0, false) by unfold evalL; rw [hno']; rfl)
    rw [hno'] at HNO
    clear ha hb hN hV hn hm hp hq h1 h2 h3 h4 hno hno'
    go_enter Tryz.func17, Tryz.ntmps17
    go_wp2_with ((go_at_call 11; refine (HNO.out _ HF0.out).mono ?_; rintro e w1 ⟨rfl, hf1⟩; have HF1 := Lib.hid (HF0.out.call hf1); clear hf1))
    go_ret2
    exact ⟨pair_ret HE.out, HF1.out⟩
end Go.Proofs.YtbnaakognnkhdaaGreatDoor
