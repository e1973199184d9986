/- The program's Print. -/
import Derived.Test.YtbnaakognnkhdaaGreatDoorNk
import Derived.Test.YtbnaakognnkhdaaGreatDoorZm
import Derived.Test.YtbnaakognnkhdaaGreatDoorZb
import Derived.Test.YtbnaakognnkhdaaGreatDoorZws
namespace Go.Proofs.YtbnaakognnkhdaaGreatDoor
open Go.RowKit
set_option linter.unusedSimpArgs false
set_option linter.unusedVariables false

theorem bld_fr {T e : TypeId} {B b : Nat} {bs : List Value} {W W' : World} (h : Lib.IsBuilder T e B b bs W) (k : Fr W W') : Lib.IsBuilder T e B b bs W' := by
  have key : ∀ p, Lib.BuilderAt T e B b p bs W → Lib.BuilderAt T e B b p bs W' := by
    intro p h
    have hlt := h.lt
    obtain ⟨hB, v, hv, hown, hne⟩ := h
    exact ⟨hB, v, (k.block b hlt).trans hv, hown.kept (row := none) ⟨k.os, k.tape, k.output, k.size, fun j hj _ => k.block j hj⟩ (Classical.em _), hne⟩
  exact h.elim (fun x => .inl (key _ x)) (fun x => .inr (key _ x))
/-- Letters put behind what a builder holds. -/
theorem write_any (b : Nat) (l : List UInt8) (s : ByteArray) (w : World) (h : Lib.IsBuilder 69 5 b b (Lib.byteCells l) w) (hlen : l.length + s.size ≤ 140737488355328) (hBw : b ≤ w.heap.size) :
    Calls Tryz.prog 37 #[.pointer (some ⟨b, 0, none⟩), .string s] w fun e w' => e = .returned (.tuple #[.int .i64 s.size, .nilIface]) ∧ Lib.IsBuilder 69 5 b b (Lib.byteCells (l ++ s.data.toList)) w' ∧ Below b w w' := by
  refine (Any.Builder_WriteString Tryz.lays166 Tryz.Builder_Extra_166 b b _ s w h (by simpa [Lib.byteCells] using hlen) hBw).mono ?_
  rintro e w' ⟨he, h1, h2⟩
  refine ⟨he, .inr ?_, h2⟩
  have e1 : Lib.byteCells (l ++ s.data.toList) = Lib.byteCells l ++ Lib.strCells s := by rw [Lib.strCells_eq]; simp [Lib.byteCells]
  rw [e1]
  exact h1
set_option maxHeartbeats 800000 in
set_option maxRecDepth 100000 in
theorem numeral_any (n : Int) (w : World) (hn : I64 n) (hl : Laid w) : Calls Tryz.prog 38 #[.int .i64 n] w fun e w' => e = .returned (.string ⟨(numT n).toArray⟩) ∧ Fr w w' := by
  by_cases h0 : n = -9223372036854775808
  · subst h0
    go_enter Tryz.func38, Tryz.ntmps38
    go_wp2
    go_ret
    exact ⟨rfl, Fr.refl _⟩
  · have hx : (n == -9223372036854775808) = false := by simp [h0]
    have HI := Lib.hid (itoa_any n hn w hl)
    have HE := Lib.hid (show numT n = Lib.itoa n by unfold numT; rw [if_neg h0])
    clear hn hl
    go_enter Tryz.func38, Tryz.ntmps38
    go_wp2_with (go_at_call 50; refine HI.out.mono ?_; rintro e w1 ⟨rfl, hf1⟩; have HF := Lib.hid hf1; clear hf1)
    go_ret
    exact ⟨by rw [HE.out]; rfl, HF.out⟩
theorem symT_len2 : ∀ (P : List (ByteArray × Int)), (∀ x ∈ P, x.1.size ≤ 1048576 ∧ I64 x.2) → (symT P).length ≤ P.length * 1048598
  | [], _ => by simp [symT]
  | x :: r, h => by
    have h1 := h x List.mem_cons_self
    have h2 := symT_len2 r (fun y hy => h y (List.mem_cons_of_mem _ hy))
    have h3 := numT_len h1.2
    have h4 : x.1.data.toList.length = x.1.size := by simp
    have e : symT (x :: r) = (numT x.2 ++ [42] ++ x.1.data.toList ++ [43]) ++ symT r := by simp [symT]
    rw [e]
    simp only [List.length_append, List.length_cons, List.length_nil]
    omega
def RelWr (P : List (ByteArray × Int)) (W : World) (b : Nat) (s9 : Value) (wr : World) : Prop :=
  ∃ k : Nat, k ≤ P.length ∧ s9 = .int .i64 (k : Int) ∧ Lib.IsBuilder 69 5 b b (Lib.byteCells (symT (P.take k))) wr ∧ Fr W wr
set_option maxHeartbeats 6400000 in
set_option maxRecDepth 100000 in
theorem written_any (P : List (ByteArray × Int)) (off : Int) (A B : Option Addr) (c d n : Nat) (w : World) (hL : Laid w) (hn : P.length = n) (hn1 : n ≤ 16) (hsm : ∀ x ∈ P, x.1.size ≤ 1048576 ∧ I64 x.2) (hoff : I64 off)
    (ha : Rd strv w A (fsts P)) (hb : Rd intv w B (snds P)) :
    Calls Tryz.prog 25 #[.agg #[.slice A n c, .slice B n d, .int .i64 off]] w fun e w' => e = .returned (.string ⟨(prT P off).toArray⟩) ∧ Fr w w' := by
  have HA := Lib.hid ha
  have HB := Lib.hid hb
  have HLA := Lib.hid hn
  have HSM := Lib.hid hsm
  have HD := Lib.hid (fun (t : Int) (ht : I64 t) (w1 : World) (k : Fr w w1) => numeral_any t w1 ht (hL.fr k))
  have HWR := Lib.hid write_any
  have HOF := Lib.hid hoff
  have HF0 := Lib.hid ((Fr.refl w).alloc (.cells #[.slice A n c, .slice B n d, .int .i64 off] 25))
  have HX := Lib.hid (BlkC.alloc (w := w) (t := 25) (cs := #[.slice A n c, .slice B n d, .int .i64 off]))
  have HADD := Lib.hid (fun (a b : ByteArray) (w : World) (h : a.size + b.size ≤ 9223372036854775807) => run_string_add_sum (P := Tryz.prog) (w := w) a b h)
  clear ha hb hn hsm hoff hL
  go_enter Tryz.func25, Tryz.ntmps25
  go_wp2_with fail
  obtain ⟨W, hW⟩ : ∃ W, W = w.alloc (.cells #[.slice A n c, .slice B n d, .int .i64 off] 25) := ⟨_, rfl⟩
  have HBU := Lib.hid (Lib.fresh_isBuilder 69 5 W)
  have HFA := Lib.hid ((Fr.refl W).alloc (.cells #[.pointer none, .slice none 0 0] 69))
  have eb : W.heap.size = w.heap.size + 1 := by rw [hW]; simp
  have EB := Lib.hid eb
  rw [← hW] at HF0 HX
  rw [← hW]
  rw [eb] at HBU
  clear hW eb
  go_loopw [9] (fun s9 wr => RelWr P W (w.heap.size + 1) s9 wr) (fun s9 _ => n - (intOf s9).toNat)
  case atStart => exact ⟨0, Nat.zero_le _, rfl, HBU.out, HFA.out⟩
  case round =>
    obtain ⟨k, hk, rfl, hbl, hfr⟩ := hrel
    rw [HLA.out] at hk
    have HBL := Lib.hid hbl
    have HFR := Lib.hid (HF0.out.call hfr)
    have HFW := Lib.hid hfr
    obtain ⟨X0, X1, X2⟩ := (HX.out.fr hfr).three
    have zr := lt_of_cell X0
    have hos := symT_len2 (P.take k) (fun x hx => HSM.out x (List.mem_of_mem_take hx))
    have htk : (P.take k).length ≤ k := by simp; omega
    have hout : (symT (P.take k)).length ≤ 16777568 := by omega
    have hsz1 : w.heap.size + 1 ≤ wr.heap.size := by have := hfr.size; have := EB.out; omega
    clear hfr hbl
    by_cases hlt : k < n
    · have hx : k < P.length := by rw [HLA.out]; exact hlt
      obtain ⟨ga, oa, rfl, _, hca⟩ := HA.out (by simp [fsts]; omega)
      obtain ⟨gb, ob, rfl, _, hcb⟩ := HB.out (by simp [snds]; omega)
      have a1 : wr.cell? ⟨ga, oa + k, none⟩ = some (.string P[k].1) := by
        have := HFR.out.get (hca k (by simpa [fsts] using hx))
        simpa [fsts, strv] using this
      have b1 : wr.cell? ⟨gb, ob + k, none⟩ = some (.int .i64 P[k].2) := by
        have := HFR.out.get (hcb k (by simpa [snds] using hx))
        simpa [snds, intv] using this
      have zla := lt_of_cell a1
      have zlb := lt_of_cell b1
      obtain ⟨hs1, ht1⟩ := HSM.out P[k] (List.getElem_mem hx)
      have HDK := Lib.hid (HD.out P[k].2 ht1 wr HFR.out)
      have hds := numT_len ht1
      have HST := Lib.hid (symT_step hx)
      have hd20 : (⟨(numT P[k].2).toArray⟩ : ByteArray).size ≤ 20 := by rw [tx_size]; exact hds
      have HJ := Lib.hid (show symT (P.take k) ++ ((((⟨(numT P[k].2).toArray⟩ : ByteArray) ++ ⟨#[42]⟩) ++ P[k].1) ++ ⟨#[43]⟩).data.toList = symT (P.take (k + 1)) from by
        rw [HST.out]
        simp [ByteArray.data_append])
      clear hca hcb ht1 hds hos htk
      generalize (⟨(numT P[k].2).toArray⟩ : ByteArray) = D at *
      generalize P[k].1 = s at *
      generalize P[k].2 = t at *
      have q1 := fun w => HADD.out D ⟨#[42]⟩ w (by show D.size + 1 ≤ _; omega)
      have q2 := fun w => HADD.out (D ++ ⟨#[42]⟩) s w (by rw [ByteArray.size_append]; show D.size + 1 + s.size ≤ _; omega)
      have q3 := fun w => HADD.out ((D ++ ⟨#[42]⟩) ++ s) ⟨#[43]⟩ w (by rw [ByteArray.size_append, ByteArray.size_append]; show D.size + 1 + s.size + 1 ≤ _; omega)
      have hj : (((D ++ ⟨#[42]⟩) ++ s) ++ ⟨#[43]⟩ : ByteArray).size ≤ 1048598 := by rw [ByteArray.size_append, ByteArray.size_append, ByteArray.size_append]; show D.size + 1 + s.size + 1 ≤ _; omega
      go_wp2_with (first
        | (go_at_call 38; refine HDK.out.mono ?_; rintro e w2 ⟨rfl, hf2⟩; have HF2 := Lib.hid (HFW.out.call hf2); have HB2 := Lib.hid (bld_fr HBL.out hf2); have hs2 := hf2.size; clear hf2)
        | (go_at_call 37; refine (HWR.out _ (symT (P.take k)) _ _ HB2.out (by omega) (by omega)).mono ?_; rintro e w3 ⟨rfl, hb3, hf3⟩; have HB3 := Lib.hid hb3; have HF3 := Lib.hid (show Fr W w3 from Below.trans HF2.out (by rw [EB.out]; exact hf3)); clear hb3 hf3)
        | fail)
      go_roundw
      case rel => exact ⟨k + 1, by omega, by go_num, by rw [← HJ.out]; exact HB3.out, HF3.out⟩
      case measure => simp [intOf]; omega
    · obtain rfl : k = n := by omega
      have HDK := Lib.hid (HD.out off HOF.out wr HFR.out)
      have hds := numT_len HOF.out
      have hd20 : (⟨(numT off).toArray⟩ : ByteArray).size ≤ 20 := by rw [tx_size]; exact hds
      have HJ := Lib.hid (show symT (P.take k) ++ (⟨(numT off).toArray⟩ : ByteArray).data.toList = prT P off from by
        rw [List.take_of_length_le (by rw [HLA.out]; exact Nat.le_refl _)]
        rfl)
      have HST := Lib.hid (Tryz.Builder_String_any)
      clear hds hos htk
      generalize (⟨(numT off).toArray⟩ : ByteArray) = D at *
      go_wp2_with (first
        | (go_at_call 38; refine HDK.out.mono ?_; rintro e w2 ⟨rfl, hf2⟩; have HF2 := Lib.hid (HFW.out.call hf2); have HB2 := Lib.hid (bld_fr HBL.out hf2); have hs2 := hf2.size; clear hf2)
        | (go_at_call 37; refine (HWR.out _ (symT (P.take k)) _ _ HB2.out (by omega) (by omega)).mono ?_; rintro e w3 ⟨rfl, hb3, hf3⟩; rw [HJ.out] at hb3; have HB3 := Lib.hid hb3; have HF3 := Lib.hid (show Fr W w3 from Below.trans HF2.out (by rw [EB.out]; exact hf3)); have hs3 := hf3.size; clear hb3 hf3)
        | (go_at_call 39; refine (HST.out _ _ _ _ HB3.out (by omega)).mono ?_; rintro e w4 ⟨rfl, hf4⟩; have HF4 := Lib.hid (show Fr W w4 from Below.trans HF3.out (by rw [EB.out]; exact hf4)); clear hf4)
        | fail)
      go_ret
      exact ⟨rfl, HF0.out.call HF4.out⟩
def Sml (a : Ln) : Prop := ∀ s ∈ a.ss, s.size ≤ 1048576
theorem written_at {a : Ln} {F : Nat → Prop} {w : World} {v : Value} (hl : Laid w) (hq : Sml a) (hs : a.Sm) (hn : a.norm = true) (h : a.At F w v) : Calls Tryz.prog 25 #[v] w fun e w' => e = .returned (.string (textL a)) ∧ Fr w w' := by
  obtain ⟨A, B, c, d, rfl, h1, h2, _⟩ := h
  have e1 := norm_len hn
  rw [← e1.1]
  rw [← norm_fsts hn] at h1
  rw [← norm_snds hn] at h2
  exact written_any a.P a.off A B c d _ w hl (norm_plen hn) (by omega) (fun x hx => ⟨hq _ (by rw [← norm_fsts hn]; exact List.mem_map.2 ⟨x, hx, rfl⟩), (norm_mem hs x hx).2⟩) hs.2.2 h1 h2
set_option maxHeartbeats 1600000 in
set_option maxRecDepth 100000 in
theorem print_c : PrintC Laid Sml := by
  intro a F u w hl hq ha hu
  obtain ⟨A, B, c, d, rfl, hx1, hx2, hx3, hx4⟩ := id hu
  have HN := Lib.hid (fun W (k : Fr w W) => isNormal_at ha (hu.fr k))
  have HF0 := Lib.hid ((Fr.refl w).alloc (.cells #[.slice A a.ss.length c, .slice B a.ts.length d, .int .i64 a.off] 25))
  have HX := Lib.hid (BlkC.alloc (w := w) (t := 25) (cs := #[.slice A a.ss.length c, .slice B a.ts.length d, .int .i64 a.off]))
  cases hna : a.norm with
  | false =>
    rw [hna] at HN
    have HP := Lib.hid (show printF a = (⟨#[]⟩, 121) by unfold printF; rw [hna]; rfl)
    clear hx1 hx2 hx3 hx4 hu
    go_enter Tryz.func13, Tryz.ntmps13
    go_wp2_with (first
      | (go_at_call 18; refine (HN.out _ HF0.out).mono ?_; rintro e w1 ⟨rfl, hf1⟩; have HF1 := Lib.hid (HF0.out.call hf1); clear hf1)
      | fail)
    go_ret2
    exact ⟨by rw [HP.out]; rfl, HF1.out⟩
  | true =>
    rw [hna] at HN
    have HP := Lib.hid (show printF a = (textL a, 0) by unfold printF; rw [hna]; rfl)
    have HW := Lib.hid (fun W (k : Fr w W) => written_at (hl.fr k) hq ha hna (hu.fr k))
    clear hx1 hx2 hx3 hx4 hu
    go_enter Tryz.func13, Tryz.ntmps13
    go_wp2_with (first
      | (go_at_call 18; refine (HN.out _ HF0.out).mono ?_; rintro e w1 ⟨rfl, hf1⟩; have HF1 := Lib.hid (HF0.out.call hf1); obtain ⟨x0, x1, x2⟩ := (HX.out.fr hf1).three; have zw := lt_of_cell x0; clear hf1)
      | (go_at_call 25; refine (HW.out _ HF1.out).mono ?_; rintro e w2 ⟨rfl, hf2⟩; have HF2 := Lib.hid (HF1.out.call hf2); clear hf2)
      | fail)
    go_ret2
    exact ⟨by rw [HP.out]; rfl, HF2.out⟩
end Go.Proofs.YtbnaakognnkhdaaGreatDoor
