/- The document's Copy. -/
import Derived.Test.YtonlmennpbklgaaDoorUj
import Derived.Test.YtonlmennpbklgaaDoorSp
namespace Go.Proofs.YtonlmennpbklgaaDoor
open Go.RowKit
set_option linter.unusedSimpArgs false
set_option linter.unusedVariables false

theorem infoTr : (Tryd.prog.info? 38).map (fun i => (i.zero, i.size, i.bytes)) = some (some (.agg #[.int .i64 0, .string ⟨#[]⟩, .int .i64 0, .slice none 0 0]), 4, 56) := by kernel_rfl
def CopyC (N : Nat) : Prop := ∀ (l : List T) (A : Option Addr) (c : Nat) (F : Nat → Prop) (w : World), cntL l < N → cntL l ≤ 1100000 → RdL w F A l → (∀ b, F b → b < w.heap.size) →
  Calls Tryd.prog 10 #[.slice A l.length c] w fun e w' => ∃ B d, e = .returned (.slice B l.length d) ∧ l.length ≤ d ∧ RdL w' (New w w') B l ∧ Fr w w'
/-- What is kept: the row that grows; what it holds lies in blocks of its own. -/
structure CpR (l : List T) (w wr : World) (g c j : Nat) (vs : List Value) (D : Nat → Prop) : Prop where
  row : wr.ownsRow w.heap.size 38 4 (hd g j c) j vs
  fits : Fits wr D (l.take j) vs
  dead : ∀ b, D b → w.heap.size ≤ b ∧ b < wr.heap.size ∧ b ≠ g
  fr : Fr w wr
def RelCp (l : List T) (w : World) (v i : Value) (wr : World) : Prop := ∃ (g c j : Nat) (vs : List Value) (D : Nat → Prop), j ≤ l.length ∧ i = .int .i64 (j : Int) ∧ v = hd g j c ∧ CpR l w wr g c j vs D
theorem CpR.start (l : List T) (w : World) : CpR l w (w.alloc (.cells #[] 38)) w.heap.size 0 0 [] (fun _ => False) :=
  ⟨⟨rfl, .inr ⟨w.heap.size, 0, #[], rfl, Nat.le_refl _, heap_alloc_new w _, Nat.le_refl _, Nat.zero_le _, rfl, rfl⟩⟩, by simp [Fits], fun _ h => h.elim, (Fr.refl w).alloc _⟩
/-- A tree comes to the row. -/
theorem CpR.app {l : List T} {w wr w5 w7 : World} {g c j g' c' : Nat} {vs : List Value} {D : Nat → Prop} {k n : Int} {s : ByteArray} {ks : List T} {A : Option Addr} {ca : Nat} (h : CpR l w wr g c j vs D) (hj : j < l.length) (he : l[j] = .node k s n ks)
    (h5 : Fr wr w5) (E : Nat → Prop) (hE : ∀ b, E b → wr.heap.size ≤ b ∧ b < w5.heap.size) (hks : ks.length ≤ ca) (hrd : RdL w5 E A ks)
    (hrow : w7.ownsRow w.heap.size 38 4 (hd g' (j + 1) c') (j + 1) (vs ++ [.int .i64 k, .string s, .int .i64 n, .slice A ks.length ca]))
    (hg : w5.grownBy w7 (hd g j c).ownBlock) (hat : (hd g j c).ownBlock = some g' ∨ g' = w5.heap.size) : CpR l w w7 g' c' (j + 1) (vs ++ [.int .i64 k, .string s, .int .i64 n, .slice A ks.length ca]) (fun b => D b ∨ E b) := by
  have hlt := (own_cap h.row).2
  have hgg : g' = g ∨ g' = w5.heap.size := by
    rcases hat with e | e
    · have e' : some g = some g' := e
      injection e' with e'
      exact .inl e'.symm
    · exact .inr e
  have hs := h5.size
  have keep5 : ∀ b, b < w5.heap.size → b ≠ g → w7.heap[b]? = w5.heap[b]? := fun b hb hn => hg.block b hb (fun e => by
    have e' : some b = some g := e
    injection e' with e'
    exact hn e')
  have dD : ∀ b, D b → w7.heap[b]? = wr.heap[b]? := fun b hb => by
    have := h.dead b hb
    exact (keep5 b (by omega) this.2.2).trans (h5.block b this.2.1)
  have dE : ∀ b, E b → w7.heap[b]? = w5.heap[b]? := fun b hb => by
    have := hE b hb
    exact keep5 b this.2 (by omega)
  refine ⟨hrow, ?_, ?_, ?_⟩
  · rw [List.take_succ_eq_append_getElem hj, he]
    exact Fits.snoc hks (hrd.mono (fun _ h => .inr h) dE) (h.fits.mono (fun _ h => .inl h) dD)
  · rintro b (hb | hb)
    · have := h.dead b hb
      have := hg.size
      refine ⟨by omega, by omega, ?_⟩
      rcases hgg with e | e <;> omega
    · have := hE b hb
      have := hg.size
      have := h.fr.size
      refine ⟨by omega, by omega, ?_⟩
      rcases hgg with e | e <;> omega
  · refine Below.grown (h.fr.call h5) hg (by have := h.fr.size; omega) (fun q hq => ?_)
    have e' : some g = some q := hq
    injection e' with e'
    omega
set_option maxHeartbeats 6400000 in
set_option maxRecDepth 100000 in
theorem copy_step (N : Nat) (ih : CopyC N) : CopyC (N + 1) := by
  intro l A c F w hN hcn hr hF
  have HI := Lib.hid ih
  have HR := Lib.hid hr
  have HF := Lib.hid hF
  have hln := len_le_cnt l
  have hll : (l.length : Int) ≤ 1100000 := by omega
  have HS0 := Lib.hid (CpR.start l w)
  clear hr hF ih
  go_enter Tryd.func10, Tryd.ntmps10
  go_wp2_with fail
  go_loopw [3, 9] (fun v i wr => RelCp l w v i wr) (fun _ i _ => l.length - (intOf i).toNat)
  case atStart => exact ⟨w.heap.size, 0, 0, [], _, Nat.zero_le _, rfl, rfl, HS0.out⟩
  case round =>
    obtain ⟨g, c0, j, vs, D, hj, rfl, rfl, hC⟩ := hrel
    have HC0 := Lib.hid hC
    have hfr := hC.fr
    have hg2 := (own_cap hC.row).2.2
    by_cases hlt : j < l.length
    · obtain ⟨b, o, rfl, hbF, ht⟩ := HR.out.elem j hlt
      have hct := cnt_get l j hlt
      have HEQ := Lib.hid (fun (w5 w7 : World) (g' c' : Nat) (k n : Int) (s : ByteArray) (ks : List T) (A3 : Option Addr) (ca : Nat) (he : l[j] = .node k s n ks) => hC.app (w5 := w5) (w7 := w7) (g' := g') (c' := c') (A := A3) (ca := ca) hlt he)
      clear hC
      generalize l[j] = x at *
      obtain ⟨kd, s2, n2, kk⟩ := x
      unfold RdT at ht
      obtain ⟨A2, c2, hc2, h0, h1, h2, h3, hkk⟩ := ht
      rw [Nat.mul_comm 4 j] at h0 h1 h2 h3
      have a0 := hfr.get h0
      have a1 := hfr.get h1
      have a2 := hfr.get h2
      have a3 := hfr.get h3
      have HK := Lib.hid (hkk.old hfr HF.out)
      have HC := Lib.hid (fun w' (k : Fr wr w') => HI.out kk A2 c2 F w' (by simp [cntT] at hct; omega) (by simp [cntT] at hct; omega) (HK.out.old k (fun b h => Nat.lt_of_lt_of_le (HF.out b h) hfr.size)) (fun b h => Nat.lt_of_lt_of_le (HF.out b h) (hfr.call k).size))
      have HFA := Lib.hid (show Fr wr (wr.alloc (.cells #[.int .i64 kd, .string s2, .int .i64 n2, .slice A2 kk.length c2] 38)) from (Fr.refl wr).alloc _)
      have HBX := Lib.hid (Bk.new wr 38 #[.int .i64 kd, .string s2, .int .i64 n2, .slice A2 kk.length c2])
      obtain ⟨i0, hi0, hz0, hz1, hz2⟩ := info_parts infoTr
      clear hkk h0 h1 h2 h3
      go_wp2_with fail
      refine (HC.out _ HFA.out).mono ?_
      rintro e w5 ⟨B, d, rfl, hbd, hrd, hf5⟩
      have hf6 : Fr wr (w5.setCell ⟨wr.heap.size, 3, none⟩ (.slice B kk.length d)) := (HFA.out.call hf5).set (p := ⟨wr.heap.size, 3, none⟩) (Nat.le_refl _) _
      have HF6 := Lib.hid (hf6.alloc (.cells #[.int .i64 kd, .string s2, .int .i64 n2, .slice B kk.length d] 38))
      have HO6 := Lib.hid ((own_heap HC0.out.row (hf6.block g hg2)).alloc (.cells #[.int .i64 kd, .string s2, .int .i64 n2, .slice B kk.length d] 38))
      have hz5 := hf5.size
      have HRD := Lib.hid (show RdL ((w5.setCell ⟨wr.heap.size, 3, none⟩ (.slice B kk.length d)).alloc (.cells #[.int .i64 kd, .string s2, .int .i64 n2, .slice B kk.length d] 38)) (New (wr.alloc (.cells #[.int .i64 kd, .string s2, .int .i64 n2, .slice A2 kk.length c2] 38)) w5) B kk from
        hrd.mono (fun _ h => h) fun b hb => by
          have h1 := hb.1
          have h2 := hb.2
          simp at h1
          exact (((Fr.refl (w5.setCell ⟨wr.heap.size, 3, none⟩ (.slice B kk.length d))).alloc _).block b (by simpa using h2)).trans (Below.heap_setCell w5 ⟨wr.heap.size, 3, none⟩ _ b (by show b ≠ wr.heap.size; omega)))
      have HE6 := Lib.hid (show ∀ b, New (wr.alloc (.cells #[.int .i64 kd, .string s2, .int .i64 n2, .slice A2 kk.length c2] 38)) w5 b → wr.heap.size ≤ b ∧ b < ((w5.setCell ⟨wr.heap.size, 3, none⟩ (.slice B kk.length d)).alloc (.cells #[.int .i64 kd, .string s2, .int .i64 n2, .slice B kk.length d] 38)).heap.size from fun b hb => by
        have h1 := hb.1
        have h2 := hb.2
        simp at h1 ⊢
        omega)
      obtain ⟨r0, r1, r2, r3, f0, f1, f2, f3⟩ := (HBX.out.fr hf5).four
      have zr : wr.heap.size < w5.heap.size := by simp at hz5; omega
      have hwz := hfr.size
      clear hf5 hrd hf6 hz5
      go_wp2_with (at_builtin; refine wpList_append_lies _ rfl (.tmp 17) (.tmp 19) 23 rfl w.heap.size 38 i0 _ 4 56 Tryd.underlying23 hi0 hz0 hz1 hz2 rfl (by omega) (hd g j c0) j vs rfl HO6.out ⟨w5.heap.size, 0, none⟩ 1 1 [.int .i64 kd, .string s2, .int .i64 n2, .slice B kk.length d] rfl rfl (World.news_of_block (blkr _ _ (by simp) #[.int .i64 kd, .string s2, .int .i64 n2, .slice B kk.length d] 38)) (by simp [Value.oneCell']) (by omega) (by unfold maxLen; omega) (by omega) (by simp; omega) (w5.heap.size + 1) (by simp) ?_; intro gg cap w7 ho7 hg7 hat7 hlt7; have HC7 := Lib.hid (HEQ.out _ w7 gg cap kd n2 s2 kk B d rfl HF6.out _ HE6.out hbd HRD.out ho7 hg7 (by simpa using hat7)); clear ho7 hg7 hat7)
      go_roundw
      case rel => exact ⟨gg, cap, j + 1, _, _, by omega, by go_num, by rfl, HC7.out⟩
      case measure => simp [intOf]; omega
    · obtain rfl : j = l.length := by omega
      have hR := (own_cap hC.row).1
      have hb := (own_cap hC.row).2.1
      have R := Lib.hid (show ∃ B d, (Ending.returned (hd g l.length c0)) = .returned (.slice B l.length d) ∧ l.length ≤ d ∧ RdL wr (New w wr) B l ∧ Fr w wr from ⟨_, _, rfl, hR, by
        have hf := hC.fits
        rw [List.take_of_length_le (Nat.le_refl _)] at hf
        refine RdL.of_fits ⟨hb, hg2⟩ (hf.mono (fun b h => ⟨(hC.dead b h).1, (hC.dead b h).2.1⟩) (fun _ _ => rfl)) fun i u hu => ?_
        have h := hC.row.cells (g := g) rfl i u hu
        rw [Nat.zero_add]
        rw [show (⟨g, i, none⟩ : Addr) = (⟨g, 0, none⟩ : Addr).add i by unfold Addr.add; by_cases h0 : i = 0 <;> simp [h0]]
        exact h, hC.fr⟩)
      clear hC HC0 hR
      go_wp2
      go_ret
      exact R.out
theorem copy_all : ∀ N, CopyC N
  | 0 => fun l A c F w hN => absurd hN (by omega)
  | N + 1 => copy_step N (copy_all N)
/-- Copy answers the same trees in memory of their own. -/
theorem copy_any2 (l : List T) (A : Option Addr) (c : Nat) (F : Nat → Prop) (w : World) (hN : cntL l ≤ 1100000) (hr : RdL w F A l) (hF : ∀ b, F b → b < w.heap.size) :
    Calls Tryd.prog 10 #[.slice A l.length c] w fun e w' => ∃ B d, e = .returned (.slice B l.length d) ∧ l.length ≤ d ∧ RdL w' (New w w') B l ∧ Fr w w' := copy_all (cntL l + 1) l A c F w (by omega) hN hr hF
end Go.Proofs.YtonlmennpbklgaaDoor
