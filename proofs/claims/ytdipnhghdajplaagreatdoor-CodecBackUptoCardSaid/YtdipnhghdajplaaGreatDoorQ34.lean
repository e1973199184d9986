/- Package codec's Decode. -/
import Derived.Test.YtdipnhghdajplaaGreatDoorP33
import Derived.ChangeKeysEq
import Derived.Test.YtdipnhghdajplaaGreatDoorP32
import Derived.Test.YtdipnhghdajplaaGreatDoorP31
namespace Go.Proofs.YtdipnhghdajplaaGreatDoor
open Go.RowKit
set_option linter.unusedSimpArgs false
set_option linter.unusedVariables false
theorem cells_u64 : Tryz.prog.cellsOf 79 = 1 := by kernel_rfl
theorem info_u64 : (Tryz.prog.info? 79).isSome = true := by kernel_rfl
theorem words_eq (w : World) (a b c d : Int) : Sem.run Tryz.prog (Op.equalIn 10000 92 (.agg #[.int .u64 a, .int .u64 b]) (.agg #[.int .u64 c, .int .u64 d])) w = .ok ((a == c) && (b == d)) w := by
 obtain ⟨i, hi⟩ := Option.isSome_iff_exists.1 info_u64
 rw [show (10000 : Nat) = 9999 + 1 from rfl, run_equalIn_array w 9999 _ _ Tryz.underlying92 hi, cells_u64]
 have h1 : ∀ x y : Int, Sem.run Tryz.prog (Op.equalIn 9999 79 (.int .u64 x) (.int .u64 y)) w = .ok (x == y) w := fun x y => run_equalIn_int w 9998 _ _ _ x y Tryz.underlying79
 have e2 : List.range 2 = [0, 1] := rfl
 rw [e2]
 simp [Op.eqItems, go_sem, h1]
 by_cases h : a = c <;> by_cases g : b = d <;> simp [h, g]
theorem rowI_keep {w w' : World} {g : Nat} {l : List Int} (h : RowOf IntC 1 w (some ⟨g, 0, none⟩) l) (k : w'.heap[g]? = w.heap[g]?) : RowOf IntC 1 w' (some ⟨g, 0, none⟩) l := fun hl => by
 obtain ⟨b, o, e, hx⟩ := h hl
 injection e with e; injection e with e1 e2
 subst e1 e2
 exact ⟨g, 0, rfl, fun i hi => (cell_of_heap k).trans (hx i hi)⟩
def fitB (D : Ds) (W : W2) (len : Nat) (f : Cf) : Bool := decide (f.size ≤ len) && (W.1 &&& f.l0 == f.u0) && (W.2 &&& f.l1 == f.u1) && f.ops.all (fun x => !excO D (hasN W.1 W.2) x)
def valsW (D : Ds) (W : W2) (f : Cf) : List Int := f.ops.map (valO D (hasN W.1 W.2))
def DecP (D : Ds) (bs : List Nat) (w : World) (e : Ending) (w' : World) : Prop := Fr w w' ∧
 ((∃ (j : Nat) (hj : j < D.fms.length), fitB D (wordsN bs) bs.length (cfD D D.fms[j]) = true ∧ (∀ (i : Nat) (hi : i < D.fms.length), i < j → fitB D (wordsN bs) bs.length (cfD D D.fms[i]) = false) ∧
   ∃ g, e = .returned (.tuple #[.agg #[.int .i64 (j : Int), .slice (some ⟨g, 0, none⟩) (cfD D D.fms[j]).ops.length (cfD D D.fms[j]).ops.length], .int .i64 ((cfD D D.fms[j]).size : Int), .int .i64 0]) ∧ RowOf IntC 1 w' (some ⟨g, 0, none⟩) (valsW D (wordsN bs) (cfD D D.fms[j]))) ∨
 ((∀ (i : Nat) (hi : i < D.fms.length), fitB D (wordsN bs) bs.length (cfD D D.fms[i]) = false) ∧ e = .returned (.tuple #[.agg #[.int .i64 0, .slice none 0 0], .int .i64 0, .int .i64 62])))
def RelDe (D : Ds) (bs : List Nat) (W : World) (i : Value) (wr : World) : Prop := ∃ j : Nat, j ≤ D.fms.length ∧ i = .int .i64 (j : Int) ∧ Fr W wr ∧ ∀ (i : Nat) (hi : i < D.fms.length), i < j → fitB D (wordsN bs) bs.length (cfD D D.fms[i]) = false
theorem fitB_step {D : Ds} {W : W2} {len j : Nat} (hlt : j < D.fms.length) (h : ∀ (i : Nat) (hi : i < D.fms.length), i < j → fitB D W len (cfD D D.fms[i]) = false) (h1 : fitB D W len (cfD D D.fms[j]) = false) :
   ∀ (i : Nat) (hi : i < D.fms.length), i < j + 1 → fitB D W len (cfD D D.fms[i]) = false := fun i hi hij => by
 rcases Nat.lt_or_ge i j with h2 | h2
 · exact h i hi h2
 · obtain rfl : i = j := by omega
   exact h1
theorem size_le {D : Ds} {f : Fm} (h : patN D f.args f.pcs ≠ 0) : (cfD D f).size ≤ 15 ∧ 1 ≤ (cfD D f).size ∧ (cfD D f).ops.length ≤ 6 := by
 obtain ⟨h1, _, _, h8, hb⟩ := pat_sum h
 unfold opsB at h1
 rw [Bool.and_eq_true] at h1
 have := of_decide_eq_true h1.1
 unfold cfD
 rw [cf_size, cf_len]
 omega
set_option maxHeartbeats 25600000 in
set_option maxRecDepth 100000 in
theorem cdec_any {w : World} {p : Nat} {D : Ds} (hC : CodecAt w p D) (hX : ∀ c ∈ D.cls, c.ex.length ≤ 1048576) (hpat : ∀ f ∈ D.fms, patN D f.args f.pcs ≠ 0) (h512 : D.fms.length ≤ 512) {A : Option Addr} {bs : List Nat} (c : Nat) (hB : RowOf ByC 1 w A bs) (hm : bs.length ≤ maxLen) :
   Calls Tryz.prog 14 #[.pointer (some ⟨p, 0, none⟩), .slice A bs.length c] w fun e w' => DecP D bs w e w' := by
 have HCO := Lib.hid hC
 have HXL := Lib.hid hX
 have HPT := Lib.hid hpat
 have HBS := Lib.hid (show ∀ b ∈ bs, b < 256 from fun b hb => by
   obtain ⟨i, hi, rfl⟩ := List.mem_iff_getElem.1 hb
   obtain ⟨_, _, _, hx⟩ := hB.at hi
   exact hx.1)
 have HWL := Lib.hid (wordsN_lt HBS.out)
 have HWO := Lib.hid (fun (w1 : World) (k : Fr w w1) => cwordsOf_any c (hB.fr fun _ _ _ x => x.fr k) hm)
 have HDP := Lib.hid (fun (e : Ending) (w' : World) (h : DecP D bs w e w') => h)
 have hbl : bs.length ≤ 9223372036854775807 := Nat.le_trans hm (by decide)
 obtain ⟨CA, FA, cc, fc, hcb, hc, hfr⟩ := hC
 have HCB := Lib.hid hcb
 have HFR := Lib.hid hfr
 have HR0 := Lib.hid (show BlkAt (w.alloc (.cells #[.int .i64 0, .slice none 0 0] 48)) w.heap.size [.int .i64 0, .slice none 0 0] from BlkAt.alloc)
 have HRF := Lib.hid (show ∀ k, (w.alloc (.cells #[.int .i64 0, .slice none 0 0] 48)).frozen? ⟨w.heap.size, k, none⟩ = false from fun k => World.frozen?_alloc_at _ _ _ _ rfl)
 have HF1 := Lib.hid (show Fr w (w.alloc (.cells #[.int .i64 0, .slice none 0 0] 48)) from Fr.alloc (Fr.refl w) _)
 clear hX hpat hB hm hcb hc hfr
 go_enter Tryz.func14, Tryz.ntmps14
 go_wp2_with fail
 generalize World.alloc w _ = W1 at *
 refine (HWO.out _ HF1.out).mono ?_
 rintro e w2 ⟨rfl, hf2⟩
 have HF2 := Lib.hid (HF1.out.call hf2)
 have HR2 := Lib.hid (HR0.out.fr hf2)
 have HRF2 := Lib.hid (fun k => (hf2.cells.2.1 _ k (lt_of_cell (HR0.out 0 _ rfl))).trans (HRF.out k))
 clear hf2
 obtain ⟨WX, hWX⟩ : ∃ WX, wordsN bs = WX := ⟨_, rfl⟩
 rw [hWX] at HWL ⊢
 obtain ⟨x0, x1⟩ := WX
 simp only at HWL
 have HWX := Lib.hid hWX
 clear hWX
 have HB3 := Lib.hid (show BlkAt (w2.alloc (.cells #[.int .u64 (x0 : Int), .int .u64 (x1 : Int)] 92)) w2.heap.size [.int .u64 (x0 : Int), .int .u64 (x1 : Int)] from BlkAt.alloc)
 have HF3 := Lib.hid (show Fr w2 (w2.alloc (.cells #[.int .u64 (x0 : Int), .int .u64 (x1 : Int)] 92)) from Fr.alloc (Fr.refl w2) _)
 have q1 := HF3.out.get (HF2.out.get (HCB.out 1 _ rfl))
 have zq := lt_of_cell q1
 go_wp2_with fail
 generalize World.alloc w2 _ = W3 at *
 clear q1 zq
 obtain ⟨rb, hrb⟩ : ∃ rb, w.heap.size = rb := ⟨_, rfl⟩
 have HRB := Lib.hid hrb
 obtain ⟨lb, hlb⟩ : ∃ lb, w2.heap.size = lb := ⟨_, rfl⟩
 rw [hrb] at HR0 HRF HR2 HRF2
 rw [hlb] at HB3
 (try simp only [hrb, hlb])
 clear hrb hlb
 go_loopw [19] (fun i wr => RelDe D bs W3 i wr) (fun i _ => D.fms.length - (intOf i).toNat)
 case atStart => exact ⟨0, Nat.zero_le _, rfl, Fr.refl _, fun i _ h => absurd h (Nat.not_lt_zero i)⟩
 case round =>
   obtain ⟨j, hj, rfl, hf, hno⟩ := hrel
   have HF := Lib.hid hf
   have HNO := Lib.hid hno
   clear hf hno
   have HFW := Lib.hid (HF2.out.call (HF3.out.call HF.out))
   by_cases hlt : j < D.fms.length
   · have hji : (j : Int) < (D.fms.length : Int) := by omega
     have hj0 : (0 : Int) ≤ (j : Int) := by omega
     have HNX := Lib.hid (fun h => fitB_step (W := wordsN bs) (len := bs.length) hlt HNO.out h)
     have HPJ := HPT.out _ (List.getElem_mem hlt)
     have hsz := size_le HPJ
     have HOK := Lib.hid (cf_ok D (D.fms[j]).args (D.fms[j]).pcs)
     have HOO := Lib.hid (ops_ok HPJ)
     obtain ⟨bq, oq, rfl, hx⟩ := HFR.out.at (show j < (D.fms.map (cfD D)).length by simpa using hlt)
     rw [Nat.mul_comm 7 j, List.getElem_map] at hx
     have HDJ := Lib.hid (show ∀ (e : Ending) (w' : World), Fr w w' → fitB D (wordsN bs) bs.length (cfD D D.fms[j]) = true → (∃ g, e = .returned (.tuple #[.agg #[.int .i64 (j : Int), .slice (some ⟨g, 0, none⟩) (cfD D D.fms[j]).ops.length (cfD D D.fms[j]).ops.length], .int .i64 ((cfD D D.fms[j]).size : Int), .int .i64 0]) ∧ RowOf IntC 1 w' (some ⟨g, 0, none⟩) (valsW D (wordsN bs) (cfD D D.fms[j]))) → DecP D bs w e w' from
       fun e w' h1 h2 h3 => ⟨h1, .inl ⟨j, hlt, h2, HNO.out, h3⟩⟩)
     have HVA := Lib.hid (fun (w1 : World) (k : Fr w w1) => cvals_any (HCO.out.fr k) HXL.out (hx.fr k) HOO.out hsz.2.2 x0 x1 HWL.out.1 HWL.out.2)
     have HFB := Lib.hid (show fitB D (wordsN bs) bs.length (cfD D D.fms[j]) = (decide ((cfD D D.fms[j]).size ≤ bs.length) && (x0 &&& (cfD D D.fms[j]).l0 == (cfD D D.fms[j]).u0) && (x1 &&& (cfD D D.fms[j]).l1 == (cfD D D.fms[j]).u1) && (cfD D D.fms[j]).ops.all (fun x => !excO D (hasN x0 x1) x)) by unfold fitB; rw [HWX.out])
     have HVW := Lib.hid (show valsW D (wordsN bs) (cfD D D.fms[j]) = (cfD D D.fms[j]).ops.map (valO D (hasN x0 x1)) by unfold valsW; rw [HWX.out])
     have HOK : Hid (CfOk (cfD D D.fms[j])) := HOK
     generalize cfD D D.fms[j] = f at *
     obtain ⟨OA, on, hcell, _⟩ := hx
     obtain ⟨sz, l0, l1, u0, u1, canon, ops⟩ := f
     have f0 : wr.cell? ⟨bq, oq + j * 7, none⟩ = some (.int .i64 (sz : Int)) := HFW.out.get (hcell 0 _ rfl)
     have HC0 := Lib.hid (show w.cell? ⟨bq, oq + j * 7, none⟩ = some (.int .i64 (sz : Int)) from hcell 0 _ rfl)
     have f1 : wr.cell? ⟨bq, oq + j * 7 + 1, none⟩ = some (.int .u64 (l0 : Int)) := HFW.out.get (hcell 1 _ rfl)
     have f2 : wr.cell? ⟨bq, oq + j * 7 + 2, none⟩ = some (.int .u64 (l1 : Int)) := HFW.out.get (hcell 2 _ rfl)
     have f3 : wr.cell? ⟨bq, oq + j * 7 + 3, none⟩ = some (.int .u64 (u0 : Int)) := HFW.out.get (hcell 3 _ rfl)
     have f4 : wr.cell? ⟨bq, oq + j * 7 + 4, none⟩ = some (.int .u64 (u1 : Int)) := HFW.out.get (hcell 4 _ rfl)
     simp only at HFB HVW hsz HOK HDJ HVA
     obtain ⟨ok0, ok1, ok2, ok3⟩ := HOK.out
     have HAM := Lib.hid (fun w => among_any x0 x1 l0 l1 HWL.out.1 HWL.out.2 ok0 ok1 w)
     (try simp only at HAM)
     have b0 := HB3.out.fr HF.out 0 _ rfl
     have b1 := HB3.out.fr HF.out 1 _ rfl
     have q1 := HFW.out.get (HCB.out 1 _ rfl)
     have zf := lt_of_cell f0
     have zb := lt_of_cell b0
     have zq := lt_of_cell q1
     clear hcell HPJ
     by_cases hsl : sz ≤ bs.length
     · have hsli : decide (bs.length < sz) = false := decide_eq_false (by omega)
       have hslj : decide ((bs.length : Int) < (sz : Int)) = false := decide_eq_false (by omega)
       have HSF := Lib.hid (fun (wx : World) (k : Fr wr wx) => (⟨k.get b0, k.get b1, k.get f0, k.get f1, k.get f2, k.get f3, k.get f4⟩ : wx.cell? ⟨lb, 0, none⟩ = some (.int .u64 (x0 : Int)) ∧ wx.cell? ⟨lb, 1, none⟩ = some (.int .u64 (x1 : Int)) ∧ wx.cell? ⟨bq, oq + j * 7, none⟩ = some (.int .i64 (sz : Int)) ∧ wx.cell? ⟨bq, oq + j * 7 + 1, none⟩ = some (.int .u64 (l0 : Int)) ∧ wx.cell? ⟨bq, oq + j * 7 + 2, none⟩ = some (.int .u64 (l1 : Int)) ∧ wx.cell? ⟨bq, oq + j * 7 + 3, none⟩ = some (.int .u64 (u0 : Int)) ∧ wx.cell? ⟨bq, oq + j * 7 + 4, none⟩ = some (.int .u64 (u1 : Int))))
       obtain ⟨y0, hy0⟩ : ∃ y0, x0 &&& l0 = y0 := ⟨_, rfl⟩
       obtain ⟨y1, hy1⟩ : ∃ y1, x1 &&& l1 = y1 := ⟨_, rfl⟩
       rw [hy0, hy1] at HAM HFB
       rw [decide_eq_true hsl, Bool.true_and] at HFB
       clear hy0 hy1
       by_cases hfit : y0 = u0 ∧ y1 = u1
       · have heq : ∀ w : World, Sem.run Tryz.prog (Op.equalIn 10000 92 (.agg #[.int .u64 (y0 : Int), .int .u64 (y1 : Int)]) (.agg #[.int .u64 (u0 : Int), .int .u64 (u1 : Int)])) w = .ok true w := fun w => by
           rw [words_eq, hfit.1, hfit.2]; simp
         rw [beq_iff_eq.2 hfit.1, beq_iff_eq.2 hfit.2, Bool.true_and, Bool.true_and] at HFB
         clear hfit
         go_wp2_with fail
         go_region_held3 (fun wx => wx.cell? ⟨lb, 0, none⟩ = some (.int .u64 (x0 : Int)) ∧ wx.cell? ⟨lb, 1, none⟩ = some (.int .u64 (x1 : Int)) ∧ wx.cell? ⟨bq, oq + j * 7, none⟩ = some (.int .i64 (sz : Int)) ∧ wx.cell? ⟨bq, oq + j * 7 + 1, none⟩ = some (.int .u64 (l0 : Int)) ∧ wx.cell? ⟨bq, oq + j * 7 + 2, none⟩ = some (.int .u64 (l1 : Int)) ∧ wx.cell? ⟨bq, oq + j * 7 + 3, none⟩ = some (.int .u64 (u0 : Int)) ∧ wx.cell? ⟨bq, oq + j * 7 + 4, none⟩ = some (.int .u64 (u1 : Int))) (first | exact HSF.out _ (Fr.refl _) | exact HSF.out _ (Fr.drew (Fr.refl _)) | exact HSF.out _ HF8.out) (first | (go_at_call 38; refine (HAM.out _).mono ?_; rintro e w8 ⟨rfl, hf8⟩; have HF8 := Lib.hid (show Fr wr w8 by first | exact hf8 | exact Fr.call (Fr.drew (Fr.refl _)) hf8); clear hf8))
         have b0 := HF8.out.get b0
         have b1 := HF8.out.get b1
         have f0 := HF8.out.get f0
         have zb := lt_of_cell b0
         have zf := lt_of_cell f0
         clear heq
         go_wp2_with fail
         refine (HVA.out _ (HFW.out.call HF8.out)).mono ?_
         rintro e w9 (⟨hex, rfl, hf9⟩ | ⟨hall, g, hg, rfl, hrow, hf9⟩)
         · have HF9 := Lib.hid (HF.out.call (HF8.out.call hf9))
           have HN0 := Lib.hid (HNX.out (by
             rw [HFB.out]
             obtain ⟨x, hx, hx2⟩ := hex
             exact List.all_eq_false.2 ⟨x, hx, by rw [hx2]; decide⟩))
           clear hex hf9 b0 b1 f0 zb zf
           go_wp2
           go_roundw
           case rel => exact ⟨j + 1, by omega, by go_num, HF9.out, HN0.out⟩
           case measure => simp [intOf]; omega
         · have HF9 := Lib.hid (HF.out.call (HF8.out.call hf9))
           have HFY := Lib.hid (show fitB D (wordsN bs) bs.length ⟨sz, l0, l1, u0, u1, canon, ops⟩ = true by
             rw [HFB.out]
             exact List.all_eq_true.2 fun x hx => by rw [hall x hx]; rfl)
           have HRW := Lib.hid hrow
           have f0 := hf9.get f0
           have zf := lt_of_cell f0
           have r0 := HR2.out.fr (HF3.out.call HF9.out) 0 _ rfl
           have r1 := HR2.out.fr (HF3.out.call HF9.out) 1 _ rfl
           have g0 := ((HF3.out.call HF9.out).cells.2.1 _ 0 (lt_of_cell (HR2.out 0 _ rfl))).trans (HRF2.out 0)
           have g1 := ((HF3.out.call HF9.out).cells.2.1 _ 1 (lt_of_cell (HR2.out 0 _ rfl))).trans (HRF2.out 1)
           have zr := lt_of_cell r0
           clear hall hf9 hrow b0 b1 zb
           have HFW9 := Lib.hid (HF2.out.call (HF3.out.call HF9.out))
           have HS0 := Lib.hid (fun (wx : World) (k : Fr w wx) => (show wx.cell? ⟨bq, oq + j * 7, none⟩ = some (.int .i64 (sz : Int)) from k.get HC0.out))
           have hrw : w.heap.size ≤ rb := Nat.le_of_eq HRB.out
           have hgr : g ≠ rb := by have := HRB.out; have := HFW.out.size; have := HF8.out.size; have := HR2.out 0 _ rfl; have := lt_of_cell this; have := HF3.out.size; have := HF.out.size; omega
           have HGE := Lib.hid hgr
           clear hgr
           go_wp2_with fail
           go_region_held3 (fun wx => wx.cell? ⟨bq, oq + j * 7, none⟩ = some (.int .i64 (sz : Int))) (first | exact HS0.out _ HFW9.out | exact HS0.out _ (Fr.drew HFW9.out) | exact HS0.out _ (Fr.set (Fr.set (Fr.drew HFW9.out) hrw _) hrw _) | exact HS0.out _ (Fr.drew (Fr.set (Fr.set HFW9.out hrw _) hrw _))) (fail)
           all_goals
             go_wp2
             have HWE := Lib.hid (show Fr w ((w9.setCell ⟨rb, 0, none⟩ (.int .i64 (j : Int))).setCell ⟨rb, 1, none⟩ (.slice (some ⟨g, 0, none⟩) ops.length ops.length)).drew from Fr.drew (Fr.set (Fr.set HFW9.out hrw _) hrw _))
             have HRE := Lib.hid (rowI_keep (w' := ((w9.setCell ⟨rb, 0, none⟩ (.int .i64 (j : Int))).setCell ⟨rb, 1, none⟩ (.slice (some ⟨g, 0, none⟩) ops.length ops.length)).drew) HRW.out ((Below.heap_setCell _ ⟨rb, 1, none⟩ _ g HGE.out).trans (Below.heap_setCell w9 ⟨rb, 0, none⟩ _ g HGE.out)))
             exact bodyPost_ret (v := .tuple #[.agg #[.int .i64 (j : Int), .slice (some ⟨g, 0, none⟩) ops.length ops.length], .int .i64 (sz : Int), .int .i64 0]) (by simp [results, Tryz.results14, go_sem, *]) rfl (HDJ.out _ _ HWE.out HFY.out ⟨g, rfl, by rw [HVW.out]; exact HRE.out⟩)
       · have heq : ∀ w : World, Sem.run Tryz.prog (Op.equalIn 10000 92 (.agg #[.int .u64 (y0 : Int), .int .u64 (y1 : Int)]) (.agg #[.int .u64 (u0 : Int), .int .u64 (u1 : Int)])) w = .ok false w := fun w => by
           rw [words_eq]
           have : ((y0 : Int) == (u0 : Int) && (y1 : Int) == (u1 : Int)) = false := by
             rw [Bool.and_eq_false_iff]
             by_cases g : y0 = u0
             · right; rw [beq_eq_false_iff_ne]; exact fun h => hfit ⟨g, by omega⟩
             · left; rw [beq_eq_false_iff_ne]; omega
           rw [this]
         have HN0 := Lib.hid (HNX.out (by
           rw [HFB.out]
           have : (y0 == u0 && y1 == u1) = false := by
             rw [Bool.and_eq_false_iff]
             by_cases g : y0 = u0
             · right; rw [beq_eq_false_iff_ne]; exact fun h => hfit ⟨g, h⟩
             · left; rw [beq_eq_false_iff_ne]; exact g
           rw [this]; rfl))
         clear hfit
         go_wp2_with fail
         go_region_held3 (fun wx => wx.cell? ⟨lb, 0, none⟩ = some (.int .u64 (x0 : Int)) ∧ wx.cell? ⟨lb, 1, none⟩ = some (.int .u64 (x1 : Int)) ∧ wx.cell? ⟨bq, oq + j * 7, none⟩ = some (.int .i64 (sz : Int)) ∧ wx.cell? ⟨bq, oq + j * 7 + 1, none⟩ = some (.int .u64 (l0 : Int)) ∧ wx.cell? ⟨bq, oq + j * 7 + 2, none⟩ = some (.int .u64 (l1 : Int)) ∧ wx.cell? ⟨bq, oq + j * 7 + 3, none⟩ = some (.int .u64 (u0 : Int)) ∧ wx.cell? ⟨bq, oq + j * 7 + 4, none⟩ = some (.int .u64 (u1 : Int))) (first | exact HSF.out _ (Fr.refl _) | exact HSF.out _ (Fr.drew (Fr.refl _)) | exact HSF.out _ HF8.out) (first | (go_at_call 38; refine (HAM.out _).mono ?_; rintro e w8 ⟨rfl, hf8⟩; have HF8 := Lib.hid (show Fr wr w8 by first | exact hf8 | exact Fr.call (Fr.drew (Fr.refl _)) hf8); clear hf8))
         go_wp2
         go_roundw
         case rel => exact ⟨j + 1, by omega, by go_num, HF.out.call HF8.out, HN0.out⟩
         case measure => simp [intOf]; omega
     · have hsli : (bs.length : Int) < (sz : Int) := by omega
       have HN0 := Lib.hid (HNX.out (by rw [HFB.out, decide_eq_false hsl]; rfl))
       go_wp2_with fail
       go_quiet (fail)
       go_wp2
       go_roundw
       case rel => exact ⟨j + 1, by omega, by go_num, Fr.drewN HF.out _, HN0.out⟩
       case measure => simp [intOf]; omega
   · obtain rfl : j = D.fms.length := by omega
     have HAL := Lib.hid (show ∀ (i : Nat) (hi : i < D.fms.length), fitB D (wordsN bs) bs.length (cfD D D.fms[i]) = false from fun i hi => HNO.out i hi hi)
     have r0 := HR2.out.fr (HF3.out.call HF.out) 0 _ rfl
     have r1 := HR2.out.fr (HF3.out.call HF.out) 1 _ rfl
     have g0 := ((HF3.out.call HF.out).cells.2.1 _ 0 (lt_of_cell (HR2.out 0 _ rfl))).trans (HRF2.out 0)
     have g1 := ((HF3.out.call HF.out).cells.2.1 _ 1 (lt_of_cell (HR2.out 0 _ rfl))).trans (HRF2.out 1)
     have zr := lt_of_cell r0
     have HFE := Lib.hid (show Fr w ((wr.setCell ⟨rb, 0, none⟩ (.int .i64 0)).setCell ⟨rb, 1, none⟩ (.slice none 0 0)) from Fr.set (Fr.set HFW.out (by have := HRB.out; simp only; omega) _) (by have := HRB.out; simp only; omega) _)
     clear hj
     go_wp2
     exact bodyPost_ret (v := .tuple #[.agg #[.int .i64 0, .slice none 0 0], .int .i64 0, .int .i64 62]) (by simp [results, Tryz.results14, go_sem, *]) rfl (HDP.out _ _ ⟨HFE.out, .inr ⟨HAL.out, rfl⟩⟩)
def encN (c : Cl) (v : Int) : Nat := (encI c.shift c.plus v).toNat
theorem encI_nat (shift plus v : Int) : 0 ≤ encI shift plus v ∧ encI shift plus v < 18446744073709551616 := by
 unfold encI IntKind.wrap; simp [IntKind.bits, IntKind.signed]; omega
theorem encN_lt (c : Cl) (v : Int) : encN c v < 18446744073709551616 := by
 have := encI_nat c.shift c.plus v
 unfold encN; omega
def esN (D : Ds) : List (Int × List Int) → List Int → List Nat
 | x :: r, v :: s => encN (clO D x).1 v :: esN D r s
 | _, _ => []
theorem esN_len (D : Ds) : ∀ (ops : List (Int × List Int)) (vs : List Int), vs.length = ops.length → (esN D ops vs).length = ops.length
 | [], [], _ => rfl
 | x :: r, v :: s, h => by simp only [esN, List.length_cons]; rw [esN_len D r s (by simpa using h)]
 | [], v :: s, h => by simp at h
 | x :: r, [], h => by simp at h
theorem esN_get (D : Ds) : ∀ (ops : List (Int × List Int)) (vs : List Int) (k : Nat) (h1 : k < ops.length) (h2 : k < vs.length), (esN D ops vs).getD k 0 = encN (clO D ops[k]).1 vs[k]
 | x :: r, v :: s, 0, _, _ => rfl
 | x :: r, v :: s, k + 1, h1, h2 => by
   have := esN_get D r s k (by simpa using h1) (by simpa using h2)
   simpa [esN] using this
 | [], _, k, h, _ => absurd h (Nat.not_lt_zero k)
 | _ :: _, [], k, _, h => absurd h (Nat.not_lt_zero k)
theorem esN_take (D : Ds) : ∀ (ops : List (Int × List Int)) (vs : List Int) (j : Nat) (h1 : j < ops.length) (h2 : j < vs.length), esN D (ops.take (j + 1)) (vs.take (j + 1)) = esN D (ops.take j) (vs.take j) ++ [encN (clO D ops[j]).1 vs[j]]
 | x :: r, v :: s, 0, _, _ => by simp [esN]
 | x :: r, v :: s, k + 1, h1, h2 => by
   have := esN_take D r s k (by simpa using h1) (by simpa using h2)
   simpa [esN] using this
 | [], _, k, h, _ => absurd h (Nat.not_lt_zero k)
 | _ :: _, [], k, _, h => absurd h (Nat.not_lt_zero k)
theorem encW_snoc : ∀ (ls : List (List Int)) (es : List Nat) (x : W2) (l : List Int) (e : Nat), ls.length = es.length → encW (ls ++ [l]) (es ++ [e]) x = putW l 0 e (encW ls es x)
 | [], [], x, l, e, _ => rfl
 | a :: r, b :: s, x, l, e, h => by
   show encW (r ++ [l]) (s ++ [e]) _ = _
   rw [encW_snoc r s _ l e (by simpa using h)]; rfl
 | [], b :: s, _, _, _, h => by simp at h
 | a :: r, [], _, _, _, h => by simp at h
def outJ (D : Ds) (f : Cf) (vs : List Int) (j : Nat) : W2 := encW ((f.ops.take j).map (·.2)) (esN D (f.ops.take j) (vs.take j)) (f.u0, f.u1)
theorem outJ_step (D : Ds) (f : Cf) (vs : List Int) {j : Nat} (h1 : j < f.ops.length) (h2 : j < vs.length) : outJ D f vs (j + 1) = putW (f.ops[j]).2 0 (encN (clO D f.ops[j]).1 vs[j]) (outJ D f vs j) := by
 unfold outJ
 rw [esN_take D f.ops vs j h1 h2, List.take_succ_eq_append_getElem h1, List.map_append, List.map_cons, List.map_nil, encW_snoc]
 rw [List.length_map, esN_len]
 rw [List.length_take, List.length_take]; omega
def hasAll (D : Ds) : List (Int × List Int) → List Int → Bool
 | x :: r, v :: s => hasAt D x.1 v && hasAll D r s
 | _, _ => true
theorem hasAll_at (D : Ds) : ∀ (ops : List (Int × List Int)) (vs : List Int), vs.length = ops.length → (hasAll D ops vs = true ↔ ∀ (k : Nat) (h1 : k < ops.length) (h2 : k < vs.length), hasAt D (ops[k]).1 vs[k] = true)
 | [], [], _ => by simp [hasAll]
 | x :: r, v :: s, h => by
   simp only [hasAll, Bool.and_eq_true]
   rw [hasAll_at D r s (by simpa using h)]
   constructor
   · rintro ⟨h1, h2⟩ k h3 h4
     match k, h3, h4 with
     | 0, _, _ => exact h1
     | k + 1, h3, h4 => exact h2 k (by simpa using h3) (by simpa using h4)
   · intro h1
     exact ⟨h1 0 (by simp) (by simp), fun k h3 h4 => h1 (k + 1) (by simpa using h3) (by simpa using h4)⟩
 | [], v :: s, h => by simp at h
 | x :: r, [], h => by simp at h
def EncP (D : Ds) (n : Int) (vs : List Int) (w : World) (e : Ending) (w' : World) : Prop := Fr w w' ∧
 ((¬ (0 ≤ n ∧ n < (D.fms.length : Int)) ∧ e = .returned (.tuple #[.slice none 0 0, .int .i64 61])) ∨
  (∃ (k : Nat) (hk : k < D.fms.length), n = (k : Int) ∧
    ((vs.length ≠ (cfD D D.fms[k]).ops.length ∧ e = .returned (.tuple #[.slice none 0 0, .int .i64 61])) ∨
     (vs.length = (cfD D D.fms[k]).ops.length ∧ hasAll D (cfD D D.fms[k]).ops vs = false ∧ e = .returned (.tuple #[.slice none 0 0, .int .i64 64])) ∨
     (vs.length = (cfD D D.fms[k]).ops.length ∧ hasAll D (cfD D D.fms[k]).ops vs = true ∧
       ∃ g, e = .returned (.tuple #[.slice (some ⟨g, 0, none⟩) (cfD D D.fms[k]).size (cfD D D.fms[k]).size, .int .i64 0]) ∧ w.heap.size ≤ g ∧ RowOf ByC 1 w' (some ⟨g, 0, none⟩) (bytesW (outW (cfD D D.fms[k]) (esN D (cfD D D.fms[k]).ops vs)) (cfD D D.fms[k]).size)))))
def RelEn (D : Ds) (f : Cf) (vs : List Int) (wb : Nat) (W : World) (i : Value) (wr : World) : Prop := ∃ j : Nat, j ≤ f.ops.length ∧ i = .int .i64 (j : Int) ∧ Below wb W wr ∧ wb < wr.heap.size ∧ W2At wb wr (outJ D f vs j) ∧ hasAll D (f.ops.take j) (vs.take j) = true
theorem hasAll_take (D : Ds) : ∀ (ops : List (Int × List Int)) (vs : List Int) (j : Nat) (h1 : j < ops.length) (h2 : j < vs.length), hasAll D (ops.take (j + 1)) (vs.take (j + 1)) = (hasAll D (ops.take j) (vs.take j) && hasAt D (ops[j]).1 vs[j])
 | x :: r, v :: s, 0, _, _ => by simp [hasAll]
 | x :: r, v :: s, k + 1, h1, h2 => by
   have := hasAll_take D r s k (by simpa using h1) (by simpa using h2)
   simp only [List.take_succ_cons, hasAll, this, Bool.and_assoc, List.getElem_cons_succ]
 | [], _, k, h, _ => absurd h (Nat.not_lt_zero k)
 | _ :: _, [], k, _, h => absurd h (Nat.not_lt_zero k)
theorem hasAll_no (D : Ds) {ops : List (Int × List Int)} {vs : List Int} {j : Nat} (hl : vs.length = ops.length) (h1 : j < ops.length) (h2 : j < vs.length) (h : hasAt D (ops[j]).1 vs[j] = false) : hasAll D ops vs = false := by
 cases hh : hasAll D ops vs with
 | false => rfl
 | true =>
   have := (hasAll_at D ops vs hl).1 hh j h1 h2
   rw [h] at this; cases this
theorem outJ_lt (D : Ds) {f : Cf} (hf : CfOk f) (vs : List Int) (j : Nat) : (outJ D f vs j).1 < 18446744073709551616 ∧ (outJ D f vs j).2 < 18446744073709551616 := encW_lt _ _ _ hf.u0 hf.u1
theorem outJ_all (D : Ds) (f : Cf) {vs : List Int} (hl : vs.length = f.ops.length) : outJ D f vs f.ops.length = outW f (esN D f.ops vs) := by
 unfold outJ outW
 rw [List.take_length, ← hl, List.take_length]
theorem outJ_zero (D : Ds) (f : Cf) (vs : List Int) : outJ D f vs 0 = (f.u0, f.u1) := by unfold outJ; simp [esN, encW]
set_option maxHeartbeats 25600000 in
set_option maxRecDepth 100000 in
theorem cenc_no {w : World} {p : Nat} {D : Ds} (hC : CodecAt w p D) (n : Int) (hn : ¬ (0 ≤ n ∧ n < (D.fms.length : Int))) (V : Option Addr) (vl vc : Nat) :
   Calls Tryz.prog 12 #[.pointer (some ⟨p, 0, none⟩), .agg #[.int .i64 n, .slice V vl vc]] w fun e w' => e = .returned (.tuple #[.slice none 0 0, .int .i64 61]) ∧ Fr w w' := by
 obtain ⟨CA, FA, cc, fc, hcb, _, _⟩ := hC
 have HPL := Lib.hid (fun (w : World) => (show Calls Tryz.prog 31 #[.int .i64 n, .slice FA D.fms.length fc] w fun e w' => e = .returned (.bool false) ∧ w' = w from by
   have h := cformPlace_any n FA D.fms.length fc w
   have e : plB n D.fms.length = false := by unfold plB; simp; omega
   rwa [e] at h))
 have HF1 := Lib.hid (show Fr w (w.alloc (.cells #[.int .i64 n, .slice V vl vc] 48)) from Fr.alloc (Fr.refl w) _)
 have HB1 := Lib.hid (show BlkAt (w.alloc (.cells #[.int .i64 n, .slice V vl vc] 48)) w.heap.size [.int .i64 n, .slice V vl vc] from BlkAt.alloc)
 have HQ := Lib.hid (hcb 1 _ rfl)
 clear hcb hn
 go_enter Tryz.func12, Tryz.ntmps12
 go_wp2_with fail
 generalize World.alloc w _ = W1 at *
 generalize w.heap.size = ib at *
 have q1 := HF1.out.get HQ.out
 have b0 := HB1.out 0 _ rfl
 have b1 := HB1.out 1 _ rfl
 have zq := lt_of_cell q1
 have zb := lt_of_cell b0
 go_quiet ((go_at_call 31; refine Calls.quiet_of_same (HPL.out _)))
 go_wp2
 go_ret2
 exact ⟨rfl, Fr.drewN HF1.out _⟩
theorem W2At.fr {b : Nat} {w w' : World} {x : W2} (h : W2At b w x) (k : Fr w w') : W2At b w' x := ⟨k.get h.c0, k.get h.c1, k.free h.c0 h.f0, k.free h.c1 h.f1⟩
theorem Below.cell {n : Nat} {w w' : World} (k : Below n w w') {b o : Nat} {v : Value} (hb : b < n) (h : w.cell? ⟨b, o, none⟩ = some v) : w'.cell? ⟨b, o, none⟩ = some v := (cell_of_heap (Below.block k b hb)).trans h
set_option maxHeartbeats 25600000 in
set_option maxRecDepth 100000 in
theorem cenc_in {w : World} {p : Nat} {D : Ds} (hC : CodecAt w p D) (hR : ∀ c ∈ D.cls, clsB D c = true) (hX : ∀ c ∈ D.cls, c.ex.length ≤ 1048576) (hpat : ∀ f ∈ D.fms, patN D f.args f.pcs ≠ 0) (h512 : D.fms.length ≤ 512) (k : Nat) (hk : k < D.fms.length) {V : Option Addr} {vs : List Int} (vc : Nat) (hV : RowOf IntAt 1 w V vs) (hvm : vs.length ≤ maxLen) :
   Calls Tryz.prog 12 #[.pointer (some ⟨p, 0, none⟩), .agg #[.int .i64 (k : Int), .slice V vs.length vc]] w fun e w' => EncP D (k : Int) vs w e w' := by
 have HCO := Lib.hid hC
 have HXL := Lib.hid hX
 have HRL := Lib.hid hR
 have HV := Lib.hid hV
 have HPJ := hpat _ (List.getElem_mem hk)
 have hsz := size_le HPJ
 have HOO : Hid (OpsOk D (cfD D D.fms[k]).ops) := Lib.hid (ops_ok HPJ)
 have HOK : Hid (CfOk (cfD D D.fms[k])) := Lib.hid (cf_ok D (D.fms[k]).args (D.fms[k]).pcs)
 have HE1 := Lib.hid (show ∀ (e : Ending) (w' : World), Fr w w' → vs.length ≠ (cfD D D.fms[k]).ops.length → e = .returned (.tuple #[.slice none 0 0, .int .i64 61]) → EncP D (k : Int) vs w e w' from fun e w' h1 h2 h3 => ⟨h1, .inr ⟨k, hk, rfl, .inl ⟨h2, h3⟩⟩⟩)
 have HE2 := Lib.hid (show ∀ (e : Ending) (w' : World), Fr w w' → vs.length = (cfD D D.fms[k]).ops.length → hasAll D (cfD D D.fms[k]).ops vs = false → e = .returned (.tuple #[.slice none 0 0, .int .i64 64]) → EncP D (k : Int) vs w e w' from fun e w' h1 h2 h3 h4 => ⟨h1, .inr ⟨k, hk, rfl, .inr (.inl ⟨h2, h3, h4⟩)⟩⟩)
 have HE3 := Lib.hid (show ∀ (e : Ending) (w' : World), Fr w w' → vs.length = (cfD D D.fms[k]).ops.length → hasAll D (cfD D D.fms[k]).ops vs = true → (∃ g, e = .returned (.tuple #[.slice (some ⟨g, 0, none⟩) (cfD D D.fms[k]).size (cfD D D.fms[k]).size, .int .i64 0]) ∧ w.heap.size ≤ g ∧ RowOf ByC 1 w' (some ⟨g, 0, none⟩) (bytesW (outW (cfD D D.fms[k]) (esN D (cfD D D.fms[k]).ops vs)) (cfD D D.fms[k]).size)) → EncP D (k : Int) vs w e w' from
   fun e w' h1 h2 h3 h4 => ⟨h1, .inr ⟨k, hk, rfl, .inr (.inr ⟨h2, h3, h4⟩)⟩⟩)
 obtain ⟨CA, FA, cc, fc, hcb, hc, hfr⟩ := hC
 have HCB := Lib.hid hcb
 have HC := Lib.hid hc
 obtain ⟨bq, oq, rfl, hx⟩ := hfr.at (show k < (D.fms.map (cfD D)).length by simpa using hk)
 rw [Nat.mul_comm 7 k, List.getElem_map] at hx
 have hki : (k : Int) < (D.fms.length : Int) := by omega
 have hk0 : (0 : Int) ≤ (k : Int) := by omega
 have HPL := Lib.hid (fun (A : Option Addr) (w : World) => (show Calls Tryz.prog 31 #[.int .i64 (k : Int), .slice A D.fms.length fc] w fun e w' => e = .returned (.bool true) ∧ w' = w from by
   have h := cformPlace_any (k : Int) A D.fms.length fc w
   have e : plB (k : Int) D.fms.length = true := by unfold plB; simp; omega
   rwa [e] at h))
 generalize cfD D D.fms[k] = f at *
 obtain ⟨OA, on, hcell, hor⟩ := hx
 have HOR := Lib.hid hor
 have HC0 := Lib.hid (show w.cell? ⟨bq, oq + k * 7, none⟩ = some (.int .i64 (f.size : Int)) from hcell 0 _ rfl)
 have HC3 := Lib.hid (show w.cell? ⟨bq, oq + k * 7 + 3, none⟩ = some (.int .u64 (f.u0 : Int)) from hcell 3 _ rfl)
 have HC4 := Lib.hid (show w.cell? ⟨bq, oq + k * 7 + 4, none⟩ = some (.int .u64 (f.u1 : Int)) from hcell 4 _ rfl)
 have HC6 := Lib.hid (show w.cell? ⟨bq, oq + k * 7 + 6, none⟩ = some (.slice OA f.ops.length on) from hcell 6 _ rfl)
 have HF1 := Lib.hid (show Fr w (w.alloc (.cells #[.int .i64 (k : Int), .slice V vs.length vc] 48)) from Fr.alloc (Fr.refl w) _)
 have HB1 := Lib.hid (show BlkAt (w.alloc (.cells #[.int .i64 (k : Int), .slice V vs.length vc] 48)) w.heap.size [.int .i64 (k : Int), .slice V vs.length vc] from BlkAt.alloc)
 have HZ1 := Lib.hid (show (w.alloc (.cells #[.int .i64 (k : Int), .slice V vs.length vc] 48)).heap.size = w.heap.size + 1 by simp)
 have hvi : vs.length ≤ 9223372036854775807 := Nat.le_trans hvm (by decide)
 clear hcell hor hcb hc hfr hpat hV hX hR HPJ hvm
 go_enter Tryz.func12, Tryz.ntmps12
 go_wp2_with fail
 generalize World.alloc w _ = W1 at *
 obtain ⟨ib, hib⟩ : ∃ ib, w.heap.size = ib := ⟨_, rfl⟩
 have HIB := Lib.hid hib
 rw [hib] at HB1 HZ1
 (try simp only [hib])
 clear hib
 have q1 := HF1.out.get (HCB.out 1 _ rfl)
 have b0 := HB1.out 0 _ rfl
 have b1 := HB1.out 1 _ rfl
 have f6 := HF1.out.get HC6.out
 have zq := lt_of_cell q1
 have zb := lt_of_cell b0
 have zf := lt_of_cell f6
 by_cases hlen : vs.length = f.ops.length
 · obtain ⟨n, hn⟩ : ∃ n, f.ops.length = n := ⟨_, rfl⟩
   have HN := Lib.hid hn
   have HLE := Lib.hid hlen
   have h6 : n ≤ 6 := by omega
   have hvn : vs.length = n := by omega
   rw [hn] at f6 HC6
   rw [hvn] at b1 HB1 hvi
   (try simp only [hvn])
   clear hlen hn hvn
   go_quiet ((go_at_call 31; refine Calls.quiet_of_same (HPL.out _ _)))
   rename_i nq
   have HF2 := Lib.hid (show Fr W1 (W1.drewN nq) from Fr.drewN (Fr.refl _) _)
   have q1 := HF2.out.get q1
   have b0 := HF2.out.get b0
   have zq := lt_of_cell q1
   have zb := lt_of_cell b0
   go_wp2_with fail
   generalize W1.drewN nq = W2 at *
   clear nq
   go_quiet (fail)
   have HF3 := Lib.hid (show Fr W2 (W2.drewN nq) from Fr.drewN (Fr.refl _) _)
   have HFW3 := Lib.hid (HF1.out.call (HF2.out.call HF3.out))
   have f3 := HFW3.out.get HC3.out
   have f4 := HFW3.out.get HC4.out
   have f6 := HFW3.out.get HC6.out
   have zf := lt_of_cell f3
   clear q1 b0 zq zb
   generalize W2.drewN nq = W3 at *
   have HW5 := Lib.hid (show W2At W3.heap.size (W3.alloc (.cells #[.int .u64 (f.u0 : Int), .int .u64 (f.u1 : Int)] 92)) (f.u0, f.u1) from ⟨BlkAt.alloc (w := W3) (t := 92) (cs := #[.int .u64 (f.u0 : Int), .int .u64 (f.u1 : Int)]) 0 _ rfl, BlkAt.alloc (w := W3) (t := 92) (cs := #[.int .u64 (f.u0 : Int), .int .u64 (f.u1 : Int)]) 1 _ rfl, World.frozen?_alloc_at _ _ _ _ rfl, World.frozen?_alloc_at _ _ _ _ rfl⟩)
   have HF5 := Lib.hid (show Fr W3 (W3.alloc (.cells #[.int .u64 (f.u0 : Int), .int .u64 (f.u1 : Int)] 92)) from Fr.alloc (Fr.refl _) _)
   have HZ5 := Lib.hid (show (W3.alloc (.cells #[.int .u64 (f.u0 : Int), .int .u64 (f.u1 : Int)] 92)).heap.size = W3.heap.size + 1 by simp)
   go_wp2_with fail
   generalize World.alloc W3 _ = W5 at *
   obtain ⟨wb, hwb⟩ : ∃ wb, W3.heap.size = wb := ⟨_, rfl⟩
   have HWB := Lib.hid hwb
   rw [hwb] at HW5 HZ5
   (try simp only [hwb])
   clear hwb f3 f4 f6 zf
   have HWI := Lib.hid (show w.heap.size ≤ wb ∧ ib < wb by have := HFW3.out.size; have := HWB.out; have := HB1.out.fr (HF2.out.call HF3.out) 0 _ rfl; have := lt_of_cell this; exact ⟨by omega, by omega⟩)
   go_loopw [50] (fun i wr => RelEn D f vs wb W5 i wr) (fun i _ => n - (intOf i).toNat)
   case atStart => exact ⟨0, Nat.zero_le _, rfl, Below.refl _ _, by rw [HZ5.out]; omega, by rw [outJ_zero]; exact HW5.out, by simp [hasAll]⟩
   case round =>
     obtain ⟨j, hj, rfl, hbw, hgl, hw2, hha⟩ := hrel
     have HBW := Lib.hid hbw
     have HGL := Lib.hid hgl
     have HW2 := Lib.hid hw2
     have HHA := Lib.hid hha
     clear hbw hgl hw2 hha
     have HFW := Lib.hid (show Fr w wr from (HFW3.out.call HF5.out).below HBW.out HWI.out.1)
     have HFI := Lib.hid (show Below (ib + 1) W1 wr from Below.trans (Below.mono (HF2.out.call (HF3.out.call HF5.out)) (by rw [HZ1.out]; exact Nat.le_refl _)) (Below.mono HBW.out (by have := HWI.out.2; omega)))
     have hn9 := HN.out
     by_cases hlt : j < f.ops.length
     · have hji : (j : Int) < (n : Int) := by omega
       have hj0 : (0 : Int) ≤ (j : Int) := by omega
       have hjv : j < vs.length := by rw [HLE.out]; exact hlt
       have HST := Lib.hid (outJ_step D f vs hlt hjv)
       have HHT := Lib.hid (hasAll_take D f.ops vs j hlt hjv)
       have HHN := Lib.hid (hasAll_no D HLE.out hlt hjv)
       have HLT := Lib.hid (outJ_lt D HOK.out vs j)
       have hxo := HOO.out _ (List.getElem_mem hlt)
       obtain ⟨bo, oo, rfl, hx⟩ := HOR.out.at hlt
       rw [Nat.mul_comm 2 j] at hx
       obtain ⟨bv, ov, rfl, hvx⟩ := HV.out.at hjv
       rw [Nat.one_mul] at hvx
       obtain ⟨v, hv9⟩ : ∃ v, vs[j] = v := ⟨_, rfl⟩
       rw [hv9] at hvx HST HHT HHN
       clear hv9
       obtain ⟨hvI, hvx⟩ := hvx
       obtain ⟨xo, hxo9⟩ : ∃ xo, f.ops[j] = xo := ⟨_, rfl⟩
       rw [hxo9] at hx hxo HST HHT HHN
       clear hxo9
       obtain ⟨x1, x2⟩ := xo
       obtain ⟨hx1, A, oc, hoc, hx2, hrow⟩ := hx
       obtain ⟨k0, k1, k2, k3, k4, k5⟩ := hxo
       simp only at hx1 hoc hx2 hrow k0 k1 k2 k3 k5 HST HHT HHN
       obtain ⟨ci, rfl⟩ : ∃ ci : Nat, x1 = (ci : Int) := ⟨x1.toNat, by omega⟩
       have hci : ci < D.cls.length := by omega
       have hcii : (ci : Int) < (D.cls.length : Int) := by omega
       have hci0 : (0 : Int) ≤ (ci : Int) := by omega
       have hcl : (clO D ((ci : Int), x2)).1 = D.cls[ci] := by unfold clO; simp only [Int.toNat_natCast, List.getElem?_eq_getElem hci, Option.getD_some]
       rw [hcl] at k3 k4 HST
       have HHS := Lib.hid (fun (w1 : World) (k : Fr w w1) => cHas_any (HCO.out.fr k) HRL.out HXL.out (ci : Int) v hvI)
       obtain ⟨bc, oc2, rfl, hcc⟩ := HC.out.at hci
       rw [Nat.mul_comm 5 ci] at hcc
       generalize D.cls[ci] = cl at *
       have hsh : 0 ≤ cl.shift ∧ cl.shift < 64 := by
         rcases cls_right k4 with h | ⟨_, _, b, s, g1, g2, g3, g4⟩ | ⟨_, _, _, b, s, g1, g2, g3, g4⟩ <;> omega
       obtain ⟨CE, cen, hcell, hcrow⟩ := hcc
       have HEN := Lib.hid (fun (w1 : World) (k : Fr w w1) => (show Calls Tryz.prog 33 #[.pointer (some ⟨bc, oc2 + ci * 5, none⟩), .int .i64 v] w1 fun e w' => e = .returned (.int .u64 ((encN cl v : Nat) : Int)) ∧ Fr w1 w' from by
         have h := encoded_any bc (oc2 + ci * 5) cl.shift cl.plus v hsh.1 hsh.2 (k.get (hcell 2 _ rfl)) (k.get (hcell 3 _ rfl))
         have e : ((encN cl v : Nat) : Int) = encI cl.shift cl.plus v := by unfold encN; exact Int.toNat_of_nonneg (encI_nat _ _ _).1
         rw [e]; exact h))
       have hel := encN_lt cl v
       generalize encN cl v = en at *
       have hAb : ∀ b o, A = some ⟨b, o, none⟩ → b ≠ wb := fun b o he => by
         obtain ⟨b1, o1, e1, hh⟩ := hrow (by rcases cls_right k4 with h | ⟨_, _, b, s, g1, g2, g3, g4⟩ | ⟨_, _, _, b, s, g1, g2, g3, g4⟩ <;> omega)
         rw [e1] at he
         injection he with he; injection he with he _
         have h2 := lt_of_cell (hh 0 (by rcases cls_right k4 with h | ⟨_, _, b, s, g1, g2, g3, g4⟩ | ⟨_, _, _, b, s, g1, g2, g3, g4⟩ <;> omega))
         have := HWI.out.1
         omega
       have HPU := Lib.hid (fun (w1 : World) (k : Fr w w1) (h : W2At wb w1 (outJ D f vs j)) => cputw_any wb (outJ D f vs j) HLT.out.1 HLT.out.2 h en hel oc (hrow.fr fun _ _ _ x => IntC.fr x k) k2 k5 hAb)
       have HPB := Lib.hid (HCB.out 0 _ rfl)
       have hx1 := HFW.out.get hx1
       have hx2 := HFW.out.get hx2
       have zx := lt_of_cell hx1
       have HF6 := Lib.hid (show Fr wr (wr.alloc (.cells #[.int .i64 (ci : Int), .slice A x2.length oc] 100)) from Fr.alloc (Fr.refl wr) _)
       have HB6 := Lib.hid (BlkAt.alloc (w := wr) (t := 100) (cs := #[.int .i64 (ci : Int), .slice A x2.length oc]))
       have HVX := Lib.hid hvx
       have HOBW := Lib.hid (show wr.heap.size ≠ wb by have := HGL.out; omega)
       clear hcell hcrow hrow k0 k1 k2 k3 k4 k5 hcl hoc hAb hsh hvI hvx hel
       go_wp2_with fail
       generalize World.alloc wr _ = W6 at *
       obtain ⟨ob, hob⟩ : ∃ ob, wr.heap.size = ob := ⟨_, rfl⟩
       have HOB := Lib.hid hob
       rw [hob] at HB6 HOBW
       (try simp only [hob])
       clear hob hx1 hx2 zx
       have HFW6 := Lib.hid (HFW.out.call HF6.out)
       have o0 := HB6.out 0 _ rfl
       have o1 := HB6.out 1 _ rfl
       have i1 := HF6.out.get (Below.cell HFI.out (Nat.lt_succ_self ib) (HB1.out 1 _ rfl))
       have v0 := HFW6.out.get HVX.out
       have q0 := HFW6.out.get HPB.out
       have HSF := Lib.hid (fun (wx : World) (k : Fr W6 wx) => (⟨k.get o0, k.get o1, k.get i1, k.get v0, k.get q0⟩ : wx.cell? ⟨ob, 0, none⟩ = some (.int .i64 (ci : Int)) ∧ wx.cell? ⟨ob, 1, none⟩ = some (.slice A x2.length oc) ∧ wx.cell? ⟨ib, 1, none⟩ = some (.slice (some ⟨bv, ov, none⟩) n vc) ∧ wx.cell? ⟨bv, ov + j, none⟩ = some (.int .i64 v) ∧ wx.cell? ⟨p, 0, none⟩ = some (.slice (some ⟨bc, oc2, none⟩) D.cls.length cc)))
       have HNE := Lib.hid (show ib ≠ wb ∧ bv ≠ wb ∧ p ≠ wb by have := HWI.out; have := lt_of_cell HVX.out; have := lt_of_cell HPB.out; omega)
       have HSK := Lib.hid (fun (wx wy : World) (k : KB wb wx wy) (h : wx.cell? ⟨ob, 0, none⟩ = some (.int .i64 (ci : Int)) ∧ wx.cell? ⟨ob, 1, none⟩ = some (.slice A x2.length oc) ∧ wx.cell? ⟨ib, 1, none⟩ = some (.slice (some ⟨bv, ov, none⟩) n vc) ∧ wx.cell? ⟨bv, ov + j, none⟩ = some (.int .i64 v) ∧ wx.cell? ⟨p, 0, none⟩ = some (.slice (some ⟨bc, oc2, none⟩) D.cls.length cc)) => (⟨(cell_of_heap (k.keep _ HOBW.out)).trans h.1, (cell_of_heap (k.keep _ HOBW.out)).trans h.2.1, (cell_of_heap (k.keep _ HNE.out.1)).trans h.2.2.1, (cell_of_heap (k.keep _ HNE.out.2.1)).trans h.2.2.2.1, (cell_of_heap (k.keep _ HNE.out.2.2)).trans h.2.2.2.2⟩ : wy.cell? ⟨ob, 0, none⟩ = some (.int .i64 (ci : Int)) ∧ wy.cell? ⟨ob, 1, none⟩ = some (.slice A x2.length oc) ∧ wy.cell? ⟨ib, 1, none⟩ = some (.slice (some ⟨bv, ov, none⟩) n vc) ∧ wy.cell? ⟨bv, ov + j, none⟩ = some (.int .i64 v) ∧ wy.cell? ⟨p, 0, none⟩ = some (.slice (some ⟨bc, oc2, none⟩) D.cls.length cc)))
       have zo := lt_of_cell o0
       have zi := lt_of_cell i1
       have zv := lt_of_cell v0
       have zq := lt_of_cell q0
       generalize hasAt D (ci : Int) v = y at *
       go_region_held3 (fun wx => wx.cell? ⟨ob, 0, none⟩ = some (.int .i64 (ci : Int)) ∧ wx.cell? ⟨ob, 1, none⟩ = some (.slice A x2.length oc) ∧ wx.cell? ⟨ib, 1, none⟩ = some (.slice (some ⟨bv, ov, none⟩) n vc) ∧ wx.cell? ⟨bv, ov + j, none⟩ = some (.int .i64 v) ∧ wx.cell? ⟨p, 0, none⟩ = some (.slice (some ⟨bc, oc2, none⟩) D.cls.length cc)) (first | exact HSF.out _ (Fr.refl _) | exact HSF.out _ (Fr.drew (Fr.refl _)) | exact HSF.out _ HF8.out) (first | (go_at_call 13; refine (HHS.out _ (by first | exact HFW6.out | exact Fr.drew HFW6.out)).mono ?_; rintro e w8 ⟨rfl, hf8⟩; have HF8 := Lib.hid (show Fr W6 w8 by first | exact hf8 | exact Fr.call (Fr.drew (Fr.refl _)) hf8); clear hf8))
       have HFW8 := Lib.hid (HFW6.out.call HF8.out)
       clear o0 o1 i1 v0 q0 zo zi zv zq
       cases y with
       | false =>
         have HN9 := Lib.hid (HHN.out (by trivial))
         go_wp2
         go_ret2
         exact HE2.out _ _ HFW8.out HLE.out HN9.out rfl
       | true =>
         have HAN := Lib.hid (show hasAll D (f.ops.take (j + 1)) (vs.take (j + 1)) = true by rw [HHT.out, HHA.out]; simp)
         obtain ⟨o0, o1, i1, v0, q0⟩ := HSF.out _ HF8.out
         have zo := lt_of_cell o0
         have zi := lt_of_cell i1
         have zv := lt_of_cell v0
         have zq := lt_of_cell q0
         have HW8 := Lib.hid (HW2.out.fr (HF6.out.call HF8.out))
         have HSF8 := Lib.hid (fun (wx : World) (k : Fr w8 wx) => HSF.out wx (HF8.out.call k))
         go_wp2_with fail
         go_region_held3 (fun wx => wx.cell? ⟨ob, 0, none⟩ = some (.int .i64 (ci : Int)) ∧ wx.cell? ⟨ob, 1, none⟩ = some (.slice A x2.length oc) ∧ wx.cell? ⟨ib, 1, none⟩ = some (.slice (some ⟨bv, ov, none⟩) n vc) ∧ wx.cell? ⟨bv, ov + j, none⟩ = some (.int .i64 v) ∧ wx.cell? ⟨p, 0, none⟩ = some (.slice (some ⟨bc, oc2, none⟩) D.cls.length cc)) (first | exact HSF8.out _ (Fr.refl _) | exact HSF8.out _ (Fr.drew (Fr.refl _)) | exact HSF8.out _ HF9.out | exact HSK.out _ _ HKB.out (HSF8.out _ HF9.out)) (first
           | (go_at_call 33; refine (HEN.out _ (by first | exact HFW8.out | exact Fr.drew HFW8.out)).mono ?_; rintro e w9 ⟨rfl, hf9⟩; have HF9 := Lib.hid (show Fr w8 w9 by first | exact hf9 | exact Fr.call (Fr.drew (Fr.refl _)) hf9); clear hf9)
           | (go_at_call 32; refine (HPU.out _ (HFW8.out.call HF9.out) (HW8.out.fr HF9.out)).mono ?_; rintro e w10 ⟨rfl, hkb, hw10⟩; have HKB := Lib.hid hkb; have HW10 := Lib.hid hw10; clear hkb hw10))
         have HBN := Lib.hid (show Below wb W5 w10 from Below.trans (Below.trans HBW.out (Below.mono (HF6.out.call (HF8.out.call HF9.out)) (by have := HGL.out; omega))) HKB.out.below)
         have HGN := Lib.hid (show wb < w10.heap.size from lt_of_cell HW10.out.c0)
         go_wp2
         go_roundw
         case rel => exact ⟨j + 1, by omega, by go_num, HBN.out, HGN.out, by rw [HST.out]; exact HW10.out, HAN.out⟩
         case measure => simp [intOf]; omega
     · obtain rfl : j = f.ops.length := by omega
       have HAL := Lib.hid (show hasAll D f.ops vs = true by have := HHA.out; rwa [List.take_length, ← HLE.out, List.take_length] at this)
       have HLT := Lib.hid (outJ_lt D HOK.out vs f.ops.length)
       have HOA := Lib.hid (outJ_all D f HLE.out)
       obtain ⟨X, hX9⟩ : ∃ X, outJ D f vs f.ops.length = X := ⟨_, rfl⟩
       rw [hX9] at HW2 HLT HOA
       clear hX9
       obtain ⟨x0, x1⟩ := X
       have c0 := HW2.out.c0
       have c1 := HW2.out.c1
       have f0 := HFW.out.get HC0.out
       have zc := lt_of_cell c0
       have zf := lt_of_cell f0
       simp only at c0 c1
       have HBY := Lib.hid (fun w1 => cbytes_any (w := w1) x0 x1 HLT.out.1 HLT.out.2 f.size hsz.1)
       have HSF := Lib.hid (fun (wx : World) (kk : Fr wr wx) => (⟨kk.get c0, kk.get c1, kk.get f0⟩ : wx.cell? ⟨wb, 0, none⟩ = some (.int .u64 (x0 : Int)) ∧ wx.cell? ⟨wb, 1, none⟩ = some (.int .u64 (x1 : Int)) ∧ wx.cell? ⟨bq, oq + k * 7, none⟩ = some (.int .i64 (f.size : Int))))
       rw [hn9] at hlt
       clear hj
       have hni : ¬ ((n : Int) < (n : Int)) := by omega
       rw [hn9]
       go_wp2_with fail
       go_region_held3 (fun wx => wx.cell? ⟨wb, 0, none⟩ = some (.int .u64 (x0 : Int)) ∧ wx.cell? ⟨wb, 1, none⟩ = some (.int .u64 (x1 : Int)) ∧ wx.cell? ⟨bq, oq + k * 7, none⟩ = some (.int .i64 (f.size : Int))) (first | exact HSF.out _ (Fr.refl _) | exact HSF.out _ (Fr.drew (Fr.refl _)) | exact HSF.out _ HF8.out) (first | (go_at_call 34; refine (HBY.out _).mono ?_; rintro e w8 ⟨g, rfl, hg, hrow, hf8⟩; have HF8 := Lib.hid (show Fr wr w8 by first | exact hf8 | exact Fr.call (Fr.drew (Fr.refl _)) hf8); have HG8 := Lib.hid hg; have HR8 := Lib.hid hrow; clear hf8 hg hrow))
       have HGG := Lib.hid (show w.heap.size ≤ g by have := HG8.out; have := HFW.out.size; simp at *; omega)
       rw [HOA.out] at HR8
       go_wp2
       go_ret2
       exact HE3.out _ _ (HFW.out.call HF8.out) HLE.out HAL.out ⟨g, rfl, HGG.out, HR8.out⟩
 · have hne : ((vs.length : Int) != (f.ops.length : Int)) = true := by rw [bne_iff_ne]; omega
   have HLN := Lib.hid hlen
   clear hlen
   go_quiet ((go_at_call 31; refine Calls.quiet_of_same (HPL.out _ _)))
   go_wp2
   go_ret2
   exact HE1.out _ _ (Fr.drewN HF1.out _) HLN.out rfl
theorem u64_emod (x : Int) : IntKind.u64.wrap x = x % 18446744073709551616 := by simp [IntKind.wrap, IntKind.bits, IntKind.signed]
theorem sgnN_mod {b : Nat} (hb : 1 ≤ b) (hb2 : b ≤ 64) {q : Int} (h1 : -(2 ^ (b - 1)) ≤ q) (h2 : q < 2 ^ (b - 1)) : sgnN b ((q % 18446744073709551616).toNat % 2 ^ b) = q := by
 have e : (2 : Int) ^ b = 2 * 2 ^ (b - 1) := by rw [← Int.pow_succ']; congr 1; omega
 have hp := pow_pos2 (b - 1)
 have hd : (2 : Int) ^ b ∣ 18446744073709551616 := by
   refine ⟨2 ^ (64 - b), ?_⟩
   rw [← Int.pow_add, show b + (64 - b) = 64 by omega]; decide
 have hm : (((q % 18446744073709551616).toNat % 2 ^ b : Nat) : Int) = q % 2 ^ b := by
   rw [Int.natCast_emod, Int.toNat_of_nonneg (Int.emod_nonneg _ (by decide))]
   have : ((2 ^ b : Nat) : Int) = 2 ^ b := by simp
   rw [this, Int.emod_emod_of_dvd _ hd]
 have c1 : ((2 ^ (b - 1) : Nat) : Int) = 2 ^ (b - 1) := by simp
 unfold sgnN
 rcases Int.lt_or_le q 0 with hq | hq
 · have e2 : q % 2 ^ b = q + 2 ^ b := by
     rw [← Int.add_emod_right]; exact Int.emod_eq_of_lt (by omega) (by omega)
   rw [e2] at hm
   rw [if_neg (by omega), hm]; omega
 · have e2 : q % 2 ^ b = q := Int.emod_eq_of_lt hq (by omega)
   rw [e2] at hm
   rw [if_pos (by omega), hm]
theorem enc_back {D : Ds} {c : Cl} (hc : clsB D c = true) {v : Int} (hv : I64 v) (h : hasI c v = true) : valI c (encN c v % 2 ^ c.bits.toNat) = v ∧ v ∉ c.ex := by
 have hcr := cls_right hc
 obtain ⟨kind, file, bits, shift, plus, ex⟩ := c
 unfold hasI at h
 rw [Bool.and_eq_true] at h
 obtain ⟨hx, h⟩ := h
 refine ⟨?_, by simpa using hx⟩
 unfold encN encI valI
 simp only at hcr h ⊢
 rw [u64_emod]
 rcases hcr with ⟨rfl, h1, h2, rfl, h3, h4⟩ | ⟨rfl, rfl, b, s, rfl, rfl, h1, h2⟩ | ⟨h1, h2, rfl, b, s, rfl, rfl, h3, h4⟩
 · rw [if_pos rfl, decide_eq_true_eq] at h
   have hp2 : (2 : Int) ^ bits.toNat ≤ 64 := by have := pow_le_i (show bits.toNat ≤ 6 by omega); simpa using this
   have c2 : ((2 ^ bits.toNat : Nat) : Int) = 2 ^ bits.toNat := by simp
   rw [if_pos rfl, wrap_in (by omega) (by omega)]
   simp only [Int.toNat_zero, Int.pow_zero, Int.ediv_one]
   rw [Int.emod_eq_of_lt (by omega) (by omega), Nat.mod_eq_of_lt (by omega)]
   omega
 · have hn2 : ¬ (2 : Int) = 1 := by decide
   rw [if_neg hn2, if_pos rfl, Bool.and_eq_true, decide_eq_true_eq, decide_eq_true_eq, Int.toNat_natCast, Int.toNat_natCast] at h
   obtain ⟨d1, d2⟩ := down_up hv (show s ≤ 63 by omega)
   have c2 : ((2 ^ b : Nat) : Int) = 2 ^ b := by simp
   have hb3 := pow_le_i (show b ≤ 62 by omega)
   have e62 : (2 : Int) ^ 62 = 4611686018427387904 := by decide
   rw [if_neg hn2, if_pos rfl, Int.sub_zero, wrap_in hv.1 (by have := hv.2; omega), Int.toNat_natCast, Int.toNat_natCast]
   rw [Int.emod_eq_of_lt (by omega) (by omega), Nat.mod_eq_of_lt (by omega), Int.toNat_of_nonneg h.2.1]
   omega
 · rw [if_neg h1, if_neg h2, Bool.and_eq_true, decide_eq_true_eq, decide_eq_true_eq, Int.toNat_natCast, Int.toNat_natCast] at h
   obtain ⟨d1, d2⟩ := down_up hv (show s ≤ 63 by omega)
   rw [if_neg h1, if_neg h2, Int.sub_zero, wrap_in hv.1 (by have := hv.2; omega), Int.toNat_natCast, Int.toNat_natCast, sgnN_mod h3 (by omega) h.2.1 h.2.2]
   omega
theorem fitB_C {D : Ds} {W : W2} {len : Nat} {f : Cf} (h : fitB D W len f = true) : f.size ≤ len ∧ FitC (hasN W.1 W.2) f ∧ ∀ x ∈ f.ops, excO D (hasN W.1 W.2) x = false := by
 unfold fitB at h
 simp only [Bool.and_eq_true, decide_eq_true_eq, beq_iff_eq] at h
 obtain ⟨⟨⟨h1, h2⟩, h3⟩, h4⟩ := h
 refine ⟨h1, fun p hp => ?_, fun x hx => ?_⟩
 · rw [← hasN_and, h2, h3]
 · have := List.all_eq_true.1 h4 x hx
   simpa using this
theorem fitB_of {D : Ds} {W : W2} {len : Nat} {f : Cf} (hf : CfOk f) (h1 : W.1 < 18446744073709551616) (h2 : W.2 < 18446744073709551616) (hl : f.size ≤ len) (h : FitC (hasN W.1 W.2) f) (hx : ∀ x ∈ f.ops, excO D (hasN W.1 W.2) x = false) : fitB D W len f = true := by
 have := hasW_ext (a := W.1 &&& f.l0) (b := W.2 &&& f.l1) (c := f.u0) (d := f.u1) (Nat.lt_of_le_of_lt Nat.and_le_left h1) (Nat.lt_of_le_of_lt Nat.and_le_left h2) hf.u0 hf.u1 (fun p hp => by rw [hasN_and]; exact h p hp)
 unfold fitB
 rw [this.1, this.2]
 simp only [Bool.and_eq_true, decide_eq_true_eq, beq_self_eq_true, and_true]
 exact ⟨hl, List.all_eq_true.2 fun x hxm => by rw [hx x hxm]; rfl⟩
theorem fit_L {D : Ds} {fm : Fm} (hp : patN D fm.args fm.pcs ≠ 0) {W : W2} {len : Nat} (h : fitB D W len (cfD D fm) = true) : FitL (hasN W.1 W.2) (layF D fm) := by
 obtain ⟨_, h2, h3⟩ := fitB_C h
 refine fitL_of hp h2 fun x hx => ?_
 have := h3 x hx
 unfold excO valO at this
 simpa using this
theorem one_fit {D : Ds} (h : (chkN D).2 = 0) (hpat : ∀ f ∈ D.fms, patN D f.args f.pcs ≠ 0) {W : W2} {len i j : Nat} (hi : i < D.fms.length) (hj : j < D.fms.length) (h1 : fitB D W len (cfD D D.fms[i]) = true) (h2 : fitB D W len (cfD D D.fms[j]) = true) : i = j := by
 rcases Nat.lt_trichotomy i j with h3 | h3 | h3
 · exact (one_fits h hpat h3 hj (fit_L (hpat _ (List.getElem_mem hi)) h1) (fit_L (hpat _ (List.getElem_mem hj)) h2)).elim
 · exact h3
 · exact (one_fits h hpat h3 hi (fit_L (hpat _ (List.getElem_mem hj)) h2) (fit_L (hpat _ (List.getElem_mem hi)) h1)).elim
theorem size_bits {D : Ds} {fm : Fm} (hp : patN D fm.args fm.pcs ≠ 0) : 8 * (cfD D fm).size = patN D fm.args fm.pcs ∧ patN D fm.args fm.pcs ≤ 120 := by
 obtain ⟨_, _, _, h8, hb⟩ := pat_sum hp
 unfold cfD
 rw [cf_size]; omega
theorem out_bitD {D : Ds} {fm : Fm} (hp : patN D fm.args fm.pcs ≠ 0) {es : List Nat} (hl : es.length = fm.args.length) {i : Nat} {x : Bt} (hx : (wL D fm.args fm.pcs)[i]? = some x) :
   (x.arg = -1 → hasW (outW (cfD D fm) es) (plcN D.order i (patN D fm.args fm.pcs)) = decide (x.lit = 49)) ∧ ∀ k m : Nat, x = ⟨0, (k : Int), (m : Int)⟩ → k < fm.args.length → hasW (outW (cfD D fm) es) (plcN D.order i (patN D fm.args fm.pcs)) = (es.getD k 0).testBit m := out_bit hp hl hx
theorem out_fit {D : Ds} {fm : Fm} (hp : patN D fm.args fm.pcs ≠ 0) {es : List Nat} (hl : es.length = fm.args.length) {β : Nat → Bool} (hβ : ∀ p, p < patN D fm.args fm.pcs → β p = hasW (outW (cfD D fm) es) p) :
   FitC β (cfD D fm) ∧ ∀ (k : Nat) (hk : k < (cfD D fm).ops.length), numA β ((cfD D fm).ops[k]).2 = es.getD k 0 % 2 ^ ((cfD D fm).ops[k]).2.length := by
 obtain ⟨_, el⟩ := layD_B hp
 obtain ⟨_, _, _, h8, hb⟩ := pat_sum hp
 have hplc : ∀ {i : Nat} {x : Bt}, (wL D fm.args fm.pcs)[i]? = some x → plcN D.order i (patN D fm.args fm.pcs) < patN D fm.args fm.pcs := fun h => plc_lt (by rw [← el]; exact (List.getElem?_eq_some_iff.1 h).1) h8
 refine ⟨(fitC_iff hp β).2 fun i x hx ha => ?_, fun k hk => ?_⟩
 · have := hβ _ (hplc hx)
   rw [(out_bitD hp hl hx).1 ha] at this
   rw [this]
   exact ⟨fun h => decide_eq_false (by omega), fun h => decide_eq_true h⟩
 · have hka : k < fm.args.length := by rw [← cf_len D fm.args fm.pcs]; exact hk
   obtain ⟨l, e1, e2, e3⟩ := cf_ops hp hka
   have e1' : (cfD D fm).ops[k] = (fm.args[k], l) := by
     have h2 := List.getElem?_eq_getElem (l := (cfD D fm).ops) hk
     exact Option.some.inj (h2.symm.trans e1)
   rw [e1']
   show numA β l = es.getD k 0 % 2 ^ l.length
   apply Nat.eq_of_testBit_eq
   intro m
   rw [numA_bit, Nat.testBit_mod_two_pow]
   by_cases hm : m < l.length
   · obtain ⟨i, g1, g2⟩ := e3 m hm
     rw [g2, decide_eq_true hm, Bool.true_and]
     simp only [Int.toNat_natCast]
     rw [hβ _ (hplc g1), (out_bitD hp hl g1).2 k m rfl hka]
   · rw [List.getElem?_eq_none (by omega), decide_eq_false hm]; rfl
theorem ops_cls {D : Ds} {fm : Fm} (hp : patN D fm.args fm.pcs ≠ 0) {k : Nat} (hk : k < (cfD D fm).ops.length) : clsB D (clO D (cfD D fm).ops[k]).1 = true ∧ ((cfD D fm).ops[k]).2.length = (clO D (cfD D fm).ops[k]).1.bits.toNat ∧ 0 ≤ ((cfD D fm).ops[k]).1 ∧ ∀ v, hasAt D ((cfD D fm).ops[k]).1 v = hasI (clO D (cfD D fm).ops[k]).1 v := by
 obtain ⟨h1, h2, h3, h4, h5, h6⟩ := ops_ok hp _ (List.getElem_mem hk)
 refine ⟨h5, by omega, h1, fun v => ?_⟩
 unfold hasAt clO
 rw [if_pos h1]
 have h2' : ((cfD D fm).ops[k]).1.toNat < D.cls.length := by
   have : ((cfD D fm).ops[k]).1 < D.cls.length := h2
   omega
 simp only [List.getElem?_eq_getElem h2', Option.getD_some]
theorem dec_enc {D : Ds} {fm : Fm} (hp : patN D fm.args fm.pcs ≠ 0) {vs : List Int} (hl : vs.length = (cfD D fm).ops.length) (hI : ∀ v ∈ vs, I64 v) (hh : hasAll D (cfD D fm).ops vs = true) {bs : List Nat} (hb : ∀ b ∈ bs, b < 256) (hlen : (cfD D fm).size ≤ bs.length)
   (hbits : ∀ p, p < 8 * (cfD D fm).size → bitB bs p = hasW (outW (cfD D fm) (esN D (cfD D fm).ops vs)) p) : fitB D (wordsN bs) bs.length (cfD D fm) = true ∧ valsW D (wordsN bs) (cfD D fm) = vs := by
 obtain ⟨hs1, hs2⟩ := size_bits hp
 have hβ : ∀ p, p < patN D fm.args fm.pcs → hasN (wordsN bs).1 (wordsN bs).2 p = hasW (outW (cfD D fm) (esN D (cfD D fm).ops vs)) p := fun p hp2 => by
   have h1 := wordsN_bit hb (p := p) (by omega)
   unfold hasW at h1
   rw [h1, decide_eq_true (by omega), Bool.true_and]
   exact hbits p (by omega)
 have hel : (esN D (cfD D fm).ops vs).length = fm.args.length := by rw [esN_len D _ _ hl]; exact cf_len D fm.args fm.pcs
 obtain ⟨hf, hn⟩ := out_fit hp hel hβ
 have hval : ∀ (k : Nat) (hk : k < (cfD D fm).ops.length), valO D (hasN (wordsN bs).1 (wordsN bs).2) (cfD D fm).ops[k] = vs[k]'(by rw [hl]; exact hk) ∧ excO D (hasN (wordsN bs).1 (wordsN bs).2) (cfD D fm).ops[k] = false := fun k hk => by
   have hkv : k < vs.length := by rw [hl]; exact hk
   obtain ⟨c1, c2, c3, c4⟩ := ops_cls hp hk
   have h1 := (hasAll_at D _ _ hl).1 hh k hk hkv
   rw [c4] at h1
   have h2 := enc_back c1 (hI _ (List.getElem_mem hkv)) h1
   have h3 : valO D (hasN (wordsN bs).1 (wordsN bs).2) (cfD D fm).ops[k] = vs[k] := by
     unfold valO
     rw [hn k hk, esN_get D _ _ k hk hkv, c2]
     exact h2.1
   refine ⟨h3, ?_⟩
   unfold excO
   rw [h3]
   simpa using h2.2
 refine ⟨fitB_of (cf_ok D fm.args fm.pcs) (wordsN_lt hb).1 (wordsN_lt hb).2 hlen hf (fun x hx => ?_), ?_⟩
 · obtain ⟨k, hk, rfl⟩ := List.mem_iff_getElem.1 hx
   exact (hval k hk).2
 · apply List.ext_getElem
   · unfold valsW; rw [List.length_map, hl]
   · intro k h1 h2
     have hk : k < (cfD D fm).ops.length := by rw [← hl]; exact h2
     have h3 : ((cfD D fm).ops.map (valO D (hasN (wordsN bs).1 (wordsN bs).2)))[k]'(by rw [List.length_map]; exact hk) = vs[k] := by
       rw [List.getElem_map]; exact (hval k hk).1
     exact h3
end Go.Proofs.YtdipnhghdajplaaGreatDoor
