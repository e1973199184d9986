/- Small calls of the laws of layer 6: the same instruction, the same bytes, Canonical; rows that were appended. -/
import Derived.Test.YtdipnhghdajplaaGreatDoorP34
import Derived.Laws.BytesArg
import Derived.Lib.Bytes
import Derived.OwnWalk
namespace Go.Proofs.YtdipnhghdajplaaGreatDoor
open Go.RowKit
set_option linter.unusedSimpArgs false
set_option linter.unusedVariables false
theorem conv_by {P : Program} {A : Option Addr} {bs : List Nat} {w : World} (h : RowOf ByC 1 w A bs) (c : Nat) {src e dst : TypeId} (hs : P.underlying src = some (.slice e)) (he : P.underlying e = some (.int .u8)) (hd : P.underlying dst = some .string) :
   (convert src dst (.slice A bs.length c)).run P w = .ok (.string (strOfNums (bs.map fun x : Nat => (x : Int)))) w := by
 by_cases h0 : 0 < bs.length
 · obtain ⟨g, o, rfl, hc⟩ := h h0
   have := run_convert_bytes_arg w src e hs he g o bs.length c (bs.map fun x : Nat => (x : Int)) (by simp) (fun i hi => by
     have h1 := (hc i hi).2
     rw [Nat.one_mul] at h1
     rw [h1, List.getD_eq_getElem?_getD, List.getElem?_map, List.getElem?_eq_getElem hi]; rfl) dst hd
   exact this
 · obtain rfl : bs = [] := List.eq_nil_of_length_eq_zero (by omega)
   cases A with
   | none => exact run_convert_bytes_nil w src e hs he _ c dst hd
   | some ad =>
     rw [run_convert_bytes_string w src dst e _ _ c hs he hd]
     simp [Conv.bytesToString, loadCells]
     rfl
set_option maxHeartbeats 1600000 in
theorem same02_any (A B : Option Addr) (c d n : Nat) (bs : List Nat) (w : World) (ha : RowOf ByC 1 w A bs) (hb : RowOf ByC 1 w B bs) (hn : bs.length = n) :
   Calls Tryz.prog 28 #[.slice A n c, .slice B n d] w fun e w' => e = .returned (.bool true) ∧ w = w' := by
 subst hn
 have ka := conv_by ha c Tryz.underlying34 Tryz.underlying5 Tryz.underlying9
 have kb := conv_by hb d Tryz.underlying34 Tryz.underlying5 Tryz.underlying9
 generalize strOfNums (bs.map fun x : Nat => (x : Int)) = T at *
 clear ha hb
 go_enter Tryz.func28, Tryz.ntmps28
 go_wp2
 go_ret
 exact ⟨by first | rfl | exact ret_bool (by simp), rfl⟩
def RelSa (n : Nat) (W : World) (i : Value) (wr : World) : Prop := ∃ j : Nat, j ≤ n ∧ i = .int .i64 (j : Int) ∧ Fr W wr
set_option maxHeartbeats 6400000 in
set_option maxRecDepth 100000 in
theorem same06_any {w : World} (k : Int) (A B : Option Addr) (c d : Nat) (l : List Int) (ha : RowOf IntC 1 w A l) (hb : RowOf IntC 1 w B l) (hm : l.length ≤ maxLen) :
   Calls Tryz.prog 15 #[.agg #[.int .i64 k, .slice A l.length c], .agg #[.int .i64 k, .slice B l.length d]] w fun e w' => e = .returned (.bool true) ∧ Fr w w' := by
 have HA := Lib.hid ha
 have HB := Lib.hid hb
 have hml : l.length ≤ 9223372036854775807 := Nat.le_trans hm (by decide)
 have HF1 := Lib.hid (show Fr w ((w.alloc (.cells #[.int .i64 k, .slice A l.length c] 48)).alloc (.cells #[.int .i64 k, .slice B l.length d] 48)) from Fr.alloc (Fr.alloc (Fr.refl w) _) _)
 have HB1 := Lib.hid (BlkAt.fr (BlkAt.alloc (w := w) (t := 48) (cs := #[.int .i64 k, .slice A l.length c])) (Fr.alloc (Fr.refl _) (.cells #[.int .i64 k, .slice B l.length d] 48)))
 have HB2 := Lib.hid (show BlkAt ((w.alloc (.cells #[.int .i64 k, .slice A l.length c] 48)).alloc (.cells #[.int .i64 k, .slice B l.length d] 48)) (w.heap.size + 1) [.int .i64 k, .slice B l.length d] from by
   have := BlkAt.alloc (w := w.alloc (.cells #[.int .i64 k, .slice A l.length c] 48)) (t := 48) (cs := #[.int .i64 k, .slice B l.length d])
   simpa using this)
 clear ha hb hm
 go_enter Tryz.func15, Tryz.ntmps15
 go_wp2_with fail
 generalize World.alloc (World.alloc w _) _ = W2 at *
 generalize w.heap.size = kb at *
 go_loopw [23] (fun i wr => RelSa l.length W2 i wr) (fun i _ => l.length - (intOf i).toNat)
 case atStart => exact ⟨0, Nat.zero_le _, rfl, Fr.refl _⟩
 case round =>
   obtain ⟨j, hj, rfl, hf⟩ := hrel
   have HF := Lib.hid hf
   clear hf
   by_cases hlt : j < l.length
   · have hji : (j : Int) < (l.length : Int) := by omega
     have hj0 : (0 : Int) ≤ (j : Int) := by omega
     obtain ⟨ba, oa, rfl, hx⟩ := (HA.out.fr fun _ _ _ x => IntC.fr x (HF1.out.call HF.out)).at hlt
     obtain ⟨bb, ob, rfl, hy⟩ := (HB.out.fr fun _ _ _ x => IntC.fr x (HF1.out.call HF.out)).at hlt
     unfold IntC at hx hy
     rw [Nat.one_mul] at hx hy
     generalize l[j] = x at *
     have a1 := HB1.out.fr HF.out 1 _ rfl
     have b1 := HB2.out.fr HF.out 1 _ rfl
     have za := lt_of_cell a1
     have zb := lt_of_cell b1
     have zx := lt_of_cell hx
     have zy := lt_of_cell hy
     go_wp2_with fail
     go_quiet (fail)
     go_wp2
     go_roundw
     case rel => exact ⟨j + 1, by omega, by go_num, Fr.drewN HF.out _⟩
     case measure => simp [intOf]; omega
   · obtain rfl : j = l.length := by omega
     clear hj
     go_wp2
     go_ret
     exact ⟨rfl, HF1.out.call HF.out⟩
set_option maxHeartbeats 6400000 in
set_option maxRecDepth 100000 in
theorem canon_any {w : World} {p : Nat} {D : Ds} (hC : CodecAt w p D) (k : Nat) (hk : k < D.fms.length) :
   Calls Tryz.prog 40 #[.pointer (some ⟨p, 0, none⟩), .int .i64 (k : Int)] w fun e w' => e = .returned (.bool (cfD D D.fms[k]).canon) ∧ w' = w := by
 obtain ⟨CA, FA, cc, fc, hcb, _, hfr⟩ := hC
 have q1 := hcb 1 _ rfl
 have zq := lt_of_cell q1
 obtain ⟨bq, oq, rfl, hx⟩ := hfr.at (show k < (D.fms.map (cfD D)).length by simpa using hk)
 rw [Nat.mul_comm 7 k, List.getElem_map] at hx
 have hki : (k : Int) < (D.fms.length : Int) := by omega
 have hk0 : (0 : Int) ≤ (k : Int) := by omega
 have HPL := Lib.hid (fun (A : Option Addr) (w : World) => (show Calls Tryz.prog 31 #[.int .i64 (k : Int), .slice A D.fms.length fc] w fun e w' => e = .returned (.bool true) ∧ w' = w from by
   have h := cformPlace_any (k : Int) A D.fms.length fc w
   have e : plB (k : Int) D.fms.length = true := by unfold plB; simp; omega
   rwa [e] at h))
 generalize cfD D D.fms[k] = f at *
 obtain ⟨OA, on, hcell, _⟩ := hx
 have f5 : w.cell? ⟨bq, oq + k * 7 + 5, none⟩ = some (.bool f.canon) := hcell 5 _ rfl
 have zf := lt_of_cell f5
 generalize f.canon = y at *
 clear hcell hfr hcb
 go_enter Tryz.func40, Tryz.ntmps40
 go_wp2_with fail
 refine (HPL.out _ _).mono ?_
 rintro e w1 ⟨rfl, rfl⟩
 go_wp2
 go_ret
 exact ⟨rfl, rfl⟩
theorem grew_row {α : Type} {f : α → Value} {R : World → Nat → Nat → α → Prop} {W w' : World} {base : Nat} {e : TypeId} {v v' : Value} {l : List α} {n : Nat} (hn : n = l.length) (h : GrewK W base e 1 v n (l.map f) v' w')
   (hR : ∀ (b o : Nat) (x : α), x ∈ l → w'.cell? ⟨b, o, none⟩ = some (f x) → R w' b o x) : ∃ A c, v' = .slice A l.length c ∧ RowOf R 1 w' A l := by
 subst hn
 rcases h.1.2 with ⟨rfl, h0⟩ | ⟨g, cap, cur, rfl, hb, hg, _, _, hs, ht⟩
 · exact ⟨none, 0, by rw [h0], fun hl => by omega⟩
 · refine ⟨some ⟨g, 0, none⟩, cap, rfl, fun _ => ⟨g, 0, rfl, fun i hi => hR _ _ _ (List.getElem_mem hi) ?_⟩⟩
   have h1 : (cur.toList.take (l.length * 1))[i]? = some (f l[i]) := by rw [ht]; simp [hi]
   rw [List.getElem?_take_of_lt (by omega)] at h1
   simp [World.cell?, hg]
   simpa using h1
theorem own_new (e : TypeId) (w : World) : (w.alloc (.cells #[] e)).ownsRow w.heap.size e 1 (.slice (some ⟨w.heap.size, 0, none⟩) 0 0) 0 [] := World.ownsRow_made w #[] 0 (Nat.le_refl _) (by decide) (by simp)
theorem src_of {α : Type} {R : World → Nat → Nat → α → Prop} {f : α → Value} {w : World} {A : Option Addr} {l : List α} (h : RowOf R 1 w A l) (hR : ∀ (b o : Nat) (x : α), R w b o x → w.cell? ⟨b, o, none⟩ = some (f x)) : Src w A (l.map f) := fun hl => by
 rw [List.length_map] at hl
 obtain ⟨b, o, rfl, hx⟩ := h hl
 refine ⟨_, rfl, fun j u hu => ?_⟩
 have hj : j < l.length := by
   have := (List.getElem?_eq_some_iff.1 hu).1
   simpa using this
 rw [List.getElem?_map, List.getElem?_eq_getElem hj] at hu
 have hu := Option.some.inj hu
 have := hR _ _ _ (hx j hj)
 rw [← hu]
 have e : (⟨b, o, none⟩ : Addr).add j = ⟨b, o + 1 * j, none⟩ := by unfold Addr.add; by_cases h0 : j = 0 <;> simp [h0]
 rw [e]; exact this
theorem rowOf_take {α : Type} {R : World → Nat → Nat → α → Prop} {k : Nat} {w : World} {A : Option Addr} {l : List α} (h : RowOf R k w A l) (n : Nat) : RowOf R k w A (l.take n) := fun hl => by
 rw [List.length_take] at hl
 obtain ⟨b, o, e, hx⟩ := h (by omega)
 refine ⟨b, o, e, fun i hi => ?_⟩
 rw [List.length_take] at hi
 rw [List.getElem_take]
 exact hx i (by omega)
theorem rowAt {w : World} {A : Option Addr} {l : List Int} (h : RowOf IntC 1 w A l) (hI : ∀ v ∈ l, I64 v) : RowOf IntAt 1 w A l := fun hl => by
 obtain ⟨b, o, e, hx⟩ := h hl
 exact ⟨b, o, e, fun i hi => ⟨hI _ (List.getElem_mem hi), hx i hi⟩⟩
structure CdOk (D : Ds) : Prop where
 chk : (chkN D).2 = 0
 ex : ∀ c ∈ D.cls, c.ex.length ≤ 1048576
theorem CdOk.pats {D : Ds} (h : CdOk D) : ∀ f ∈ D.fms, patN D f.args f.pcs ≠ 0 := (chk_pats h.chk).2
theorem encP_ok {D : Ds} {j : Nat} (hj : j < D.fms.length) {vs : List Int} {w w' : World} {e : Ending} (h : EncP D (j : Int) vs w e w') (hl : vs.length = (cfD D D.fms[j]).ops.length) (hh : hasAll D (cfD D D.fms[j]).ops vs = true) :
   ∃ g, e = .returned (.tuple #[.slice (some ⟨g, 0, none⟩) (cfD D D.fms[j]).size (cfD D D.fms[j]).size, .int .i64 0]) ∧ w.heap.size ≤ g ∧ RowOf ByC 1 w' (some ⟨g, 0, none⟩) (bytesW (outW (cfD D D.fms[j]) (esN D (cfD D D.fms[j]).ops vs)) (cfD D D.fms[j]).size) ∧ Fr w w' := by
 obtain ⟨hf, h⟩ := h
 rcases h with ⟨h1, _⟩ | ⟨k, hk, h1, h2⟩
 · omega
 · obtain rfl : j = k := by omega
   rcases h2 with ⟨h3, _⟩ | ⟨_, h3, _⟩ | ⟨_, _, g, h3, h4, h5⟩
   · exact absurd hl h3
   · rw [hh] at h3; cases h3
   · exact ⟨g, h3, h4, h5, hf⟩
theorem decP_ok {D : Ds} (hO : CdOk D) {bs : List Nat} {w w' : World} {e : Ending} (h : DecP D bs w e w') {j : Nat} (hj : j < D.fms.length) (hfit : fitB D (wordsN bs) bs.length (cfD D D.fms[j]) = true) :
   Fr w w' ∧ ∃ g, e = .returned (.tuple #[.agg #[.int .i64 (j : Int), .slice (some ⟨g, 0, none⟩) (cfD D D.fms[j]).ops.length (cfD D D.fms[j]).ops.length], .int .i64 ((cfD D D.fms[j]).size : Int), .int .i64 0]) ∧ RowOf IntC 1 w' (some ⟨g, 0, none⟩) (valsW D (wordsN bs) (cfD D D.fms[j])) := by
 obtain ⟨hf, h⟩ := h
 refine ⟨hf, ?_⟩
 rcases h with ⟨k, hk, h1, _, g, h2, h3⟩ | ⟨h1, _⟩
 · obtain rfl := one_fit hO.chk hO.pats hj hk hfit h1
   exact ⟨g, h2, h3⟩
 · rw [h1 j hj] at hfit; cases hfit
end Go.Proofs.YtdipnhghdajplaaGreatDoor
