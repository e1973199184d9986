/- Small calls of the laws of layer 6: the same instruction, the same bytes, Canonical; rows that were appended. -/
import Derived.Test.YtdipnhghdajplaaGreatDoorQ34
import Derived.Laws.BytesArg
import Derived.Lib.Bytes
import Derived.OwnWalk
namespace Go.Proofs.YtdipnhghdajplaaGreatDoor
open Go.RowKit
set_option linter.unusedSimpArgs false
set_option linter.unusedVariables false
def RelSa (n : Nat) (W : World) (i : Value) (wr : World) : Prop := ∃ j : Nat, j ≤ n ∧ i = .int .i64 (j : Int) ∧ Fr W wr
set_option maxHeartbeats 6400000 in
set_option maxRecDepth 100000 in
theorem same06_any {w : World} (k : Int) (A B : Option Addr) (c d : Nat) (l : List Int) (ha : RowOf IntC 1 w A l) (hb : RowOf IntC 1 w B l) (hm : l.length ≤ maxLen) :
   Calls Tryz.prog 15 #[.agg #[.int .i64 k, .slice A l.length c], .agg #[.int .i64 k, .slice B l.length d]] w fun e w' => e = .returned (.bool true) ∧ Fr w w' := by
 have HA := Lib.hid ha
 have HB := Lib.hid hb
 have hml : l.length ≤ 9223372036854775807 := Nat.le_trans hm (by decide)
 have HF1 := Lib.hid (show Fr w ((w.alloc (.cells #[.int .i64 k, .slice A l.length c] 48)).alloc (.cells #[.int .i64 k, .slice B l.length d] 48)) from Fr.alloc (Fr.alloc (Fr.refl w) _) _)
 have HB1 := Lib.hid (BlkAt.fr (BlkAt.alloc (w := w) (t := 48) (cs := #[.int .i64 k, .slice A l.length c])) (Fr.alloc (Fr.refl _) (.cells #[.int .i64 k, .slice B l.length d] 48)))
 have HB2 := Lib.hid (show BlkAt ((w.alloc (.cells #[.int .i64 k, .slice A l.length c] 48)).alloc (.cells #[.int .i64 k, .slice B l.length d] 48)) (w.heap.size + 1) [.int .i64 k, .slice B l.length d] from by
   have := BlkAt.alloc (w := w.alloc (.cells #[.int .i64 k, .slice A l.length c] 48)) (t := 48) (cs := #[.int .i64 k, .slice B l.length d])
   simpa using this)
 clear ha hb hm
 go_enter Tryz.func15, Tryz.ntmps15
 go_wp2_with fail
 generalize World.alloc (World.alloc w _) _ = W2 at *
 generalize w.heap.size = kb at *
 go_loopw [23] (fun i wr => RelSa l.length W2 i wr) (fun i _ => l.length - (intOf i).toNat)
 case atStart => exact ⟨0, Nat.zero_le _, rfl, Fr.refl _⟩
 case round =>
   obtain ⟨j, hj, rfl, hf⟩ := hrel
   have HF := Lib.hid hf
   clear hf
   by_cases hlt : j < l.length
   · have hji : (j : Int) < (l.length : Int) := by omega
     have hj0 : (0 : Int) ≤ (j : Int) := by omega
     obtain ⟨ba, oa, rfl, hx⟩ := (HA.out.fr fun _ _ _ x => IntC.fr x (HF1.out.call HF.out)).at hlt
     obtain ⟨bb, ob, rfl, hy⟩ := (HB.out.fr fun _ _ _ x => IntC.fr x (HF1.out.call HF.out)).at hlt
     unfold IntC at hx hy
     rw [Nat.one_mul] at hx hy
     generalize l[j] = x at *
     have a1 := HB1.out.fr HF.out 1 _ rfl
     have b1 := HB2.out.fr HF.out 1 _ rfl
     have za := lt_of_cell a1
     have zb := lt_of_cell b1
     have zx := lt_of_cell hx
     have zy := lt_of_cell hy
     go_wp2_with fail
     go_quiet (fail)
     go_wp2
     go_roundw
     case rel => exact ⟨j + 1, by omega, by go_num, Fr.drewN HF.out _⟩
     case measure => simp [intOf]; omega
   · obtain rfl : j = l.length := by omega
     clear hj
     go_wp2
     go_ret
     exact ⟨rfl, HF1.out.call HF.out⟩
theorem grew_row {α : Type} {f : α → Value} {R : World → Nat → Nat → α → Prop} {W w' : World} {base : Nat} {e : TypeId} {v v' : Value} {l : List α} {n : Nat} (hn : n = l.length) (h : GrewK W base e 1 v n (l.map f) v' w')
   (hR : ∀ (b o : Nat) (x : α), x ∈ l → w'.cell? ⟨b, o, none⟩ = some (f x) → R w' b o x) : ∃ A c, v' = .slice A l.length c ∧ RowOf R 1 w' A l := by
 subst hn
 rcases h.1.2 with ⟨rfl, h0⟩ | ⟨g, cap, cur, rfl, hb, hg, _, _, hs, ht⟩
 · exact ⟨none, 0, by rw [h0], fun hl => by omega⟩
 · refine ⟨some ⟨g, 0, none⟩, cap, rfl, fun _ => ⟨g, 0, rfl, fun i hi => hR _ _ _ (List.getElem_mem hi) ?_⟩⟩
   have h1 : (cur.toList.take (l.length * 1))[i]? = some (f l[i]) := by rw [ht]; simp [hi]
   rw [List.getElem?_take_of_lt (by omega)] at h1
   simp [World.cell?, hg]
   simpa using h1
theorem own_new (e : TypeId) (w : World) : (w.alloc (.cells #[] e)).ownsRow w.heap.size e 1 (.slice (some ⟨w.heap.size, 0, none⟩) 0 0) 0 [] := World.ownsRow_made w #[] 0 (Nat.le_refl _) (by decide) (by simp)
theorem src_of {α : Type} {R : World → Nat → Nat → α → Prop} {f : α → Value} {w : World} {A : Option Addr} {l : List α} (h : RowOf R 1 w A l) (hR : ∀ (b o : Nat) (x : α), R w b o x → w.cell? ⟨b, o, none⟩ = some (f x)) : Src w A (l.map f) := fun hl => by
 rw [List.length_map] at hl
 obtain ⟨b, o, rfl, hx⟩ := h hl
 refine ⟨_, rfl, fun j u hu => ?_⟩
 have hj : j < l.length := by
   have := (List.getElem?_eq_some_iff.1 hu).1
   simpa using this
 rw [List.getElem?_map, List.getElem?_eq_getElem hj] at hu
 have hu := Option.some.inj hu
 have := hR _ _ _ (hx j hj)
 rw [← hu]
 have e : (⟨b, o, none⟩ : Addr).add j = ⟨b, o + 1 * j, none⟩ := by unfold Addr.add; by_cases h0 : j = 0 <;> simp [h0]
 rw [e]; exact this
structure CdOk (D : Ds) : Prop where
 chk : (chkN D).2 = 0
 ex : ∀ c ∈ D.cls, c.ex.length ≤ 1048576
theorem CdOk.pats {D : Ds} (h : CdOk D) : ∀ f ∈ D.fms, patN D f.args f.pcs ≠ 0 := (chk_pats h.chk).2
theorem decP_ok {D : Ds} (hO : CdOk D) {bs : List Nat} {w w' : World} {e : Ending} (h : DecP D bs w e w') {j : Nat} (hj : j < D.fms.length) (hfit : fitB D (wordsN bs) bs.length (cfD D D.fms[j]) = true) :
   Fr w w' ∧ ∃ g, e = .returned (.tuple #[.agg #[.int .i64 (j : Int), .slice (some ⟨g, 0, none⟩) (cfD D D.fms[j]).ops.length (cfD D D.fms[j]).ops.length], .int .i64 ((cfD D D.fms[j]).size : Int), .int .i64 0]) ∧ RowOf IntC 1 w' (some ⟨g, 0, none⟩) (valsW D (wordsN bs) (cfD D D.fms[j])) := by
 obtain ⟨hf, h⟩ := h
 refine ⟨hf, ?_⟩
 rcases h with ⟨k, hk, h1, _, g, h2, h3⟩ | ⟨h1, _⟩
 · obtain rfl := one_fit hO.chk hO.pats hj hk hfit h1
   exact ⟨g, h2, h3⟩
 · rw [h1 j hj] at hfit; cases hfit
theorem enc_any {w : World} {p : Nat} {D : Ds} (hC : CodecAt w p D) (hO : (chkN D).2 = 0) (hX : ∀ c ∈ D.cls, c.ex.length ≤ 1048576) (n : Int) {V : Option Addr} {vs : List Int} (vc : Nat) (hV : RowOf IntAt 1 w V vs) (hvm : vs.length ≤ maxLen) :
   Calls Tryz.prog 12 #[.pointer (some ⟨p, 0, none⟩), .agg #[.int .i64 n, .slice V vs.length vc]] w fun e w' => EncP D n vs w e w' := by
 by_cases hn : 0 ≤ n ∧ n < (D.fms.length : Int)
 · obtain ⟨k, rfl⟩ : ∃ k : Nat, n = (k : Int) := ⟨n.toNat, by omega⟩
   exact cenc_in hC (chk_lens hO).2.2 hX (chk_pats hO).2 (chk_lens hO).2.1 k (by omega) vc hV hvm
 · exact (cenc_no hC n hn V vs.length vc).mono fun e w' h => ⟨h.2, .inl ⟨hn, h.1⟩⟩
theorem bitB_append (a b : List Nat) {p : Nat} (h : p < 8 * a.length) : bitB (a ++ b) p = bitB a p := by
 unfold bitB
 rw [List.getD_eq_getElem?_getD, List.getD_eq_getElem?_getD, List.getElem?_append_left (by omega)]
theorem rowC {w : World} {A : Option Addr} {l : List Int} (h : RowOf IntAt 1 w A l) : RowOf IntC 1 w A l := fun hl => by
 obtain ⟨b, o, e, hx⟩ := h hl
 exact ⟨b, o, e, fun i hi => (hx i hi).2⟩
theorem encP_row {D : Ds} {n : Int} {vs : List Int} {w w' : World} {e : Ending} (h : EncP D n vs w e w') :
   ∃ (A : Option Addr) (out : List Nat) (er : Int), e = .returned (.tuple #[.slice A out.length out.length, .int .i64 er]) ∧ Fr w w' ∧ RowOf ByC 1 w' A out ∧
     ((¬ (0 ≤ n ∧ n < (D.fms.length : Int)) ∧ A = none ∧ out = [] ∧ er = 61) ∨
      (∃ (k : Nat) (hk : k < D.fms.length), n = (k : Int) ∧
        ((vs.length ≠ (cfD D D.fms[k]).ops.length ∧ A = none ∧ out = [] ∧ er = 61) ∨
         (vs.length = (cfD D D.fms[k]).ops.length ∧ hasAll D (cfD D D.fms[k]).ops vs = false ∧ A = none ∧ out = [] ∧ er = 64) ∨
         (vs.length = (cfD D D.fms[k]).ops.length ∧ hasAll D (cfD D D.fms[k]).ops vs = true ∧ er = 0 ∧ out = bytesW (outW (cfD D D.fms[k]) (esN D (cfD D D.fms[k]).ops vs)) (cfD D D.fms[k]).size)))) := by
 obtain ⟨hf, h⟩ := h
 rcases h with ⟨h1, rfl⟩ | ⟨k, hk, h1, h2⟩
 · exact ⟨none, [], 61, rfl, hf, fun h => by simp at h, .inl ⟨h1, rfl, rfl, rfl⟩⟩
 · rcases h2 with ⟨h3, rfl⟩ | ⟨h3, h4, rfl⟩ | ⟨h3, h4, g, rfl, h5, h6⟩
   · exact ⟨none, [], 61, rfl, hf, fun h => by simp at h, .inr ⟨k, hk, h1, .inl ⟨h3, rfl, rfl, rfl⟩⟩⟩
   · exact ⟨none, [], 64, rfl, hf, fun h => by simp at h, .inr ⟨k, hk, h1, .inr (.inl ⟨h3, h4, rfl, rfl, rfl⟩)⟩⟩
   · refine ⟨some ⟨g, 0, none⟩, _, 0, ?_, hf, h6, .inr ⟨k, hk, h1, .inr (.inr ⟨h3, h4, rfl, rfl⟩)⟩⟩
     rw [bytesW_len]
theorem cf_at (D : Ds) (f : Fm) {j : Nat} (h1 : j < (cfD D f).ops.length) (h2 : j < f.args.length) : ((cfD D f).ops[j]).1 = f.args[j] := by
 have e := cf_fst D f.args f.pcs
 have h3 : j < ((layCD D f.args f.pcs).ops.map (·.1)).length := by rw [List.length_map]; exact h1
 have := List.getElem_of_eq e h3
 rw [List.getElem_map] at this
 exact this
def RelBk (D : Ds) (ops : List (Int × List Int)) (vs : List Int) (al : Nat) (W : World) (r i : Value) (wr : World) : Prop := ∃ j : Nat, j ≤ al ∧ r = .bool (hasAll D (ops.take j) (vs.take j)) ∧ i = .int .i64 (j : Int) ∧ Fr W wr
end Go.Proofs.YtdipnhghdajplaaGreatDoor
