/- A bit of a piece is laid: package codec's put. -/
import Derived.Test.YtdipnhghdajplaaGreatDoorP29
import Derived.Test.YtdipnhghdajplaaGreatDoorP27
namespace Go.Proofs.YtdipnhghdajplaaGreatDoor
open Go.RowKit
set_option linter.unusedSimpArgs false
set_option linter.unusedVariables false
theorem cfAt_lb {lb base oc : Nat} {wr : World} {O : Option Addr} {os : List Oc} {f : Cf} (h : CfAt lb base wr O oc os f) : lb < wr.heap.size := lt_of_cell (h.blk 0 _ rfl)
set_option maxHeartbeats 6400000 in
set_option maxRecDepth 100000 in
theorem cput_arg (lb ob k n oc g m lo c b i : Nat) (lit : ByteArray) (hi p : Int) (v0 : Value) {w : World} (hk : k < n) (hi0 : hi - (b : Int) = (i : Int)) (him : i < m) (hmx : m ≤ 64) (hb : b ≤ 64) (hi64 : hi ≤ 64)
   (c6 : w.cell? ⟨lb, 6, none⟩ = some (.slice (some ⟨ob, 0, none⟩) n oc)) (c1 : w.cell? ⟨ob, k * 2 + 1, none⟩ = some (.slice (some ⟨g, 0, none⟩) m c)) (cg : w.cell? ⟨g, i, none⟩ = some v0) (fg : w.frozen? ⟨g, i, none⟩ = false) :
   Calls Tryz.prog 59 #[.pointer (some ⟨lb, 0, none⟩), .agg #[.string lit, .int .i64 (k : Int), .int .i64 hi, .int .i64 (lo : Int)], .int .i64 (b : Int), .int .i64 p] w fun e w' =>
     e = .returned (.tuple #[]) ∧ ∃ nq, w' = ((w.alloc (.cells #[.string lit, .int .i64 (k : Int), .int .i64 hi, .int .i64 (lo : Int)] 148)).drewN nq).setCell ⟨g, i, none⟩ (.int .i64 p) := by
 have hne : ((k : Int) != -1) = true := bne_iff_ne.2 (by omega)
 have hki : (k : Int) < (n : Int) := by omega
 have hlm : (i : Int) < (m : Int) := by omega
 have hge : -64 ≤ hi := by omega
 have hwp : IntKind.i64.wrap (hi - (b : Int)) = (i : Int) := by rw [hi0]; simp [IntKind.wrap, IntKind.bits, IntKind.signed]; omega
 have hwi : IntKind.i64.wrap (i : Int) = (i : Int) := by simp [IntKind.wrap, IntKind.bits, IntKind.signed]; omega
 have z1 := lt_of_cell c6
 have z2 := lt_of_cell c1
 have z3 := lt_of_cell cg
 have HB := Lib.hid (BlkAt.alloc (w := w) (t := 148) (cs := #[.string lit, .int .i64 (k : Int), .int .i64 hi, .int .i64 (lo : Int)]))
 have HF := Lib.hid (Fr.alloc (Fr.refl w) (.cells #[.string lit, .int .i64 (k : Int), .int .i64 hi, .int .i64 (lo : Int)] 148))
 go_enter Tryz.func59, Tryz.ntmps59
 go_wp2_with fail
 generalize hW : World.alloc w _ = W at *
 have d1 := HB.out 1 _ rfl
 have d2 := HB.out 2 _ rfl
 have y1 := lt_of_cell d1
 have e6 := HF.out.get c6
 have e1 := HF.out.get c1
 have eg := HF.out.get cg
 have efg := HF.out.free cg fg
 clear c6 c1 cg fg
 go_still_tail 15, (by kernel_rfl)
 change wpList _ _ _ _ _ W.drew
 go_wp2
 exact bodyPost_ret (v := .tuple #[]) (by simp [results, Tryz.results59, go_sem]) rfl ⟨rfl, 1, by rw [hW]; rfl⟩
set_option maxHeartbeats 6400000 in
set_option maxRecDepth 100000 in
theorem cput_x (lb b : Nat) (cb : Bool) (lit : ByteArray) (hi lo p : Int) {w : World} (hls : lit.size ≤ maxLen) (hil : b < lit.size) (hc : lit[b].toNat = 120) (c5 : w.cell? ⟨lb, 5, none⟩ = some (.bool cb)) (f5 : w.frozen? ⟨lb, 5, none⟩ = false) :
   Calls Tryz.prog 59 #[.pointer (some ⟨lb, 0, none⟩), .agg #[.string lit, .int .i64 (-1), .int .i64 hi, .int .i64 lo], .int .i64 (b : Int), .int .i64 p] w fun e w' =>
     e = .returned (.tuple #[]) ∧ w' = (w.setCell ⟨lb, 5, none⟩ (.bool false)).alloc (.cells #[.string lit, .int .i64 (-1), .int .i64 hi, .int .i64 lo] 148) := by
 have hls : lit.size ≤ 9223372036854775807 := Nat.le_trans hls (by decide)
 have hil2 : (b : Int) < (lit.size : Int) := by omega
 have hci : (lit[b].toNat : Int) = 120 := by omega
 have zl := lt_of_cell c5
 clear hc
 go_enter Tryz.func59, Tryz.ntmps59
 go_wp2
 go_end0
 exact ⟨rfl, rfl⟩
set_option maxHeartbeats 6400000 in
set_option maxRecDepth 100000 in
theorem cput_zero (lb x0 x1 b p : Nat) (h0 : x0 < 18446744073709551616) (h1 : x1 < 18446744073709551616) (lit : ByteArray) (hi lo : Int) {w : World} (hls : lit.size ≤ maxLen) (hil : b < lit.size) (hc : lit[b].toNat = 48) (hp : p < 128)
   (c0 : w.cell? ⟨lb, 1, none⟩ = some (.int .u64 (x0 : Int))) (c1 : w.cell? ⟨lb, 1 + 1, none⟩ = some (.int .u64 (x1 : Int))) (f0 : w.frozen? ⟨lb, 1, none⟩ = false) (f1 : w.frozen? ⟨lb, 1 + 1, none⟩ = false) :
   Calls Tryz.prog 59 #[.pointer (some ⟨lb, 0, none⟩), .agg #[.string lit, .int .i64 (-1), .int .i64 hi, .int .i64 lo], .int .i64 (b : Int), .int .i64 (p : Int)] w fun e w' =>
     e = .returned (.tuple #[]) ∧ litPut lb 1 x0 x1 p w #[.string lit, .int .i64 (-1), .int .i64 hi, .int .i64 lo] w' := by
 have hls : lit.size ≤ 9223372036854775807 := Nat.le_trans hls (by decide)
 have hil2 : (b : Int) < (lit.size : Int) := by omega
 have HF := Lib.hid (Fr.alloc (Fr.refl w) (.cells #[.string lit, .int .i64 (-1), .int .i64 hi, .int .i64 lo] 148))
 have HAD := Lib.hid (cset_any lb 1 x0 x1 h0 h1 p hp (w.alloc (.cells #[.string lit, .int .i64 (-1), .int .i64 hi, .int .i64 lo] 148)) (HF.out.get c0) (HF.out.get c1) (HF.out.free c0 f0) (HF.out.free c1 f1))
 have hci : (lit[b].toNat : Int) = 48 := by omega
 clear c0 c1 f0 f1 hc h0 h1
 go_enter Tryz.func59, Tryz.ntmps59
 go_wp2_with fail
 refine HAD.out.mono ?_
 rintro e w4 ⟨rfl, nq, hw⟩
 have HW := Lib.hid hw
 clear hw
 go_wp2
 go_end0
 exact ⟨rfl, nq, HW.out⟩
set_option maxHeartbeats 6400000 in
set_option maxRecDepth 100000 in
theorem cput_one {lb base oc : Nat} {w : World} {O : Option Addr} {os : List Oc} {f : Cf} (h : CfAt lb base w O oc os f) (hok : CfOk f) (b p : Nat) (lit : ByteArray) (hi lo : Int) (hls : lit.size ≤ maxLen) (hil : b < lit.size) (hc : lit[b].toNat = 49) (hp : p < 128) :
   Calls Tryz.prog 59 #[.pointer (some ⟨lb, 0, none⟩), .agg #[.string lit, .int .i64 (-1), .int .i64 hi, .int .i64 lo], .int .i64 (b : Int), .int .i64 (p : Int)] w fun e w' =>
     e = .returned (.tuple #[]) ∧ Below lb w w' ∧ CfAt lb base w' O oc os (cLit (cOne f p) p) ∧ ∀ b', b' < w.heap.size → b' ≠ lb → w'.heap[b']? = w.heap[b']? := by
 have hls : lit.size ≤ 9223372036854775807 := Nat.le_trans hls (by decide)
 have hil2 : (b : Int) < (lit.size : Int) := by omega
 have hci : (lit[b].toNat : Int) = 49 := by omega
 have hlb := cfAt_lb h
 have HF := Lib.hid (Fr.alloc (Fr.refl w) (.cells #[.string lit, .int .i64 (-1), .int .i64 hi, .int .i64 lo] 148))
 have HC := Lib.hid (h.fr HF.out)
 have HAD := Lib.hid (cset_any lb 3 f.u0 f.u1 hok.u0 hok.u1 p hp (w.alloc (.cells #[.string lit, .int .i64 (-1), .int .i64 hi, .int .i64 lo] 148)) (HC.out.blk 3 _ rfl) (HC.out.blk 4 _ rfl) (HC.out.free 3) (HC.out.free 4))
 clear h hc
 go_enter Tryz.func59, Tryz.ntmps59
 go_wp2_with fail
 refine HAD.out.mono ?_
 rintro e w4 ⟨rfl, nq, hw⟩
 have HC4 := Lib.hid (show CfAt lb base w4 O oc os (cOne f p) by rw [hw]; exact (HC.out.fr (Fr.drewN (Fr.refl _) nq)).one hp)
 have HB4 := Lib.hid (show Below lb w w4 by rw [hw]; exact Below.setCell (Below.mono (Fr.drewN HF.out nq) (Nat.le_of_lt hlb)) (Nat.le_refl lb) _)
 have HK4 := Lib.hid (show ∀ b', b' < w.heap.size → b' ≠ lb → w4.heap[b']? = w.heap[b']? by rw [hw]; exact fun b' h1 h2 => (Below.heap_setCell _ _ _ b' h2).trans ((Fr.drewN HF.out nq).block b' h1))
 have ho := cOne_ok hok p
 have HAD2 := Lib.hid (cset_any lb 1 (cOne f p).l0 (cOne f p).l1 ho.l0 ho.l1 p hp w4 (HC4.out.blk 1 _ rfl) (HC4.out.blk 2 _ rfl) (HC4.out.free 1) (HC4.out.free 2))
 clear hw
 go_wp2_with fail
 refine HAD2.out.mono ?_
 rintro e w5 ⟨rfl, nr, hw⟩
 have HC5 := Lib.hid (show CfAt lb base w5 O oc os (cLit (cOne f p) p) by rw [hw]; exact (HC4.out.fr (Fr.drewN (Fr.refl _) nr)).lit hp)
 have HB5 := Lib.hid (show Below lb w w5 by rw [hw]; exact Below.setCell (Below.trans HB4.out (Below.mono (Fr.drewN (Fr.refl w4) nr) (Nat.le_of_lt (cfAt_lb HC4.out)))) (Nat.le_refl lb) _)
 have HK5 := Lib.hid (show ∀ b', b' < w.heap.size → b' ≠ lb → w5.heap[b']? = w.heap[b']? by rw [hw]; exact fun b' h1 h2 => (Below.heap_setCell _ _ _ b' h2).trans (HK4.out b' h1 h2))
 clear hw
 go_wp2
 go_end0
 exact ⟨rfl, HB5.out, HC5.out, HK5.out⟩
theorem cput_any {D : Ds} {args : List Int} {lb base oc : Nat} {wr : World} {O : Option Addr} {os : List Oc} {f : Cf} {p : Pc} {b q : Nat} (h : CfAt lb base wr O oc os f) (hok : CfOk f) (hX : ∀ (i : Nat) (o : Oc), os[i]? = some o → (o.bits : Int) = bitsAt D args i ∧ o.bits ≤ 64) (hos : os.length = args.length)
   (hall : args.all (clsAtB D) = true) (hb : b < pcN D args p) (hq : q < 128) (hls : p.lit.size ≤ maxLen) :
   Calls Tryz.prog 59 #[.pointer (some ⟨lb, 0, none⟩), .agg #[.string p.lit, .int .i64 p.arg, .int .i64 p.hi, .int .i64 p.lo], .int .i64 (b : Int), .int .i64 (q : Int)] wr fun e w' =>
     e = .returned (.tuple #[]) ∧ Below lb wr w' ∧ CfAt lb base w' O oc os (putC (wbit p (pcN D args p - 1 - b)) q f) ∧ ∀ b', b' < wr.heap.size → b' ≠ lb → (∀ o ∈ os, o.g ≠ b') → w'.heap[b']? = wr.heap[b']? := by
 have hlb := cfAt_lb h
 have hlt := h.lb_
 have hn : pcN D args p ≠ 0 := by omega
 by_cases ha : p.arg = -1
 · have hl : litB p.lit = true ∧ pcN D args p = p.lit.size := by
     unfold pcN at hn ⊢; rw [if_pos ha] at hn ⊢
     split at hn
     · rename_i h1; rw [if_pos h1]; exact ⟨h1, rfl⟩
     · exact absurd rfl hn
   rw [hl.2] at hb ⊢
   have hch : chrN p (p.lit.size - 1 - b) = (p.lit[b]).toNat := by
     unfold chrN; rw [dif_pos (by omega)]; congr 2; omega
   have hcc := chr_ok hl.1 (b := p.lit.size - 1 - b) (by omega)
   have hpl : putC (wbit p (p.lit.size - 1 - b)) q f = if chrN p (p.lit.size - 1 - b) = 120 then { f with canon := false } else if chrN p (p.lit.size - 1 - b) = 49 then cLit (cOne f q) q else cLit f q := by
     unfold putC wbit; rw [if_pos ha]; simp
   rw [hpl]
   have ea : (Value.int .i64 p.arg) = .int .i64 (-1) := by rw [ha]
   rw [ea]
   rcases hcc with hc | hc | hc
   · rw [if_neg (by omega), if_neg (by omega)]
     refine (cput_zero lb f.l0 f.l1 b q hok.l0 hok.l1 p.lit p.hi p.lo hls hb (by rw [← hch]; exact hc) hq (h.blk 1 _ rfl) (h.blk 2 _ rfl) (h.free 1) (h.free 2)).mono ?_
     rintro e w' ⟨rfl, n, rfl⟩
     have k : Fr wr ((wr.alloc (.cells #[.string p.lit, .int .i64 (-1), .int .i64 p.hi, .int .i64 p.lo] 148)).drewN n) := Fr.drewN (Fr.alloc (Fr.refl _) _) n
     have kb : Below lb wr _ := Below.mono (B := wr.heap.size) k (by omega)
     exact ⟨rfl, Below.setCell kb (Nat.le_refl lb) _, (h.fr k).lit hq, fun b' h1 h2 _ => (Below.heap_setCell _ _ _ b' h2).trans (k.block b' h1)⟩
   · rw [if_neg (by omega), if_pos hc]
     exact (cput_one h hok b q p.lit p.hi p.lo hls hb (by rw [← hch]; exact hc) hq).mono fun e w' ⟨h1, h2, h3, h4⟩ => ⟨h1, h2, h3, fun b' g1 g2 _ => h4 b' g1 g2⟩
   · rw [if_pos hc]
     refine (cput_x lb b f.canon p.lit p.hi p.lo (q : Int) hls hb (by rw [← hch]; exact hc) (h.blk 5 _ rfl) (h.free 5)).mono ?_
     rintro e w' ⟨rfl, rfl⟩
     have k1 : Below lb wr (wr.setCell ⟨lb, 5, none⟩ (.bool false)) := Below.setCell (Below.refl _ _) (Nat.le_refl lb) _
     exact ⟨rfl, Below.alloc k1 (by simp; omega) _, h.x.fr (Fr.alloc (Fr.refl _) _), fun b' h1 h2 _ => (Below.heap_alloc _ _ _ (by simp; omega)).trans (Below.heap_setCell _ _ _ b' h2)⟩
 · obtain ⟨k, lo, n, e1, e2, e3, e4, e5, e6, e7, e8, e9⟩ := pc_right hall ha hn
   rw [← e5] at hb ⊢
   have hpl : putC (wbit p (n - 1 - b)) q f = cArg f k (lo + (n - 1 - b)) q := by
     unfold putC wbit; rw [if_neg ha]; simp only; rw [if_neg ha, e1, e3]; congr 1
   rw [hpl]
   have hk : k < os.length := by omega
   have ho := List.getElem?_eq_getElem hk
   generalize os[k] = o at ho
   obtain ⟨ob, rfl, _, _, hc⟩ := h.row k o ho
   obtain ⟨l, el, hl, hcl, hfr⟩ := h.ops k o ho
   obtain ⟨hx1, hx2⟩ := hX k o ho
   have hlen : lo + (n - 1 - b) < l.length := by omega
   have cg := hcl (lo + (n - 1 - b)) _ (List.getElem?_eq_getElem hlen)
   rw [show (Value.int .i64 p.arg) = .int .i64 (k : Int) by rw [e1], show (Value.int .i64 p.lo) = .int .i64 (lo : Int) by rw [e3]]
   refine (cput_arg lb ob k os.length oc o.g o.bits lo o.bits b (lo + (n - 1 - b)) p.lit p.hi (q : Int) _ hk (by omega) (by omega) hx2 (by omega) (by omega) (h.blk 6 _ rfl) (hc 1 _ rfl) cg (hfr _)).mono ?_
   rintro e w' ⟨rfl, m, rfl⟩
   have kk : Fr wr ((wr.alloc (.cells #[.string p.lit, .int .i64 (k : Int), .int .i64 p.hi, .int .i64 (lo : Int)] 148)).drewN m) := Fr.drewN (Fr.alloc (Fr.refl _) _) m
   have hg := (h.old o (List.mem_of_getElem? ho)).1
   exact ⟨rfl, Below.setCell (Below.mono (B := wr.heap.size) kk (by omega)) (by simp only; omega) _, (h.fr kk).arg ho, fun b' h1 _ h3 => (Below.heap_setCell _ _ _ b' (fun e => h3 o (List.mem_of_getElem? ho) e.symm)).trans (kk.block b' h1)⟩
noncomputable def reg5c : Array Oper := ((Tryz.f30.body.bind (findR 5)).getD #[])
theorem Tryz.infoQ : (Tryz.prog.info? 100).map (fun i => (i.zero, i.size, i.bytes)) = some (some (.agg #[.int .i64 0, .slice none 0 0]), 2, 32) := by kernel_rfl
set_option maxHeartbeats 6400000 in
set_option maxRecDepth 100000 in
theorem clay5 {Q : Exit → Act → World → Prop} (df : List Deferred) (u0 u1 u3 u4 u6 u8 u9 u10 u11 u12 u13 u14 u15 u16 u17 u18 u19 u20 u21 u22 u23 u24 u25 u26 u27 u28 u29 u30 u31 u32 u33 u34 u35 u36 u37 u38 u39 u40 u41 u42 u43 u44 u45 u46 u47 u48 u49 u50 u51 u52 u53 u54 u55 u56 u57 u58 u59 u60 u61 u62 u63 u64 u65 u66 u67 u68 u69 u70 u71 u72 u73 u74 : Value) (lb cb db bits c bq oq : Nat) (O : Option Addr) (ol oc cl cc : Nat) {w : World} (hb : bits ≤ 64) (hcl : c < cl)
   (c6 : w.cell? ⟨lb, 6, none⟩ = some (.slice O ol oc)) (a1 : w.cell? ⟨cb, 1, none⟩ = some (.int .i64 (c : Int))) (d5 : w.cell? ⟨db, 5, none⟩ = some (.slice (some ⟨bq, oq, none⟩) cl cc)) (k3 : w.cell? ⟨bq, oq + c * 7 + 3, none⟩ = some (.int .i64 (bits : Int)))
   (base : Nat) (xs : List Value) (hown : w.ownsRow base 100 2 (.slice O ol oc) ol xs) (hol : ol ≤ 5) (hlb : lb < base) (hbw : base ≤ w.heap.size) (f6 : w.frozen? ⟨lb, 6, none⟩ = false)
   (hT : ∀ (g cap : Nat) (w' : World) (x27 x28 x29 x30 x31 x32 x33 x34 x35 x36 x37 x38 x39 x40 x41 x42 : Value), GrewK (((w.alloc (.cells (madeCells #[.int .i64 0] bits) 3)).alloc (.cells #[.int .i64 (c : Int), .slice (some ⟨w.heap.size, 0, none⟩) bits bits] 100))).drew base 100 2 (.slice O ol oc) (ol + 1) (xs ++ [.int .i64 (c : Int), .slice (some ⟨w.heap.size, 0, none⟩) bits bits]) (.slice (some ⟨g, 0, none⟩) (ol + 1) cap) w' → Q .normal ⟨#[u0, u1, .pointer (some ⟨db, 0, none⟩), u3, u4, .pointer (some ⟨lb, 0, none⟩), u6, .pointer (some ⟨cb, 0, none⟩), u8, u9, u10, u11, u12, u13, u14, u15, u16, u17, u18, u19, u20, u21, u22, u23, u24, u25, u26, x27, x28, x29, x30, x31, x32, x33, x34, x35, x36, x37, x38, x39, x40, x41, x42, u43, u44, u45, u46, u47, u48, u49, u50, u51, u52, u53, u54, u55, u56, u57, u58, u59, u60, u61, u62, u63, u64, u65, u66, u67, u68, u69, u70, u71, u72, u73, u74], df⟩ (w'.setCell ⟨lb, 6, none⟩ (.slice (some ⟨g, 0, none⟩) (ol + 1) cap)))
   : (Code.region 5 reg5c true).wp Tryz.prog Q ⟨#[u0, u1, .pointer (some ⟨db, 0, none⟩), u3, u4, .pointer (some ⟨lb, 0, none⟩), u6, .pointer (some ⟨cb, 0, none⟩), u8, u9, u10, u11, u12, u13, u14, u15, u16, u17, u18, u19, u20, u21, u22, u23, u24, u25, u26, u27, u28, u29, u30, u31, u32, u33, u34, u35, u36, u37, u38, u39, u40, u41, u42, u43, u44, u45, u46, u47, u48, u49, u50, u51, u52, u53, u54, u55, u56, u57, u58, u59, u60, u61, u62, u63, u64, u65, u66, u67, u68, u69, u70, u71, u72, u73, u74], df⟩ w := by
 have hci : (c : Int) < (cl : Int) := by omega
 conv => arg 2; arg 2; whnf
 refine wp_region_noPanic ?_
 refine wp_region_head (n := 14) (S := Fr w) (by kernel_rfl) (by decide) ?_
 have HD : Fr w w.drew := Fr.drew (Fr.refl w)
 have hb0 : (0 : Int) ≤ (bits : Int) := by omega
 have hb6 : (bits : Int) ≤ 64 := by omega
 simp only [List.size_toArray, List.length_cons, List.length_nil, Nat.reduceAdd]
 refine wpHead_take (i := 0) (v := ?_) rfl (by kernel_rfl) (fun _ _ _ h => h) (Or.inl ⟨by rfl, ?hy0⟩) HD ?rest0
 case hy0 => (intro w' hw'; go_simp) <;> (try with_reducible rfl)
 (try simp only [Act.put, List.getElem_toArray, List.getElem_cons_zero, List.getElem_cons_succ, List.setIfInBounds_toArray, List.set_cons_zero, List.set_cons_succ])
 refine wpHead_take (i := 1) (v := ?_) rfl (by kernel_rfl) (fun _ _ _ h => h) (Or.inl ⟨by rfl, ?hy1⟩) HD ?rest1
 case hy1 => (intro w' hw'; have g6 := hw'.get c6; go_simp) <;> (try with_reducible rfl)
 (try simp only [Act.put, List.getElem_toArray, List.getElem_cons_zero, List.getElem_cons_succ, List.setIfInBounds_toArray, List.set_cons_zero, List.set_cons_succ])
 refine wpHead_take (i := 2) (v := ?_) rfl (by kernel_rfl) (fun _ _ _ h => h) (Or.inl ⟨by rfl, ?hy2⟩) HD ?rest2
 case hy2 => (intro w' hw'; go_simp) <;> (try with_reducible rfl)
 (try simp only [Act.put, List.getElem_toArray, List.getElem_cons_zero, List.getElem_cons_succ, List.setIfInBounds_toArray, List.set_cons_zero, List.set_cons_succ])
 refine wpHead_take (i := 3) (v := ?_) rfl (by kernel_rfl) (fun _ _ _ h => h) (Or.inl ⟨by rfl, ?hy3⟩) HD ?rest3
 case hy3 => (intro w' hw'; have g1 := hw'.get a1; go_simp) <;> (try with_reducible rfl)
 (try simp only [Act.put, List.getElem_toArray, List.getElem_cons_zero, List.getElem_cons_succ, List.setIfInBounds_toArray, List.set_cons_zero, List.set_cons_succ])
 refine wpHead_take (i := 4) (v := ?_) rfl (by kernel_rfl) (fun _ _ _ h => h) (Or.inl ⟨by rfl, ?hy4⟩) HD ?rest4
 case hy4 => (intro w' hw'; go_simp) <;> (try with_reducible rfl)
 (try simp only [Act.put, List.getElem_toArray, List.getElem_cons_zero, List.getElem_cons_succ, List.setIfInBounds_toArray, List.set_cons_zero, List.set_cons_succ])
 refine wpHead_take (i := 5) (v := ?_) rfl (by kernel_rfl) (fun _ _ _ h => h) (Or.inl ⟨by rfl, ?hy5⟩) HD ?rest5
 case hy5 => (intro w' hw'; have g5 := hw'.get d5; go_simp) <;> (try with_reducible rfl)
 (try simp only [Act.put, List.getElem_toArray, List.getElem_cons_zero, List.getElem_cons_succ, List.setIfInBounds_toArray, List.set_cons_zero, List.set_cons_succ])
 refine wpHead_take (i := 6) (v := ?_) rfl (by kernel_rfl) (fun _ _ _ h => h) (Or.inl ⟨by rfl, ?hy6⟩) HD ?rest6
 case hy6 => (intro w' hw'; go_simp) <;> (try with_reducible rfl)
 (try simp only [Act.put, List.getElem_toArray, List.getElem_cons_zero, List.getElem_cons_succ, List.setIfInBounds_toArray, List.set_cons_zero, List.set_cons_succ])
 refine wpHead_take (i := 7) (v := ?_) rfl (by kernel_rfl) (fun _ _ _ h => h) (Or.inl ⟨by rfl, ?hy7⟩) HD ?rest7
 case hy7 => (intro w' hw'; have g1 := hw'.get a1; go_simp) <;> (try with_reducible rfl)
 (try simp only [Act.put, List.getElem_toArray, List.getElem_cons_zero, List.getElem_cons_succ, List.setIfInBounds_toArray, List.set_cons_zero, List.set_cons_succ])
 refine wpHead_take (i := 8) (v := ?_) rfl (by kernel_rfl) (fun _ _ _ h => h) (Or.inl ⟨by rfl, ?hy8⟩) HD ?rest8
 case hy8 => (intro w' hw'; go_simp) <;> (try with_reducible rfl)
 (try simp only [Act.put, List.getElem_toArray, List.getElem_cons_zero, List.getElem_cons_succ, List.setIfInBounds_toArray, List.set_cons_zero, List.set_cons_succ])
 refine wpHead_take (i := 9) (v := ?_) rfl (by kernel_rfl) (fun _ _ _ h => h) (Or.inl ⟨by rfl, ?hy9⟩) HD ?rest9
 case hy9 => (intro w' hw'; go_simp) <;> (try with_reducible rfl)
 (try simp only [Act.put, List.getElem_toArray, List.getElem_cons_zero, List.getElem_cons_succ, List.setIfInBounds_toArray, List.set_cons_zero, List.set_cons_succ])
 refine wpHead_take (i := 10) (v := ?_) rfl (by kernel_rfl) (fun _ _ _ h => h) (Or.inl ⟨by rfl, ?hy10⟩) HD ?rest10
 case hy10 => (intro w' hw'; have g3 := hw'.get k3; go_simp) <;> (try with_reducible rfl)
 (try simp only [Act.put, List.getElem_toArray, List.getElem_cons_zero, List.getElem_cons_succ, List.setIfInBounds_toArray, List.set_cons_zero, List.set_cons_succ])
 clear a1 d5 k3
 refine wpHead_go (i := 11) rfl (by kernel_rfl) (by decide) rfl (fun K hK => ?_)
 have hm := mk_ints bits hb w.drew
 go_simp
 clear hm
 refine hK _ _ ?_ ?_
 · exact Fr.alloc HD _
 try simp only [Act.put, List.getElem_toArray, List.getElem_cons_zero, List.getElem_cons_succ, List.setIfInBounds_toArray, List.set_cons_zero, List.set_cons_succ]
 clear hK K
 have HD1 := Fr.alloc HD (.cells (madeCells #[.int .i64 0] bits) 3)
 refine wpHead_go (i := 12) rfl (by kernel_rfl) (by decide) rfl (fun K hK => ?_)
 go_simp
 refine hK _ _ HD1 ?_
 try simp only [Act.put, List.getElem_toArray, List.getElem_cons_zero, List.getElem_cons_succ, List.setIfInBounds_toArray, List.set_cons_zero, List.set_cons_succ]
 clear hK K
 refine wpHead_go (i := 13) rfl (by kernel_rfl) (by decide) rfl (fun K hK => ?_)
 go_simp
 have HF := Fr.drew (Fr.alloc (Fr.alloc (Fr.refl w) (.cells (madeCells #[.int .i64 0] bits) 3)) (.cells #[.int .i64 (c : Int), .slice (some ⟨w.heap.size, 0, none⟩) bits bits] 100))
 refine hK _ _ HF ?_
 clear hK K
 refine wpHead_done (by kernel_rfl) ?_
 simp only [List.drop_succ_cons, List.drop_zero]
 have hown2 : ((((w.alloc (.cells (madeCells #[.int .i64 0] bits) 3)).alloc (.cells #[.int .i64 (c : Int), .slice (some ⟨w.heap.size, 0, none⟩) bits bits] 100))).drew).ownsRow base 100 2 (.slice O ol oc) ol xs := ownsRow_fr hown HF
 have c62 := HF.get c6
 have f62 := HF.free c6 f6
 have hne : (Value.slice O ol oc).ownBlock ≠ some lb := fun h => by
   have := (World.ownsRow.lt hown lb h).1
   omega
 have hz : ((((w.alloc (.cells (madeCells #[.int .i64 0] bits) 3)).alloc (.cells #[.int .i64 (c : Int), .slice (some ⟨w.heap.size, 0, none⟩) bits bits] 100))).drew).heap.size = w.heap.size + 2 := by simp
 refine wpList_appendk _ rfl (.tmp 28) (.tmp 40) 93 rfl base 100 2 Tryz.underlying93 Tryz.infoQ rfl (by decide) (.slice O ol oc) ol xs rfl hown2 (some ⟨w.heap.size + 1, 0, none⟩) 1 1 [.int .i64 (c : Int), .slice (some ⟨w.heap.size, 0, none⟩) bits bits] rfl rfl ?_ (fun h => by cases h) ?_ ?_ ?_ ?_ ?_
 · intro _
   refine ⟨_, rfl, fun j u hj => ?_⟩
   rw [add_zero_k2]
   have hb := BlkAt.alloc (w := w.alloc (.cells (madeCells #[.int .i64 0] bits) 3)) (t := 100) (cs := #[.int .i64 (c : Int), .slice (some ⟨w.heap.size, 0, none⟩) bits bits])
   rw [show (w.alloc (.cells (madeCells #[.int .i64 0] bits) 3)).heap.size = w.heap.size + 1 by simp] at hb
   exact hb.fr (Fr.drew (Fr.refl _)) j u hj
 · intro u hu
   simp only [List.mem_cons, List.not_mem_nil, or_false] at hu
   rcases hu with rfl | rfl <;> rfl
 · exact Nat.le_trans (show ol + 1 ≤ 6 by omega) (by decide)
 · omega
 · rw [hz]; omega
 · intro v' w' hg
   have hgr := hg.out
   rcases hgr.1.2 with ⟨_, hn⟩ | ⟨g, cap, cur, rfl, _⟩
   · omega
   have HG := hg
   have c63 := grew_cell hgr.2.1 hne c62
   have f63 := grew_free hgr.2.1 hne c62 f62
   have HT := Lib.hid hT
   clear hg hgr hown hown2 c6 c62 f6 f62 hT
   generalize (((w.alloc (.cells (madeCells #[.int .i64 0] bits) 3)).alloc (.cells #[.int .i64 (c : Int), .slice (some ⟨w.heap.size, 0, none⟩) bits bits] 100))).drew = W at *
   simp only [Act.put, List.getElem_toArray, List.getElem_cons_zero, List.getElem_cons_succ, List.setIfInBounds_toArray, List.set_cons_zero, List.set_cons_succ]
   go_wp2
   refine NoPanic.normal ?_
   exact HT.out _ _ _ _ _ _ _ _ _ _ _ _ _ _ _ _ _ _ _ HG.out
theorem clay_heap {W w' : World} {row : Option Nat} {lb b : Nat} {x : Value} (hg : W.grownBy w' row) (hb : row ≠ some b) (hl : b ≠ lb) (hlt : b < W.heap.size) : (w'.setCell ⟨lb, 6, none⟩ x).heap[b]? = W.heap[b]? :=
 (Below.heap_setCell w' ⟨lb, 6, none⟩ x b hl).trans (World.grownBy.block hg b hlt (fun e => hb e.symm))
structure OcAt (base : Nat) (wr : World) (sv : Value) (o : Oc) : Prop where
 old : base ≤ o.g
 lt : o.g < wr.heap.size
 own : sv.ownBlock ≠ some o.g
 cell : ∀ k, k < o.bits → wr.cell? ⟨o.g, k, none⟩ = some (.int .i64 0)
 free : ∀ k, wr.frozen? ⟨o.g, k, none⟩ = false
structure OcsAt (size lb base : Nat) (wr : World) (O : Option Addr) (oc : Nat) (os : List Oc) : Prop where
 blk : BlkAt wr lb (cfV ⟨size, 0, 0, 0, 0, true, []⟩ O os.length oc)
 free : ∀ k, wr.frozen? ⟨lb, k, none⟩ = false
 row : wr.ownsRow base 100 2 (.slice O os.length oc) os.length (flatC os)
 apart : (os.map (·.g)).Nodup
 all : ∀ o ∈ os, OcAt base wr (.slice O os.length oc) o
theorem OcAt.next {base lb : Nat} {wr W w' : World} {sv sv' : Value} {o : Oc} {x : Value} (h : OcAt base wr sv o) (k : Fr wr W) (hg : W.grownBy w' sv.ownBlock) (hlb : lb < base) (hn : sv'.ownBlock = sv.ownBlock ∨ sv'.ownBlock = some W.heap.size) :
   OcAt base (w'.setCell ⟨lb, 6, none⟩ x) sv' o := by
 have e := clay_heap (x := x) hg h.own (by have := h.old; omega : o.g ≠ lb) (Nat.lt_of_lt_of_le h.lt k.size)
 refine ⟨h.old, ?_, ?_, fun i hi => ?_, fun i => ?_⟩
 · have := h.lt; have := k.size; have := hg.size
   simp; omega
 · rcases hn with hn | hn
   · rw [hn]; exact h.own
   · rw [hn]; intro h2; injection h2 with h2; have := h.lt; have := k.size; omega
 · exact (cell_of_heap e).trans (k.get (h.cell i hi))
 · exact (froz_heap e).trans ((k.cells.2.1 _ i h.lt).trans (h.free i))
theorem OcsAt.next {size lb base bn g cap oc : Nat} {wr W6 w' : World} {O : Option Addr} {os : List Oc} {od : Oc} (h : OcsAt size lb base wr O oc os) (k : Fr wr W6) (hog : od.g = W6.heap.size) (hbn : od.bits = bn) (hlb : lb < base) (hbase : base ≤ wr.heap.size)
   (hg : GrewK ((W6.alloc (.cells (madeCells #[.int .i64 0] bn) 3)).alloc (.cells (ocC od).toArray 100)).drew base 100 2 (.slice O os.length oc) (os.length + 1) (flatC os ++ ocC od) (.slice (some ⟨g, 0, none⟩) (os.length + 1) cap) w') :
   OcsAt size lb base (w'.setCell ⟨lb, 6, none⟩ (.slice (some ⟨g, 0, none⟩) (os.length + 1) cap)) (some ⟨g, 0, none⟩) cap (os ++ [od]) := by
 have k1 : Fr W6 (((W6.alloc (.cells (madeCells #[.int .i64 0] bn) 3)).alloc (.cells (ocC od).toArray 100)).drew) := Fr.drew (Fr.alloc (Fr.alloc (Fr.refl W6) _) _)
 have hsz : (((W6.alloc (.cells (madeCells #[.int .i64 0] bn) 3)).alloc (.cells (ocC od).toArray 100)).drew).heap.size = W6.heap.size + 2 := by simp
 have km : BlkAt (((W6.alloc (.cells (madeCells #[.int .i64 0] bn) 3)).alloc (.cells (ocC od).toArray 100)).drew) W6.heap.size (madeCells #[.int .i64 0] bn).toList := BlkAt.fr BlkAt.alloc (Fr.drew (Fr.alloc (Fr.refl _) _))
 have kf : ∀ i, (((W6.alloc (.cells (madeCells #[.int .i64 0] bn) 3)).alloc (.cells (ocC od).toArray 100)).drew).frozen? ⟨W6.heap.size, i, none⟩ = false := fun i => by
   have e : (((W6.alloc (.cells (madeCells #[.int .i64 0] bn) 3)).alloc (.cells (ocC od).toArray 100)).drew).frozen? ⟨W6.heap.size, i, none⟩ = (W6.alloc (.cells (madeCells #[.int .i64 0] bn) 3)).frozen? ⟨W6.heap.size, i, none⟩ := (Fr.drew (Fr.alloc (Fr.refl (W6.alloc (.cells (madeCells #[.int .i64 0] bn) 3))) _)).cells.2.1 _ i (by simp)
   rw [e]; exact World.frozen?_alloc_at _ _ _ _ rfl
 generalize (((W6.alloc (.cells (madeCells #[.int .i64 0] bn) 3)).alloc (.cells (ocC od).toArray 100)).drew) = W at *
 have k7 := k.call k1
 have hk := k.size
 have hw := hg.2.1.size
 have hne : (Value.slice O os.length oc).ownBlock ≠ some lb := fun e => by
   have := (World.ownsRow.lt h.row lb e).1
   omega
 have hlw : lb < W.heap.size := by omega
 have el : w'.heap[lb]? = W.heap[lb]? := World.grownBy.block hg.2.1 lb hlw (fun e => hne e.symm)
 have hlen : (os ++ [od]).length = os.length + 1 := by simp
 refine ⟨?_, ?_, ?_, ?_, ?_⟩
 · intro i v hv
   have c4 := h.blk 6 _ rfl
   have c4' := (cell_of_heap (o := 6) el).trans (k7.get c4)
   rw [hlen] at hv
   by_cases h6 : i = 6
   · subst h6
     obtain rfl : _ = v := Option.some.inj hv
     exact World.cell?_setCell_same _ _ _ c4'
   · rw [World.cell?_setCell_other _ _ _ _ (by intro e; injection e with _ e; exact h6 e.symm)]
     refine (cell_of_heap el).trans (k7.get (h.blk i v ?_))
     match i, hv with
     | 0, hv => exact hv
     | 1, hv => exact hv
     | 2, hv => exact hv
     | 3, hv => exact hv
     | 4, hv => exact hv
     | 5, hv => exact hv
     | 6, _ => exact absurd rfl h6
     | n + 7, hv => simp [cfV] at hv
 · intro i
   rw [World.frozen?_setCell, froz_heap el, k7.cells.2.1 _ i (lt_of_cell (h.blk 6 _ rfl))]
   exact h.free i
 · rw [hlen, flatC_snoc]
   refine hg.1.kept (row := some lb) ⟨rfl, rfl, rfl, by simp, fun k _ hn => Below.heap_setCell w' ⟨lb, 6, none⟩ _ k (fun e => hn (congrArg some e))⟩ (.inr fun e => ?_)
   have := (World.ownsRow.lt hg.1 lb e).1
   omega
 · rw [List.map_append, List.nodup_append]
   refine ⟨h.apart, by simp, fun a ha b hb => ?_⟩
   obtain ⟨o, ho, rfl⟩ := List.mem_map.1 ha
   obtain rfl : b = od.g := by simpa using hb
   have := (h.all o ho).lt
   omega
 · rw [hlen]
   intro o ho
   rcases List.mem_append.1 ho with ho | ho
   · exact (h.all o ho).next k7 hg.2.1 hlb hg.2.2
   · obtain rfl : o = od := by simpa using ho
     have e := clay_heap (x := .slice (some ⟨g, 0, none⟩) (os.length + 1) cap) (lb := lb) (b := o.g) hg.2.1 (fun e => by have := (World.ownsRow.lt h.row _ e).2; omega) (by omega) (by omega)
     refine ⟨by omega, by simp; omega, fun e2 => ?_, fun i hi => ?_, fun i => ?_⟩
     · rcases hg.2.2 with h2 | h2
       · have := (World.ownsRow.lt h.row _ (h2.symm.trans e2)).2; omega
       · rw [h2] at e2; injection e2 with e2; omega
     · rw [cell_of_heap e, hog]; exact km i _ (made_get _ _ (by omega))
     · rw [froz_heap e, hog]; exact kf i
theorem CfAt.start {size lb base oc : Nat} {wr : World} {O : Option Addr} {os : List Oc} {f : Cf} (h : OcsAt size lb base wr O oc os) (hlb : lb < base) (h0 : f.size = size ∧ f.l0 = 0 ∧ f.l1 = 0 ∧ f.u0 = 0 ∧ f.u1 = 0 ∧ f.canon = true) (hl : f.ops.length = os.length) (ho : ∀ (i : Nat) (o : Oc), os[i]? = some o → f.ops[i]? = some (o.cls, List.replicate o.bits 0)) : CfAt lb base wr O oc os f := by
 obtain ⟨e0, e1, e2, e3, e4, e5⟩ := h0
 refine ⟨by unfold cfV; rw [e0, e1, e2, e3, e4, e5]; exact h.blk, h.free, hl, fun i o hi => ?_, fun i o hi => ?_, fun o hm => ⟨(h.all o hm).old, (h.all o hm).lt⟩, h.apart, hlb⟩
 · have hi2 := (List.getElem?_eq_some_iff.1 hi).1
   rcases h.row.2 with ⟨_, hz⟩ | ⟨g, cap, cur, e, hb, hg, _, _, hs, ht⟩
   · omega
   · injection e with e e4 e5
     refine ⟨g, e, hb, fun o' ho' e6 => ?_, fun k v hv => ?_⟩
     · refine (h.all o' ho').own ?_
       rw [e, e6]; rfl
     · have h1 := flatC_get os i o k v hi hv
       rw [← ht] at h1
       have h2 : i * 2 + k < os.length * 2 := by
         rcases Nat.lt_or_ge (i * 2 + k) (os.length * 2) with h3 | h3
         · exact h3
         · rw [List.getElem?_eq_none (by rw [List.length_take]; omega)] at h1; cases h1
       rw [List.getElem?_take_of_lt h2] at h1
       simp [World.cell?, hg]
       simpa using h1
 · refine ⟨_, ho i o hi, by simp, fun k v hv => ?_, (h.all o (List.mem_of_getElem? hi)).free⟩
   obtain ⟨hk, e⟩ := List.getElem?_eq_some_iff.1 hv
   rw [List.getElem_replicate] at e
   subst e
   exact (h.all o (List.mem_of_getElem? hi)).cell k (by simpa using hk)
def OcRd (w : World) (b o : Nat) (x : Int × List Int) : Prop := w.cell? ⟨b, o, none⟩ = some (.int .i64 x.1) ∧ ∃ A c, x.2.length ≤ c ∧ w.cell? ⟨b, o + 1, none⟩ = some (.slice A x.2.length c) ∧ RowOf IntC 1 w A x.2
theorem OcRd.fr {w w' : World} {b o : Nat} {x : Int × List Int} (h : OcRd w b o x) (k : Fr w w') : OcRd w' b o x := by
 obtain ⟨h1, A, c, hc, h2, h3⟩ := h; exact ⟨k.get h1, A, c, hc, k.get h2, h3.fr fun _ _ _ x => x.fr k⟩
theorem CfAt.done {lb base oc : Nat} {wr : World} {O : Option Addr} {os : List Oc} {f : Cf} (h : CfAt lb base wr O oc os f) :
   ∀ w' : World, (∀ b, base ≤ b → b < wr.heap.size → w'.heap[b]? = wr.heap[b]?) → RowOf OcRd 2 w' O f.ops := by
 intro w' hK hl
 have hos : 0 < os.length := by rw [← h.len]; exact hl
 obtain ⟨ob, e, _, _, _⟩ := h.row 0 os[0] (List.getElem?_eq_getElem hos)
 refine ⟨ob, 0, e, fun i hi => ?_⟩
 have hi2 : i < os.length := by rw [← h.len]; exact hi
 have ho := List.getElem?_eq_getElem hi2
 generalize os[i] = o at ho
 obtain ⟨ob', e', hob, _, hc⟩ := h.row i o ho
 obtain rfl : ob = ob' := by rw [e] at e'; injection e' with e'; injection e'
 have hc : ∀ k v, (ocC o)[k]? = some v → w'.cell? ⟨ob, i * 2 + k, none⟩ = some v := fun k v hv => by
   have := hc k v hv
   exact (cell_of_heap (hK ob hob (lt_of_cell this))).trans this
 obtain ⟨l, e2, hl2, hc2, _⟩ := h.ops i o ho
 have hgo := h.old o (List.mem_of_getElem? ho)
 have hc2 : ∀ k v, l[k]? = some v → w'.cell? ⟨o.g, k, none⟩ = some (.int .i64 v) := fun k v hv => (cell_of_heap (hK o.g hgo.1 hgo.2)).trans (hc2 k v hv)
 have e3 : f.ops[i] = (o.cls, l) := (List.getElem?_eq_some_iff.1 e2).2
 rw [e3, Nat.zero_add, Nat.mul_comm 2 i]
 refine ⟨hc 0 _ rfl, some ⟨o.g, 0, none⟩, o.bits, by simp only; omega, ?_, ?_⟩
 · have := hc 1 _ rfl
   simp only [hl2]; exact this
 · intro _
   exact ⟨o.g, 0, rfl, fun k hk => by have := hc2 k _ (List.getElem?_eq_getElem hk); simpa [IntC] using this⟩
theorem set5L (wr : World) (b : Nat) (v0 v1 v2 v3 v4 : Value) : Below b wr (((((wr.setCell ⟨b, 0, none⟩ v0).setCell ⟨b, 1, none⟩ v1).setCell ⟨b, 2, none⟩ v2).setCell ⟨b, 3, none⟩ v3).setCell ⟨b, 4, none⟩ v4) ∧ (∀ c, c ≠ b → (((((wr.setCell ⟨b, 0, none⟩ v0).setCell ⟨b, 1, none⟩ v1).setCell ⟨b, 2, none⟩ v2).setCell ⟨b, 3, none⟩ v3).setCell ⟨b, 4, none⟩ v4).heap[c]? = wr.heap[c]?) :=
 ⟨Below.setCell (Below.setCell (Below.setCell (Below.setCell (Below.setCell (Below.refl _ _) (Nat.le_refl b) _) (Nat.le_refl b) _) (Nat.le_refl b) _) (Nat.le_refl b) _) (Nat.le_refl b) _,
   fun c h => (Below.heap_setCell _ _ _ c h).trans ((Below.heap_setCell _ _ _ c h).trans ((Below.heap_setCell _ _ _ c h).trans ((Below.heap_setCell _ _ _ c h).trans (Below.heap_setCell _ _ _ c h))))⟩
theorem cell_same {wr w' : World} {b o : Nat} {v : Value} (e : w'.heap[b]? = wr.heap[b]?) (h : wr.cell? ⟨b, o, none⟩ = some v) : w'.cell? ⟨b, o, none⟩ = some v := (cell_of_heap e).trans h
theorem LayAt.same {lb base oc : Nat} {wr w' : World} {O : Option Addr} {os : List Od} {L : Ly} (h : LayAt lb base wr O oc os L) (hs : wr.heap.size ≤ w'.heap.size) (k : ∀ b, lb ≤ b → w'.heap[b]? = wr.heap[b]?) : LayAt lb base w' O oc os L := by
 have hl := h.lb_
 refine ⟨fun i v hv => cell_same (k lb (Nat.le_refl _)) (h.blk i v hv), fun i => (froz_heap (k lb (Nat.le_refl _))).trans (h.free i), h.len, fun i o ho => ?_, fun i o ho => ?_, fun o ho => ⟨(h.old o ho).1, Nat.lt_of_lt_of_le (h.old o ho).2 hs⟩, h.apart, hl⟩
 · obtain ⟨ob, e, hb, hn, hc⟩ := h.row i o ho
   exact ⟨ob, e, hb, hn, fun j v hv => cell_same (k ob (by omega)) (hc j v hv)⟩
 · obtain ⟨l, e, hl, hc, hf⟩ := h.ops i o ho
   have hg := h.old o (List.mem_of_getElem? ho)
   exact ⟨l, e, hl, fun j v hv => cell_same (k o.g (by omega)) (hc j v hv), fun j => (froz_heap (k o.g (by omega))).trans (hf j)⟩
theorem lay_end {D : Ds} {args : List Int} {n oc : Nat} {w0 w W3 wr w' : World} {os : List Od} {O : Option Addr} {L : Ly} (hR : LayR D W3 n os O oc L wr) (hX : ∀ i o, os[i]? = some o → OdX D args w0 i o) (hk : Fr w0 w) (h3 : Fr w W3) (hn : w.heap.size = n) (hs : Below (n + 1 + 1) wr w' ∧ ∀ c, c ≠ n + 1 + 1 → w'.heap[c]? = wr.heap[c]?) :
   ∃ O' oc', (Ending.returned (.agg (lyC L O oc))) = .returned (.agg (lyC L O' oc')) ∧ Fr w w' ∧ LyOk D L ∧ ∀ w'' : World, (∀ b, (b < w0.heap.size ∨ w.heap.size ≤ b) → b < w'.heap.size → w''.heap[b]? = w'.heap[b]?) → RowOf OpAt 8 w'' O' L.ops := by
 have hf : Fr w w' := Below.trans (h3.call hR.fr) (Below.mono hs.1 (by omega))
 exact ⟨O, oc, rfl, hf, hR.ok, LayAt.done (hR.lay.same hs.1.size fun b hb => hs.2 b (by omega)) hX (hk.call hf) (by omega)⟩
theorem l15_keep {wx : World} {pb n : Nat} {x0 x1 x2 x3 o : Value} (h : BlkAt wx pb [x0, x1, x2, x3]) (h1 : wx.cell? ⟨n, 1, none⟩ = some o) : (wx.cell? ⟨pb, 0, none⟩ = some x0 ∧ wx.cell? ⟨pb, 1, none⟩ = some x1 ∧ wx.cell? ⟨pb, 2, none⟩ = some x2 ∧ wx.cell? ⟨pb, 3, none⟩ = some x3) ∧ wx.cell? ⟨n, 1, none⟩ = some o :=
 ⟨⟨h 0 _ rfl, h 1 _ rfl, h 2 _ rfl, h 3 _ rfl⟩, h1⟩
theorem l15_box {wr W w' : World} {pb : Nat} {l : List Value} (h : BlkAt wr pb l) (e : w'.heap[pb]? = W.heap[pb]?) (k : W.heap[pb]? = wr.heap[pb]?) : BlkAt w' pb l := fun i v hv => (cell_of_heap (e.trans k)).trans (h i v hv)
theorem l15_cell {wr W w' : World} {b : Nat} {v : Value} (h : wr.cell? ⟨b, 1, none⟩ = some v) (e : w'.heap[b]? = W.heap[b]?) (k : W.heap[b]? = wr.heap[b]?) : w'.cell? ⟨b, 1, none⟩ = some v := (cell_of_heap (e.trans k)).trans h
set_option maxHeartbeats 25600000 in
set_option maxRecDepth 100000 in
theorem lay_any {w0 w : World} {D : Ds} {v : Array Value} (hD : DescAt w0 D v) (hk : Fr w0 w) (fn fs : ByteArray) (Aa Bp Cs : Option Addr) (args : List Int) (pcs : List Pc) (ac bc2 cl cc2 : Nat) (hA : RowOf ArgS 2 w Aa args) (hP : RowOf PcAt 4 w Bp pcs) (hL : Light pcs) (hn : patN D args pcs ≠ 0) :
   Calls Tryz.prog 44 #[.agg v, .agg #[.string fn, .string fs, .slice Aa args.length ac, .slice Bp pcs.length bc2, .slice Cs cl cc2]] w fun e w' => ∃ O oc, e = .returned (.agg (lyC (layD D args pcs) O oc)) ∧ Fr w w' ∧ LyOk D (layD D args pcs) ∧
     ∀ w'' : World, (∀ b, (b < w0.heap.size ∨ w.heap.size ≤ b) → b < w'.heap.size → w''.heap[b]? = w'.heap[b]?) → RowOf OpAt 8 w'' O (layD D args pcs).ops := by
 have hop := (pat_sum hn).1
 have HSUM := Lib.hid (pat_sum hn)
 obtain ⟨T, hT⟩ : ∃ T, layD D args pcs = T := ⟨_, rfl⟩
 rw [hT]
 have HT := Lib.hid hT
 have HD := Lib.hid hD
 have HK := Lib.hid hk
 have HPR := Lib.hid hP
 have HLT := Lib.hid hL
 unfold opsB at hop
 rw [Bool.and_eq_true] at hop
 have hall : args.all (clsAtB D) = true := hop.2
 have h6 : args.length ≤ 6 := of_decide_eq_true hop.1
 have HPT := Lib.hid (fun (w1 : World) (k : Fr w w1) => pat_any (hD.fr (hk.call k)) fn fs Aa Bp Cs args pcs ac bc2 cl cc2 (hA.fr fun _ _ _ x => x.fr k) (hP.fr fun _ _ _ x => x.fr k) hL)
 obtain ⟨s0, Fa, Ba, Ga, Ca, Ma, Ra, Ua, Xa, Ka, Na, Pa, fc, bc, gc, cc, mc, rc, uc, xc, kc, nl, nc, pc, rfl, h1, h2, h3, h4, h5, h6', h7, h8, h9⟩ := hD
 have HPB := Lib.hid (fun (w1 : World) (k : Fr w w1) (p : Pc) (hp : p.lit.size ≤ maxLen) => pieceBits_any (HD.out.fr (HK.out.call k)) fn fs Aa Bp Cs args ac pcs.length bc2 cl cc2 (hA.fr fun _ _ _ x => x.fr k) p.lit hp hall p.arg p.hi p.lo)
 have HC := Lib.hid h3
 have HA := Lib.hid hA
 have HALL := Lib.hid hall
 have hpl : pcs.length ≤ 1048576 := hL.many
 clear h1 h2 h3 h4 h5 h6' h7 h8 h9 hA hall hT hk hP hL hn hop
 have hz3 : (((w.alloc (.cells #[.string s0, .int .i64 D.order, .slice Fa D.files.length fc, .slice Ba D.als.length bc, .slice Ga D.nflags gc, .slice Ca D.cls.length cc, .slice Ma D.fms.length mc, .slice Ra D.rels.length rc, .slice Ua D.uses.length uc, .slice Xa D.rxs.length xc, .slice Ka D.mcs.length kc, .slice Na nl nc, .slice Pa D.regs.length pc] 33)).alloc (.cells #[.string fn, .string fs, .slice Aa args.length ac, .slice Bp pcs.length bc2, .slice Cs cl cc2] 43)).alloc (.cells #[.int .u64 0, .int .u64 0, .int .u64 0, .int .u64 0, .slice none 0 0] 116)).heap.size = w.heap.size + 3 := by simp
 have hf3 : Fr w (((w.alloc (.cells #[.string s0, .int .i64 D.order, .slice Fa D.files.length fc, .slice Ba D.als.length bc, .slice Ga D.nflags gc, .slice Ca D.cls.length cc, .slice Ma D.fms.length mc, .slice Ra D.rels.length rc, .slice Ua D.uses.length uc, .slice Xa D.rxs.length xc, .slice Ka D.mcs.length kc, .slice Na nl nc, .slice Pa D.regs.length pc] 33)).alloc (.cells #[.string fn, .string fs, .slice Aa args.length ac, .slice Bp pcs.length bc2, .slice Cs cl cc2] 43)).alloc (.cells #[.int .u64 0, .int .u64 0, .int .u64 0, .int .u64 0, .slice none 0 0] 116)) := Fr.alloc (Fr.alloc (Fr.alloc (Fr.refl w) _) _) _
 have hdv : BlkAt (((w.alloc (.cells #[.string s0, .int .i64 D.order, .slice Fa D.files.length fc, .slice Ba D.als.length bc, .slice Ga D.nflags gc, .slice Ca D.cls.length cc, .slice Ma D.fms.length mc, .slice Ra D.rels.length rc, .slice Ua D.uses.length uc, .slice Xa D.rxs.length xc, .slice Ka D.mcs.length kc, .slice Na nl nc, .slice Pa D.regs.length pc] 33)).alloc (.cells #[.string fn, .string fs, .slice Aa args.length ac, .slice Bp pcs.length bc2, .slice Cs cl cc2] 43)).alloc (.cells #[.int .u64 0, .int .u64 0, .int .u64 0, .int .u64 0, .slice none 0 0] 116)) w.heap.size [.string s0, .int .i64 D.order, .slice Fa D.files.length fc, .slice Ba D.als.length bc, .slice Ga D.nflags gc, .slice Ca D.cls.length cc, .slice Ma D.fms.length mc, .slice Ra D.rels.length rc, .slice Ua D.uses.length uc, .slice Xa D.rxs.length xc, .slice Ka D.mcs.length kc, .slice Na nl nc, .slice Pa D.regs.length pc] := BlkAt.fr BlkAt.alloc (Fr.alloc (Fr.alloc (Fr.refl _) _) _)
 have hfv : BlkAt (((w.alloc (.cells #[.string s0, .int .i64 D.order, .slice Fa D.files.length fc, .slice Ba D.als.length bc, .slice Ga D.nflags gc, .slice Ca D.cls.length cc, .slice Ma D.fms.length mc, .slice Ra D.rels.length rc, .slice Ua D.uses.length uc, .slice Xa D.rxs.length xc, .slice Ka D.mcs.length kc, .slice Na nl nc, .slice Pa D.regs.length pc] 33)).alloc (.cells #[.string fn, .string fs, .slice Aa args.length ac, .slice Bp pcs.length bc2, .slice Cs cl cc2] 43)).alloc (.cells #[.int .u64 0, .int .u64 0, .int .u64 0, .int .u64 0, .slice none 0 0] 116)) (w.heap.size + 1) [.string fn, .string fs, .slice Aa args.length ac, .slice Bp pcs.length bc2, .slice Cs cl cc2] := by
   have := BlkAt.fr (BlkAt.alloc (w := w.alloc (.cells #[.string s0, .int .i64 D.order, .slice Fa D.files.length fc, .slice Ba D.als.length bc, .slice Ga D.nflags gc, .slice Ca D.cls.length cc, .slice Ma D.fms.length mc, .slice Ra D.rels.length rc, .slice Ua D.uses.length uc, .slice Xa D.rxs.length xc, .slice Ka D.mcs.length kc, .slice Na nl nc, .slice Pa D.regs.length pc] 33)) (t := 43) (cs := #[.string fn, .string fs, .slice Aa args.length ac, .slice Bp pcs.length bc2, .slice Cs cl cc2])) (Fr.alloc (Fr.refl _) (.cells #[.int .u64 0, .int .u64 0, .int .u64 0, .int .u64 0, .slice none 0 0] 116))
   simpa using this
 have hzv : BlkAt (((w.alloc (.cells #[.string s0, .int .i64 D.order, .slice Fa D.files.length fc, .slice Ba D.als.length bc, .slice Ga D.nflags gc, .slice Ca D.cls.length cc, .slice Ma D.fms.length mc, .slice Ra D.rels.length rc, .slice Ua D.uses.length uc, .slice Xa D.rxs.length xc, .slice Ka D.mcs.length kc, .slice Na nl nc, .slice Pa D.regs.length pc] 33)).alloc (.cells #[.string fn, .string fs, .slice Aa args.length ac, .slice Bp pcs.length bc2, .slice Cs cl cc2] 43)).alloc (.cells #[.int .u64 0, .int .u64 0, .int .u64 0, .int .u64 0, .slice none 0 0] 116)) (w.heap.size + 2) [.int .u64 0, .int .u64 0, .int .u64 0, .int .u64 0, .slice none 0 0] := by
   have := BlkAt.alloc (w := (w.alloc (.cells #[.string s0, .int .i64 D.order, .slice Fa D.files.length fc, .slice Ba D.als.length bc, .slice Ga D.nflags gc, .slice Ca D.cls.length cc, .slice Ma D.fms.length mc, .slice Ra D.rels.length rc, .slice Ua D.uses.length uc, .slice Xa D.rxs.length xc, .slice Ka D.mcs.length kc, .slice Na nl nc, .slice Pa D.regs.length pc] 33)).alloc (.cells #[.string fn, .string fs, .slice Aa args.length ac, .slice Bp pcs.length bc2, .slice Cs cl cc2] 43)) (t := 116) (cs := #[.int .u64 0, .int .u64 0, .int .u64 0, .int .u64 0, .slice none 0 0])
   simpa using this
 have hzf : ∀ k, (((w.alloc (.cells #[.string s0, .int .i64 D.order, .slice Fa D.files.length fc, .slice Ba D.als.length bc, .slice Ga D.nflags gc, .slice Ca D.cls.length cc, .slice Ma D.fms.length mc, .slice Ra D.rels.length rc, .slice Ua D.uses.length uc, .slice Xa D.rxs.length xc, .slice Ka D.mcs.length kc, .slice Na nl nc, .slice Pa D.regs.length pc] 33)).alloc (.cells #[.string fn, .string fs, .slice Aa args.length ac, .slice Bp pcs.length bc2, .slice Cs cl cc2] 43)).alloc (.cells #[.int .u64 0, .int .u64 0, .int .u64 0, .int .u64 0, .slice none 0 0] 116)).frozen? ⟨w.heap.size + 2, k, none⟩ = false := fun k => World.frozen?_alloc_at _ _ _ _ (by simp)
 go_enter Tryz.func44, Tryz.ntmps44
 go_wp2
 generalize hW3 : World.alloc (World.alloc (World.alloc w _) _) _ = W3 at *
 have HF3 := Lib.hid hf3
 have HDV := Lib.hid hdv
 have HFV := Lib.hid hfv
 have HZV := Lib.hid hzv
 have HZF := Lib.hid hzf
 have HZ3 := Lib.hid hz3
 clear hf3 hdv hfv hzv hzf hW3
 obtain ⟨n, hn0⟩ : ∃ n, w.heap.size = n := ⟨_, rfl⟩
 have HN0 := Lib.hid hn0
 rw [hn0] at HDV HFV HZV HZF HZ3 hz3 ⊢
 (try simp only [hn0, hz3])
 clear hn0
 go_loopw [17] (fun i wr => RelLay1 D args w0 W3 n i wr) (fun i _ => args.length - (intOf i).toNat)
 case atStart =>
   refine ⟨[], none, 0, Nat.zero_le _, rfl, Fr.alloc (Fr.refl _) _, ⟨?_, fun k => ?_, World.ownsRow_nil _ _ _ _, by simp, by simp⟩, by simp; omega, by simp⟩
   · have := BlkAt.alloc (w := W3) (t := 116) (cs := #[.int .u64 0, .int .u64 0, .int .u64 0, .int .u64 0, .slice none 0 0])
     rw [hz3] at this
     simpa using this
   · exact World.frozen?_alloc_at _ _ _ _ (by simp [hz3])
 case round =>
   obtain ⟨os, O, oc, hj, rfl, hf, hOp, hsz, hX⟩ := hrel
   have HFr := Lib.hid hf
   have HOP := Lib.hid hOp
   have HX := Lib.hid hX
   have a5 := (HDV.out.fr hf) 5 _ rfl
   have l4 := hOp.blk 4 _ rfl
   clear hOp hX
   obtain ⟨j, hj0⟩ : ∃ j, os.length = j := ⟨_, rfl⟩
   have HJ := Lib.hid hj0
   rw [hj0] at hj l4
   simp only [hj0]
   clear hj0
   by_cases hlt : j < args.length
   · have hji : (j : Int) < (args.length : Int) := by omega
     obtain ⟨bk, ok, rfl, hx⟩ := (HA.out.fr fun _ _ _ x => x.fr (HF3.out.call hf)).at hlt
     obtain ⟨c, e, hc, hcl, _, hb1, hb64⟩ := args_at HALL.out hlt
     rw [Nat.mul_comm 2 j, e] at hx
     obtain ⟨bq, oq, rfl, hy⟩ := HC.out.at hc
     have HCC := Lib.hid (show D.cls[c]? = some D.cls[c] from List.getElem?_eq_getElem hc)
     have HE := Lib.hid (show args[j]? = some (c : Int) by rw [List.getElem?_eq_getElem hlt, e])
     rw [Nat.mul_comm 7 c] at hy
     obtain ⟨an, x0, _, x1⟩ := hx
     generalize D.cls[c] = k at *
     obtain ⟨kind, file, bits, shift, plus, ex⟩ := k
     obtain ⟨n0, E, ec, y0, r1, y1, r2, y2, r3, y3, r4, y4, r5, y5, r6, r7, y6, hex⟩ := hy
     have HR := Lib.hid (And.intro r1 (And.intro r2 (And.intro r3 (And.intro r4 (And.intro r5 (And.intro r6 r7))))))
     have HEX := Lib.hid hex
     clear r1 r2 r3 r4 r5 r6 r7
     have HCL := Lib.hid hcl
     clear hcl
     simp only at y0 y1 y2 y3 y4 y5 y6 hb1 hb64
     have HKF := Lib.hid (HK.out.call (HF3.out.call hf))
     have y0 := HKF.out.get y0; have y1 := HKF.out.get y1; have y2 := HKF.out.get y2; have y3 := HKF.out.get y3; have y4 := HKF.out.get y4; have y5 := HKF.out.get y5; have y6 := HKF.out.get y6
     have hci : (c : Int) < (D.cls.length : Int) := by omega
     obtain ⟨bn, rfl⟩ : ∃ bn : Nat, bits = (bn : Int) := ⟨bits.toNat, by omega⟩
     have zb := lt_of_cell x0
     have zq := lt_of_cell y0
     have zl := lt_of_cell l4
     have za := lt_of_cell a5
     have HF6 := Lib.hid (show Fr wr ((wr.alloc (.cells #[.string an, .int .i64 (c : Int)] 55)).alloc (.cells #[.string n0, .int .i64 kind, .int .i64 file, .int .i64 (bn : Int), .int .i64 shift, .int .i64 plus, .slice E ex.length ec] 64)) from Fr.alloc (Fr.alloc (Fr.refl wr) _) _)
     have HK6 := Lib.hid (show BlkAt ((wr.alloc (.cells #[.string an, .int .i64 (c : Int)] 55)).alloc (.cells #[.string n0, .int .i64 kind, .int .i64 file, .int .i64 (bn : Int), .int .i64 shift, .int .i64 plus, .slice E ex.length ec] 64)) (wr.heap.size + 1) [.string n0, .int .i64 kind, .int .i64 file, .int .i64 (bn : Int), .int .i64 shift, .int .i64 plus, .slice E ex.length ec] from by
       have := BlkAt.alloc (w := wr.alloc (.cells #[.string an, .int .i64 (c : Int)] 55)) (t := 64) (cs := #[.string n0, .int .i64 kind, .int .i64 file, .int .i64 (bn : Int), .int .i64 shift, .int .i64 plus, .slice E ex.length ec])
       simpa using this)
     have HZ6 := Lib.hid (show ((wr.alloc (.cells #[.string an, .int .i64 (c : Int)] 55)).alloc (.cells #[.string n0, .int .i64 kind, .int .i64 file, .int .i64 (bn : Int), .int .i64 shift, .int .i64 plus, .slice E ex.length ec] 64)).heap.size = wr.heap.size + 2 by simp)
     clear hex hf hj
     go_wp2
     generalize World.alloc (World.alloc wr _) _ = W6 at *
     have hj9 := HJ.out
     have hop := HOP.out
     refine lay6 _ _ _ _ _ _ _ _ _ _ _ _ _ _ _ _ _ _ _ _ _ _ _ _ _ _ _ _ _ _ _ _ _ _ _ _ _ _ _ _ _ _ _ _ _ _ _ _ _ _ _ _ _ _ _ _ _ _ _ _ _ _ _ _ _ _ _ _ (n + 3) (wr.heap.size + 1) bn n0 kind file shift plus E O ex.length ec j oc (by omega) (HF6.out.get l4) HK6.out (n + 4) (flatO os) ?own (by omega) (by omega) ?base ?frz ?end_
     case own => subst hj9; exact ownsRow_fr hop.row HF6.out
     case base => rw [HZ6.out]; omega
     case frz => exact HF6.out.free l4 (hop.free 4)
     case end_ =>
       intro g cap w' x27 x28 x29 x30 x31 x32 x33 x34 x35 x36 hg
       have HN := Lib.hid (OpsAt.next (od := ⟨⟨kind, file, bn, shift, plus, ex⟩, n0, E, ec, W6.heap.size⟩) hop HF6.out rfl (bn := bn) (by simp) (by omega) hsz (by subst hj9; exact hg))
       have HG := Lib.hid hg
       have k7 := Lib.hid (HF6.out.call (Fr.drew (Fr.alloc (Fr.alloc (Fr.refl W6) (.cells (madeCells #[.int .i64 0] bn) 3)) (.cells #[.string n0, .int .i64 kind, .int .i64 file, .int .i64 (bn : Int), .int .i64 shift, .int .i64 plus, .slice E ex.length ec, .slice (some ⟨W6.heap.size, 0, none⟩) bn bn] 163))))
       have hne : ∀ b, b < n + 4 → (Value.slice O j oc).ownBlock ≠ some b := fun b hb e => by
         subst hj9
         have := (World.ownsRow.lt hop.row b e).1
         omega
       have HNE := Lib.hid hne
       clear hop hne
       go_wp2
       go_roundw
       case rel =>
         subst hj9
         have hl : (os ++ [(⟨⟨kind, file, bn, shift, plus, ex⟩, n0, E, ec, W6.heap.size⟩ : Od)]).length = os.length + 1 := by simp
         refine ⟨os ++ [⟨⟨kind, file, bn, shift, plus, ex⟩, n0, E, ec, W6.heap.size⟩], some ⟨g, 0, none⟩, cap, by rw [hl]; omega, by rw [hl]; go_num, ?_, HN.out, ?_, ?_⟩
         · exact Fr.set (Fr.grown (HFr.out.call k7.out) HG.out.2.1 (fun k e => by
             rcases Nat.lt_or_ge k W3.heap.size with h | h
             · exact absurd e (HNE.out k (by omega))
             · exact h)) (by simp only; omega) _
         · have := HG.out.2.1.size
           have := k7.out.size
           simp
           omega
         · intro i o hio
           rcases Nat.lt_or_ge i os.length with hi | hi
           · rw [List.getElem?_append_left hi] at hio
             exact HX.out i o hio
           · rw [List.getElem?_append_right hi] at hio
             obtain ⟨hi0, rfl⟩ : i - os.length = 0 ∧ _ = o := by
               match hh : i - os.length, hio with
               | 0, hio => exact ⟨rfl, Option.some.inj hio⟩
             obtain rfl : i = os.length := by omega
             exact ⟨⟨c, HE.out, HCC.out, HCL.out, hb1, hb64⟩, HR.out, HEX.out⟩
       case measure => simp [intOf]; omega
   · obtain rfl : j = args.length := by omega
     have HST := Lib.hid (lay0_start HX.out HJ.out)
     have HLA := Lib.hid (LayAt.start HOP.out (by omega) ⟨rfl, rfl, rfl, rfl⟩ HST.out.1 HST.out.2)
     have HR0 := Lib.hid (show LayR D W3 n os O oc (lay0 D args) wr from ⟨HFr.out, HLA.out, lay0_ok h6 HALL.out⟩)
     have HWR := Lib.hid (HF3.out.call hf)
     have hzr := hf.size
     clear hj a5 l4 HOP HLA HST
     have d0 := HDV.out.fr hf 0 _ rfl; have d1 := HDV.out.fr hf 1 _ rfl; have d2 := HDV.out.fr hf 2 _ rfl; have d3 := HDV.out.fr hf 3 _ rfl; have d4 := HDV.out.fr hf 4 _ rfl; have d5 := HDV.out.fr hf 5 _ rfl; have d6 := HDV.out.fr hf 6 _ rfl; have d7 := HDV.out.fr hf 7 _ rfl; have d8 := HDV.out.fr hf 8 _ rfl; have d9 := HDV.out.fr hf 9 _ rfl; have d10 := HDV.out.fr hf 10 _ rfl; have d11 := HDV.out.fr hf 11 _ rfl; have d12 := HDV.out.fr hf 12 _ rfl
     have f0 := HFV.out.fr hf 0 _ rfl; have f1 := HFV.out.fr hf 1 _ rfl; have f2 := HFV.out.fr hf 2 _ rfl; have f3 := HFV.out.fr hf 3 _ rfl; have f4 := HFV.out.fr hf 4 _ rfl
     have zd := lt_of_cell d0
     have zf := lt_of_cell f0
     clear hf
     go_wp2_with fail
     refine (HPT.out _ HWR.out).mono ?_
     rintro e w4 ⟨rfl, hf4⟩
     have HR4 := Lib.hid (HR0.out.frame hf4)
     have HW4 := Lib.hid (HWR.out.call hf4)
     have hz4 : n + 4 ≤ w4.heap.size := by have := hf4.size; omega
     have f3 := HFV.out.fr (HFr.out.call hf4) 3 _ rfl
     clear d0 d1 d2 d3 d4 d5 d6 d7 d8 d9 d10 d11 d12 f0 f1 f2 f4
     clear hf4 HR0 HWR HFr
     obtain ⟨bits, hbits⟩ : ∃ bits, patN D args pcs = bits := ⟨_, rfl⟩
     rw [hbits] at HSUM ⊢
     have HBI := Lib.hid hbits
     clear hbits
     have hb120 : bits ≤ 120 := HSUM.out.2.2.2.2
     go_wp2_with fail
     clear hz4
     go_loopw [44, 10] (fun i nv wr => RelLay2 D args pcs bits T W3 n os O oc i nv wr) (fun i _ _ => pcs.length - (intOf i).toNat)
     case atStart =>
       refine ⟨0, 0, lay0 D args, Nat.zero_le _, rfl, rfl, HR4.out, ?_, ?_⟩
       · rw [List.drop_zero, ← HT.out]; unfold layD; rw [HBI.out]
       · rw [List.drop_zero]; have := HSUM.out.2.1; omega
     case round =>
       obtain ⟨j, m, L, hj, rfl, rfl, hR, hTT, hS⟩ := hrel
       have HR := Lib.hid hR
       clear hR
       by_cases hlt : j < pcs.length
       · obtain ⟨bp, op, rfl, hx⟩ := (HPR.out.fr fun _ _ _ x => x.fr (HF3.out.call HR.out.fr)).at hlt
         rw [Nat.mul_comm 4 j] at hx
         have HDR : pcs.drop j = pcs[j] :: pcs.drop (j + 1) := List.drop_eq_getElem_cons hlt
         rw [HDR] at hTT hS
         have hpn := HSUM.out.2.2.1 _ (List.getElem_mem hlt)
         clear HDR
         generalize pcs[j] = p at *
         have HPBp := Lib.hid (fun (w1 : World) (k : Fr w w1) => HPB.out w1 k p hx.1)
         have HPU := Lib.hid (fun (w1 : World) (L : Ly) (b q : Nat) (hl : LayAt (n + 3) (n + 4) w1 O oc os L) (hk : LyOk D L) (hb : b < pcN D args p) (hq : q < 128) => put_any hl hk HX.out HJ.out HALL.out hb hq hx.1)
         obtain ⟨lit, ar, hi, lo⟩ := p
         obtain ⟨w0', g0, w1', g1, w2', g2, w3', g3⟩ := hx
         simp only at g0 g1 g2 g3 HPBp HPU
         have HTT := Lib.hid hTT
         have HSS := Lib.hid hS
         have hji : (j : Int) < (pcs.length : Int) := by omega
         have zp := lt_of_cell g0
         have HBX := Lib.hid (BlkAt.alloc (w := wr) (t := 148) (cs := #[.string lit, .int .i64 ar, .int .i64 hi, .int .i64 lo]))
         have HFX := Lib.hid (Fr.alloc (Fr.refl wr) (.cells #[.string lit, .int .i64 ar, .int .i64 hi, .int .i64 lo] 148))
         have HNE := Lib.hid (fun o ho => Nat.ne_of_lt (HR.out.lay.old o ho).2)
         have HLB := Lib.hid (layAt_lb HR.out.lay)
         have d0 := HDV.out.fr HR.out.fr 0 _ rfl; have d1 := HDV.out.fr HR.out.fr 1 _ rfl; have d2 := HDV.out.fr HR.out.fr 2 _ rfl; have d3 := HDV.out.fr HR.out.fr 3 _ rfl; have d4 := HDV.out.fr HR.out.fr 4 _ rfl; have d5 := HDV.out.fr HR.out.fr 5 _ rfl; have d6 := HDV.out.fr HR.out.fr 6 _ rfl; have d7 := HDV.out.fr HR.out.fr 7 _ rfl; have d8 := HDV.out.fr HR.out.fr 8 _ rfl; have d9 := HDV.out.fr HR.out.fr 9 _ rfl; have d10 := HDV.out.fr HR.out.fr 10 _ rfl; have d11 := HDV.out.fr HR.out.fr 11 _ rfl; have d12 := HDV.out.fr HR.out.fr 12 _ rfl
         have f0 := HFV.out.fr HR.out.fr 0 _ rfl; have f1 := HFV.out.fr HR.out.fr 1 _ rfl; have f2 := HFV.out.fr HR.out.fr 2 _ rfl; have f3 := HFV.out.fr HR.out.fr 3 _ rfl; have f4 := HFV.out.fr HR.out.fr 4 _ rfl
         have zd := lt_of_cell d0
         have zf := lt_of_cell f0
         clear hTT hS hj w0' w1' w2' w3'
         obtain ⟨N, hN⟩ : ∃ N, pcN D args ⟨lit, ar, hi, lo⟩ = N := ⟨_, rfl⟩
         have HN := Lib.hid hN
         rw [hN] at HPBp HPU hpn
         clear hN
         have hNb : N ≤ 120 := by
           have := HSS.out
           simp only [sumN, List.map_cons, List.sum_cons] at this
           have := HN.out
           omega
         have hmb : m ≤ 120 := by have := HSS.out; omega
         have HT5 := Lib.hid (show layL D.order bits D args (pcs.drop (j + 1)) (m + N) (layP D.order bits ⟨lit, ar, hi, lo⟩ N m L) = T by rw [← HN.out]; exact HTT.out)
         have HS5 := Lib.hid (show m + N + sumN D args (pcs.drop (j + 1)) = bits by
           have := HSS.out
           simp only [sumN, List.map_cons, List.sum_cons] at this ⊢
           have := HN.out
           omega)
         clear HTT HSS
         go_wp2_with fail
         refine (HPBp.out _ (HF3.out.call (HR.out.fr.call HFX.out))).mono ?_
         rintro e w5 ⟨rfl, hf5⟩
         have HR5 := Lib.hid (HR.out.frame (HFX.out.call hf5))
         have HB5 := Lib.hid (HBX.out.fr hf5)
         have HZ5 := Lib.hid (show wr.heap.size < w5.heap.size by have := hf5.size; simp at this; omega)
         clear hf5 d0 d1 d2 d3 d4 d5 d6 d7 d8 d9 d10 d11 d12 f0 f1 f2 f4 f3 g0 g1 g2 g3 zd zf zp HBX HFX HPBp
         go_wp2_with fail
         generalize wr.heap.size = pb at *
         go_loopw [13, 10] (fun bv nv w' => RelLay3 D args pcs bits T W3 n os O oc j N ⟨lit, ar, hi, lo⟩ pb [.string lit, .int .i64 ar, .int .i64 hi, .int .i64 lo] bv nv w') (fun b _ _ => (intOf b + 1).toNat)
         case atStart => exact ⟨N, m, L, rfl, rfl, Nat.le_refl _, HR5.out, HT5.out, HS5.out, HB5.out⟩
         case round =>
           obtain ⟨c, m', L', rfl, rfl, hc, hR', hT', hS', hB'⟩ := hrel
           have HR7 := Lib.hid hR'
           have HT7 := Lib.hid hT'
           have HS7 := Lib.hid hS'
           have HB7 := Lib.hid hB'
           clear hR' hT' hS' hB'
           rcases c with _ | b
           · rw [show (((0 : Nat) : Int) - 1) = -1 from rfl]
             go_wp2
             go_roundw
             case rel => exact ⟨j + 1, m', L', by omega, by go_num, rfl, HR7.out, HT7.out, by have := HS7.out; omega⟩
             case measure => simp [intOf]; omega
           · rw [show (((b + 1 : Nat) : Int) - 1) = (b : Int) by omega]
             have hb0 : (0 : Int) ≤ (b : Int) := by omega
             have hm7 : m' < bits := by have := HS7.out; omega
             have hq7 : plcN D.order m' bits < 128 := Nat.lt_trans (plcN_lt hm7 hb120 HSUM.out.2.2.2.1) (by decide)
             have HPL := Lib.hid (fun w => plcN_I (o := D.order) hm7 ▸ placeOf_any D.order m' bits (by omega) (by omega) w)
             have HP7 := Lib.hid (fun w1 (k : LayAt (n + 3) (n + 4) w1 O oc os L') => HPU.out w1 L' b (plcN D.order m' bits) k HR7.out.ok (by omega) hq7)
             have d1 := HDV.out.fr HR7.out.fr 1 _ rfl
             have b0 := HB7.out 0 _ rfl
             have b1 := HB7.out 1 _ rfl
             have b2 := HB7.out 2 _ rfl
             have b3 := HB7.out 3 _ rfl
             have zd := lt_of_cell d1
             have zb := lt_of_cell b0
             have HD1 := Lib.hid d1
             have HQ7 := Lib.hid hq7
             clear hq7
             generalize hq : plcN D.order m' bits = q at *
             have HQ := Lib.hid hq
             clear hq
             go_wp2_with fail
             go_region_held3 (fun wx => (wx.cell? ⟨pb, 0, none⟩ = some (.string lit) ∧ wx.cell? ⟨pb, 1, none⟩ = some (.int .i64 ar) ∧ wx.cell? ⟨pb, 2, none⟩ = some (.int .i64 hi) ∧ wx.cell? ⟨pb, 3, none⟩ = some (.int .i64 lo)) ∧ wx.cell? ⟨n, 1, none⟩ = some (.int .i64 D.order)) (first
               | exact l15_keep HB7.out HD1.out
               | exact l15_keep (HB7.out.fr (Fr.drew (Fr.refl _))) ((Fr.drew (Fr.refl _)).get HD1.out)
               | exact l15_keep HB8.out HD8.out) (first
               | (go_at_call 74; refine (HPL.out _).mono ?_; rintro e w8 ⟨rfl, rfl⟩)
               | (go_at_call 73; refine (HP7.out _ (by first | exact HR7.out.lay | exact HR7.out.lay.fr (Fr.drew (Fr.refl _)))).mono ?_; rintro e w8 ⟨rfl, hb8, hl8, hk8⟩; have HB8 := Lib.hid (l15_box HB7.out (by first | exact hk8 pb (by simpa using zb) (Nat.ne_of_gt HLB.out) HNE.out) rfl); have HD8 := Lib.hid (l15_cell HD1.out (hb8.block n (by omega)) rfl); have HR8 := Lib.hid (HR7.out.to HZ3.out (Below.trans (by first | exact Below.drew (Below.refl _ _) | exact Below.refl _ _) hb8) hl8 (putL_ok HR7.out.ok _ _ HQ7.out)); clear hb8 hl8 hk8))
             go_wp2
             go_roundw
             case rel => exact ⟨b, m' + 1, putL ⟨lit, ar, hi, lo⟩ b q L', rfl, by go_num, by omega, HR8.out, by rw [show m' + 1 + b = m' + (b + 1) by omega, ← HQ.out]; exact HT7.out, by have := HS7.out; omega, HB8.out⟩
             case measure => simp [intOf]
       · obtain rfl : j = pcs.length := by omega
         rw [List.drop_length] at hTT
         obtain rfl : L = T := hTT
         have c0 := HR.out.lay.blk 0 _ rfl; have c1 := HR.out.lay.blk 1 _ rfl; have c2 := HR.out.lay.blk 2 _ rfl; have c3 := HR.out.lay.blk 3 _ rfl; have c4 := HR.out.lay.blk 4 _ rfl
         have z0 := HZV.out.fr HR.out.fr 0 _ rfl; have z1 := HZV.out.fr HR.out.fr 1 _ rfl; have z2 := HZV.out.fr HR.out.fr 2 _ rfl; have z3 := HZV.out.fr HR.out.fr 3 _ rfl; have z4 := HZV.out.fr HR.out.fr 4 _ rfl
         have zc := lt_of_cell c0
         have zz := lt_of_cell z0
         have y0 := HR.out.fr.free (HZV.out 0 _ rfl) (HZF.out 0); have y1 := HR.out.fr.free (HZV.out 1 _ rfl) (HZF.out 1); have y2 := HR.out.fr.free (HZV.out 2 _ rfl) (HZF.out 2); have y3 := HR.out.fr.free (HZV.out 3 _ rfl) (HZF.out 3); have y4 := HR.out.fr.free (HZV.out 4 _ rfl) (HZF.out 4)
         have HLEN := Lib.hid HR.out.lay.len
         have hol : os.length = L.ops.length := HR.out.lay.len.symm
         rw [hol] at c4
         clear hol hS hj HT HSUM
         go_wp2
         exact bodyPost_ret (v := .agg (lyC L O oc)) (by simp [results, Tryz.results44, go_sem, lyC, *]) rfl (lay_end HR.out HX.out HK.out HF3.out HN0.out (set5L _ (n + 1 + 1) _ _ _ _ _))
theorem Tryz.infoL : (Tryz.prog.info? 116).map (fun i => (i.zero, i.size, i.bytes)) = some (some (.agg #[.int .u64 0, .int .u64 0, .int .u64 0, .int .u64 0, .slice none 0 0]), 5, 56) := by kernel_rfl
def RelFc (D : Ds) (W1 : World) (i av : Value) (wr : World) : Prop := ∃ (j : Nat) (ls : List Lk) (A : Option Addr) (cap : Nat), j ≤ D.fms.length ∧ i = .int .i64 (j : Int) ∧ av = .slice A j cap ∧ ls.length = j ∧ ls.map (·.L) = (D.fms.take j).map (layF D) ∧ Fr W1 wr ∧
 AheadAt W1.heap.size D wr A cap ls ∧ ∀ m, m < j → clashAt D m = false
def RelFi (L : Ly) (ls : List Lk) (w7 : World) (z : Value) (wr : World) : Prop := ∃ k : Nat, z = .int .i64 (k : Int) ∧ k ≤ ls.length ∧ Fr w7 wr ∧ (ls.take k).all (fun x => apB x.L L) = true
theorem all_nextL {α : Type} {l : List α} {P : α → Bool} {j : Nat} (h : j < l.length) (ha : (l.take j).all P = true) (hp : P l[j] = true) : (l.take (j + 1)).all P = true := by
 rw [List.take_succ_eq_append_getElem h, List.all_append, ha]; simp [hp]
theorem all_not {α : Type} {l : List α} {P : α → Bool} {j : Nat} (h : j < l.length) (hp : P l[j] = false) : l.all P = false := by
 rw [List.all_eq_false]; exact ⟨l[j], List.getElem_mem h, by simp [hp]⟩
set_option maxHeartbeats 25600000 in
set_option maxRecDepth 100000 in
theorem firstClash_any {w : World} {D : Ds} {v : Array Value} (hD : DescAt w D v) (hL : D.Light) (hP : ∀ f ∈ D.fms, patN D f.args f.pcs ≠ 0) (h512 : D.fms.length ≤ 512) :
   Calls Tryz.prog 23 #[.agg v] w fun e w' => e = .returned (clV D) ∧ Fr w w' := by
 have HD := Lib.hid hD
 have HLT := Lib.hid hL
 have HPN := Lib.hid hP
 obtain ⟨s0, Fa, Ba, Ga, Ca, Ma, Ra, Ua, Xa, Ka, Na, Pa, fc, bc, gc, cc, mc, rc, uc, xc, kc, nl, nc, pc, rfl, h1, h2, h3, h4, h5, h6, h7, h8, h9⟩ := hD
 have HFM := Lib.hid h4
 have HDV := Lib.hid (show BlkAt (w.alloc (.cells #[.string s0, .int .i64 D.order, .slice Fa D.files.length fc, .slice Ba D.als.length bc, .slice Ga D.nflags gc, .slice Ca D.cls.length cc, .slice Ma D.fms.length mc, .slice Ra D.rels.length rc, .slice Ua D.uses.length uc, .slice Xa D.rxs.length xc, .slice Ka D.mcs.length kc, .slice Na nl nc, .slice Pa D.regs.length pc] 33)) w.heap.size [.string s0, .int .i64 D.order, .slice Fa D.files.length fc, .slice Ba D.als.length bc, .slice Ga D.nflags gc, .slice Ca D.cls.length cc, .slice Ma D.fms.length mc, .slice Ra D.rels.length rc, .slice Ua D.uses.length uc, .slice Xa D.rxs.length xc, .slice Ka D.mcs.length kc, .slice Na nl nc, .slice Pa D.regs.length pc] from BlkAt.alloc)
 have HF1 := Lib.hid (show Fr w (w.alloc (.cells #[.string s0, .int .i64 D.order, .slice Fa D.files.length fc, .slice Ba D.als.length bc, .slice Ga D.nflags gc, .slice Ca D.cls.length cc, .slice Ma D.fms.length mc, .slice Ra D.rels.length rc, .slice Ua D.uses.length uc, .slice Xa D.rxs.length xc, .slice Ka D.mcs.length kc, .slice Na nl nc, .slice Pa D.regs.length pc] 33)) from Fr.alloc (Fr.refl w) _)
 have HZ1 := Lib.hid (show (w.alloc (.cells #[.string s0, .int .i64 D.order, .slice Fa D.files.length fc, .slice Ba D.als.length bc, .slice Ga D.nflags gc, .slice Ca D.cls.length cc, .slice Ma D.fms.length mc, .slice Ra D.rels.length rc, .slice Ua D.uses.length uc, .slice Xa D.rxs.length xc, .slice Ka D.mcs.length kc, .slice Na nl nc, .slice Pa D.regs.length pc] 33)).heap.size = w.heap.size + 1 by simp)
 have HLY := Lib.hid (fun (w1 : World) (k : Fr w w1) fn fs Aa Bp Cs args pcs ac bc2 cl cc2 => lay_any HD.out k fn fs Aa Bp Cs args pcs ac bc2 cl cc2)
 clear h1 h2 h3 h4 h5 h6 h7 h8 h9 hL hP
 obtain ⟨cv, hcv⟩ : ∃ cv, clV D = cv := ⟨_, rfl⟩
 rw [hcv]
 have HCV := Lib.hid hcv
 clear hcv
 go_enter Tryz.func23, Tryz.ntmps23
 have e6 := HDV.out 6 _ rfl
 go_wp2
 generalize World.alloc w _ = W1 at *
 clear e6
 go_loopw [13, 4] (fun i av wr => RelFc D W1 i av wr) (fun i _ _ => D.fms.length - (intOf i).toNat)
 case atStart => exact ⟨0, [], none, 0, Nat.zero_le _, rfl, rfl, rfl, by simp, Fr.refl _, ⟨World.ownsRow_nil _ _ _ _, by simp⟩, fun m hm => absurd hm (by omega)⟩
 case round =>
   obtain ⟨j, ls, A, cap, hj, rfl, rfl, hlj, hmap, hf, hah, hno⟩ := hrel
   subst hlj
   have HAH := Lib.hid hah
   have HNO := Lib.hid hno
   have HF := Lib.hid hf
   clear hah hno
   by_cases hlt : ls.length < D.fms.length
   · have HCL := Lib.hid (clash_round hlt hmap)
     have HMP := Lib.hid hmap
     have HTK := Lib.hid (List.take_succ_eq_append_getElem (l := D.fms) hlt)
     obtain ⟨bm, om, rfl, hx⟩ := (HFM.out.fr fun _ _ _ x => x.fr (HF1.out.call hf)).at hlt
     rw [Nat.mul_comm 5 ls.length] at hx
     have HMEM := Lib.hid (List.getElem_mem hlt)
     generalize D.fms[ls.length] = f at *
     obtain ⟨f0, f1, A2, k2, A3, k3, A4, k4, c0, c1, u2, v2, c2, r2, u3, v3, c3, r3, u4, v4, c4, r4⟩ := hx
     have HR2 := Lib.hid r2
     have HR3 := Lib.hid r3
     have HPF := Lib.hid (HPN.out f HMEM.out)
     have HLF := Lib.hid (HLT.out f HMEM.out)
     have d0 := (HDV.out.fr hf) 0 _ rfl; have d1 := (HDV.out.fr hf) 1 _ rfl; have d2 := (HDV.out.fr hf) 2 _ rfl; have d3 := (HDV.out.fr hf) 3 _ rfl; have d4 := (HDV.out.fr hf) 4 _ rfl; have d5 := (HDV.out.fr hf) 5 _ rfl; have d6 := (HDV.out.fr hf) 6 _ rfl; have d7 := (HDV.out.fr hf) 7 _ rfl; have d8 := (HDV.out.fr hf) 8 _ rfl; have d9 := (HDV.out.fr hf) 9 _ rfl; have d10 := (HDV.out.fr hf) 10 _ rfl; have d11 := (HDV.out.fr hf) 11 _ rfl; have d12 := (HDV.out.fr hf) 12 _ rfl
     have zd := lt_of_cell d0
     have zc := lt_of_cell c0
     have hji : (ls.length : Int) < (D.fms.length : Int) := by omega
     clear u2 v2 u3 v3 u4 v4 r2 r3 r4 hmap
     have HFX := Lib.hid (Fr.alloc (Fr.refl wr) (.cells #[.string f0, .string f1, .slice A2 f.args.length k2, .slice A3 f.pcs.length k3, .slice A4 f.sem.length k4] 43))
     obtain ⟨L, hLD⟩ : ∃ L, layD D f.args f.pcs = L := ⟨_, rfl⟩
     have HLY2 := Lib.hid (HLY.out _ (HF1.out.call (HF.out.call HFX.out)) f0 f1 A2 A3 A4 f.args f.pcs k2 k3 f.sem.length k4 (HR2.out.fr fun _ _ _ x => x.fr HFX.out) (HR3.out.fr fun _ _ _ x => x.fr HFX.out) HLF.out HPF.out)
     rw [hLD] at HLY2
     have HLD := Lib.hid hLD
     clear hLD
     go_wp2_with fail
     refine HLY2.out.mono ?_
     rintro e w6 ⟨O, oc, rfl, hf6, hok6, hst6⟩
     have HF6 := Lib.hid (HFX.out.call hf6)
     have HOK := Lib.hid hok6
     have HST := Lib.hid hst6
     have HZ6 := Lib.hid (show wr.heap.size + 1 ≤ w6.heap.size by have := hf6.size; simp at this; omega)
     simp only [lyC]
     clear hf6 hok6 hst6 d0 d1 d2 d3 d4 d5 d6 d7 d8 d9 d10 d11 d12 c0 c1 c2 c3 c4 zd zc HLY2
     have HBL := Lib.hid (BlkAt.alloc (w := w6) (t := 116) (cs := #[.int .u64 (L.z0 : Int), .int .u64 (L.z1 : Int), .int .u64 (L.u0 : Int), .int .u64 (L.u1 : Int), .slice O L.ops.length oc]))
     have HF7 := Lib.hid (Fr.alloc (Fr.refl w6) (.cells #[.int .u64 (L.z0 : Int), .int .u64 (L.z1 : Int), .int .u64 (L.u0 : Int), .int .u64 (L.u1 : Int), .slice O L.ops.length oc] 116))
     have HA7 := Lib.hid (HAH.out.fr (HF6.out.call HF7.out))
     go_wp2_with fail
     have HLS : Hid (∀ (w' : World), Fr (w6.alloc (.cells #[.int .u64 (L.z0 : Int), .int .u64 (L.z1 : Int), .int .u64 (L.u0 : Int), .int .u64 (L.u1 : Int), .slice O L.ops.length oc] 116)) w' → RowOf OpAt 8 w' O L.ops) := Lib.hid (fun w' k => HST.out w' fun b _ hlt => (HF7.out.call k).block b hlt)
     have HSTB := Lib.hid (stab_of (row := (Value.slice A ls.length cap).ownBlock) HST.out (fun b e => by
       have h1 := World.ownsRow.lt HAH.out.row b e
       have h2 := HZ1.out
       refine ⟨by omega, ?_⟩
       simp; omega))
     have HW7 := Lib.hid (HF6.out.call HF7.out)
     have HS7 := Lib.hid (HSTB.out.fr HF7.out)
     have HWW := Lib.hid (HF.out.call HW7.out)
     clear HST HSTB HF6 HF7 HFX
     generalize World.alloc w6 _ = W7 at *
     generalize w6.heap.size = pl at *
     have hl512 : ls.length ≤ 511 := by omega
     go_loopw [23] (fun z w' => RelFi L ls W7 z w') (fun z _ => ls.length - (intOf z).toNat)
     case atStart => exact ⟨0, rfl, Nat.zero_le _, Fr.refl _, by simp⟩
     case round =>
       obtain ⟨k, rfl, hk, hf9, hal⟩ := hrel
       have HF9 := Lib.hid hf9
       by_cases hkl : k < ls.length
       · have HOPK := Lib.hid (HA7.out.ops _ (List.getElem_mem hkl))
         have HNX := Lib.hid (fun h => all_nextL hkl hal h)
         have HNT := Lib.hid (fun h => all_not (P := fun x => apB x.L L) hkl h)
         obtain ⟨g, rfl, _, _, hc⟩ := (HA7.out.fr hf9).at hkl
         generalize ls[k] = X at *
         have e0 : wr.cell? ⟨g, k * 5, none⟩ = some (.int .u64 (X.L.z0 : Int)) := hc 0 (.int .u64 (X.L.z0 : Int)) rfl; have e1 := hc 1 (.int .u64 (X.L.z1 : Int)) rfl; have e2 := hc 2 (.int .u64 (X.L.u0 : Int)) rfl; have e3 := hc 3 (.int .u64 (X.L.u1 : Int)) rfl; have e4 := hc 4 (.slice X.O X.L.ops.length X.oc) rfl
         have b0 := HBL.out.fr hf9 0 _ rfl; have b1 := HBL.out.fr hf9 1 _ rfl; have b2 := HBL.out.fr hf9 2 _ rfl; have b3 := HBL.out.fr hf9 3 _ rfl; have b4 := HBL.out.fr hf9 4 _ rfl
         have ze := lt_of_cell e0
         have zb := lt_of_cell b0
         have hki : (k : Int) < (ls.length : Int) := by omega
         have HAP := Lib.hid (fun (W : World) (h : Fr wr W) => apart_any HOPK.out.1 HOK.out X.O O X.oc oc ((HOPK.out.2.fr (HF9.out.call h)).now) (HLS.out W (HF9.out.call h)))
         obtain ⟨q, hq⟩ : ∃ q, apB X.L L = q := ⟨_, rfl⟩
         have HQ := Lib.hid hq
         rw [hq] at HAP
         clear hc hf9 hal hq
         go_wp2_with fail
         refine (HAP.out _ (Fr.alloc (Fr.refl _) _)).mono ?_
         rintro e w10 ⟨rfl, hf10⟩
         have HF10 := Lib.hid (HF9.out.call ((Fr.alloc (Fr.refl wr) _).call hf10))
         clear hf10 e0 e1 e2 e3 e4 b0 b1 b2 b3 b4 ze zb
         cases q with
         | true =>
           have HN := Lib.hid (HNX.out HQ.out)
           go_wp2
           go_roundw
           case rel => exact ⟨k + 1, by go_num, by omega, HF10.out, HN.out⟩
           case measure => simp [intOf]; omega
         | false =>
           have HV := Lib.hid (show cv = .tuple #[.int .i64 (ls.length : Int), .bool true] by
             rw [← HCV.out]
             refine clV_at hlt HNO.out ?_
             rw [HCL.out, show layF D f = L from HLD.out, HNT.out HQ.out]; rfl)
           go_wp2
           go_ret2
           exact ⟨by rw [HV.out]; rfl, HF1.out.call (HWW.out.call HF10.out)⟩
       · obtain rfl : k = ls.length := by omega
         rw [List.take_length] at hal
         have HNN := Lib.hid (show clashAt D ls.length = false by rw [HCL.out, show layF D f = L from HLD.out, hal]; rfl)
         have b0 := HBL.out.fr hf9 0 _ rfl; have b1 := HBL.out.fr hf9 1 _ rfl; have b2 := HBL.out.fr hf9 2 _ rfl; have b3 := HBL.out.fr hf9 3 _ rfl; have b4 := HBL.out.fr hf9 4 _ rfl
         have zb := lt_of_cell b0
         have HA9 := Lib.hid (HA7.out.fr hf9)
         have HS9 := Lib.hid (HS7.out.fr hf9)
         have HZ9 := Lib.hid (show W1.heap.size ≤ wr.heap.size from (HWW.out.call hf9).size)
         clear hal hf9 HLS HA7 HS7
         go_wp2_with (at_builtin; refine wpList_appendk _ rfl (.tmp 33) (.tmp 35) 122 rfl W1.heap.size 116 5 Tryz.underlying122 Tryz.infoL rfl (by decide) (.slice A ls.length cap) ls.length (flatL ls) rfl ?_ (some ⟨wr.heap.size, 0, none⟩) 1 1 (lkC ⟨L, O, oc⟩) rfl ?_ ?_ (fun h => by cases h) ?_ ?_ ?_ ?_ ?_)
         · exact (HA9.out.fr (Fr.alloc (Fr.refl wr) _)).row
         · rfl
         · intro _
           refine ⟨_, rfl, fun j u hj => ?_⟩
           rw [add_zero_k2]
           exact (BlkAt.alloc (w := wr) (t := 116) (cs := #[.int .u64 (L.z0 : Int), .int .u64 (L.z1 : Int), .int .u64 (L.u0 : Int), .int .u64 (L.u1 : Int), .slice O L.ops.length oc])) j u hj
         · intro u hu; simp [lkC, lyC] at hu; rcases hu with rfl | rfl | rfl | rfl | rfl <;> rfl
         · unfold maxLen; omega
         · omega
         · have := HZ9.out; simp; omega
         intro v6 w8 HG
         have HW := Lib.hid (Fr.alloc (Fr.refl wr) (.cells #[.int .u64 (L.z0 : Int), .int .u64 (L.z1 : Int), .int .u64 (L.u0 : Int), .int .u64 (L.u1 : Int), .slice O L.ops.length oc] 116))
         obtain ⟨g, cap', rfl, _, _⟩ := World.ownsRow.form HG.out.1 (Nat.succ_pos _)
         have HNA := Lib.hid ((HA9.out.fr HW.out).next HG.out HOK.out (HS9.out.fr HW.out))
         have HF8 := Lib.hid (show Fr W1 w8 from Fr.grown ((HWW.out.call HF9.out).call HW.out) HG.out.2.1 (fun k e => (World.ownsRow.lt HAH.out.row k e).1))
         clear HG HA9 HS9 b0 b1 b2 b3 b4
         go_wp2
         go_roundw
         case rel =>
           refine ⟨ls.length + 1, ls ++ [⟨L, O, oc⟩], some ⟨g, 0, none⟩, cap', by omega, by go_num, rfl, by simp, ?_, HF8.out, HNA.out, fun m hm => ?_⟩
           · rw [List.map_append, HMP.out, HTK.out, List.map_append]
             simp only [List.map_cons, List.map_nil]
             rw [show layF D f = L from HLD.out]
           · rcases Nat.lt_or_ge m ls.length with h | h
             · exact HNO.out m h
             · obtain rfl : m = ls.length := by omega
               exact HNN.out
         case measure => simp [intOf]; omega
   · have HV := Lib.hid (show cv = .tuple #[.int .i64 0, .bool false] by
       rw [← HCV.out]
       exact clV_no fun m hm => HNO.out m (by omega))
     clear hmap hf
     go_wp2
     go_ret2
     exact ⟨by rw [HV.out]; rfl, HF1.out.call HF.out⟩
end Go.Proofs.YtdipnhghdajplaaGreatDoor
