/- A bit of a piece is laid: package codec's put. Package codec's layout: a round over a form's operands (the region that draws). The operands of package codec's layout in memory, and what another append leaves of them. -/
import Derived.Test.YtdipnhghdajplaaGreatDoorP33
import Derived.Test.YtdipnhghdajplaaGreatDoorP32
namespace Go.Proofs.YtdipnhghdajplaaGreatDoor
open Go.RowKit
set_option linter.unusedSimpArgs false
set_option linter.unusedVariables false

theorem cfAt_lb {lb base oc : Nat} {wr : World} {O : Option Addr} {os : List Oc} {f : Cf} (h : CfAt lb base wr O oc os f) : lb < wr.heap.size := lt_of_cell (h.blk 0 _ rfl)
set_option maxHeartbeats 6400000 in
set_option maxRecDepth 100000 in
theorem cput_arg (lb ob k n oc g m lo c b i : Nat) (lit : ByteArray) (hi p : Int) (v0 : Value) {w : World} (hk : k < n) (hi0 : hi - (b : Int) = (i : Int)) (him : i < m) (hmx : m ≤ 64) (hb : b ≤ 64) (hi64 : hi ≤ 64)
    (c6 : w.cell? ⟨lb, 6, none⟩ = some (.slice (some ⟨ob, 0, none⟩) n oc)) (c1 : w.cell? ⟨ob, k * 2 + 1, none⟩ = some (.slice (some ⟨g, 0, none⟩) m c)) (cg : w.cell? ⟨g, i, none⟩ = some v0) (fg : w.frozen? ⟨g, i, none⟩ = false) :
    Calls Tryz.prog 59 #[.pointer (some ⟨lb, 0, none⟩), .agg #[.string lit, .int .i64 (k : Int), .int .i64 hi, .int .i64 (lo : Int)], .int .i64 (b : Int), .int .i64 p] w fun e w' =>
      e = .returned (.tuple #[]) ∧ ∃ nq, w' = ((w.alloc (.cells #[.string lit, .int .i64 (k : Int), .int .i64 hi, .int .i64 (lo : Int)] 148)).drewN nq).setCell ⟨g, i, none⟩ (.int .i64 p) := by
  have hne : ((k : Int) != -1) = true := bne_iff_ne.2 (by omega)
  have hki : (k : Int) < (n : Int) := by omega
  have hlm : (i : Int) < (m : Int) := by omega
  have hge : -64 ≤ hi := by omega
  have hwp : IntKind.i64.wrap (hi - (b : Int)) = (i : Int) := by rw [hi0]; simp [IntKind.wrap, IntKind.bits, IntKind.signed]; omega
  have hwi : IntKind.i64.wrap (i : Int) = (i : Int) := by simp [IntKind.wrap, IntKind.bits, IntKind.signed]; omega
  have z1 := lt_of_cell c6
  have z2 := lt_of_cell c1
  have z3 := lt_of_cell cg
  have HB := Lib.hid (BlkAt.alloc (w := w) (t := 148) (cs := #[.string lit, .int .i64 (k : Int), .int .i64 hi, .int .i64 (lo : Int)]))
  have HF := Lib.hid (Fr.alloc (Fr.refl w) (.cells #[.string lit, .int .i64 (k : Int), .int .i64 hi, .int .i64 (lo : Int)] 148))
  go_enter Tryz.func59, Tryz.ntmps59
  go_wp2_with fail
  generalize hW : World.alloc w _ = W at *
  have d1 := HB.out 1 _ rfl
  have d2 := HB.out 2 _ rfl
  have y1 := lt_of_cell d1
  have e6 := HF.out.get c6
  have e1 := HF.out.get c1
  have eg := HF.out.get cg
  have efg := HF.out.free cg fg
  clear c6 c1 cg fg
  go_still_tail 15, (by kernel_rfl)
  change wpList _ _ _ _ _ W.drew
  go_wp2
  exact bodyPost_ret (v := .tuple #[]) (by simp [results, Tryz.results59, go_sem]) rfl ⟨rfl, 1, by rw [hW]; rfl⟩
set_option maxHeartbeats 6400000 in
set_option maxRecDepth 100000 in
/-- The letter 120. -/
theorem cput_x (lb b : Nat) (cb : Bool) (lit : ByteArray) (hi lo p : Int) {w : World} (hls : lit.size ≤ maxLen) (hil : b < lit.size) (hc : lit[b].toNat = 120) (c5 : w.cell? ⟨lb, 5, none⟩ = some (.bool cb)) (f5 : w.frozen? ⟨lb, 5, none⟩ = false) :
    Calls Tryz.prog 59 #[.pointer (some ⟨lb, 0, none⟩), .agg #[.string lit, .int .i64 (-1), .int .i64 hi, .int .i64 lo], .int .i64 (b : Int), .int .i64 p] w fun e w' =>
      e = .returned (.tuple #[]) ∧ w' = (w.setCell ⟨lb, 5, none⟩ (.bool false)).alloc (.cells #[.string lit, .int .i64 (-1), .int .i64 hi, .int .i64 lo] 148) := by
  have hls : lit.size ≤ 9223372036854775807 := Nat.le_trans hls (by decide)
  have hil2 : (b : Int) < (lit.size : Int) := by omega
  have hci : (lit[b].toNat : Int) = 120 := by omega
  have zl := lt_of_cell c5
  clear hc
  go_enter Tryz.func59, Tryz.ntmps59
  go_wp2
  go_end0
  exact ⟨rfl, rfl⟩
set_option maxHeartbeats 6400000 in
set_option maxRecDepth 100000 in
/-- The letter 48. -/
theorem cput_zero (lb x0 x1 b p : Nat) (h0 : x0 < 18446744073709551616) (h1 : x1 < 18446744073709551616) (lit : ByteArray) (hi lo : Int) {w : World} (hls : lit.size ≤ maxLen) (hil : b < lit.size) (hc : lit[b].toNat = 48) (hp : p < 128)
    (c0 : w.cell? ⟨lb, 1, none⟩ = some (.int .u64 (x0 : Int))) (c1 : w.cell? ⟨lb, 1 + 1, none⟩ = some (.int .u64 (x1 : Int))) (f0 : w.frozen? ⟨lb, 1, none⟩ = false) (f1 : w.frozen? ⟨lb, 1 + 1, none⟩ = false) :
    Calls Tryz.prog 59 #[.pointer (some ⟨lb, 0, none⟩), .agg #[.string lit, .int .i64 (-1), .int .i64 hi, .int .i64 lo], .int .i64 (b : Int), .int .i64 (p : Int)] w fun e w' =>
      e = .returned (.tuple #[]) ∧ litPut lb 1 x0 x1 p w #[.string lit, .int .i64 (-1), .int .i64 hi, .int .i64 lo] w' := by
  have hls : lit.size ≤ 9223372036854775807 := Nat.le_trans hls (by decide)
  have hil2 : (b : Int) < (lit.size : Int) := by omega
  have HF := Lib.hid (Fr.alloc (Fr.refl w) (.cells #[.string lit, .int .i64 (-1), .int .i64 hi, .int .i64 lo] 148))
  have HAD := Lib.hid (cset_any lb 1 x0 x1 h0 h1 p hp (w.alloc (.cells #[.string lit, .int .i64 (-1), .int .i64 hi, .int .i64 lo] 148)) (HF.out.get c0) (HF.out.get c1) (HF.out.free c0 f0) (HF.out.free c1 f1))
  have hci : (lit[b].toNat : Int) = 48 := by omega
  clear c0 c1 f0 f1 hc h0 h1
  go_enter Tryz.func59, Tryz.ntmps59
  go_wp2_with fail
  refine HAD.out.mono ?_
  rintro e w4 ⟨rfl, nq, hw⟩
  have HW := Lib.hid hw
  clear hw
  go_wp2
  go_end0
  exact ⟨rfl, nq, HW.out⟩
set_option maxHeartbeats 6400000 in
set_option maxRecDepth 100000 in
/-- The letter 49. -/
theorem cput_one {lb base oc : Nat} {w : World} {O : Option Addr} {os : List Oc} {f : Cf} (h : CfAt lb base w O oc os f) (hok : CfOk f) (b p : Nat) (lit : ByteArray) (hi lo : Int) (hls : lit.size ≤ maxLen) (hil : b < lit.size) (hc : lit[b].toNat = 49) (hp : p < 128) :
    Calls Tryz.prog 59 #[.pointer (some ⟨lb, 0, none⟩), .agg #[.string lit, .int .i64 (-1), .int .i64 hi, .int .i64 lo], .int .i64 (b : Int), .int .i64 (p : Int)] w fun e w' =>
      e = .returned (.tuple #[]) ∧ Below lb w w' ∧ CfAt lb base w' O oc os (cLit (cOne f p) p) ∧ ∀ b', b' < w.heap.size → b' ≠ lb → w'.heap[b']? = w.heap[b']? := by
  have hls : lit.size ≤ 9223372036854775807 := Nat.le_trans hls (by decide)
  have hil2 : (b : Int) < (lit.size : Int) := by omega
  have hci : (lit[b].toNat : Int) = 49 := by omega
  have hlb := cfAt_lb h
  have HF := Lib.hid (Fr.alloc (Fr.refl w) (.cells #[.string lit, .int .i64 (-1), .int .i64 hi, .int .i64 lo] 148))
  have HC := Lib.hid (h.fr HF.out)
  have HAD := Lib.hid (cset_any lb 3 f.u0 f.u1 hok.u0 hok.u1 p hp (w.alloc (.cells #[.string lit, .int .i64 (-1), .int .i64 hi, .int .i64 lo] 148)) (HC.out.blk 3 _ rfl) (HC.out.blk 4 _ rfl) (HC.out.free 3) (HC.out.free 4))
  clear h hc
  go_enter Tryz.func59, Tryz.ntmps59
  go_wp2_with fail
  refine HAD.out.mono ?_
  rintro e w4 ⟨rfl, nq, hw⟩
  have HC4 := Lib.hid (show CfAt lb base w4 O oc os (cOne f p) by rw [hw]; exact (HC.out.fr (Fr.drewN (Fr.refl _) nq)).one hp)
  have HB4 := Lib.hid (show Below lb w w4 by rw [hw]; exact Below.setCell (Below.mono (Fr.drewN HF.out nq) (Nat.le_of_lt hlb)) (Nat.le_refl lb) _)
  have HK4 := Lib.hid (show ∀ b', b' < w.heap.size → b' ≠ lb → w4.heap[b']? = w.heap[b']? by rw [hw]; exact fun b' h1 h2 => (Below.heap_setCell _ _ _ b' h2).trans ((Fr.drewN HF.out nq).block b' h1))
  have ho := cOne_ok hok p
  have HAD2 := Lib.hid (cset_any lb 1 (cOne f p).l0 (cOne f p).l1 ho.l0 ho.l1 p hp w4 (HC4.out.blk 1 _ rfl) (HC4.out.blk 2 _ rfl) (HC4.out.free 1) (HC4.out.free 2))
  clear hw
  go_wp2_with fail
  refine HAD2.out.mono ?_
  rintro e w5 ⟨rfl, nr, hw⟩
  have HC5 := Lib.hid (show CfAt lb base w5 O oc os (cLit (cOne f p) p) by rw [hw]; exact (HC4.out.fr (Fr.drewN (Fr.refl _) nr)).lit hp)
  have HB5 := Lib.hid (show Below lb w w5 by rw [hw]; exact Below.setCell (Below.trans HB4.out (Below.mono (Fr.drewN (Fr.refl w4) nr) (Nat.le_of_lt (cfAt_lb HC4.out)))) (Nat.le_refl lb) _)
  have HK5 := Lib.hid (show ∀ b', b' < w.heap.size → b' ≠ lb → w5.heap[b']? = w.heap[b']? by rw [hw]; exact fun b' h1 h2 => (Below.heap_setCell _ _ _ b' h2).trans (HK4.out b' h1 h2))
  clear hw
  go_wp2
  go_end0
  exact ⟨rfl, HB5.out, HC5.out, HK5.out⟩
/-- Whatever the piece. -/
theorem cput_any {D : Ds} {args : List Int} {lb base oc : Nat} {wr : World} {O : Option Addr} {os : List Oc} {f : Cf} {p : Pc} {b q : Nat} (h : CfAt lb base wr O oc os f) (hok : CfOk f) (hX : ∀ (i : Nat) (o : Oc), os[i]? = some o → (o.bits : Int) = bitsAt D args i ∧ o.bits ≤ 64) (hos : os.length = args.length)
    (hall : args.all (clsAtB D) = true) (hb : b < pcN D args p) (hq : q < 128) (hls : p.lit.size ≤ maxLen) :
    Calls Tryz.prog 59 #[.pointer (some ⟨lb, 0, none⟩), .agg #[.string p.lit, .int .i64 p.arg, .int .i64 p.hi, .int .i64 p.lo], .int .i64 (b : Int), .int .i64 (q : Int)] wr fun e w' =>
      e = .returned (.tuple #[]) ∧ Below lb wr w' ∧ CfAt lb base w' O oc os (putC (wbit p (pcN D args p - 1 - b)) q f) ∧ ∀ b', b' < wr.heap.size → b' ≠ lb → (∀ o ∈ os, o.g ≠ b') → w'.heap[b']? = wr.heap[b']? := by
  have hlb := cfAt_lb h
  have hlt := h.lb_
  have hn : pcN D args p ≠ 0 := by omega
  by_cases ha : p.arg = -1
  · have hl : litB p.lit = true ∧ pcN D args p = p.lit.size := by
      unfold pcN at hn ⊢; rw [if_pos ha] at hn ⊢
      split at hn
      · rename_i h1; rw [if_pos h1]; exact ⟨h1, rfl⟩
      · exact absurd rfl hn
    rw [hl.2] at hb ⊢
    have hch : chrN p (p.lit.size - 1 - b) = (p.lit[b]).toNat := by
      unfold chrN; rw [dif_pos (by omega)]; congr 2; omega
    have hcc := chr_ok hl.1 (b := p.lit.size - 1 - b) (by omega)
    have hpl : putC (wbit p (p.lit.size - 1 - b)) q f = if chrN p (p.lit.size - 1 - b) = 120 then { f with canon := false } else if chrN p (p.lit.size - 1 - b) = 49 then cLit (cOne f q) q else cLit f q := by
      unfold putC wbit; rw [if_pos ha]; simp
    rw [hpl]
    have ea : (Value.int .i64 p.arg) = .int .i64 (-1) := by rw [ha]
    rw [ea]
    rcases hcc with hc | hc | hc
    · rw [if_neg (by omega), if_neg (by omega)]
      refine (cput_zero lb f.l0 f.l1 b q hok.l0 hok.l1 p.lit p.hi p.lo hls hb (by rw [← hch]; exact hc) hq (h.blk 1 _ rfl) (h.blk 2 _ rfl) (h.free 1) (h.free 2)).mono ?_
      rintro e w' ⟨rfl, n, rfl⟩
      have k : Fr wr ((wr.alloc (.cells #[.string p.lit, .int .i64 (-1), .int .i64 p.hi, .int .i64 p.lo] 148)).drewN n) := Fr.drewN (Fr.alloc (Fr.refl _) _) n
      have kb : Below lb wr _ := Below.mono (B := wr.heap.size) k (by omega)
      exact ⟨rfl, Below.setCell kb (Nat.le_refl lb) _, (h.fr k).lit hq, fun b' h1 h2 _ => (Below.heap_setCell _ _ _ b' h2).trans (k.block b' h1)⟩
    · rw [if_neg (by omega), if_pos hc]
      exact (cput_one h hok b q p.lit p.hi p.lo hls hb (by rw [← hch]; exact hc) hq).mono fun e w' ⟨h1, h2, h3, h4⟩ => ⟨h1, h2, h3, fun b' g1 g2 _ => h4 b' g1 g2⟩
    · rw [if_pos hc]
      refine (cput_x lb b f.canon p.lit p.hi p.lo (q : Int) hls hb (by rw [← hch]; exact hc) (h.blk 5 _ rfl) (h.free 5)).mono ?_
      rintro e w' ⟨rfl, rfl⟩
      have k1 : Below lb wr (wr.setCell ⟨lb, 5, none⟩ (.bool false)) := Below.setCell (Below.refl _ _) (Nat.le_refl lb) _
      exact ⟨rfl, Below.alloc k1 (by simp; omega) _, h.x.fr (Fr.alloc (Fr.refl _) _), fun b' h1 h2 _ => (Below.heap_alloc _ _ _ (by simp; omega)).trans (Below.heap_setCell _ _ _ b' h2)⟩
  · obtain ⟨k, lo, n, e1, e2, e3, e4, e5, e6, e7, e8, e9⟩ := pc_right hall ha hn
    rw [← e5] at hb ⊢
    have hpl : putC (wbit p (n - 1 - b)) q f = cArg f k (lo + (n - 1 - b)) q := by
      unfold putC wbit; rw [if_neg ha]; simp only; rw [if_neg ha, e1, e3]; congr 1
    rw [hpl]
    have hk : k < os.length := by omega
    have ho := List.getElem?_eq_getElem hk
    generalize os[k] = o at ho
    obtain ⟨ob, rfl, _, _, hc⟩ := h.row k o ho
    obtain ⟨l, el, hl, hcl, hfr⟩ := h.ops k o ho
    obtain ⟨hx1, hx2⟩ := hX k o ho
    have hlen : lo + (n - 1 - b) < l.length := by omega
    have cg := hcl (lo + (n - 1 - b)) _ (List.getElem?_eq_getElem hlen)
    rw [show (Value.int .i64 p.arg) = .int .i64 (k : Int) by rw [e1], show (Value.int .i64 p.lo) = .int .i64 (lo : Int) by rw [e3]]
    refine (cput_arg lb ob k os.length oc o.g o.bits lo o.bits b (lo + (n - 1 - b)) p.lit p.hi (q : Int) _ hk (by omega) (by omega) hx2 (by omega) (by omega) (h.blk 6 _ rfl) (hc 1 _ rfl) cg (hfr _)).mono ?_
    rintro e w' ⟨rfl, m, rfl⟩
    have kk : Fr wr ((wr.alloc (.cells #[.string p.lit, .int .i64 (k : Int), .int .i64 p.hi, .int .i64 (lo : Int)] 148)).drewN m) := Fr.drewN (Fr.alloc (Fr.refl _) _) m
    have hg := (h.old o (List.mem_of_getElem? ho)).1
    exact ⟨rfl, Below.setCell (Below.mono (B := wr.heap.size) kk (by omega)) (by simp only; omega) _, (h.fr kk).arg ho, fun b' h1 _ h3 => (Below.heap_setCell _ _ _ b' (fun e => h3 o (List.mem_of_getElem? ho) e.symm)).trans (kk.block b' h1)⟩
end Go.Proofs.YtdipnhghdajplaaGreatDoor
namespace Go.Proofs.YtdipnhghdajplaaGreatDoor
open Go.RowKit
set_option linter.unusedSimpArgs false
set_option linter.unusedVariables false

noncomputable def reg5c : Array Oper := ((Tryz.f30.body.bind (findR 5)).getD #[])
theorem Tryz.infoQ : (Tryz.prog.info? 100).map (fun i => (i.zero, i.size, i.bytes)) = some (some (.agg #[.int .i64 0, .slice none 0 0]), 2, 32) := by kernel_rfl
set_option maxHeartbeats 6400000 in
set_option maxRecDepth 100000 in
theorem clay5 {Q : Exit → Act → World → Prop} (df : List Deferred) (u0 u1 u3 u4 u6 u8 u9 u10 u11 u12 u13 u14 u15 u16 u17 u18 u19 u20 u21 u22 u23 u24 u25 u26 u27 u28 u29 u30 u31 u32 u33 u34 u35 u36 u37 u38 u39 u40 u41 u42 u43 u44 u45 u46 u47 u48 u49 u50 u51 u52 u53 u54 u55 u56 u57 u58 u59 u60 u61 u62 u63 u64 u65 u66 u67 u68 u69 u70 u71 u72 u73 u74 : Value) (lb cb db bits c bq oq : Nat) (O : Option Addr) (ol oc cl cc : Nat) {w : World} (hb : bits ≤ 64) (hcl : c < cl)
    (c6 : w.cell? ⟨lb, 6, none⟩ = some (.slice O ol oc)) (a1 : w.cell? ⟨cb, 1, none⟩ = some (.int .i64 (c : Int))) (d5 : w.cell? ⟨db, 5, none⟩ = some (.slice (some ⟨bq, oq, none⟩) cl cc)) (k3 : w.cell? ⟨bq, oq + c * 7 + 3, none⟩ = some (.int .i64 (bits : Int)))
    (base : Nat) (xs : List Value) (hown : w.ownsRow base 100 2 (.slice O ol oc) ol xs) (hol : ol ≤ 5) (hlb : lb < base) (hbw : base ≤ w.heap.size) (f6 : w.frozen? ⟨lb, 6, none⟩ = false)
    (hT : ∀ (g cap : Nat) (w' : World) (x27 x28 x29 x30 x31 x32 x33 x34 x35 x36 x37 x38 x39 x40 x41 x42 : Value), GrewK (((w.alloc (.cells (madeCells #[.int .i64 0] bits) 3)).alloc (.cells #[.int .i64 (c : Int), .slice (some ⟨w.heap.size, 0, none⟩) bits bits] 100))).drew base 100 2 (.slice O ol oc) (ol + 1) (xs ++ [.int .i64 (c : Int), .slice (some ⟨w.heap.size, 0, none⟩) bits bits]) (.slice (some ⟨g, 0, none⟩) (ol + 1) cap) w' → Q .normal ⟨#[u0, u1, .pointer (some ⟨db, 0, none⟩), u3, u4, .pointer (some ⟨lb, 0, none⟩), u6, .pointer (some ⟨cb, 0, none⟩), u8, u9, u10, u11, u12, u13, u14, u15, u16, u17, u18, u19, u20, u21, u22, u23, u24, u25, u26, x27, x28, x29, x30, x31, x32, x33, x34, x35, x36, x37, x38, x39, x40, x41, x42, u43, u44, u45, u46, u47, u48, u49, u50, u51, u52, u53, u54, u55, u56, u57, u58, u59, u60, u61, u62, u63, u64, u65, u66, u67, u68, u69, u70, u71, u72, u73, u74], df⟩ (w'.setCell ⟨lb, 6, none⟩ (.slice (some ⟨g, 0, none⟩) (ol + 1) cap)))
    : (Code.region 5 reg5c true).wp Tryz.prog Q ⟨#[u0, u1, .pointer (some ⟨db, 0, none⟩), u3, u4, .pointer (some ⟨lb, 0, none⟩), u6, .pointer (some ⟨cb, 0, none⟩), u8, u9, u10, u11, u12, u13, u14, u15, u16, u17, u18, u19, u20, u21, u22, u23, u24, u25, u26, u27, u28, u29, u30, u31, u32, u33, u34, u35, u36, u37, u38, u39, u40, u41, u42, u43, u44, u45, u46, u47, u48, u49, u50, u51, u52, u53, u54, u55, u56, u57, u58, u59, u60, u61, u62, u63, u64, u65, u66, u67, u68, u69, u70, u71, u72, u73, u74], df⟩ w := by
  have hci : (c : Int) < (cl : Int) := by omega
  conv => arg 2; arg 2; whnf
  refine wp_region_noPanic ?_
  refine wp_region_head (n := 14) (S := Fr w) (by kernel_rfl) (by decide) ?_
  have HD : Fr w w.drew := Fr.drew (Fr.refl w)
  have hb0 : (0 : Int) ≤ (bits : Int) := by omega
  have hb6 : (bits : Int) ≤ 64 := by omega
  simp only [List.size_toArray, List.length_cons, List.length_nil, Nat.reduceAdd]
  refine wpHead_take (i := 0) (v := ?_) rfl (by kernel_rfl) (fun _ _ _ h => h) (Or.inl ⟨by rfl, ?hy0⟩) HD ?rest0
  case hy0 => (intro w' hw'; go_simp) <;> (try with_reducible rfl)
  (try simp only [Act.put, List.getElem_toArray, List.getElem_cons_zero, List.getElem_cons_succ, List.setIfInBounds_toArray, List.set_cons_zero, List.set_cons_succ])
  refine wpHead_take (i := 1) (v := ?_) rfl (by kernel_rfl) (fun _ _ _ h => h) (Or.inl ⟨by rfl, ?hy1⟩) HD ?rest1
  case hy1 => (intro w' hw'; have g6 := hw'.get c6; go_simp) <;> (try with_reducible rfl)
  (try simp only [Act.put, List.getElem_toArray, List.getElem_cons_zero, List.getElem_cons_succ, List.setIfInBounds_toArray, List.set_cons_zero, List.set_cons_succ])
  refine wpHead_take (i := 2) (v := ?_) rfl (by kernel_rfl) (fun _ _ _ h => h) (Or.inl ⟨by rfl, ?hy2⟩) HD ?rest2
  case hy2 => (intro w' hw'; go_simp) <;> (try with_reducible rfl)
  (try simp only [Act.put, List.getElem_toArray, List.getElem_cons_zero, List.getElem_cons_succ, List.setIfInBounds_toArray, List.set_cons_zero, List.set_cons_succ])
  refine wpHead_take (i := 3) (v := ?_) rfl (by kernel_rfl) (fun _ _ _ h => h) (Or.inl ⟨by rfl, ?hy3⟩) HD ?rest3
  case hy3 => (intro w' hw'; have g1 := hw'.get a1; go_simp) <;> (try with_reducible rfl)
  (try simp only [Act.put, List.getElem_toArray, List.getElem_cons_zero, List.getElem_cons_succ, List.setIfInBounds_toArray, List.set_cons_zero, List.set_cons_succ])
  refine wpHead_take (i := 4) (v := ?_) rfl (by kernel_rfl) (fun _ _ _ h => h) (Or.inl ⟨by rfl, ?hy4⟩) HD ?rest4
  case hy4 => (intro w' hw'; go_simp) <;> (try with_reducible rfl)
  (try simp only [Act.put, List.getElem_toArray, List.getElem_cons_zero, List.getElem_cons_succ, List.setIfInBounds_toArray, List.set_cons_zero, List.set_cons_succ])
  refine wpHead_take (i := 5) (v := ?_) rfl (by kernel_rfl) (fun _ _ _ h => h) (Or.inl ⟨by rfl, ?hy5⟩) HD ?rest5
  case hy5 => (intro w' hw'; have g5 := hw'.get d5; go_simp) <;> (try with_reducible rfl)
  (try simp only [Act.put, List.getElem_toArray, List.getElem_cons_zero, List.getElem_cons_succ, List.setIfInBounds_toArray, List.set_cons_zero, List.set_cons_succ])
  refine wpHead_take (i := 6) (v := ?_) rfl (by kernel_rfl) (fun _ _ _ h => h) (Or.inl ⟨by rfl, ?hy6⟩) HD ?rest6
  case hy6 => (intro w' hw'; go_simp) <;> (try with_reducible rfl)
  (try simp only [Act.put, List.getElem_toArray, List.getElem_cons_zero, List.getElem_cons_succ, List.setIfInBounds_toArray, List.set_cons_zero, List.set_cons_succ])
  refine wpHead_take (i := 7) (v := ?_) rfl (by kernel_rfl) (fun _ _ _ h => h) (Or.inl ⟨by rfl, ?hy7⟩) HD ?rest7
  case hy7 => (intro w' hw'; have g1 := hw'.get a1; go_simp) <;> (try with_reducible rfl)
  (try simp only [Act.put, List.getElem_toArray, List.getElem_cons_zero, List.getElem_cons_succ, List.setIfInBounds_toArray, List.set_cons_zero, List.set_cons_succ])
  refine wpHead_take (i := 8) (v := ?_) rfl (by kernel_rfl) (fun _ _ _ h => h) (Or.inl ⟨by rfl, ?hy8⟩) HD ?rest8
  case hy8 => (intro w' hw'; go_simp) <;> (try with_reducible rfl)
  (try simp only [Act.put, List.getElem_toArray, List.getElem_cons_zero, List.getElem_cons_succ, List.setIfInBounds_toArray, List.set_cons_zero, List.set_cons_succ])
  refine wpHead_take (i := 9) (v := ?_) rfl (by kernel_rfl) (fun _ _ _ h => h) (Or.inl ⟨by rfl, ?hy9⟩) HD ?rest9
  case hy9 => (intro w' hw'; go_simp) <;> (try with_reducible rfl)
  (try simp only [Act.put, List.getElem_toArray, List.getElem_cons_zero, List.getElem_cons_succ, List.setIfInBounds_toArray, List.set_cons_zero, List.set_cons_succ])
  refine wpHead_take (i := 10) (v := ?_) rfl (by kernel_rfl) (fun _ _ _ h => h) (Or.inl ⟨by rfl, ?hy10⟩) HD ?rest10
  case hy10 => (intro w' hw'; have g3 := hw'.get k3; go_simp) <;> (try with_reducible rfl)
  (try simp only [Act.put, List.getElem_toArray, List.getElem_cons_zero, List.getElem_cons_succ, List.setIfInBounds_toArray, List.set_cons_zero, List.set_cons_succ])
  clear a1 d5 k3
  refine wpHead_go (i := 11) rfl (by kernel_rfl) (by decide) rfl (fun K hK => ?_)
  have hm := mk_ints bits hb w.drew
  go_simp
  clear hm
  refine hK _ _ ?_ ?_
  · exact Fr.alloc HD _
  try simp only [Act.put, List.getElem_toArray, List.getElem_cons_zero, List.getElem_cons_succ, List.setIfInBounds_toArray, List.set_cons_zero, List.set_cons_succ]
  clear hK K
  have HD1 := Fr.alloc HD (.cells (madeCells #[.int .i64 0] bits) 3)
  refine wpHead_go (i := 12) rfl (by kernel_rfl) (by decide) rfl (fun K hK => ?_)
  go_simp
  refine hK _ _ HD1 ?_
  try simp only [Act.put, List.getElem_toArray, List.getElem_cons_zero, List.getElem_cons_succ, List.setIfInBounds_toArray, List.set_cons_zero, List.set_cons_succ]
  clear hK K
  refine wpHead_go (i := 13) rfl (by kernel_rfl) (by decide) rfl (fun K hK => ?_)
  go_simp
  have HF := Fr.drew (Fr.alloc (Fr.alloc (Fr.refl w) (.cells (madeCells #[.int .i64 0] bits) 3)) (.cells #[.int .i64 (c : Int), .slice (some ⟨w.heap.size, 0, none⟩) bits bits] 100))
  refine hK _ _ HF ?_
  clear hK K
  refine wpHead_done (by kernel_rfl) ?_
  simp only [List.drop_succ_cons, List.drop_zero]
  have hown2 : ((((w.alloc (.cells (madeCells #[.int .i64 0] bits) 3)).alloc (.cells #[.int .i64 (c : Int), .slice (some ⟨w.heap.size, 0, none⟩) bits bits] 100))).drew).ownsRow base 100 2 (.slice O ol oc) ol xs := ownsRow_fr hown HF
  have c62 := HF.get c6
  have f62 := HF.free c6 f6
  have hne : (Value.slice O ol oc).ownBlock ≠ some lb := fun h => by
    have := (World.ownsRow.lt hown lb h).1
    omega
  have hz : ((((w.alloc (.cells (madeCells #[.int .i64 0] bits) 3)).alloc (.cells #[.int .i64 (c : Int), .slice (some ⟨w.heap.size, 0, none⟩) bits bits] 100))).drew).heap.size = w.heap.size + 2 := by simp
  refine wpList_appendk _ rfl (.tmp 28) (.tmp 40) 93 rfl base 100 2 Tryz.underlying93 Tryz.infoQ rfl (by decide) (.slice O ol oc) ol xs rfl hown2 (some ⟨w.heap.size + 1, 0, none⟩) 1 1 [.int .i64 (c : Int), .slice (some ⟨w.heap.size, 0, none⟩) bits bits] rfl rfl ?_ (fun h => by cases h) ?_ ?_ ?_ ?_ ?_
  · intro _
    refine ⟨_, rfl, fun j u hj => ?_⟩
    rw [add_zero_k2]
    have hb := BlkAt.alloc (w := w.alloc (.cells (madeCells #[.int .i64 0] bits) 3)) (t := 100) (cs := #[.int .i64 (c : Int), .slice (some ⟨w.heap.size, 0, none⟩) bits bits])
    rw [show (w.alloc (.cells (madeCells #[.int .i64 0] bits) 3)).heap.size = w.heap.size + 1 by simp] at hb
    exact hb.fr (Fr.drew (Fr.refl _)) j u hj
  · intro u hu
    simp only [List.mem_cons, List.not_mem_nil, or_false] at hu
    rcases hu with rfl | rfl <;> rfl
  · exact Nat.le_trans (show ol + 1 ≤ 6 by omega) (by decide)
  · omega
  · rw [hz]; omega
  · intro v' w' hg
    have hgr := hg.out
    rcases hgr.1.2 with ⟨_, hn⟩ | ⟨g, cap, cur, rfl, _⟩
    · omega
    have HG := hg
    have c63 := grew_cell hgr.2.1 hne c62
    have f63 := grew_free hgr.2.1 hne c62 f62
    have HT := Lib.hid hT
    clear hg hgr hown hown2 c6 c62 f6 f62 hT
    generalize (((w.alloc (.cells (madeCells #[.int .i64 0] bits) 3)).alloc (.cells #[.int .i64 (c : Int), .slice (some ⟨w.heap.size, 0, none⟩) bits bits] 100))).drew = W at *
    simp only [Act.put, List.getElem_toArray, List.getElem_cons_zero, List.getElem_cons_succ, List.setIfInBounds_toArray, List.set_cons_zero, List.set_cons_succ]
    go_wp2
    refine NoPanic.normal ?_
    exact HT.out _ _ _ _ _ _ _ _ _ _ _ _ _ _ _ _ _ _ _ HG.out
end Go.Proofs.YtdipnhghdajplaaGreatDoor
namespace Go.Proofs.YtdipnhghdajplaaGreatDoor
open Go.RowKit
set_option linter.unusedSimpArgs false
set_option linter.unusedVariables false

theorem clay_heap {W w' : World} {row : Option Nat} {lb b : Nat} {x : Value} (hg : W.grownBy w' row) (hb : row ≠ some b) (hl : b ≠ lb) (hlt : b < W.heap.size) : (w'.setCell ⟨lb, 6, none⟩ x).heap[b]? = W.heap[b]? :=
  (Below.heap_setCell w' ⟨lb, 6, none⟩ x b hl).trans (World.grownBy.block hg b hlt (fun e => hb e.symm))
/-- What is known of an operand's block. -/
structure OcAt (base : Nat) (wr : World) (sv : Value) (o : Oc) : Prop where
  old : base ≤ o.g
  lt : o.g < wr.heap.size
  own : sv.ownBlock ≠ some o.g
  cell : ∀ k, k < o.bits → wr.cell? ⟨o.g, k, none⟩ = some (.int .i64 0)
  free : ∀ k, wr.frozen? ⟨o.g, k, none⟩ = false
structure OcsAt (size lb base : Nat) (wr : World) (O : Option Addr) (oc : Nat) (os : List Oc) : Prop where
  blk : BlkAt wr lb (cfV ⟨size, 0, 0, 0, 0, true, []⟩ O os.length oc)
  free : ∀ k, wr.frozen? ⟨lb, k, none⟩ = false
  row : wr.ownsRow base 100 2 (.slice O os.length oc) os.length (flatC os)
  apart : (os.map (·.g)).Nodup
  all : ∀ o ∈ os, OcAt base wr (.slice O os.length oc) o
theorem OcAt.next {base lb : Nat} {wr W w' : World} {sv sv' : Value} {o : Oc} {x : Value} (h : OcAt base wr sv o) (k : Fr wr W) (hg : W.grownBy w' sv.ownBlock) (hlb : lb < base) (hn : sv'.ownBlock = sv.ownBlock ∨ sv'.ownBlock = some W.heap.size) :
    OcAt base (w'.setCell ⟨lb, 6, none⟩ x) sv' o := by
  have e := clay_heap (x := x) hg h.own (by have := h.old; omega : o.g ≠ lb) (Nat.lt_of_lt_of_le h.lt k.size)
  refine ⟨h.old, ?_, ?_, fun i hi => ?_, fun i => ?_⟩
  · have := h.lt; have := k.size; have := hg.size
    simp; omega
  · rcases hn with hn | hn
    · rw [hn]; exact h.own
    · rw [hn]; intro h2; injection h2 with h2; have := h.lt; have := k.size; omega
  · exact (cell_of_heap e).trans (k.get (h.cell i hi))
  · exact (froz_heap e).trans ((k.cells.2.1 _ i h.lt).trans (h.free i))
theorem OcsAt.next {size lb base bn g cap oc : Nat} {wr W6 w' : World} {O : Option Addr} {os : List Oc} {od : Oc} (h : OcsAt size lb base wr O oc os) (k : Fr wr W6) (hog : od.g = W6.heap.size) (hbn : od.bits = bn) (hlb : lb < base) (hbase : base ≤ wr.heap.size)
    (hg : GrewK ((W6.alloc (.cells (madeCells #[.int .i64 0] bn) 3)).alloc (.cells (ocC od).toArray 100)).drew base 100 2 (.slice O os.length oc) (os.length + 1) (flatC os ++ ocC od) (.slice (some ⟨g, 0, none⟩) (os.length + 1) cap) w') :
    OcsAt size lb base (w'.setCell ⟨lb, 6, none⟩ (.slice (some ⟨g, 0, none⟩) (os.length + 1) cap)) (some ⟨g, 0, none⟩) cap (os ++ [od]) := by
  have k1 : Fr W6 (((W6.alloc (.cells (madeCells #[.int .i64 0] bn) 3)).alloc (.cells (ocC od).toArray 100)).drew) := Fr.drew (Fr.alloc (Fr.alloc (Fr.refl W6) _) _)
  have hsz : (((W6.alloc (.cells (madeCells #[.int .i64 0] bn) 3)).alloc (.cells (ocC od).toArray 100)).drew).heap.size = W6.heap.size + 2 := by simp
  have km : BlkAt (((W6.alloc (.cells (madeCells #[.int .i64 0] bn) 3)).alloc (.cells (ocC od).toArray 100)).drew) W6.heap.size (madeCells #[.int .i64 0] bn).toList := BlkAt.fr BlkAt.alloc (Fr.drew (Fr.alloc (Fr.refl _) _))
  have kf : ∀ i, (((W6.alloc (.cells (madeCells #[.int .i64 0] bn) 3)).alloc (.cells (ocC od).toArray 100)).drew).frozen? ⟨W6.heap.size, i, none⟩ = false := fun i => by
    have e : (((W6.alloc (.cells (madeCells #[.int .i64 0] bn) 3)).alloc (.cells (ocC od).toArray 100)).drew).frozen? ⟨W6.heap.size, i, none⟩ = (W6.alloc (.cells (madeCells #[.int .i64 0] bn) 3)).frozen? ⟨W6.heap.size, i, none⟩ := (Fr.drew (Fr.alloc (Fr.refl (W6.alloc (.cells (madeCells #[.int .i64 0] bn) 3))) _)).cells.2.1 _ i (by simp)
    rw [e]; exact World.frozen?_alloc_at _ _ _ _ rfl
  generalize (((W6.alloc (.cells (madeCells #[.int .i64 0] bn) 3)).alloc (.cells (ocC od).toArray 100)).drew) = W at *
  have k7 := k.call k1
  have hk := k.size
  have hw := hg.2.1.size
  have hne : (Value.slice O os.length oc).ownBlock ≠ some lb := fun e => by
    have := (World.ownsRow.lt h.row lb e).1
    omega
  have hlw : lb < W.heap.size := by omega
  have el : w'.heap[lb]? = W.heap[lb]? := World.grownBy.block hg.2.1 lb hlw (fun e => hne e.symm)
  have hlen : (os ++ [od]).length = os.length + 1 := by simp
  refine ⟨?_, ?_, ?_, ?_, ?_⟩
  · intro i v hv
    have c4 := h.blk 6 _ rfl
    have c4' := (cell_of_heap (o := 6) el).trans (k7.get c4)
    rw [hlen] at hv
    by_cases h6 : i = 6
    · subst h6
      obtain rfl : _ = v := Option.some.inj hv
      exact World.cell?_setCell_same _ _ _ c4'
    · rw [World.cell?_setCell_other _ _ _ _ (by intro e; injection e with _ e; exact h6 e.symm)]
      refine (cell_of_heap el).trans (k7.get (h.blk i v ?_))
      match i, hv with
      | 0, hv => exact hv
      | 1, hv => exact hv
      | 2, hv => exact hv
      | 3, hv => exact hv
      | 4, hv => exact hv
      | 5, hv => exact hv
      | 6, _ => exact absurd rfl h6
      | n + 7, hv => simp [cfV] at hv
  · intro i
    rw [World.frozen?_setCell, froz_heap el, k7.cells.2.1 _ i (lt_of_cell (h.blk 6 _ rfl))]
    exact h.free i
  · rw [hlen, flatC_snoc]
    refine hg.1.kept (row := some lb) ⟨rfl, rfl, rfl, by simp, fun k _ hn => Below.heap_setCell w' ⟨lb, 6, none⟩ _ k (fun e => hn (congrArg some e))⟩ (.inr fun e => ?_)
    have := (World.ownsRow.lt hg.1 lb e).1
    omega
  · rw [List.map_append, List.nodup_append]
    refine ⟨h.apart, by simp, fun a ha b hb => ?_⟩
    obtain ⟨o, ho, rfl⟩ := List.mem_map.1 ha
    obtain rfl : b = od.g := by simpa using hb
    have := (h.all o ho).lt
    omega
  · rw [hlen]
    intro o ho
    rcases List.mem_append.1 ho with ho | ho
    · exact (h.all o ho).next k7 hg.2.1 hlb hg.2.2
    · obtain rfl : o = od := by simpa using ho
      have e := clay_heap (x := .slice (some ⟨g, 0, none⟩) (os.length + 1) cap) (lb := lb) (b := o.g) hg.2.1 (fun e => by have := (World.ownsRow.lt h.row _ e).2; omega) (by omega) (by omega)
      refine ⟨by omega, by simp; omega, fun e2 => ?_, fun i hi => ?_, fun i => ?_⟩
      · rcases hg.2.2 with h2 | h2
        · have := (World.ownsRow.lt h.row _ (h2.symm.trans e2)).2; omega
        · rw [h2] at e2; injection e2 with e2; omega
      · rw [cell_of_heap e, hog]; exact km i _ (made_get _ _ (by omega))
      · rw [froz_heap e, hog]; exact kf i
theorem CfAt.start {size lb base oc : Nat} {wr : World} {O : Option Addr} {os : List Oc} {f : Cf} (h : OcsAt size lb base wr O oc os) (hlb : lb < base) (h0 : f.size = size ∧ f.l0 = 0 ∧ f.l1 = 0 ∧ f.u0 = 0 ∧ f.u1 = 0 ∧ f.canon = true) (hl : f.ops.length = os.length) (ho : ∀ (i : Nat) (o : Oc), os[i]? = some o → f.ops[i]? = some (o.cls, List.replicate o.bits 0)) : CfAt lb base wr O oc os f := by
  obtain ⟨e0, e1, e2, e3, e4, e5⟩ := h0
  refine ⟨by unfold cfV; rw [e0, e1, e2, e3, e4, e5]; exact h.blk, h.free, hl, fun i o hi => ?_, fun i o hi => ?_, fun o hm => ⟨(h.all o hm).old, (h.all o hm).lt⟩, h.apart, hlb⟩
  · have hi2 := (List.getElem?_eq_some_iff.1 hi).1
    rcases h.row.2 with ⟨_, hz⟩ | ⟨g, cap, cur, e, hb, hg, _, _, hs, ht⟩
    · omega
    · injection e with e e4 e5
      refine ⟨g, e, hb, fun o' ho' e6 => ?_, fun k v hv => ?_⟩
      · refine (h.all o' ho').own ?_
        rw [e, e6]; rfl
      · have h1 := flatC_get os i o k v hi hv
        rw [← ht] at h1
        have h2 : i * 2 + k < os.length * 2 := by
          rcases Nat.lt_or_ge (i * 2 + k) (os.length * 2) with h3 | h3
          · exact h3
          · rw [List.getElem?_eq_none (by rw [List.length_take]; omega)] at h1; cases h1
        rw [List.getElem?_take_of_lt h2] at h1
        simp [World.cell?, hg]
        simpa using h1
  · refine ⟨_, ho i o hi, by simp, fun k v hv => ?_, (h.all o (List.mem_of_getElem? hi)).free⟩
    obtain ⟨hk, e⟩ := List.getElem?_eq_some_iff.1 hv
    rw [List.getElem_replicate] at e
    subst e
    exact (h.all o (List.mem_of_getElem? hi)).cell k (by simpa using hk)
/-- An operand of a layout, as those that read it want it. -/
def OcRd (w : World) (b o : Nat) (x : Int × List Int) : Prop := w.cell? ⟨b, o, none⟩ = some (.int .i64 x.1) ∧ ∃ A c, x.2.length ≤ c ∧ w.cell? ⟨b, o + 1, none⟩ = some (.slice A x.2.length c) ∧ RowOf IntC 1 w A x.2
theorem OcRd.fr {w w' : World} {b o : Nat} {x : Int × List Int} (h : OcRd w b o x) (k : Fr w w') : OcRd w' b o x := by
  obtain ⟨h1, A, c, hc, h2, h3⟩ := h; exact ⟨k.get h1, A, c, hc, k.get h2, h3.fr fun _ _ _ x => x.fr k⟩
/-- A layout's operands, in every world that keeps the blocks from base on. -/
theorem CfAt.done {lb base oc : Nat} {wr : World} {O : Option Addr} {os : List Oc} {f : Cf} (h : CfAt lb base wr O oc os f) :
    ∀ w' : World, (∀ b, base ≤ b → b < wr.heap.size → w'.heap[b]? = wr.heap[b]?) → RowOf OcRd 2 w' O f.ops := by
  intro w' hK hl
  have hos : 0 < os.length := by rw [← h.len]; exact hl
  obtain ⟨ob, e, _, _, _⟩ := h.row 0 os[0] (List.getElem?_eq_getElem hos)
  refine ⟨ob, 0, e, fun i hi => ?_⟩
  have hi2 : i < os.length := by rw [← h.len]; exact hi
  have ho := List.getElem?_eq_getElem hi2
  generalize os[i] = o at ho
  obtain ⟨ob', e', hob, _, hc⟩ := h.row i o ho
  obtain rfl : ob = ob' := by rw [e] at e'; injection e' with e'; injection e'
  have hc : ∀ k v, (ocC o)[k]? = some v → w'.cell? ⟨ob, i * 2 + k, none⟩ = some v := fun k v hv => by
    have := hc k v hv
    exact (cell_of_heap (hK ob hob (lt_of_cell this))).trans this
  obtain ⟨l, e2, hl2, hc2, _⟩ := h.ops i o ho
  have hgo := h.old o (List.mem_of_getElem? ho)
  have hc2 : ∀ k v, l[k]? = some v → w'.cell? ⟨o.g, k, none⟩ = some (.int .i64 v) := fun k v hv => (cell_of_heap (hK o.g hgo.1 hgo.2)).trans (hc2 k v hv)
  have e3 : f.ops[i] = (o.cls, l) := (List.getElem?_eq_some_iff.1 e2).2
  rw [e3, Nat.zero_add, Nat.mul_comm 2 i]
  refine ⟨hc 0 _ rfl, some ⟨o.g, 0, none⟩, o.bits, by simp only; omega, ?_, ?_⟩
  · have := hc 1 _ rfl
    simp only [hl2]; exact this
  · intro _
    exact ⟨o.g, 0, rfl, fun k hk => by have := hc2 k _ (List.getElem?_eq_getElem hk); simpa [IntC] using this⟩
end Go.Proofs.YtdipnhghdajplaaGreatDoor
