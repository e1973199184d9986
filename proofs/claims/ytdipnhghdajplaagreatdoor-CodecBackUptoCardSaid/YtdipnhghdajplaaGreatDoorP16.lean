/- A description and a term that came in, opened as far as widths go. -/
import Derived.Test.YtdipnhghdajplaaGreatDoorP15
import Derived.Test.YtdipnhghdajplaaGreatDoorChecked
namespace Go.Proofs.YtdipnhghdajplaaGreatDoor
open Go.ChangeShapes Go.WideShapes Go.RowKit Go.Deep
set_option linter.unusedSimpArgs false
set_option linter.unusedVariables false
set_option maxRecDepth 100000
theorem cells_int : Tryz.prog.cellsOf 3 = 1 := by kernel_rfl
theorem cells_str : Tryz.prog.cellsOf 9 = 1 := by kernel_rfl
theorem cells_ints : Tryz.prog.cellsOf 46 = 1 := by kernel_rfl
theorem cells_args : Tryz.prog.cellsOf 39 = 1 := by kernel_rfl
theorem cells_pieces : Tryz.prog.cellsOf 40 = 1 := by kernel_rfl
theorem cells_terms : Tryz.prog.cellsOf 41 = 1 := by kernel_rfl
theorem cells_file : Tryz.prog.cellsOf 166 = 4 := by kernel_rfl
theorem cells_class : Tryz.prog.cellsOf 64 = 7 := by kernel_rfl
theorem cells_arg : Tryz.prog.cellsOf 55 = 2 := by kernel_rfl
theorem cells_form : Tryz.prog.cellsOf 43 = 5 := by kernel_rfl
theorem cells_term : Tryz.prog.cellsOf 124 = 5 := by kernel_rfl
section
variable {H : Type} {enc : TypeId × Value → H} {W : World}
theorem opens_file (m : Nat) : Opens enc Tryz.prog W 166 FileAt m := by
 intro n cs x b o _ h hl hc
 obtain ⟨n', rfl, _, hf⟩ := open_fields Tryz.underlying166 h
 rw [cells_file] at hl
 match cs, hl with
 | [c0, c1, c2, c3], _ =>
   obtain ⟨s0, e0, _⟩ := open_fstr Tryz.underlying9 (hf 0 _ 0 1 _ rfl rfl cells_str rfl)
   obtain ⟨n1, e1, _⟩ := open_fint Tryz.underlying3 (hf 1 _ 1 1 _ rfl rfl cells_int rfl)
   obtain ⟨n2, e2, _⟩ := open_fint Tryz.underlying3 (hf 2 _ 2 1 _ rfl rfl cells_int rfl)
   obtain ⟨n3, e3, _⟩ := open_fint Tryz.underlying3 (hf 3 _ 3 1 _ rfl rfl cells_int rfl)
   simp only [List.drop_zero, List.drop_succ_cons, List.take_succ_cons, List.take_zero, List.cons.injEq, and_true] at e0 e1 e2 e3
   subst e0 e1 e2 e3
   exact ⟨(n1, n2, n3), s0, hc 0 _ rfl, hc 1 _ rfl, hc 2 _ rfl, hc 3 _ rfl⟩
theorem tmL_of {w : World} {b : Nat} : ∀ {l : List Tm} {o : Nat}, (∀ (i : Nat) (h : i < l.length), TmT w b (o + 5 * i) l[i]) → TmL w (some ⟨b, o, none⟩) l
 | [], _, _ => by unfold TmL; trivial
 | t :: r, o, h => by
   unfold TmL
   refine ⟨b, o, rfl, by have := h 0 (by simp); rw [Nat.mul_zero, Nat.add_zero] at this; exact this, tmL_of fun i hi => ?_⟩
   have := h (i + 1) (by simpa using hi)
   rw [show o + 5 * (i + 1) = o + 5 + 5 * i by omega] at this
   simpa using this
theorem tmL_row {w : World} {A : Option Addr} {l : List Tm} (h : RowOf TmT 5 w A l) : TmL w A l := by
 cases l with
 | nil => unfold TmL; trivial
 | cons t r =>
   obtain ⟨b, o, rfl, hx⟩ := h (by simp)
   exact tmL_of hx
theorem open_term5 {m : Nat} (ih : Opens enc Tryz.prog W 124 TmT m) {n : Nat} (hn : n ≤ m) {cs : List Value} {x : DataW H × List MemPlace} (h : DataW.trod enc Tryz.prog W 0 (fun _ => true) true (n + 1) 124 cs = some x) (hl : cs.length = 5) :
   ∃ op wd a b A ks c, cs = [.int .i64 op, .int .i64 wd, .int .i64 a, .int .i64 b, .slice A ks.length c] ∧ (ks.length ≤ c ∧ c ≤ maxLen) ∧ TmL W A ks := by
 obtain ⟨n', e, _, hf⟩ := open_fields Tryz.underlying124 h
 obtain rfl : n = n' := by omega
 match cs, hl with
 | [c0, c1, c2, c3, c4], _ =>
   obtain ⟨n0, e0, _⟩ := open_fint Tryz.underlying3 (hf 0 _ 0 1 _ rfl rfl cells_int rfl)
   obtain ⟨n1, e1, _⟩ := open_fint Tryz.underlying3 (hf 1 _ 1 1 _ rfl rfl cells_int rfl)
   obtain ⟨n2, e2, _⟩ := open_fint Tryz.underlying3 (hf 2 _ 2 1 _ rfl rfl cells_int rfl)
   obtain ⟨n3, e3, _⟩ := open_fint Tryz.underlying3 (hf 3 _ 3 1 _ rfl rfl cells_int rfl)
   obtain ⟨y4, z4⟩ := hf 4 _ 4 1 _ rfl rfl cells_terms rfl
   obtain ⟨A4, l4, k4, e4, g4, g5, r4⟩ := Opens.row Tryz.underlying41 cells_term (by decide) ih hn z4
   simp only [List.drop_zero, List.drop_succ_cons, List.take_succ_cons, List.take_zero, List.cons.injEq, and_true] at e0 e1 e2 e3 e4
   subst e0 e1 e2 e3 e4
   exact ⟨_, _, _, _, A4, l4, k4, rfl, ⟨g4, g5⟩, tmL_row r4⟩
theorem opens_term : ∀ m : Nat, Opens enc Tryz.prog W 124 TmT m
 | 0 => fun n cs x b o hn => absurd hn (by omega)
 | m + 1 => fun n cs x b o hn h hl hc => by
   obtain ⟨n', rfl, _, _⟩ := open_fields Tryz.underlying124 h
   rw [cells_term] at hl
   obtain ⟨op, wd, a, b', A, ks, c, rfl, g, k⟩ := open_term5 (opens_term m) (by omega) h hl
   refine ⟨.node op wd a b' ks, ?_⟩
   unfold TmT
   exact ⟨A, c, g, hc 0 _ rfl, hc 1 _ rfl, hc 2 _ rfl, hc 3 _ rfl, hc 4 _ rfl, k⟩
end
end Go.Proofs.YtdipnhghdajplaaGreatDoor
namespace Go.Proofs.YtdipnhghdajplaaGreatDoor
open Go.ChangeShapes Go.WideShapes Go.RowKit Go.Deep
set_option linter.unusedSimpArgs false
set_option linter.unusedVariables false
set_option maxRecDepth 100000
theorem cells_d2 : Tryz.prog.cellsOf 22 = 1 := by kernel_rfl
theorem cells_d3 : Tryz.prog.cellsOf 23 = 1 := by kernel_rfl
theorem cells_d4 : Tryz.prog.cellsOf 24 = 1 := by kernel_rfl
theorem cells_d5 : Tryz.prog.cellsOf 25 = 1 := by kernel_rfl
theorem cells_d6 : Tryz.prog.cellsOf 26 = 1 := by kernel_rfl
theorem cells_d7 : Tryz.prog.cellsOf 27 = 1 := by kernel_rfl
theorem cells_d8 : Tryz.prog.cellsOf 28 = 1 := by kernel_rfl
theorem cells_d9 : Tryz.prog.cellsOf 29 = 1 := by kernel_rfl
theorem cells_d10 : Tryz.prog.cellsOf 30 = 1 := by kernel_rfl
theorem cells_d11 : Tryz.prog.cellsOf 31 = 1 := by kernel_rfl
theorem cells_d12 : Tryz.prog.cellsOf 23 = 1 := by kernel_rfl
theorem cells_desc : Tryz.prog.cellsOf 33 = 13 := by kernel_rfl
end Go.Proofs.YtdipnhghdajplaaGreatDoor
namespace Go.Proofs.YtdipnhghdajplaaGreatDoor
open Go.ChangeShapes Go.WideShapes Go.RowKit Go.Deep
set_option linter.unusedSimpArgs false
set_option linter.unusedVariables false
set_option maxRecDepth 100000
def I64 (x : Int) : Prop := -9223372036854775808 ≤ x ∧ x ≤ 9223372036854775807
theorem I64.of_wf {x : Int} (h : (Lit.int .i64 x).wf = true) : I64 x := by
 simp [Lit.wf, IntKind.min, IntKind.max, IntKind.signed, IntKind.bits] at h
 unfold I64; omega
structure Cl where
 (kind file bits shift plus : Int)
 ex : List Int
structure Pc where
 lit : ByteArray
 (arg hi lo : Int)
structure Fm where
 args : List Int
 pcs : List Pc
 sem : List Tm
structure Al where
 (file num : Int)
structure Us where
 (cls rel : Int)
structure Rx where
 (rel form to : Int)
structure Mc where
 rel : Int
instance : Inhabited Cl := ⟨⟨0, 0, 0, 0, 0, []⟩⟩
instance : Inhabited Pc := ⟨⟨⟨#[]⟩, 0, 0, 0⟩⟩
def IntAt (w : World) (b o : Nat) (x : Int) : Prop := I64 x ∧ w.cell? ⟨b, o, none⟩ = some (.int .i64 x)
def ArgS (w : World) (b o : Nat) (c : Int) : Prop := ∃ n : ByteArray, w.cell? ⟨b, o, none⟩ = some (.string n) ∧ I64 c ∧ w.cell? ⟨b, o + 1, none⟩ = some (.int .i64 c)
theorem ArgS.fr {w w' : World} {b o : Nat} {c : Int} (h : ArgS w b o c) (k : Fr w w') : ArgS w' b o c := by
 obtain ⟨n, h0, h1, h2⟩ := h; exact ⟨n, k.get h0, h1, k.get h2⟩
theorem ArgS.arg {w : World} {b o : Nat} {c : Int} (h : ArgS w b o c) : ArgAt w b o c := by
 obtain ⟨n, h0, _, h2⟩ := h; exact ⟨_, h0, h2⟩
theorem ArgS.row {w : World} {A : Option Addr} {l : List Int} (h : RowOf ArgS 2 w A l) : RowOf ArgAt 2 w A l := fun hl => by
 obtain ⟨b, o, e, hx⟩ := h hl; exact ⟨b, o, e, fun i hi => (hx i hi).arg⟩
theorem IntAt.fr {w w' : World} {b o : Nat} {x : Int} (h : IntAt w b o x) (k : Fr w w') : IntAt w' b o x := ⟨h.1, k.get h.2⟩
def ClAt (w : World) (b o : Nat) (x : Cl) : Prop := ∃ (n0 : ByteArray) (A6 : Option Addr) (k6 : Nat), w.cell? ⟨b, o, none⟩ = some (.string n0) ∧
   I64 x.kind ∧ w.cell? ⟨b, o + 1, none⟩ = some (.int .i64 x.kind) ∧
   I64 x.file ∧ w.cell? ⟨b, o + 2, none⟩ = some (.int .i64 x.file) ∧
   I64 x.bits ∧ w.cell? ⟨b, o + 3, none⟩ = some (.int .i64 x.bits) ∧
   I64 x.shift ∧ w.cell? ⟨b, o + 4, none⟩ = some (.int .i64 x.shift) ∧
   I64 x.plus ∧ w.cell? ⟨b, o + 5, none⟩ = some (.int .i64 x.plus) ∧
   x.ex.length ≤ k6 ∧ k6 ≤ maxLen ∧ w.cell? ⟨b, o + 6, none⟩ = some (.slice A6 x.ex.length k6) ∧ RowOf IntAt 1 w A6 x.ex
theorem ClAt.fr {w w' : World} {b o : Nat} {x : Cl} (h : ClAt w b o x) (q : Fr w w') : ClAt w' b o x := by
 obtain ⟨n0, A6, k6, c0, w1, c1, w2, c2, w3, c3, w4, c4, w5, c5, u6, v6, c6, r6⟩ := h; exact ⟨n0, A6, k6, q.get c0, w1, q.get c1, w2, q.get c2, w3, q.get c3, w4, q.get c4, w5, q.get c5, u6, v6, q.get c6, r6.fr fun _ _ _ x => x.fr q⟩
def PcAt (w : World) (b o : Nat) (x : Pc) : Prop := x.lit.size ≤ maxLen ∧ w.cell? ⟨b, o, none⟩ = some (.string x.lit) ∧
   I64 x.arg ∧ w.cell? ⟨b, o + 1, none⟩ = some (.int .i64 x.arg) ∧
   I64 x.hi ∧ w.cell? ⟨b, o + 2, none⟩ = some (.int .i64 x.hi) ∧
   I64 x.lo ∧ w.cell? ⟨b, o + 3, none⟩ = some (.int .i64 x.lo)
theorem PcAt.fr {w w' : World} {b o : Nat} {x : Pc} (h : PcAt w b o x) (q : Fr w w') : PcAt w' b o x := by
 obtain ⟨w0, c0, w1, c1, w2, c2, w3, c3⟩ := h; exact ⟨w0, q.get c0, w1, q.get c1, w2, q.get c2, w3, q.get c3⟩
def FmAt (w : World) (b o : Nat) (x : Fm) : Prop := ∃ (n0 : ByteArray) (n1 : ByteArray) (A2 : Option Addr) (k2 : Nat) (A3 : Option Addr) (k3 : Nat) (A4 : Option Addr) (k4 : Nat), w.cell? ⟨b, o, none⟩ = some (.string n0) ∧
   w.cell? ⟨b, o + 1, none⟩ = some (.string n1) ∧
   x.args.length ≤ k2 ∧ k2 ≤ maxLen ∧ w.cell? ⟨b, o + 2, none⟩ = some (.slice A2 x.args.length k2) ∧ RowOf ArgS 2 w A2 x.args ∧
   x.pcs.length ≤ k3 ∧ k3 ≤ maxLen ∧ w.cell? ⟨b, o + 3, none⟩ = some (.slice A3 x.pcs.length k3) ∧ RowOf PcAt 4 w A3 x.pcs ∧
   x.sem.length ≤ k4 ∧ k4 ≤ maxLen ∧ w.cell? ⟨b, o + 4, none⟩ = some (.slice A4 x.sem.length k4) ∧ RowOf TmT 5 w A4 x.sem
theorem FmAt.fr {w w' : World} {b o : Nat} {x : Fm} (h : FmAt w b o x) (q : Fr w w') : FmAt w' b o x := by
 obtain ⟨n0, n1, A2, k2, A3, k3, A4, k4, c0, c1, u2, v2, c2, r2, u3, v3, c3, r3, u4, v4, c4, r4⟩ := h; exact ⟨n0, n1, A2, k2, A3, k3, A4, k4, q.get c0, q.get c1, u2, v2, q.get c2, r2.fr fun _ _ _ x => x.fr q, u3, v3, q.get c3, r3.fr fun _ _ _ x => x.fr q, u4, v4, q.get c4, r4.fr fun _ _ _ x => TmT.fr q x⟩
def AlAt (w : World) (b o : Nat) (x : Al) : Prop := ∃ (n0 : ByteArray), w.cell? ⟨b, o, none⟩ = some (.string n0) ∧
   I64 x.file ∧ w.cell? ⟨b, o + 1, none⟩ = some (.int .i64 x.file) ∧
   I64 x.num ∧ w.cell? ⟨b, o + 2, none⟩ = some (.int .i64 x.num)
theorem AlAt.fr {w w' : World} {b o : Nat} {x : Al} (h : AlAt w b o x) (q : Fr w w') : AlAt w' b o x := by
 obtain ⟨n0, c0, w1, c1, w2, c2⟩ := h; exact ⟨n0, q.get c0, w1, q.get c1, w2, q.get c2⟩
def UsAt (w : World) (b o : Nat) (x : Us) : Prop := ∃ (n0 : ByteArray) (n3 : Bool), w.cell? ⟨b, o, none⟩ = some (.string n0) ∧
   I64 x.cls ∧ w.cell? ⟨b, o + 1, none⟩ = some (.int .i64 x.cls) ∧
   I64 x.rel ∧ w.cell? ⟨b, o + 2, none⟩ = some (.int .i64 x.rel) ∧
   w.cell? ⟨b, o + 3, none⟩ = some (.bool n3)
theorem UsAt.fr {w w' : World} {b o : Nat} {x : Us} (h : UsAt w b o x) (q : Fr w w') : UsAt w' b o x := by
 obtain ⟨n0, n3, c0, w1, c1, w2, c2, c3⟩ := h; exact ⟨n0, n3, q.get c0, w1, q.get c1, w2, q.get c2, q.get c3⟩
def RxAt (w : World) (b o : Nat) (x : Rx) : Prop := I64 x.rel ∧ w.cell? ⟨b, o, none⟩ = some (.int .i64 x.rel) ∧
   I64 x.form ∧ w.cell? ⟨b, o + 1, none⟩ = some (.int .i64 x.form) ∧
   I64 x.to ∧ w.cell? ⟨b, o + 2, none⟩ = some (.int .i64 x.to)
theorem RxAt.fr {w w' : World} {b o : Nat} {x : Rx} (h : RxAt w b o x) (q : Fr w w') : RxAt w' b o x := by
 obtain ⟨w0, c0, w1, c1, w2, c2⟩ := h; exact ⟨w0, q.get c0, w1, q.get c1, w2, q.get c2⟩
def McAt (w : World) (b o : Nat) (x : Mc) : Prop := ∃ (n0 : ByteArray) (A2 : Option Addr) (l2 k2 : Nat), w.cell? ⟨b, o, none⟩ = some (.string n0) ∧
   I64 x.rel ∧ w.cell? ⟨b, o + 1, none⟩ = some (.int .i64 x.rel) ∧
   w.cell? ⟨b, o + 2, none⟩ = some (.slice A2 l2 k2)
theorem McAt.fr {w w' : World} {b o : Nat} {x : Mc} (h : McAt w b o x) (q : Fr w w') : McAt w' b o x := by
 obtain ⟨n0, A2, l2, k2, c0, w1, c1, c2⟩ := h; exact ⟨n0, A2, l2, k2, q.get c0, w1, q.get c1, q.get c2⟩
theorem cells_bool : Tryz.prog.cellsOf 4 = 1 := by kernel_rfl
theorem cells_strs : Tryz.prog.cellsOf 24 = 1 := by kernel_rfl
theorem cells_piece : Tryz.prog.cellsOf 148 = 4 := by kernel_rfl
theorem cells_alias : Tryz.prog.cellsOf 170 = 3 := by kernel_rfl
theorem cells_use : Tryz.prog.cellsOf 129 = 4 := by kernel_rfl
theorem cells_relaxed : Tryz.prog.cellsOf 132 = 3 := by kernel_rfl
theorem cells_macro : Tryz.prog.cellsOf 135 = 3 := by kernel_rfl
section
variable {H : Type} {enc : TypeId × Value → H} {W : World}
theorem open_fbool {t : TypeId} (ht : Tryz.prog.underlying t = some .bool) {fuel : Nat} {cs : List Value} (h : ∃ y, DataW.trod enc Tryz.prog W 0 (fun _ => true) true fuel t cs = some y) : ∃ b : Bool, cs = [.bool b] := by
 obtain ⟨y, h⟩ := h; obtain ⟨b, h1, _⟩ := DataW.trod_bool ht h; exact ⟨b, h1⟩
theorem opens_argS (m : Nat) : Opens enc Tryz.prog W 55 ArgS m := by
 intro n cs x b o _ h hl hc
 obtain ⟨n', rfl, _, hf⟩ := open_fields Tryz.underlying55 h
 rw [cells_arg] at hl
 match cs, hl with
 | [c0, c1], _ =>
   obtain ⟨s0, e0, _⟩ := open_fstr Tryz.underlying9 (hf 0 _ 0 1 _ rfl rfl cells_str rfl)
   obtain ⟨n1, e1, w1⟩ := open_fint Tryz.underlying3 (hf 1 _ 1 1 _ rfl rfl cells_int rfl)
   simp only [List.drop_zero, List.drop_succ_cons, List.take_succ_cons, List.take_zero, List.cons.injEq, and_true] at e0 e1
   subst e0 e1
   exact ⟨n1, s0, hc 0 _ rfl, I64.of_wf w1, hc 1 _ rfl⟩
theorem opens_alias (m : Nat) : Opens enc Tryz.prog W 170 AlAt m := by
 intro n cs x b o hn h hl hc
 obtain ⟨n', rfl, _, hf⟩ := open_fields Tryz.underlying170 h
 rw [cells_alias] at hl
 match cs, hl with
 | [c0, c1, c2], _ =>
   obtain ⟨n0, e0, w0⟩ := open_fstr Tryz.underlying9 (hf 0 _ 0 1 _ rfl rfl cells_str rfl)
   obtain ⟨n1, e1, w1⟩ := open_fint Tryz.underlying3 (hf 1 _ 1 1 _ rfl rfl cells_int rfl)
   obtain ⟨n2, e2, w2⟩ := open_fint Tryz.underlying3 (hf 2 _ 2 1 _ rfl rfl cells_int rfl)
   simp only [List.drop_zero, List.drop_succ_cons, List.take_succ_cons, List.take_zero, List.cons.injEq, and_true] at e0 e1 e2
   subst e0 e1 e2
   exact ⟨⟨n1, n2⟩, n0, hc 0 _ rfl, I64.of_wf w1, hc 1 _ rfl, I64.of_wf w2, hc 2 _ rfl⟩
theorem opens_use (m : Nat) : Opens enc Tryz.prog W 129 UsAt m := by
 intro n cs x b o hn h hl hc
 obtain ⟨n', rfl, _, hf⟩ := open_fields Tryz.underlying129 h
 rw [cells_use] at hl
 match cs, hl with
 | [c0, c1, c2, c3], _ =>
   obtain ⟨n0, e0, w0⟩ := open_fstr Tryz.underlying9 (hf 0 _ 0 1 _ rfl rfl cells_str rfl)
   obtain ⟨n1, e1, w1⟩ := open_fint Tryz.underlying3 (hf 1 _ 1 1 _ rfl rfl cells_int rfl)
   obtain ⟨n2, e2, w2⟩ := open_fint Tryz.underlying3 (hf 2 _ 2 1 _ rfl rfl cells_int rfl)
   obtain ⟨n3, e3⟩ := open_fbool Tryz.underlying4 (hf 3 _ 3 1 _ rfl rfl cells_bool rfl)
   simp only [List.drop_zero, List.drop_succ_cons, List.take_succ_cons, List.take_zero, List.cons.injEq, and_true] at e0 e1 e2 e3
   subst e0 e1 e2 e3
   exact ⟨⟨n1, n2⟩, n0, n3, hc 0 _ rfl, I64.of_wf w1, hc 1 _ rfl, I64.of_wf w2, hc 2 _ rfl, hc 3 _ rfl⟩
theorem opens_relaxed (m : Nat) : Opens enc Tryz.prog W 132 RxAt m := by
 intro n cs x b o hn h hl hc
 obtain ⟨n', rfl, _, hf⟩ := open_fields Tryz.underlying132 h
 rw [cells_relaxed] at hl
 match cs, hl with
 | [c0, c1, c2], _ =>
   obtain ⟨n0, e0, w0⟩ := open_fint Tryz.underlying3 (hf 0 _ 0 1 _ rfl rfl cells_int rfl)
   obtain ⟨n1, e1, w1⟩ := open_fint Tryz.underlying3 (hf 1 _ 1 1 _ rfl rfl cells_int rfl)
   obtain ⟨n2, e2, w2⟩ := open_fint Tryz.underlying3 (hf 2 _ 2 1 _ rfl rfl cells_int rfl)
   simp only [List.drop_zero, List.drop_succ_cons, List.take_succ_cons, List.take_zero, List.cons.injEq, and_true] at e0 e1 e2
   subst e0 e1 e2
   exact ⟨⟨n0, n1, n2⟩, I64.of_wf w0, hc 0 _ rfl, I64.of_wf w1, hc 1 _ rfl, I64.of_wf w2, hc 2 _ rfl⟩
theorem opens_macro (m : Nat) : Opens enc Tryz.prog W 135 McAt m := by
 intro n cs x b o hn h hl hc
 obtain ⟨n', rfl, _, hf⟩ := open_fields Tryz.underlying135 h
 rw [cells_macro] at hl
 match cs, hl with
 | [c0, c1, c2], _ =>
   obtain ⟨n0, e0, w0⟩ := open_fstr Tryz.underlying9 (hf 0 _ 0 1 _ rfl rfl cells_str rfl)
   obtain ⟨n1, e1, w1⟩ := open_fint Tryz.underlying3 (hf 1 _ 1 1 _ rfl rfl cells_int rfl)
   obtain ⟨A2, l2, k2, e2, _⟩ := open_fslice Tryz.underlying24 (hf 2 _ 2 1 _ rfl rfl cells_strs rfl)
   simp only [List.drop_zero, List.drop_succ_cons, List.take_succ_cons, List.take_zero, List.cons.injEq, and_true] at e0 e1 e2
   subst e0 e1 e2
   exact ⟨⟨n1⟩, n0, A2, l2, k2, hc 0 _ rfl, I64.of_wf w1, hc 1 _ rfl, hc 2 _ rfl⟩
end
end Go.Proofs.YtdipnhghdajplaaGreatDoor
namespace Go.Proofs.YtdipnhghdajplaaGreatDoor
open Go.RowKit
set_option linter.unusedSimpArgs false
set_option linter.unusedVariables false
structure Rl where
 (num kind bytes cls cls2 : Int)
 fla : Tm
 (sign width align round hi lo : Int)
structure Ds where
 order : Int
 files : List (Int × Int × Int)
 als : List Al
 nflags : Nat
 cls : List Cl
 fms : List Fm
 rels : List Rl
 uses : List Us
 rxs : List Rx
 mcs : List Mc
 regs : List Al
def RlAt (w : World) (b o : Nat) (x : Rl) : Prop := ∃ (n0 : ByteArray), w.cell? ⟨b, o, none⟩ = some (.string n0) ∧
   I64 x.num ∧ w.cell? ⟨b, o + 1, none⟩ = some (.int .i64 x.num) ∧ I64 x.kind ∧ w.cell? ⟨b, o + 2, none⟩ = some (.int .i64 x.kind) ∧
   I64 x.bytes ∧ w.cell? ⟨b, o + 3, none⟩ = some (.int .i64 x.bytes) ∧ I64 x.cls ∧ w.cell? ⟨b, o + 4, none⟩ = some (.int .i64 x.cls) ∧
   I64 x.cls2 ∧ w.cell? ⟨b, o + 5, none⟩ = some (.int .i64 x.cls2) ∧ TmT w b (o + 6) x.fla ∧
   I64 x.sign ∧ w.cell? ⟨b, o + 11, none⟩ = some (.int .i64 x.sign) ∧ I64 x.width ∧ w.cell? ⟨b, o + 12, none⟩ = some (.int .i64 x.width) ∧
   I64 x.align ∧ w.cell? ⟨b, o + 13, none⟩ = some (.int .i64 x.align) ∧ I64 x.round ∧ w.cell? ⟨b, o + 14, none⟩ = some (.int .i64 x.round) ∧
   I64 x.hi ∧ w.cell? ⟨b, o + 15, none⟩ = some (.int .i64 x.hi) ∧ I64 x.lo ∧ w.cell? ⟨b, o + 16, none⟩ = some (.int .i64 x.lo)
theorem RlAt.fr {w w' : World} {b o : Nat} {x : Rl} (h : RlAt w b o x) (q : Fr w w') : RlAt w' b o x := by
 obtain ⟨n0, c0, w1, c1, w2, c2, w3, c3, w4, c4, w5, c5, c6, w7, c7, w8, c8, w9, c9, wa, ca, wb, cb, wc, cc⟩ := h
 exact ⟨n0, q.get c0, w1, q.get c1, w2, q.get c2, w3, q.get c3, w4, q.get c4, w5, q.get c5, TmT.fr q c6, w7, q.get c7, w8, q.get c8, w9, q.get c9, wa, q.get ca, wb, q.get cb, wc, q.get cc⟩
def Ds.Small (D : Ds) : Prop := D.files.length ≤ maxLen ∧ D.als.length ≤ maxLen ∧ D.nflags ≤ maxLen ∧ D.cls.length ≤ maxLen ∧ D.fms.length ≤ maxLen ∧ D.rels.length ≤ maxLen ∧ D.uses.length ≤ maxLen ∧ D.rxs.length ≤ maxLen ∧ D.mcs.length ≤ maxLen ∧ D.regs.length ≤ maxLen
def DescAt (w : World) (D : Ds) (v : Array Value) : Prop :=
 ∃ (s0 : ByteArray) (Fa Ba Ga Ca Ma Ra Ua Xa Ka Na Pa : Option Addr) (fc bc gc cc mc rc uc xc kc nl nc pc : Nat),
   v = #[.string s0, .int .i64 D.order, .slice Fa D.files.length fc, .slice Ba D.als.length bc, .slice Ga D.nflags gc, .slice Ca D.cls.length cc, .slice Ma D.fms.length mc,
     .slice Ra D.rels.length rc, .slice Ua D.uses.length uc, .slice Xa D.rxs.length xc, .slice Ka D.mcs.length kc, .slice Na nl nc, .slice Pa D.regs.length pc] ∧
   RowOf FileAt 4 w Fa D.files ∧ RowOf AlAt 3 w Ba D.als ∧ RowOf ClAt 7 w Ca D.cls ∧ RowOf FmAt 5 w Ma D.fms ∧ RowOf RlAt 17 w Ra D.rels ∧ RowOf UsAt 4 w Ua D.uses ∧ RowOf RxAt 3 w Xa D.rxs ∧ RowOf McAt 3 w Ka D.mcs ∧ RowOf AlAt 3 w Pa D.regs
theorem DescAt.fr {w w' : World} {D : Ds} {v : Array Value} (h : DescAt w D v) (q : Fr w w') : DescAt w' D v := by
 obtain ⟨s0, Fa, Ba, Ga, Ca, Ma, Ra, Ua, Xa, Ka, Na, Pa, fc, bc, gc, cc, mc, rc, uc, xc, kc, nl, nc, pc, e, h1, h2, h3, h4, h5, h6, h7, h8, h9⟩ := h
 exact ⟨s0, Fa, Ba, Ga, Ca, Ma, Ra, Ua, Xa, Ka, Na, Pa, fc, bc, gc, cc, mc, rc, uc, xc, kc, nl, nc, pc, e, h1.fr fun _ _ _ x => x.fr q, h2.fr fun _ _ _ x => x.fr q, h3.fr fun _ _ _ x => x.fr q, h4.fr fun _ _ _ x => x.fr q, h5.fr fun _ _ _ x => x.fr q, h6.fr fun _ _ _ x => x.fr q, h7.fr fun _ _ _ x => x.fr q, h8.fr fun _ _ _ x => x.fr q, h9.fr fun _ _ _ x => x.fr q⟩
def alB (D : Ds) (a : Al) : Bool := plB a.file D.files.length && decide (0 ≤ a.num) && (match D.files[a.file.toNat]? with | some f => decide (a.num < f.1) | none => false)
def numB (c : Cl) (most : Int) : Bool := decide (1 ≤ c.bits) && decide (c.bits ≤ most) && decide (0 ≤ c.shift) && decide (c.shift ≤ most - c.bits) && decide (c.plus = 0)
def fileD (D : Ds) (x : Int) : Option (Int × Int × Int) := if 0 ≤ x then match D.files[x.toNat]? with
 | some f => if fileB f then some f else none
 | none => none
 else none
def regB (D : Ds) (c : Cl) : Bool := match fileD D c.file with
 | none => false
 | some f => decide (1 ≤ c.bits) && decide (c.bits ≤ 6) && decide (c.shift = 0) && decide (0 ≤ c.plus) && decide (c.plus ≤ f.1 - 2 ^ c.bits.toNat)
def clsB (D : Ds) (c : Cl) : Bool := if c.kind = 1 then regB D c else if c.kind = 2 then numB c 62 else if c.kind = 3 ∨ c.kind = 4 ∨ c.kind = 5 then numB c 64 else false
def clsAtB (D : Ds) (x : Int) : Bool := if 0 ≤ x then match D.cls[x.toNat]? with
 | some c => clsB D c
 | none => false
 else false
def partsB (D : Ds) : Bool := (decide (D.order = 1) || decide (D.order = 2)) && decide (D.files.length ≤ 8) && decide (D.nflags ≤ 16) && decide (D.cls.length ≤ 64) && decide (D.fms.length ≤ 512) &&
 D.files.all fileB && D.cls.all (clsB D) && D.als.all (alB D) && D.regs.all (alB D)
def Ds.env (D : Ds) (args : List Int) : Env := ⟨D.files, D.cls.map fun c => (c.kind, c.file), D.nflags, args⟩
theorem clAt_class {w : World} {b o : Nat} {c : Cl} (h : ClAt w b o c) : ClassAt w b o (c.kind, c.file) := by
 obtain ⟨n0, A6, k6, c0, w1, c1, w2, c2, w3, c3, w4, c4, w5, c5, u6, v6, c6, r6⟩ := h
 exact ⟨n0, c.bits, c.shift, c.plus, A6, _, k6, c0, c1, c2, c3, c4, c5, c6⟩
theorem env_at {w : World} {D : Ds} {Fa Ca Aa : Option Addr} {args : List Int} (h1 : RowOf FileAt 4 w Fa D.files) (h2 : RowOf ClAt 7 w Ca D.cls) (h3 : RowOf ArgAt 2 w Aa args) : EnvAt (D.env args) w Fa Ca Aa := by
 refine ⟨h1, fun hl => ?_, h3⟩
 have hl' : 0 < D.cls.length := by simpa [Ds.env] using hl
 obtain ⟨b, o, e, hx⟩ := h2 hl'
 refine ⟨b, o, e, fun i hi => ?_⟩
 have hi' : i < D.cls.length := by simpa [Ds.env] using hi
 have := clAt_class (hx i hi')
 simpa [Ds.env] using this
end Go.Proofs.YtdipnhghdajplaaGreatDoor
namespace Go.Proofs.YtdipnhghdajplaaGreatDoor
open Go.ChangeShapes Go.WideShapes Go.RowKit Go.Deep
set_option linter.unusedSimpArgs false
set_option linter.unusedVariables false
set_option maxRecDepth 100000
theorem cells_rel : Tryz.prog.cellsOf 126 = 17 := by kernel_rfl
section
variable {H : Type} {enc : TypeId × Value → H} {W : World}
theorem opens_rel (m : Nat) : Opens enc Tryz.prog W 126 RlAt m := by
 intro n cs x b o hn h hl hc
 obtain ⟨n', rfl, _, hf⟩ := open_fields Tryz.underlying126 h
 rw [cells_rel] at hl
 match cs, hl with
 | [c0, c1, c2, c3, c4, c5, c6, c7, c8, c9, c10, c11, c12, c13, c14, c15, c16], _ =>
   obtain ⟨n0, e0, _⟩ := open_fstr Tryz.underlying9 (hf 0 _ 0 1 _ rfl rfl cells_str rfl)
   obtain ⟨n1, e1, w1⟩ := open_fint Tryz.underlying3 (hf 1 _ 1 1 _ rfl rfl cells_int rfl)
   obtain ⟨n2, e2, w2⟩ := open_fint Tryz.underlying3 (hf 2 _ 2 1 _ rfl rfl cells_int rfl)
   obtain ⟨n3, e3, w3⟩ := open_fint Tryz.underlying3 (hf 3 _ 3 1 _ rfl rfl cells_int rfl)
   obtain ⟨n4, e4, w4⟩ := open_fint Tryz.underlying3 (hf 4 _ 4 1 _ rfl rfl cells_int rfl)
   obtain ⟨n5, e5, w5⟩ := open_fint Tryz.underlying3 (hf 5 _ 5 1 _ rfl rfl cells_int rfl)
   obtain ⟨y6, z6⟩ := hf 6 _ 6 5 _ rfl rfl cells_term rfl
   have z7 := z6
   obtain ⟨n7, rfl, _, _⟩ := open_fields Tryz.underlying124 z7
   obtain ⟨t, ht⟩ := opens_term (n7 + 2) (n7 + 1) _ y6 b (o + 6) (by omega) z6 (by rw [cells_term]; rfl) (fun k v hk => by
     simp only [List.drop_zero, List.drop_succ_cons, List.take_succ_cons, List.take_zero] at hk
     have hk5 : k < 5 := by
       have := (List.getElem?_eq_some_iff.1 hk).1
       simpa using this
     have := hc (6 + k) v (by
       rcases k with _ | _ | _ | _ | _ | k
       · simpa using hk
       · simpa using hk
       · simpa using hk
       · simpa using hk
       · simpa using hk
       · omega)
     rw [Nat.add_assoc]; exact this)
   obtain ⟨n11, e11, w11⟩ := open_fint Tryz.underlying3 (hf 7 _ 11 1 _ rfl rfl cells_int rfl)
   obtain ⟨n12, e12, w12⟩ := open_fint Tryz.underlying3 (hf 8 _ 12 1 _ rfl rfl cells_int rfl)
   obtain ⟨n13, e13, w13⟩ := open_fint Tryz.underlying3 (hf 9 _ 13 1 _ rfl rfl cells_int rfl)
   obtain ⟨n14, e14, w14⟩ := open_fint Tryz.underlying3 (hf 10 _ 14 1 _ rfl rfl cells_int rfl)
   obtain ⟨n15, e15, w15⟩ := open_fint Tryz.underlying3 (hf 11 _ 15 1 _ rfl rfl cells_int rfl)
   obtain ⟨n16, e16, w16⟩ := open_fint Tryz.underlying3 (hf 12 _ 16 1 _ rfl rfl cells_int rfl)
   simp only [List.drop_zero, List.drop_succ_cons, List.take_succ_cons, List.take_zero, List.cons.injEq, and_true] at e0 e1 e2 e3 e4 e5 e11 e12 e13 e14 e15 e16
   subst e0 e1 e2 e3 e4 e5 e11 e12 e13 e14 e15 e16
   exact ⟨⟨n1, n2, n3, n4, n5, t, n11, n12, n13, n14, n15, n16⟩, n0, hc 0 _ rfl, I64.of_wf w1, hc 1 _ rfl, I64.of_wf w2, hc 2 _ rfl, I64.of_wf w3, hc 3 _ rfl, I64.of_wf w4, hc 4 _ rfl, I64.of_wf w5, hc 5 _ rfl, ht, I64.of_wf w11, hc 11 _ rfl, I64.of_wf w12, hc 12 _ rfl, I64.of_wf w13, hc 13 _ rfl, I64.of_wf w14, hc 14 _ rfl, I64.of_wf w15, hc 15 _ rfl, I64.of_wf w16, hc 16 _ rfl⟩
end
end Go.Proofs.YtdipnhghdajplaaGreatDoor
