/- A description and a term that came in, opened as far as widths go. -/
import Derived.Test.YtcndmiolaheaeabGreatDoorOa
import Derived.Test.YtcndmiolaheaeabGreatDoorChecked
namespace Go.Proofs.YtcndmiolaheaeabGreatDoor
open Go.ChangeShapes Go.WideShapes Go.RowKit Go.Deep
set_option linter.unusedSimpArgs false
set_option linter.unusedVariables false
set_option maxRecDepth 100000

theorem cells_int : Tryz.prog.cellsOf 3 = 1 := by kernel_rfl
theorem cells_str : Tryz.prog.cellsOf 9 = 1 := by kernel_rfl
theorem cells_ints : Tryz.prog.cellsOf 78 = 1 := by kernel_rfl
theorem cells_args : Tryz.prog.cellsOf 45 = 1 := by kernel_rfl
theorem cells_pieces : Tryz.prog.cellsOf 46 = 1 := by kernel_rfl
theorem cells_terms : Tryz.prog.cellsOf 40 = 1 := by kernel_rfl
theorem cells_file : Tryz.prog.cellsOf 138 = 4 := by kernel_rfl
theorem cells_class : Tryz.prog.cellsOf 80 = 7 := by kernel_rfl
theorem cells_arg : Tryz.prog.cellsOf 77 = 2 := by kernel_rfl
theorem cells_form : Tryz.prog.cellsOf 48 = 5 := by kernel_rfl
theorem cells_term : Tryz.prog.cellsOf 42 = 5 := by kernel_rfl
/-- A form: its operands' classes; the rest is there. -/
def FormAt (w : World) (b o : Nat) (args : List Int) : Prop := ∃ n s A ac B bl bc C cl cc, args.length ≤ ac ∧ w.cell? ⟨b, o, none⟩ = some (.string n) ∧ w.cell? ⟨b, o + 1, none⟩ = some (.string s) ∧ w.cell? ⟨b, o + 2, none⟩ = some (.slice A args.length ac) ∧
  w.cell? ⟨b, o + 3, none⟩ = some (.slice B bl bc) ∧ w.cell? ⟨b, o + 4, none⟩ = some (.slice C cl cc) ∧ RowOf ArgAt 2 w A args
theorem FormAt.fr {w w' : World} {b o : Nat} {f : List Int} (h : FormAt w b o f) (k : Fr w w') : FormAt w' b o f := by
  obtain ⟨n, s, A, ac, B, bl, bc, C, cl, cc, hl, h0, h1, h2, h3, h4, h5⟩ := h
  exact ⟨n, s, A, ac, B, bl, bc, C, cl, cc, hl, k.get h0, k.get h1, k.get h2, k.get h3, k.get h4, h5.fr fun _ _ _ x => x.fr k⟩
section
variable {H : Type} {enc : TypeId × Value → H} {W : World}
theorem opens_file (m : Nat) : Opens enc Tryz.prog W 138 FileAt m := by
  intro n cs x b o _ h hl hc
  obtain ⟨n', rfl, _, hf⟩ := open_fields Tryz.underlying138 h
  rw [cells_file] at hl
  match cs, hl with
  | [c0, c1, c2, c3], _ =>
    obtain ⟨s0, e0, _⟩ := open_fstr Tryz.underlying9 (hf 0 _ 0 1 _ rfl rfl cells_str rfl)
    obtain ⟨n1, e1, _⟩ := open_fint Tryz.underlying3 (hf 1 _ 1 1 _ rfl rfl cells_int rfl)
    obtain ⟨n2, e2, _⟩ := open_fint Tryz.underlying3 (hf 2 _ 2 1 _ rfl rfl cells_int rfl)
    obtain ⟨n3, e3, _⟩ := open_fint Tryz.underlying3 (hf 3 _ 3 1 _ rfl rfl cells_int rfl)
    simp only [List.drop_zero, List.drop_succ_cons, List.take_succ_cons, List.take_zero, List.cons.injEq, and_true] at e0 e1 e2 e3
    subst e0 e1 e2 e3
    exact ⟨(n1, n2, n3), s0, hc 0 _ rfl, hc 1 _ rfl, hc 2 _ rfl, hc 3 _ rfl⟩
theorem opens_class (m : Nat) : Opens enc Tryz.prog W 80 ClassAt m := by
  intro n cs x b o _ h hl hc
  obtain ⟨n', rfl, _, hf⟩ := open_fields Tryz.underlying80 h
  rw [cells_class] at hl
  match cs, hl with
  | [c0, c1, c2, c3, c4, c5, c6], _ =>
    obtain ⟨s0, e0, _⟩ := open_fstr Tryz.underlying9 (hf 0 _ 0 1 _ rfl rfl cells_str rfl)
    obtain ⟨n1, e1, _⟩ := open_fint Tryz.underlying3 (hf 1 _ 1 1 _ rfl rfl cells_int rfl)
    obtain ⟨n2, e2, _⟩ := open_fint Tryz.underlying3 (hf 2 _ 2 1 _ rfl rfl cells_int rfl)
    obtain ⟨n3, e3, _⟩ := open_fint Tryz.underlying3 (hf 3 _ 3 1 _ rfl rfl cells_int rfl)
    obtain ⟨n4, e4, _⟩ := open_fint Tryz.underlying3 (hf 4 _ 4 1 _ rfl rfl cells_int rfl)
    obtain ⟨n5, e5, _⟩ := open_fint Tryz.underlying3 (hf 5 _ 5 1 _ rfl rfl cells_int rfl)
    obtain ⟨A6, l6, k6, e6, _⟩ := open_fslice Tryz.underlying78 (hf 6 _ 6 1 _ rfl rfl cells_ints rfl)
    simp only [List.drop_zero, List.drop_succ_cons, List.take_succ_cons, List.take_zero, List.cons.injEq, and_true] at e0 e1 e2 e3 e4 e5 e6
    subst e0 e1 e2 e3 e4 e5 e6
    exact ⟨(n1, n2), s0, n3, n4, n5, A6, l6, k6, hc 0 _ rfl, hc 1 _ rfl, hc 2 _ rfl, hc 3 _ rfl, hc 4 _ rfl, hc 5 _ rfl, hc 6 _ rfl⟩
theorem opens_arg (m : Nat) : Opens enc Tryz.prog W 77 ArgAt m := by
  intro n cs x b o _ h hl hc
  obtain ⟨n', rfl, _, hf⟩ := open_fields Tryz.underlying77 h
  rw [cells_arg] at hl
  match cs, hl with
  | [c0, c1], _ =>
    obtain ⟨s0, e0, _⟩ := open_fstr Tryz.underlying9 (hf 0 _ 0 1 _ rfl rfl cells_str rfl)
    obtain ⟨n1, e1, _⟩ := open_fint Tryz.underlying3 (hf 1 _ 1 1 _ rfl rfl cells_int rfl)
    simp only [List.drop_zero, List.drop_succ_cons, List.take_succ_cons, List.take_zero, List.cons.injEq, and_true] at e0 e1
    subst e0 e1
    exact ⟨n1, _, hc 0 _ rfl, hc 1 _ rfl⟩
theorem opens_form (m : Nat) : Opens enc Tryz.prog W 48 FormAt m := by
  intro n cs x b o hn h hl hc
  obtain ⟨n', rfl, _, hf⟩ := open_fields Tryz.underlying48 h
  rw [cells_form] at hl
  match cs, hl with
  | [c0, c1, c2, c3, c4], _ =>
    obtain ⟨s0, e0, _⟩ := open_fstr Tryz.underlying9 (hf 0 _ 0 1 _ rfl rfl cells_str rfl)
    obtain ⟨s1, e1, _⟩ := open_fstr Tryz.underlying9 (hf 1 _ 1 1 _ rfl rfl cells_str rfl)
    obtain ⟨y2, z2⟩ := hf 2 _ 2 1 _ rfl rfl cells_args rfl
    obtain ⟨A2, l2, k2, e2, g2, _, r2⟩ := Opens.row Tryz.underlying45 cells_arg (by decide) (opens_arg n') (Nat.le_refl _) z2
    obtain ⟨A3, l3, k3, e3, _⟩ := open_fslice Tryz.underlying46 (hf 3 _ 3 1 _ rfl rfl cells_pieces rfl)
    obtain ⟨A4, l4, k4, e4, _⟩ := open_fslice Tryz.underlying40 (hf 4 _ 4 1 _ rfl rfl cells_terms rfl)
    simp only [List.drop_zero, List.drop_succ_cons, List.take_succ_cons, List.take_zero, List.cons.injEq, and_true] at e0 e1 e2 e3 e4
    subst e0 e1 e2 e3 e4
    exact ⟨l2, s0, s1, A2, k2, A3, l3, k3, A4, l4, k4, g2, hc 0 _ rfl, hc 1 _ rfl, hc 2 _ rfl, hc 3 _ rfl, hc 4 _ rfl, r2⟩
theorem tmL_of {w : World} {b : Nat} : ∀ {l : List Tm} {o : Nat}, (∀ (i : Nat) (h : i < l.length), TmT w b (o + 5 * i) l[i]) → TmL w (some ⟨b, o, none⟩) l
  | [], _, _ => by unfold TmL; trivial
  | t :: r, o, h => by
    unfold TmL
    refine ⟨b, o, rfl, by have := h 0 (by simp); rw [Nat.mul_zero, Nat.add_zero] at this; exact this, tmL_of fun i hi => ?_⟩
    have := h (i + 1) (by simpa using hi)
    rw [show o + 5 * (i + 1) = o + 5 + 5 * i by omega] at this
    simpa using this
theorem tmL_row {w : World} {A : Option Addr} {l : List Tm} (h : RowOf TmT 5 w A l) : TmL w A l := by
  cases l with
  | nil => unfold TmL; trivial
  | cons t r =>
    obtain ⟨b, o, rfl, hx⟩ := h (by simp)
    exact tmL_of hx
theorem open_term5 {m : Nat} (ih : Opens enc Tryz.prog W 42 TmT m) {n : Nat} (hn : n ≤ m) {cs : List Value} {x : DataW H × List MemPlace} (h : DataW.trod enc Tryz.prog W 0 (fun _ => true) true (n + 1) 42 cs = some x) (hl : cs.length = 5) :
    ∃ op wd a b A ks c, cs = [.int .i64 op, .int .i64 wd, .int .i64 a, .int .i64 b, .slice A ks.length c] ∧ ks.length ≤ c ∧ TmL W A ks := by
  obtain ⟨n', e, _, hf⟩ := open_fields Tryz.underlying42 h
  obtain rfl : n = n' := by omega
  match cs, hl with
  | [c0, c1, c2, c3, c4], _ =>
    obtain ⟨n0, e0, _⟩ := open_fint Tryz.underlying3 (hf 0 _ 0 1 _ rfl rfl cells_int rfl)
    obtain ⟨n1, e1, _⟩ := open_fint Tryz.underlying3 (hf 1 _ 1 1 _ rfl rfl cells_int rfl)
    obtain ⟨n2, e2, _⟩ := open_fint Tryz.underlying3 (hf 2 _ 2 1 _ rfl rfl cells_int rfl)
    obtain ⟨n3, e3, _⟩ := open_fint Tryz.underlying3 (hf 3 _ 3 1 _ rfl rfl cells_int rfl)
    obtain ⟨y4, z4⟩ := hf 4 _ 4 1 _ rfl rfl cells_terms rfl
    obtain ⟨A4, l4, k4, e4, g4, _, r4⟩ := Opens.row Tryz.underlying40 cells_term (by decide) ih hn z4
    simp only [List.drop_zero, List.drop_succ_cons, List.take_succ_cons, List.take_zero, List.cons.injEq, and_true] at e0 e1 e2 e3 e4
    subst e0 e1 e2 e3 e4
    exact ⟨_, _, _, _, A4, l4, k4, rfl, g4, tmL_row r4⟩
theorem opens_term : ∀ m : Nat, Opens enc Tryz.prog W 42 TmT m
  | 0 => fun n cs x b o hn => absurd hn (by omega)
  | m + 1 => fun n cs x b o hn h hl hc => by
    obtain ⟨n', rfl, _, _⟩ := open_fields Tryz.underlying42 h
    rw [cells_term] at hl
    obtain ⟨op, wd, a, b', A, ks, c, rfl, g, k⟩ := open_term5 (opens_term m) (by omega) h hl
    refine ⟨.node op wd a b' ks, ?_⟩
    unfold TmT
    exact ⟨A, c, g, hc 0 _ rfl, hc 1 _ rfl, hc 2 _ rfl, hc 3 _ rfl, hc 4 _ rfl, k⟩
end
end Go.Proofs.YtcndmiolaheaeabGreatDoor
