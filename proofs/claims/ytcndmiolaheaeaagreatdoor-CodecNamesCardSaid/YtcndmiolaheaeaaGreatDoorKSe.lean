/- The reader's quoted. -/
import Derived.Test.YtcndmiolaheaeaaGreatDoorKSd
import Derived.WalkSpells
namespace Go.Proofs.YtcndmiolaheaeaaGreatDoor
open Go.RowKit
set_option linter.unusedSimpArgs false
set_option linter.unusedVariables false

theorem slice_at (s : ByteArray) (a b : Nat) (h1 : a ≤ b) (h2 : b ≤ s.size) (w : World) : (Instr.slice 9 (.string s) (some (.int .i64 (a : Int))) (some (.int .i64 (b : Int))) none).run Tryz.prog w = .ok (.string (s.extract a b)) w := by
  have h := run_slice_string (P := Tryz.prog) w 9 s .i64 .i64 (a : Int) (b : Int) Tryz.underlying9 (by omega) (by omega) (by omega)
  simpa using h
/-- A tree without lists, as a value. -/
abbrev tv (k : Int) (s : ByteArray) (n : Int) : Value := .agg #[.int .i64 k, .string s, .int .i64 n, .slice none 0 0]
def QuRel (s : ByteArray) (j : Nat) (i : Value) : Prop := ∃ m : Nat, j + 1 + m ≤ s.size ∧ i = .int .i64 ((j + 1 + m : Nat) : Int) ∧ textL (s.data.toList.drop (j + 1)) 0 = textL (s.data.toList.drop (j + 1 + m)) m
theorem Bk.four {w : World} {g : Nat} {t : TypeId} {a b c d : Value} (h : Bk w g t #[a, b, c, d]) : w.cell? ⟨g, 0, none⟩ = some a ∧ w.cell? ⟨g, 1, none⟩ = some b ∧ w.cell? ⟨g, 2, none⟩ = some c ∧ w.cell? ⟨g, 3, none⟩ = some d ∧
    w.frozen? ⟨g, 0, none⟩ = false ∧ w.frozen? ⟨g, 1, none⟩ = false ∧ w.frozen? ⟨g, 2, none⟩ = false ∧ w.frozen? ⟨g, 3, none⟩ = false := ⟨h.cell 0, h.cell 1, h.cell 2, h.cell 3, h.free 0, h.free 1, h.free 2, h.free 3⟩
theorem textL_nil (m : Nat) : textL [] m = .unclosed := rfl
theorem textL_cons (c : UInt8) (r : List UInt8) (m : Nat) : textL (c :: r) m = if c.toNat = 10 then .unclosed else if c.toNat = 34 then .closed m else if txB c then textL r (m + 1) else .wrong m := rfl
end Go.Proofs.YtcndmiolaheaeaaGreatDoor
