/- Add and Times answer what the document asks. -/
import Derived.Test.YtbnaakognnkhdaaDoorZld
namespace Go.Proofs.YtbnaakognnkhdaaDoor
open Go.RowKit
set_option linter.unusedSimpArgs false
set_option linter.unusedVariables false

set_option maxHeartbeats 800000 in
set_option maxRecDepth 100000 in
theorem tooMany_any (P : List (ByteArray × Int)) (off : Int) (mb : Option Nat) (w : World) (hM : MapP w mb P) : Calls Tryd.prog 18 #[.agg #[.map mb, .int .i64 off]] w fun e w' => e = .returned (.bool (decide (16 < P.length))) ∧ Fr w w' := by
  cases mb with
  | none =>
    obtain rfl : P = [] := hM
    have hl := fun (W : World) ty => Go.Maps.len_nil (P := Tryd.prog) (w := W) Tryd.underlying33 ty
    go_enter Tryd.func18, Tryd.ntmps18
    go_wp2
    go_ret
    exact ⟨ret_bool (by simp), (Fr.refl w).alloc _⟩
  | some b =>
    have hown : w.ownsMap Tryd.prog 9 (plainElem (H := Unit) Tryd.prog 3) b P.length (dP P) := hM
    have hl := fun (o : Obj) ty => World.ownsMap.len (hown.alloc o) Tryd.underlying33 ty
    rw [size_dP] at hl
    clear hM hown
    go_enter Tryd.func18, Tryd.ntmps18
    go_wp2
    go_ret
    exact ⟨ret_bool (by rw [Bool.eq_iff_iff]; simp; try omega), (Fr.refl w).alloc _⟩
set_option maxHeartbeats 800000 in
set_option maxRecDepth 100000 in
theorem hasSymbols_any (P : List (ByteArray × Int)) (off : Int) (mb : Option Nat) (w : World) (hM : MapP w mb P) : Calls Tryd.prog 24 #[.agg #[.map mb, .int .i64 off]] w fun e w' => e = .returned (.bool (decide (0 < P.length))) ∧ Fr w w' := by
  cases mb with
  | none =>
    obtain rfl : P = [] := hM
    have hl := fun (W : World) ty => Go.Maps.len_nil (P := Tryd.prog) (w := W) Tryd.underlying33 ty
    go_enter Tryd.func24, Tryd.ntmps24
    go_wp2
    go_ret
    exact ⟨ret_bool (by simp), (Fr.refl w).alloc _⟩
  | some b =>
    have hown : w.ownsMap Tryd.prog 9 (plainElem (H := Unit) Tryd.prog 3) b P.length (dP P) := hM
    have hl := fun (o : Obj) ty => World.ownsMap.len (hown.alloc o) Tryd.underlying33 ty
    rw [size_dP] at hl
    clear hM hown
    go_enter Tryd.func24, Tryd.ntmps24
    go_wp2
    go_ret
    exact ⟨ret_bool (by first | rfl | simp), (Fr.refl w).alloc _⟩
/-- A block of three cells. -/
structure B3 (w : World) (g : Nat) (x y z : Value) : Prop where
  c0 : w.cell? ⟨g, 0, none⟩ = some x
  c1 : w.cell? ⟨g, 1, none⟩ = some y
  c2 : w.cell? ⟨g, 2, none⟩ = some z
  f0 : w.frozen? ⟨g, 0, none⟩ = false
  f1 : w.frozen? ⟨g, 1, none⟩ = false
  f2 : w.frozen? ⟨g, 2, none⟩ = false
theorem B3.fr {w w' : World} {g : Nat} {x y z : Value} (h : B3 w g x y z) (k : Fr w w') : B3 w' g x y z := ⟨k.get h.c0, k.get h.c1, k.get h.c2, k.free h.c0 h.f0, k.free h.c1 h.f1, k.free h.c2 h.f2⟩
theorem B3.kp {S : Nat → Prop} {w w' : World} {g : Nat} {x y z : Value} (h : B3 w g x y z) (k : Kp S w w') (hg : ¬ S g) : B3 w' g x y z := ⟨k.get hg h.c0, k.get hg h.c1, k.get hg h.c2, k.free hg h.c0 h.f0, k.free hg h.c1 h.f1, k.free hg h.c2 h.f2⟩
theorem B3.new {w : World} {t : TypeId} {x y z : Value} {g : Nat} (hg : g = w.heap.size) : B3 (w.alloc (.cells #[x, y, z] t)) g x y z := by
  subst hg
  exact ⟨by simp [go_sem], by simp [go_sem], by simp [go_sem], by simp [go_sem], by simp [go_sem], by simp [go_sem]⟩
theorem B3.lt {w : World} {g : Nat} {x y z : Value} (h : B3 w g x y z) : g < w.heap.size := lt_of_cell h.c0
/-- The answer is put into the result's block. -/
theorem res_put {a : Ln} {F G : Nat → Prop} {w w4 : World} {rb n m c d : Nat} {A B : Option Addr} {x y z : Value} (hn : w.heap.size ≤ rb) (hK : Fr w w4) (hB : B3 w4 rb x y z) (h : a.At G w4 (.agg #[.slice A n c, .slice B m d, .int .i64 a.off])) (hG : ∀ g, G g → g ≠ rb ∧ (F g ∨ New w w4 g)) :
    ∃ w5, w5 = ((w4.setCell ⟨rb, 0, none⟩ (.slice A n c)).setCell ⟨rb, 1, none⟩ (.slice B m d)).setCell ⟨rb, 2, none⟩ (.int .i64 a.off) ∧
      (loadVar 26 ⟨rb, 0, none⟩).run Tryd.prog w5 = .ok (.agg #[.slice A n c, .slice B m d, .int .i64 a.off]) w5 ∧ a.At (Also F w w5) w5 (.agg #[.slice A n c, .slice B m d, .int .i64 a.off]) ∧ Fr w w5 := by
  obtain ⟨z0, z1, z2, _, _, _⟩ := hB
  have hsz : (((w4.setCell ⟨rb, 0, none⟩ (.slice A n c)).setCell ⟨rb, 1, none⟩ (.slice B m d)).setCell ⟨rb, 2, none⟩ (.int .i64 a.off)).heap.size = w4.heap.size := by simp
  refine ⟨_, rfl, load_lin ?_ ?_ ?_, ?_, ((hK.set (p := ⟨rb, 0, none⟩) hn _).set (p := ⟨rb, 1, none⟩) hn _).set (p := ⟨rb, 2, none⟩) hn _⟩
  · simp [go_sem, *]
  · simp [go_sem, *]
  · simp [go_sem, *]
  · refine (h.keep fun g hg => set3_heap w4 rb _ _ _ g (hG g hg).1).mono fun g hg => ?_
    rcases (hG g hg).2 with h1 | h1
    · exact .inl h1
    · exact .inr ⟨h1.1, by rw [hsz]; exact h1.2⟩
end Go.Proofs.YtbnaakognnkhdaaDoor
