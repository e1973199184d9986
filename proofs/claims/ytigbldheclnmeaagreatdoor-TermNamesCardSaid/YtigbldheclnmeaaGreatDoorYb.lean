/- A function that catches panics calls a closure that returns: what comes of it. -/
import Derived.Test.YtigbldheclnmeaaGreatDoorKSq
import Derived.Recover
import Derived.RegionTactic
namespace Go.Proofs.YtigbldheclnmeaaGreatDoor
open Go.RowKit
set_option linter.unusedSimpArgs false
set_option linter.unusedVariables false

/-- A zero api.Did's cells. -/
def didZ : Array Value := #[.int .i64 0, .int .i64 0, .int .u64 0]
/-- Nothing that was there has turned but the block g. -/
def But (g : Nat) (w w' : World) : Prop := w.grownBy w' (some g)
theorem but_set {g o : Nat} {w : World} (v : Value) : But g w (w.setCell ⟨g, o, none⟩ v) :=
  ⟨rfl, rfl, rfl, by simp, fun k _ hn => Below.heap_setCell w ⟨g, o, none⟩ v k (fun e => hn (congrArg some e))⟩
theorem But.fr {g : Nat} {a b c : World} (h : But g a b) (k : Fr b c) : But g a c :=
  ⟨k.os.trans h.os, k.tape.trans h.tape, k.output.trans h.output, Nat.le_trans h.size k.size, fun i hi hn => (k.block i (Nat.lt_of_lt_of_le hi h.size)).trans (World.grownBy.block h i hi hn)⟩
theorem But.call {g : Nat} {a b c : World} (h : But g a b) (k : But g b c) : But g a c :=
  ⟨k.os.trans h.os, k.tape.trans h.tape, k.output.trans h.output, Nat.le_trans h.size k.size, fun i hi hn => (World.grownBy.block k i (Nat.lt_of_lt_of_le hi h.size) hn).trans (World.grownBy.block h i hi hn)⟩
theorem but_cell {g o : Nat} {w w' : World} (h : w'.heap[g]? = w.heap[g]?) : w'.cell? ⟨g, o, none⟩ = w.cell? ⟨g, o, none⟩ := by unfold World.cell?; rw [h]
theorem but_frozen {g o : Nat} {w w' : World} (h : w'.heap[g]? = w.heap[g]?) : w'.frozen? ⟨g, o, none⟩ = w.frozen? ⟨g, o, none⟩ := by unfold World.frozen?; rw [h]
theorem ta_nil (w : World) : (Instr.typeAssert .nilIface 20 126 true).run Tryz.prog w = .ok (.tuple #[.agg didZ, .bool false]) w := by kernel_rfl
/-- The deferred closure in a frame that returns. -/
def CaughtIdle : Prop := ∀ (g : Nat) (t : TypeId) (v0 v1 v2 : Value) (w : World), Bk w g t #[v0, v1, v2] →
  CallsD Tryz.prog 118 #[.pointer (some ⟨g, 0, none⟩)] .returning w fun e u' w' => e = .returned (.tuple #[]) ∧ u' = .returning ∧ But g w w' ∧ Bk w' g t didZ
set_option maxRecDepth 100000 in
set_option maxHeartbeats 3200000 in
theorem caught_idle : CaughtIdle := by
  intro g t v0 v1 v2 w h
  have h0 : w.cell? ⟨g, 0, none⟩ = some v0 := h.cell 0
  have h1 : w.cell? ⟨g, 1, none⟩ = some v1 := h.cell 1
  have h2 : w.cell? ⟨g, 2, none⟩ = some v2 := h.cell 2
  have f0 := h.free 0
  have f1 := h.free 1
  have f2 := h.free 2
  have zg := lt_of_cell h0
  have KB := Lib.hid (((but_set (g := g) (o := 0) (w := w) (.int .i64 0)).call (but_set (o := 1) (.int .i64 0))).call (but_set (o := 2) (.int .u64 0)))
  have K0 := Lib.hid (((h.set 0 (.int .i64 0)).set 1 (.int .i64 0)).set 2 (.int .u64 0))
  refine callsD_of_wpS Tryz.func118 rfl fun c₀ cs hu => ?_
  apply wpS_region
  simp [wpOpsS, go_sem, recoverD, hu, Tryz.ntmps118, Exit.thenS, ta_nil, didZ, h0, h1, h2, f0, f1, f2]
  have k0 := K0.out
  have kb := KB.out
  generalize ((w.setCell ⟨g, 0, none⟩ (.int .i64 0)).setCell ⟨g, 1, none⟩ (.int .i64 0)).setCell ⟨g, 2, none⟩ (.int .u64 0) = W at *
  clear K0 KB h0 h1 h2 f0 f1 f2
  cases c₀
  simp only at hu
  subst hu
  simp [bodyPostS, results, Tryz.results118]
  exact ⟨kb, k0⟩
theorem bk3 {w : World} {g : Nat} {t : TypeId} {cs : Array Value} (h : Bk w g t cs) (hs : cs.size = 3) : ∃ a b c, Bk w g t #[a, b, c] := by
  obtain ⟨l⟩ := cs
  match l, hs with
  | [a, b, c], _ => exact ⟨a, b, c, h⟩
set_option maxHeartbeats 6400000 in
set_option maxRecDepth 100000 in
theorem caught_ret (g : FuncId) (ys us : Array Value) (eg : ∀ args w, (callFunc g args).run Tryz.prog w = .ok (.enter g args) w) (w : World) (R : World → Prop) (t : TypeId)
    (hC : Calls Tryz.prog g (ys ++ us) (w.alloc (.cells didZ 126)) fun e w2 => (∃ v, e = .returned v) ∧ (∃ cs, Bk w2 w.heap.size t cs ∧ cs.size = 3) ∧ R w2) :
    Calls Tryz.prog 51 #[.func (.func g) ys us] w fun e w' => e = .returned (.tuple #[.agg didZ, .bool true]) ∧ ∃ w2, R w2 ∧ But w.heap.size w2 w' ∧ Bk w' w.heap.size t didZ := by
  have HC := Lib.hid hC
  clear hC
  go_enter_defers Tryz.func51, Tryz.ntmps51
  go_wp2_with fail
  refine HC.out.mono ?_
  rintro e w2 ⟨⟨v, rfl⟩, ⟨cs, hb, hs⟩, hr⟩
  have HR := Lib.hid hr
  obtain ⟨v0, v1, v2, hb⟩ := bk3 hb hs
  have HB := Lib.hid hb
  have h0 : w2.cell? ⟨w.heap.size, 0, none⟩ = some v0 := hb.cell 0
  have h1 : w2.cell? ⟨w.heap.size, 1, none⟩ = some v1 := hb.cell 1
  have h2 : w2.cell? ⟨w.heap.size, 2, none⟩ = some v2 := hb.cell 2
  have f0 := hb.free 0
  have f1 := hb.free 1
  have f2 := hb.free 2
  have zg := lt_of_cell h0
  have hmf : ∀ (fn : Fn) (first cap : Array Value) (w : World), (Instr.makeFunc fn first cap).run Tryz.prog w = .ok (.func fn first cap) w := fun _ _ _ _ => rfl
  have KB := Lib.hid (((but_set (g := w.heap.size) (o := 0) (w := w2) (.int .i64 0)).call (but_set (o := 1) (.int .i64 0))).call (but_set (o := 2) (.int .u64 0)))
  clear hb hr HC
  go_wp2_with fail
  have k0 := ((HB.out.set 0 (.int .i64 0)).set 1 (.int .i64 0)).set 2 (.int .u64 0)
  refine leaves_cons (f := 118) (args := #[.pointer (some ⟨w.heap.size, 0, none⟩)]) (by simp) (by simp [go_sem]) ?_
  refine (caught_idle w.heap.size t _ _ _ _ k0).mono ?_
  rintro e u' w'' ⟨rfl, rfl, hb, hk⟩
  have q0 : w''.cell? ⟨w.heap.size, 0, none⟩ = some (.int .i64 0) := hk.cell 0
  have q1 : w''.cell? ⟨w.heap.size, 1, none⟩ = some (.int .i64 0) := hk.cell 1
  have q2 : w''.cell? ⟨w.heap.size, 2, none⟩ = some (.int .u64 0) := hk.cell 2
  refine ⟨.tuple #[.agg didZ, .bool true], by simp [results, Tryz.results51, go_sem, q0, q1, q2, didZ], rfl, w2, HR.out, KB.out.call hb, hk⟩
end Go.Proofs.YtigbldheclnmeaaGreatDoor
