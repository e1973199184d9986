/- Sums as the program reckons with them: a number, a normal sum handed in. -/
import Derived.Test.YtbnaakognnkhdaaDoorZdd
namespace Go.Proofs.YtbnaakognnkhdaaDoor
open Go.RowKit
set_option linter.unusedSimpArgs false
set_option linter.unusedVariables false

/-- The block q holds a sum: its map, its number; nothing else but S has turned since W. -/
structure SAt (S : Nat → Prop) (W : World) (q : Nat) (mb : Option Nat) (P : List (ByteArray × Int)) (off : Int) (wr : World) : Prop where
  map : MapP wr mb P
  c0 : wr.cell? ⟨q, 0, none⟩ = some (.map mb)
  c1 : wr.cell? ⟨q, 1, none⟩ = some (.int .i64 off)
  f0 : wr.frozen? ⟨q, 0, none⟩ = false
  f1 : wr.frozen? ⟨q, 1, none⟩ = false
  new : ∀ b, mb = some b → S b ∨ W.heap.size ≤ b
  own : S q ∨ W.heap.size ≤ q
  kp : Kp S W wr
theorem SAt.count {S : Nat → Prop} {W wr w' : World} {q : Nat} {mb mb' : Option Nat} {P Q : List (ByteArray × Int)} {off : Int} (h : SAt S W q mb P off wr) (k : CntP q mb Q wr w' mb') : SAt S W q mb' Q off w' := by
  refine ⟨k.map, k.c0, k.rest.1.trans h.c1, k.f0, k.rest.2.trans h.f1, fun b e => ?_, h.own, ⟨k.kp.os.trans h.kp.os, k.kp.tape.trans h.kp.tape, k.kp.output.trans h.kp.output, Nat.le_trans h.kp.size k.kp.size, fun g hg hs => (k.kp.block g (Nat.lt_of_lt_of_le hg h.kp.size) fun hh => ?_).trans (h.kp.block g hg hs)⟩⟩
  · rcases k.same with hs | ⟨_, b', hb', hl⟩
    · exact h.new b (hs ▸ e)
    · rw [hb'] at e
      injection e with e
      subst e
      exact .inr (Nat.le_trans h.kp.size hl)
  · rcases hh with rfl | hh
    · rcases h.own with h1 | h1
      · exact hs h1
      · omega
    · rcases h.new g hh with h1 | h1
      · exact hs h1
      · omega
theorem SAt.fr {S : Nat → Prop} {W wr w' : World} {q : Nat} {mb : Option Nat} {P : List (ByteArray × Int)} {off : Int} (h : SAt S W q mb P off wr) (k : Fr wr w') : SAt S W q mb P off w' :=
  ⟨h.map.fr k, k.get h.c0, k.get h.c1, k.free h.c0 h.f0, k.free h.c1 h.f1, h.new, h.own, h.kp.fr k⟩
/-- A sum by itself: its map is new, if it has one. -/
def SumV (w w' : World) (v : Value) (P : List (ByteArray × Int)) (off : Int) : Prop := ∃ mb, v = .agg #[.map mb, .int .i64 off] ∧ MapP w' mb P ∧ ∀ b, mb = some b → w.heap.size ≤ b
set_option maxHeartbeats 400000 in
theorem number_any (n : Int) (w : World) : Calls Tryd.prog 25 #[.int .i64 n] w fun e w' => e = .returned (.agg #[.map none, .int .i64 n]) ∧ Fr w w' := by
  go_enter Tryd.func25, Tryd.ntmps25
  go_wp2
  exact bodyPost_ret (v := .agg #[.map none, .int .i64 n]) (by simp [results, Tryd.results25, go_sem]) rfl ⟨rfl, by repeat (first | exact Fr.refl _ | apply Fr.alloc)⟩
theorem SAt.start {w : World} {off : Int} {t : TypeId} : SAt (fun g => g = w.heap.size) (w.alloc (.cells #[.map none, .int .i64 off] t)) w.heap.size none [] off (w.alloc (.cells #[.map none, .int .i64 off] t)) :=
  ⟨rfl, by simp [go_sem], by simp [go_sem], by simp [go_sem], by simp [go_sem], (fun b e => by cases e), .inl rfl, Kp.refl _ _⟩
theorem fsts_get {P : List (ByteArray × Int)} {k : Nat} (h : k < P.length) : (fsts P)[k]'(by simpa [fsts] using h) = P[k].1 := by simp [fsts]
theorem load_sum {w : World} {g : Nat} {x y : Value} (h0 : w.cell? ⟨g, 0, none⟩ = some x) (h1 : w.cell? ⟨g, 1, none⟩ = some y) : (loadVar 35 ⟨g, 0, none⟩).run Tryd.prog w = .ok (.agg #[x, y]) w := by
  simp [go_sem, *]
theorem sum_end {w w4 : World} {rb : Nat} {mb : Option Nat} {P : List (ByteArray × Int)} {off : Int} {x y : Value} (hn : w.heap.size ≤ rb) (hK : Fr w w4) (z0 : w4.cell? ⟨rb, 0, none⟩ = some x) (z1 : w4.cell? ⟨rb, 1, none⟩ = some y) (f0 : w4.frozen? ⟨rb, 0, none⟩ = false) (f1 : w4.frozen? ⟨rb, 1, none⟩ = false)
    (hm : MapP w4 mb P) (hnew : ∀ b, mb = some b → w.heap.size ≤ b) :
    ∃ w5, w5 = (w4.setCell ⟨rb, 0, none⟩ (.map mb)).setCell ⟨rb, 1, none⟩ (.int .i64 off) ∧ (loadVar 35 ⟨rb, 0, none⟩).run Tryd.prog w5 = .ok (.agg #[.map mb, .int .i64 off]) w5 ∧ SumV w w5 (.agg #[.map mb, .int .i64 off]) P off ∧ Fr w w5 := by
  refine ⟨_, rfl, load_sum ?_ ?_, ⟨mb, rfl, hm.keep fun b e => ?_, hnew⟩, (hK.set (p := ⟨rb, 0, none⟩) hn _).set (p := ⟨rb, 1, none⟩) hn _⟩
  · simp [go_sem, *]
  · simp [go_sem, *]
  · have hb : b ≠ rb := fun e2 => by
      subst e e2
      obtain ⟨es, clock, hb, _⟩ := hm
      simp [World.cell?, hb] at z0
    rw [Below.heap_setCell _ ⟨rb, 1, none⟩ _ b hb, Below.heap_setCell _ ⟨rb, 0, none⟩ _ b hb]
end Go.Proofs.YtbnaakognnkhdaaDoor
