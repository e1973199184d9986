/- The reader's Parse: the walk. -/
import Derived.Test.YtonlmennpbklgaaDoorSx
import Derived.Recover
namespace Go.Proofs.YtonlmennpbklgaaDoor
open Go.RowKit
set_option linter.unusedSimpArgs false
set_option linter.unusedVariables false

theorem trees_all (p : Nat) (s : ByteArray) (hs : s.size ≤ 262144) (hp5 : 5 < p) : ∀ N, TreesC p s N
  | 0 => trees_of p 0 s hs hp5 (tree_zero p s)
  | N + 1 => trees_of p (N + 1) s hs hp5 (tree_of p N s (by omega) hp5 (trees_all p s hs hp5 N))
/-- What Parse answers: the machine's trees, or its place and error. -/
def PsPost (s : ByteArray) (w : World) (e : Ending) (w' : World) : Prop :=
  Fr w w' ∧ ((∃ (a : Nat) (er : Int), e = .returned (.tuple #[.slice none 0 0, .int .i64 (a : Int), .int .i64 er]) ∧ run s.data.toList 0 [[]] 0 = .err a er) ∨
    (∃ (l : List T) (A : Option Addr) (c : Nat), e = .returned (.tuple #[.slice A l.length c, .int .i64 0, .int .i64 0]) ∧ l.length ≤ c ∧ RdL w' (New w w') A l ∧ run s.data.toList 0 [[]] 0 = .ok l))
/-- What the deferred closure does to a frame that panics; to one that returns. -/
def CatchPan : Prop := ∀ (b0 b1 b2 : Nat) (a er x1 x2 : Int) (v0 : Value) (older : List PanicEntry) (w : World), Bk w b0 23 #[v0] → Bk w b1 3 #[.int .i64 x1] → Bk w b2 26 #[.int .i64 x2] → b0 ≠ b1 → b0 ≠ b2 → b1 ≠ b2 →
  CallsD Tryd.prog 14 #[.pointer (some ⟨b0, 0, none⟩), .pointer (some ⟨b1, 0, none⟩), .pointer (some ⟨b2, 0, none⟩)] (.panicking ({ v := .iface 45 (.agg #[.int .i64 a, .int .i64 er]), recovered := false } :: older)) w fun e u' w' =>
    e = .returned (.tuple #[]) ∧ u' = .panicking ({ v := .iface 45 (.agg #[.int .i64 a, .int .i64 er]), recovered := true } :: older) ∧ Bk w' b0 23 #[.slice none 0 0] ∧ Bk w' b1 3 #[.int .i64 a] ∧ Bk w' b2 26 #[.int .i64 er] ∧
      (∀ W : World, Fr W w → W.heap.size ≤ b0 → W.heap.size ≤ b1 → W.heap.size ≤ b2 → Fr W w')
def CatchIdle : Prop := ∀ (b0 b1 b2 : Nat) (w : World),
  CallsD Tryd.prog 14 #[.pointer (some ⟨b0, 0, none⟩), .pointer (some ⟨b1, 0, none⟩), .pointer (some ⟨b2, 0, none⟩)] .returning w fun e u' w' => e = .returned (.tuple #[]) ∧ u' = .returning ∧ Fr w w'
theorem psB (w : World) : Bk (((w.alloc (.cells #[.slice none 0 0] 23)).alloc (.cells #[.int .i64 0] 3)).alloc (.cells #[.int .i64 0] 26)) w.heap.size 23 #[.slice none 0 0] ∧ Bk (((w.alloc (.cells #[.slice none 0 0] 23)).alloc (.cells #[.int .i64 0] 3)).alloc (.cells #[.int .i64 0] 26)) (w.heap.size + 1) 3 #[.int .i64 0] ∧ Bk (((w.alloc (.cells #[.slice none 0 0] 23)).alloc (.cells #[.int .i64 0] 3)).alloc (.cells #[.int .i64 0] 26)) (w.heap.size + 1 + 1) 26 #[.int .i64 0] := by
  have h1 := Bk.new w 23 #[.slice none 0 0]
  have h2 := Bk.new (w.alloc (.cells #[.slice none 0 0] 23)) 3 #[.int .i64 0]
  have h3 := Bk.new ((w.alloc (.cells #[.slice none 0 0] 23)).alloc (.cells #[.int .i64 0] 3)) 26 #[.int .i64 0]
  rw [show (w.alloc (.cells #[.slice none 0 0] 23)).heap.size = w.heap.size + 1 by simp] at h2
  rw [show ((w.alloc (.cells #[.slice none 0 0] 23)).alloc (.cells #[.int .i64 0] 3)).heap.size = w.heap.size + 1 + 1 by simp] at h3
  exact ⟨(h1.alloc _).alloc _, h2.alloc _, h3⟩
set_option maxHeartbeats 6400000 in
set_option maxRecDepth 100000 in
theorem parse_long (s : ByteArray) (w : World) (hs : 262144 < s.size) (hs2 : s.size ≤ maxLen) :
    Calls Tryd.prog 8 #[.string s] w fun e w' => e = .returned (.tuple #[.slice none 0 0, .int .i64 0, .int .i64 33]) ∧ Fr w w' := by
  unfold maxLen at hs2
  have hs3 : decide ((262144 : Int) < (s.size : Int)) = true := by simp; omega
  have HS := Lib.hid hs
  clear hs
  go_enter_defers Tryd.func8, Tryd.ntmps8
  go_wp2
  exact ⟨.tuple #[.slice none 0 0, .int .i64 0, .int .i64 33], by simp [results, Tryd.results8, go_sem], rfl, (((Fr.refl w).alloc _).alloc _).alloc _⟩
set_option maxHeartbeats 6400000 in
set_option maxRecDepth 100000 in
theorem parse_any (hcp : CatchPan) (hci : CatchIdle) (s : ByteArray) (w : World) (hs : s.size ≤ 262144) (hw5 : 5 < w.heap.size) (hla : Laid w) :
    Calls Tryd.prog 8 #[.string s] w fun e w' => PsPost s w e w' := by
  have hmf : ∀ (fn : Fn) (first cap : Array Value) (w : World), (Instr.makeFunc fn first cap).run Tryd.prog w = .ok (.func fn first cap) w := fun _ _ _ _ => rfl
  have hs3 : decide ((262144 : Int) < (s.size : Int)) = false := by simp; omega
  have hs4 : (s.size : Int) ≤ 300000 := by omega
  have HS := Lib.hid hs
  have HLA := Lib.hid hla
  have HCP := Lib.hid hcp
  have HCI := Lib.hid hci
  have HW5 := Lib.hid hw5
  clear hs hla hcp hci hw5
  go_enter_defers Tryd.func8, Tryd.ntmps8
  go_wp2_with fail
  obtain ⟨k0, k1, k2⟩ := psB w
  have hB4 := Bk.new (((w.alloc (.cells #[.slice none 0 0] 23)).alloc (.cells #[.int .i64 0] 3)).alloc (.cells #[.int .i64 0] 26)) 48 #[.string s, .int .i64 0, .int .i64 0]
  rw [show (((w.alloc (.cells #[.slice none 0 0] 23)).alloc (.cells #[.int .i64 0] 3)).alloc (.cells #[.int .i64 0] 26)).heap.size = w.heap.size + 1 + 1 + 1 by simp] at hB4
  have hf4 : Fr w ((((w.alloc (.cells #[.slice none 0 0] 23)).alloc (.cells #[.int .i64 0] 3)).alloc (.cells #[.int .i64 0] 26)).alloc (.cells #[.string s, .int .i64 0, .int .i64 0] 48)) := (((Fr.refl w).alloc _).alloc _).alloc _ |>.alloc _
  have hz4 : ((((w.alloc (.cells #[.slice none 0 0] 23)).alloc (.cells #[.int .i64 0] 3)).alloc (.cells #[.int .i64 0] 26)).alloc (.cells #[.string s, .int .i64 0, .int .i64 0] 48)).heap.size = w.heap.size + 1 + 1 + 1 + 1 := by simp
  have K0 := Lib.hid (k0.alloc (.cells #[.string s, .int .i64 0, .int .i64 0] 48))
  have K1 := Lib.hid (k1.alloc (.cells #[.string s, .int .i64 0, .int .i64 0] 48))
  have K2 := Lib.hid (k2.alloc (.cells #[.string s, .int .i64 0, .int .i64 0] 48))
  have HB4 := Lib.hid hB4
  have HF4 := Lib.hid hf4
  have HZ4 := Lib.hid hz4
  clear k0 k1 k2 hB4 hf4 hz4
  generalize (((w.alloc (.cells #[.slice none 0 0] 23)).alloc (.cells #[.int .i64 0] 3)).alloc (.cells #[.int .i64 0] 26)).alloc (.cells #[.string s, .int .i64 0, .int .i64 0] 48) = W4 at *
  refine ((trees_all (w.heap.size + 1 + 1 + 1) s HS.out (by have := HW5.out; omega) s.size) 0 0 0 W4 (Nat.zero_le _) (by omega) (by omega) (by omega) HB4.out (HLA.out.wr (p := w.heap.size + 1 + 1 + 1) (Wr.of HF4.out) (by have := HW5.out; omega))).mono ?_
  rintro e w5 (⟨a, er, he, hw, hr⟩ | ⟨l, A, c, rfl, hlc, hrd, hw, h0, _⟩)
  · unfold PanW at he
    subst he
    have HFW := Lib.hid (show Fr w w5 from Below.grown HF4.out hw HF4.out.size (fun k hk => by injection hk with hk; omega))
    have J0 := Lib.hid (K0.out.wr hw (by omega))
    have J1 := Lib.hid (K1.out.wr hw (by omega))
    have J2 := Lib.hid (K2.out.wr hw (by omega))
    have HR := Lib.hid (hr [] rfl)
    clear hw hr
    go_wp2
    refine leaves_cons (f := 14) (args := #[.pointer (some ⟨w.heap.size, 0, none⟩), .pointer (some ⟨w.heap.size + 1, 0, none⟩), .pointer (some ⟨w.heap.size + 1 + 1, 0, none⟩)]) (by simp) (by simp [go_sem]) ?_
    refine (HCP.out _ _ _ _ _ _ _ _ [] _ J0.out J1.out J2.out (by omega) (by omega) (by omega)).mono ?_
    rintro e u' w'' ⟨rfl, rfl, r0, r1, r2, hfr⟩
    have q0 := r0.cell 0
    have q1 := r1.cell 0
    have q2 := r2.cell 0
    refine ⟨.tuple #[.slice none 0 0, .int .i64 (a : Int), .int .i64 er], by simp at q0 q1 q2; simp [results, Tryd.results8, go_sem, q0, q1, q2], hfr w HFW.out (Nat.le_refl _) (by omega) (by omega), .inl ⟨a, er, rfl, HR.out⟩⟩
  · have HFW := Lib.hid (show Fr w w5 from Below.grown HF4.out hw HF4.out.size (fun k hk => by injection hk with hk; omega))
    have j0 := K0.out.wr hw (by omega)
    have j1 := K1.out.wr hw (by omega)
    have j2 := K2.out.wr hw (by omega)
    have J0 := Lib.hid (((j0.set 0 (.slice A l.length c)).far (p := ⟨w.heap.size + 1, 0, none⟩) (by simp) (.int .i64 0)).far (p := ⟨w.heap.size + 1 + 1, 0, none⟩) (by simp; omega) (.int .i64 0))
    have J1 := Lib.hid (((j1.far (p := ⟨w.heap.size, 0, none⟩) (by simp) (.slice A l.length c)).set 0 (.int .i64 0)).far (p := ⟨w.heap.size + 1 + 1, 0, none⟩) (by simp) (.int .i64 0))
    have J2 := Lib.hid (((j2.far (p := ⟨w.heap.size, 0, none⟩) (by simp; omega) (.slice A l.length c)).far (p := ⟨w.heap.size + 1, 0, none⟩) (by simp) (.int .i64 0)).set 0 (.int .i64 0))
    have g0 : w5.cell? ⟨w.heap.size, 0, none⟩ = some (.slice none 0 0) := j0.cell 0
    have g1 : w5.cell? ⟨w.heap.size + 1, 0, none⟩ = some (.int .i64 0) := j1.cell 0
    have g2 : w5.cell? ⟨w.heap.size + 1 + 1, 0, none⟩ = some (.int .i64 0) := j2.cell 0
    have g3 := j0.free 0
    have g4 := j1.free 0
    have g5 := j2.free 0
    have HRD := Lib.hid hrd
    have HLC := Lib.hid hlc
    have H0 := Lib.hid (h0 rfl)
    have HSZ := Lib.hid (Wr.size hw)
    clear hw hrd h0 j0 j1 j2 hlc
    go_wp2
    refine leaves_cons (f := 14) (args := #[.pointer (some ⟨w.heap.size, 0, none⟩), .pointer (some ⟨w.heap.size + 1, 0, none⟩), .pointer (some ⟨w.heap.size + 1 + 1, 0, none⟩)]) (by simp) (by simp [go_sem]) ?_
    refine (HCI.out _ _ _ _).mono ?_
    rintro e u' w'' ⟨rfl, rfl, hfr⟩
    have q0 := (J0.out.fr hfr).cell 0
    have q1 := (J1.out.fr hfr).cell 0
    have q2 := (J2.out.fr hfr).cell 0
    refine ⟨.tuple #[.slice A l.length c, .int .i64 0, .int .i64 0], by simp at q0 q1 q2; simp [results, Tryd.results8, go_sem, q0, q1, q2], ((HFW.out.set (p := ⟨w.heap.size, 0, none⟩) (Nat.le_refl _) _).set (p := ⟨w.heap.size + 1, 0, none⟩) (by simp) _ |>.set (p := ⟨w.heap.size + 1 + 1, 0, none⟩) (by simp; omega) _).call hfr, .inr ⟨l, A, c, rfl, HLC.out, ?_, H0.out⟩⟩
    refine RdL.mono (fun b hb => ⟨?_, ?_⟩) (fun b hb => ?_) HRD.out
    · have h4 := hb.1
      rw [HZ4.out] at h4
      rw [hfr.block b (by simp; exact hb.2), Below.heap_setCell _ _ _ _ (by simp; omega), Below.heap_setCell _ _ _ _ (by simp; omega), Below.heap_setCell _ _ _ _ (by simp; omega)]
    · have := hb.1; have := HF4.out.size; omega
    · have := hb.2; have := hfr.size; simp at this; omega
end Go.Proofs.YtonlmennpbklgaaDoor
