/- The printer's tree, but for lists. -/
import Derived.Test.YtonlmennpbklgaaDoorTd
import Derived.Test.YtonlmennpbklgaaDoorSr
import Derived.Test.YtonlmennpbklgaaDoorSga
namespace Go.Proofs.YtonlmennpbklgaaDoor
open Go.RowKit
set_option linter.unusedSimpArgs false
set_option linter.unusedVariables false

mutual
/-- No word is longer. -/
def smT (m : Nat) : T → Prop
  | .node _ s _ ks => s.size ≤ m ∧ smL m ks
def smL (m : Nat) : List T → Prop
  | [] => True
  | t :: r => smT m t ∧ smL m r
end
theorem prR_snoc : ∀ (l : List T) (t : T), prR (l ++ [t]) = prR l ++ 32 :: prT t
  | [], t => by simp [prR]
  | x :: r, t => by rw [List.cons_append, prR_cons, prR_cons, prR_snoc r t]; simp
theorem prR_app : ∀ (l m : List T), prR (l ++ m) = prR l ++ prR m
  | [], m => by simp [prR]
  | x :: r, m => by rw [List.cons_append, prR_cons, prR_cons, prR_app r m]; simp
theorem prK_cons (t : T) (r : List T) : prK (t :: r) = prT t ++ prR r := by conv => lhs; unfold prK
theorem prK_app {a : List T} (b : List T) (h : a ≠ []) : prK (a ++ b) = prK a ++ prR b := by
  cases a with
  | nil => exact absurd rfl h
  | cons t r => rw [List.cons_append, prK_cons, prK_cons, prR_app]; simp
/-- A tree, as a value. -/
abbrev tva (k : Int) (s : ByteArray) (n : Int) (A : Option Addr) (m c : Nat) : Value := .agg #[.int .i64 k, .string s, .int .i64 n, .slice A m c]
/-- The world in which the trees lie; the printer's own above it. -/
structure Pw (W0 w : World) (p : Nat) : Prop where
  fr : Fr W0 w
  low : W0.heap.size ≤ p
  five : 5 < W0.heap.size
  laid : Laid W0
theorem Pw.next {W0 w w' : World} {p : Nat} (h : Pw W0 w p) (k : Old p w w') : Pw W0 w' p := ⟨k.old W0 h.fr h.low, h.low, h.five, h.laid⟩
theorem Pw.laid_now {W0 w : World} {p : Nat} (h : Pw W0 w p) : Laid w := h.laid.wr (p := W0.heap.size) (Wr.of h.fr) h.five
theorem Pn.alloc {w : World} {p k : Nat} {bs : List UInt8} (h : Pn w p bs k) (o : Obj) : Pn (w.alloc o) p bs k := by
  obtain ⟨a, v, hb, ha, ho⟩ := h.holds
  exact ⟨a, v, hb.alloc o, ha, ho.alloc o⟩
theorem Pn.fr {w w' : World} {p k : Nat} {bs : List UInt8} (h : Pn w p bs k) (f : Fr w w') : Pn w' p bs k := by
  obtain ⟨a, v, hb, ha, ho⟩ := h.holds
  refine ⟨a, v, hb.fr f, ha, World.ownsRow.kept ho (row := none) ⟨f.os, f.tape, f.output, f.size, fun i hi _ => f.block i hi⟩ ?_⟩
  cases hv : v.ownBlock
  · exact .inl rfl
  · exact .inr (by simp)
theorem Pn.count {w : World} {p k : Nat} {bs : List UInt8} (h : Pn w p bs k) (j : Nat) : Pn (w.setCell ⟨p, 2, none⟩ (.int .i64 (j : Int))) p bs j := by
  obtain ⟨a, v, hb, ha, ho⟩ := h.holds
  exact ⟨a, v, hb.set 2 _, ha, own_setp ho⟩
theorem PutP.later {p : Nat} {bs xs : List UInt8} {k : Nat} {w w1 w' : World} {e : Ending} (h : PutP p bs xs k w1 e w') (o : Old p w w1) : PutP p bs xs k w e w' := by
  rcases h with ⟨h1, h2, h3, h4⟩ | ⟨h1, h2, h3⟩
  · exact .inl ⟨h1, h2, h3, o.trans h4⟩
  · exact .inr ⟨h1, h2, o.trans h3⟩
def PTreeC (p N : Nat) : Prop := ∀ (W0 w : World) (F : Nat → Prop) (kd n : Int) (s : ByteArray) (ks : List T) (A : Option Addr) (c d k : Nat) (bs : List UInt8), cntT (.node kd s n ks) ≤ N → Pw W0 w p → Pn w p bs k → soT (.node kd s n ks) → smT 300000 (.node kd s n ks) → RdL W0 F A ks → (∀ b, F b → b < W0.heap.size) →
  k + cntT (.node kd s n ks) ≤ 65536 → d + depL [.node kd s n ks] ≤ 32 → bs.length ≤ 262144 →
  Calls Tryd.prog 21 #[.pointer (some ⟨p, 0, none⟩), tva kd s n A ks.length c, .int .i64 (d : Int)] w fun e w' => PutP p bs (prT (.node kd s n ks)) (k + cntT (.node kd s n ks)) w e w'
def PListC (p N : Nat) : Prop := ∀ (W0 w : World) (F : Nat → Prop) (ks : List T) (A : Option Addr) (c d k : Nat) (bs : List UInt8), cntL ks ≤ N → Pw W0 w p → Pn w p bs k → soL ks → smL 300000 ks → RdL W0 F A ks → (∀ b, F b → b < W0.heap.size) →
  k + cntL ks ≤ 65536 → d + depL ks ≤ 32 → bs.length ≤ 262144 →
  Calls Tryd.prog 34 #[.pointer (some ⟨p, 0, none⟩), .slice A ks.length c, .int .i64 (d : Int)] w fun e w' => PutP p bs (40 :: (prK ks ++ [41])) (k + cntL ks) w e w'
/-- The world in which tree has boxed its tree and counted it. -/
theorem boxed {w : World} {p k : Nat} {bs : List UInt8} (h : Pn w p bs k) (cs : Array Value) : Pn ((w.setCell ⟨p, 2, none⟩ (.int .i64 ((k : Int) + 1))).alloc (.cells cs 38)) p bs (k + 1) ∧ Old p w ((w.setCell ⟨p, 2, none⟩ (.int .i64 ((k : Int) + 1))).alloc (.cells cs 38)) := by
  have h1 := h.count (k + 1)
  rw [show ((k + 1 : Nat) : Int) = (k : Int) + 1 by omega] at h1
  exact ⟨h1.alloc _, Old.setp.trans (Old.fr ((Fr.refl _).alloc _))⟩
/-- The boxed tree stays. -/
theorem box_kept {p : Nat} {w w' : World} {cs : Array Value} {v : Value} (hp : p < w.heap.size) (h : Old p ((w.setCell ⟨p, 2, none⟩ v).alloc (.cells cs 38)) w') : Bk w' w.heap.size 38 cs := by
  have hb := Bk.new (w.setCell ⟨p, 2, none⟩ v) 38 cs
  rw [show (w.setCell ⟨p, 2, none⟩ v).heap.size = w.heap.size by simp] at hb
  unfold Bk at hb ⊢
  rw [h.kp w.heap.size (by simp) (by omega) (fun cs' z e => by rw [hb] at e; injection e with e; injection e with _ e; cases e)]
  exact hb
theorem Pn.cells {w : World} {p k : Nat} {bs : List UInt8} (h : Pn w p bs k) : w.cell? ⟨p, 2, none⟩ = some (.int .i64 (k : Int)) ∧ w.frozen? ⟨p, 2, none⟩ = false ∧ p < w.heap.size := by
  obtain ⟨a, v, hb, _, _⟩ := h.holds
  exact ⟨hb.cell 2, hb.free 2, hb.lt⟩
set_option maxHeartbeats 3200000 in
set_option maxRecDepth 100000 in
theorem ptree_word (p : Nat) (w : World) (s : ByteArray) (A : Option Addr) (m c d k : Nat) (bs : List UInt8) (hp : Pn w p bs k) (hs : s.size ≤ 1100000) (hk : k + 1 ≤ 65536) (hl : bs.length ≤ 262144) :
    Calls Tryd.prog 21 #[.pointer (some ⟨p, 0, none⟩), tva 1 s 0 A m c, .int .i64 (d : Int)] w fun e w' => PutP p bs s.data.toList (k + 1) w e w' := by
  obtain ⟨hb1, hold⟩ := boxed hp #[.int .i64 1, .string s, .int .i64 0, .slice A m c]
  have HP := Lib.hid (put_any p (k + 1) bs s _ hb1 hl (by unfold maxLen; omega))
  have HO := Lib.hid hold
  obtain ⟨c2, f2, lp⟩ := hp.cells
  have dk : decide ((65536 : Int) < (k : Int) + 1) = false := by rw [decide_eq_false_iff_not]; omega
  have hk2 : (k : Int) ≤ 70000 := by omega
  clear hb1 hold hp hk
  go_enter Tryd.func21, Tryd.ntmps21
  go_wp2_with fail
  refine (HP.out).mono ?_
  rintro e w1 (⟨g1, rfl, g3, g4⟩ | ⟨g1, rfl, g4⟩)
  · have R := Lib.hid (show PutP p bs s.data.toList (k + 1) w (.returned (.bool true)) w1 from .inl ⟨g1, rfl, g3, HO.out.trans g4⟩)
    clear g1 g3 g4
    go_wp2
    go_ret
    exact R.out
  · have R := Lib.hid (show PutP p bs s.data.toList (k + 1) w (.returned (.bool false)) w1 from .inr ⟨g1, rfl, HO.out.trans g4⟩)
    clear g1 g4
    go_wp2
    go_ret
    exact R.out
set_option maxHeartbeats 3200000 in
set_option maxRecDepth 100000 in
theorem ptree_num (p : Nat) (W0 w : World) (n : Int) (A : Option Addr) (m c d k : Nat) (bs : List UInt8) (hw : Pw W0 w p) (hp : Pn w p bs k) (hn : okN n) (hk : k + 1 ≤ 65536) (hl : bs.length ≤ 262144) :
    Calls Tryd.prog 21 #[.pointer (some ⟨p, 0, none⟩), tva 2 ⟨#[]⟩ n A m c, .int .i64 (d : Int)] w fun e w' => PutP p bs (Lib.itoa n) (k + 1) w e w' := by
  obtain ⟨hb1, hold⟩ := boxed hp #[.int .i64 2, .string ⟨#[]⟩, .int .i64 n, .slice A m c]
  unfold okN at hn
  have hsz : (Lib.itoa n).length ≤ 30 := by
    unfold Lib.itoa
    split
    · have := dec_len (u := n.natAbs) (by omega); simp; omega
    · have := dec_len (u := n.toNat) (by omega); omega
  have HN := Lib.hid hb1
  have HI := Lib.hid (itoa_any n (by omega) (by omega) _ ((hw.next hold).laid_now))
  have HO := Lib.hid hold
  have HP := Lib.hid (fun w' (h : Pn w' p bs (k + 1)) => put_any p (k + 1) bs ⟨(Lib.itoa n).toArray⟩ w' h hl (by show (Lib.itoa n).toArray.size ≤ _; unfold maxLen; simp; omega))
  obtain ⟨c2, f2, lp⟩ := hp.cells
  have dk : decide ((65536 : Int) < (k : Int) + 1) = false := by rw [decide_eq_false_iff_not]; omega
  have hk2 : (k : Int) ≤ 70000 := by omega
  clear hb1 hold hp hk hw hsz
  go_enter Tryd.func21, Tryd.ntmps21
  go_wp2_with fail
  refine (HI.out).mono ?_
  rintro e w0 ⟨rfl, hf⟩
  have HF := Lib.hid hf
  clear hf
  go_wp2_with fail
  refine (HP.out w0 (HN.out.fr HF.out)).mono ?_
  rintro e w1 (⟨g1, rfl, g3, g4⟩ | ⟨g1, rfl, g4⟩)
  · have R := Lib.hid (show PutP p bs (Lib.itoa n) (k + 1) w (.returned (.bool true)) w1 from .inl ⟨g1, rfl, g3, (HO.out.trans (Old.fr HF.out)).trans g4⟩)
    clear g1 g3 g4
    go_wp2
    go_ret
    exact R.out
  · have R := Lib.hid (show PutP p bs (Lib.itoa n) (k + 1) w (.returned (.bool false)) w1 from .inr ⟨g1, rfl, (HO.out.trans (Old.fr HF.out)).trans g4⟩)
    clear g1 g4
    go_wp2
    go_ret
    exact R.out
end Go.Proofs.YtonlmennpbklgaaDoor
