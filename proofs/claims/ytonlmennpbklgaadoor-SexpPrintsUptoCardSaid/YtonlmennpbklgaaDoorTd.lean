/- The printer's builder: what it holds, what its calls do. -/
import Derived.Test.YtonlmennpbklgaaDoorTc
import Derived.Test.YtonlmennpbklgaaDoorSk
import Derived.Lib.AppendStr
import Derived.Lib.Builder
import Derived.Lib.UnsafeStr
namespace Go.Proofs.YtonlmennpbklgaaDoor
open Go.RowKit
set_option linter.unusedSimpArgs false
set_option linter.unusedVariables false

theorem infoBd : (Tryd.prog.info? 56).map (fun i => decide (i.size = 0)) = some false := by kernel_rfl
theorem infoBy : (Tryd.prog.info? 5).map (fun i => (i.zero, i.size, i.bytes)) = some (some (.int .u8 0), 1, 1) := by kernel_rfl
/-- The printer's block: the builder's two fields, how many trees. -/
structure Pn (w : World) (p : Nat) (bs : List UInt8) (k : Nat) : Prop where
  holds : ∃ a v, Bk w p 58 #[a, v, .int .i64 (k : Int)] ∧ (a = .pointer none ∨ a = .pointer (some ⟨p, 0, none⟩)) ∧ w.ownsRow (p + 1) 5 1 v bs.length (Lib.byteCells bs)
theorem bk_shape {w : World} {p : Nat} {t : TypeId} {cs : Array Value} (h : Bk w p t cs) : w.shape? p = some (t, cs.size) := by
  unfold Bk at h
  simp [World.shape?, h]
theorem own_val {w : World} {base : Nat} {e : TypeId} {v : Value} {n : Nat} {xs : List Value} (h : w.ownsRow base e 1 v n xs) : ∃ A c, v = .slice A n c := by
  rcases h.2 with ⟨hv, hn⟩ | ⟨g, cap, cur, hv, _⟩
  · subst hv hn; exact ⟨none, 0, rfl⟩
  · exact ⟨_, cap, hv⟩
set_option maxHeartbeats 1600000 in
theorem len_any (p k : Nat) (bs : List UInt8) (w : World) (h : Pn w p bs k) (hl : bs.length ≤ 300000) : Calls Tryd.prog 35 #[.pointer (some ⟨p, 0, none⟩)] w fun e w' => e = .returned (.int .i64 (bs.length : Int)) ∧ w = w' := by
  obtain ⟨a, v, hb, _, ho⟩ := h.holds
  obtain ⟨A, c, rfl⟩ := own_val ho
  have c1 : w.cell? ⟨p, 1, none⟩ = some (.slice A bs.length c) := hb.cell 1
  clear hb ho h
  go_enter Tryd.func35, Tryd.ntmps35
  go_wp2
  go_ret
  exact ⟨rfl, rfl⟩
set_option maxHeartbeats 1600000 in
set_option maxRecDepth 100000 in
theorem copy_used (p : Nat) (w : World) (h0 : w.cell? ⟨p, 0, none⟩ = some (.pointer (some ⟨p, 0, none⟩))) : Calls Tryd.prog 45 #[.pointer (some ⟨p, 0, none⟩)] w fun e w' => e = .returned (.tuple #[]) ∧ w' = w := by
  obtain ⟨j, hj, _⟩ := Option.map_eq_some_iff.1 infoBd
  go_enter Tryd.func45, Tryd.ntmps45
  go_wp2
  rw [Lib.run_neq_ptr_same w _ Tryd.underlying53 hj]
  go_wp2
  go_end0
  exact ⟨rfl, rfl⟩
set_option maxHeartbeats 1600000 in
set_option maxRecDepth 100000 in
theorem copy_fresh (p : Nat) (w : World) (a1 a2 : Value) (hb : Bk w p 58 #[.pointer none, a1, a2]) : Calls Tryd.prog 45 #[.pointer (some ⟨p, 0, none⟩)] w fun e w' => e = .returned (.tuple #[]) ∧ w' = w.setCell ⟨p, 0, none⟩ (.pointer (some ⟨p, 0, none⟩)) := by
  obtain ⟨j, hj, hjs⟩ := Option.map_eq_some_iff.1 infoBd
  have h0 : w.cell? ⟨p, 0, none⟩ = some (.pointer none) := hb.cell 0
  have hfz := hb.free 0
  have hsh := bk_shape hb
  have HB := Lib.hid hb
  clear hb
  go_enter Tryd.func45, Tryd.ntmps45
  go_wp2
  rw [Lib.run_to_unsafe w ⟨p, 0, none⟩ Tryd.underlying53 Tryd.underlying84 hj (by simpa using hjs) hsh (show (0 : Nat) < 3 from by decide)]
  simp only [Result.andThen]
  rw [Oper.upon_value]
  go_wp2
  rw [run_callFunc_extern Tryd.func53 (by kernel_rfl) (by kernel_rfl) (by kernel_rfl) (e := Extern.AbiNoEscape.same) (by kernel_rfl)]
  rw [Lib.run_noEscape]
  simp only [Result.andThen]
  rw [Oper.upon_value]
  go_wp2
  rw [Lib.run_from_unsafe w ⟨p, 0, none⟩ Tryd.underlying84 Tryd.underlying53 hj hsh (by kernel_rfl)]
  simp only [Result.andThen]
  rw [Oper.upon_value]
  go_wp2
  go_end0
  exact ⟨rfl, rfl⟩
/-- A used builder. -/
structure Pu (w : World) (p : Nat) (bs : List UInt8) (k : Nat) (v : Value) : Prop where
  bk : Bk w p 58 #[.pointer (some ⟨p, 0, none⟩), v, .int .i64 (k : Int)]
  own : w.ownsRow (p + 1) 5 1 v bs.length (Lib.byteCells bs)
/-- What is kept: what lies below the printer; and every block but the printer's own and those of bytes. -/
structure Old (p : Nat) (w w' : World) : Prop where
  old : ∀ W, Fr W w → W.heap.size ≤ p → Fr W w'
  size : w.heap.size ≤ w'.heap.size
  kp : ∀ b, b < w.heap.size → b ≠ p → (∀ cs z, w.heap[b]? ≠ some (.cells cs 5 z)) → w'.heap[b]? = w.heap[b]?
theorem Old.refl (p : Nat) (w : World) : Old p w w := ⟨fun _ h _ => h, Nat.le_refl _, fun _ _ _ _ => rfl⟩
theorem Old.trans {p : Nat} {a b c : World} (h : Old p a b) (k : Old p b c) : Old p a c :=
  ⟨fun W h1 h2 => k.old W (h.old W h1 h2) h2, Nat.le_trans h.size k.size, fun q h1 h2 h3 => by
    have e := h.kp q h1 h2 h3
    exact (k.kp q (Nat.lt_of_lt_of_le h1 h.size) h2 (fun cs z e2 => h3 cs z (e ▸ e2))).trans e⟩
theorem Old.fr {p : Nat} {a b : World} (h : Fr a b) : Old p a b := ⟨fun _ h1 _ => h1.call h, h.size, fun q h1 _ _ => h.block q h1⟩
theorem Old.setp {p i : Nat} {w : World} {u : Value} : Old p w (w.setCell ⟨p, i, none⟩ u) := ⟨fun _ h1 h2 => h1.set (p := ⟨p, i, none⟩) h2 _, by simp, fun q _ h2 _ => Below.heap_setCell _ _ _ _ h2⟩
theorem Old.grown {p n : Nat} {w w' : World} {v : Value} {xs : List Value} (ho : w.ownsRow (p + 1) 5 1 v n xs) (hp : p < w.heap.size) (hg : w.grownBy w' v.ownBlock) : Old p w w' := by
  refine ⟨fun W h1 h2 => Below.grown h1 hg (by omega) (fun q hq => by have := (World.ownsRow.lt ho q hq).1; omega), hg.size, fun q h1 _ h3 => hg.block q h1 (fun e => ?_)⟩
  rcases ho.2 with ⟨rfl, _⟩ | ⟨g, cap, cur, rfl, _, hgg, _⟩
  · cases e
  · have e' : some q = some g := e
    injection e' with e'
    subst e'
    exact h3 cur _ hgg
theorem Pu.set {w : World} {p : Nat} {bs : List UInt8} {k : Nat} {v : Value} (h : Pu w p bs k v) (u : Value) : (w.setCell ⟨p, 0, none⟩ u).ownsRow (p + 1) 5 1 v bs.length (Lib.byteCells bs) := by
  refine World.ownsRow.kept h.own ((Wr.refl p w).setp 0 u) (.inr fun e => ?_)
  have := (World.ownsRow.lt h.own p e).1; omega
theorem own_setp {w : World} {p i n : Nat} {e : TypeId} {v u : Value} {xs : List Value} (h : w.ownsRow (p + 1) e 1 v n xs) : (w.setCell ⟨p, i, none⟩ u).ownsRow (p + 1) e 1 v n xs := by
  refine World.ownsRow.kept h ((Wr.refl p w).setp i u) (.inr fun e => ?_)
  have := (World.ownsRow.lt h p e).1; omega
theorem copy_any (p k : Nat) (bs : List UInt8) (w : World) (h : Pn w p bs k) : Calls Tryd.prog 45 #[.pointer (some ⟨p, 0, none⟩)] w fun e w' => e = .returned (.tuple #[]) ∧ (∃ v, Pu w' p bs k v) ∧ Old p w w' := by
  obtain ⟨a, v, hb, ha, ho⟩ := h.holds
  rcases ha with rfl | rfl
  · refine (copy_fresh p w v _ hb).mono ?_
    rintro e w' ⟨rfl, rfl⟩
    exact ⟨rfl, ⟨v, hb.set 0 _, own_setp ho⟩, Old.setp⟩
  · refine (copy_used p w (hb.cell 0)).mono ?_
    rintro e w' ⟨rfl, rfl⟩
    exact ⟨rfl, ⟨v, hb, ho⟩, Old.refl p _⟩
theorem Pu.pn {w : World} {p : Nat} {bs : List UInt8} {k : Nat} {v : Value} (h : Pu w p bs k v) : Pn w p bs k := ⟨_, v, h.bk, .inr rfl, h.own⟩
set_option maxHeartbeats 1600000 in
set_option maxRecDepth 100000 in
theorem write_any (p k : Nat) (bs : List UInt8) (x : ByteArray) (w : World) (h : Pn w p bs k) (hl : bs.length ≤ 300000) (hx : x.size ≤ 300000) : Calls Tryd.prog 36 #[.pointer (some ⟨p, 0, none⟩), .string x] w fun e w' => (∃ r, e = .returned r) ∧ Pn w' p (bs ++ x.data.toList) k ∧ Old p w w' := by
  have HC := Lib.hid (copy_any p k bs w h)
  obtain ⟨i, hi, hz, hs1, hby⟩ := info_parts infoBy
  clear h
  go_enter Tryd.func36, Tryd.ntmps36
  go_wp2_with fail
  refine (HC.out).mono ?_
  rintro e w1 ⟨rfl, ⟨v, hu⟩, hold⟩
  have c1 : w1.cell? ⟨p, 1, none⟩ = some v := hu.bk.cell 1
  have HU := Lib.hid hu
  have HO := Lib.hid hold
  have HP := Lib.hid hu.bk.lt
  clear hu hold
  go_wp2_with (at_builtin; refine Lib.wpList_append_own_string (P := Tryd.prog) w1 rfl (.tmp 12) (.tmp 13) 54 9 rfl (p + 1) 5 i Tryd.underlying54 Tryd.underlying9 hi hz hs1 hby v bs.length (Lib.byteCells bs) rfl HU.out.own x rfl (by unfold maxLen; omega) (by omega) (by have := HP.out; omega) ?_; intro v2 w2 ho2 hg2 _; obtain ⟨A2, c2, hv2⟩ := own_val ho2; subst hv2; have hne : v.ownBlock ≠ some p := fun e => (by have := (World.ownsRow.lt HU.out.own p e).1; omega); have HB2 := Lib.hid (show Bk w2 p 58 #[.pointer (some ⟨p, 0, none⟩), v, .int .i64 (k : Int)] from (hg2.block p HP.out (fun e => hne e.symm)).trans HU.out.bk); have d1 : w2.cell? ⟨p, 1, none⟩ = some v := HB2.out.cell 1; have d2 := HB2.out.free 1; have HO2 := Lib.hid ho2; have HG2 := Lib.hid hg2; clear ho2 hg2 hne)
  go_ret2
  refine ⟨⟨_, rfl⟩, ⟨_, _, HB2.out.set 1 (.slice A2 (bs.length + x.size) c2), .inr rfl, ?_⟩, (HO.out.trans (Old.grown HU.out.own HP.out HG2.out)).trans Old.setp⟩
  have e1 : Lib.byteCells (bs ++ x.data.toList) = Lib.byteCells bs ++ Lib.strCells x := by simp [Lib.byteCells, Lib.strCells]
  have e2 : (bs ++ x.data.toList).length = bs.length + x.size := by simp
  rw [e1, e2]
  exact own_setp HO2.out
/-- What a put leaves: the text with it (and so many trees), or no. -/
def PutP (p : Nat) (bs xs : List UInt8) (k : Nat) (w : World) (e : Ending) (w' : World) : Prop :=
  (bs.length + xs.length ≤ 262144 ∧ e = .returned (.bool true) ∧ Pn w' p (bs ++ xs) k ∧ Old p w w') ∨ (262144 < bs.length + xs.length ∧ e = .returned (.bool false) ∧ Old p w w')
set_option maxHeartbeats 1600000 in
set_option maxRecDepth 100000 in
theorem put_any (p k : Nat) (bs : List UInt8) (x : ByteArray) (w : World) (h : Pn w p bs k) (hl : bs.length ≤ 262144) (hx : x.size ≤ maxLen) : Calls Tryd.prog 22 #[.pointer (some ⟨p, 0, none⟩), .string x] w fun e w' => PutP p bs x.data.toList k w e w' := by
  unfold maxLen at hx
  have HL := Lib.hid (len_any p k bs w h (by omega))
  have hxl : x.data.toList.length = x.size := by simp
  by_cases hf : bs.length + x.size ≤ 262144
  · have HW := Lib.hid (write_any p k bs x w h (by omega) (by omega))
    have d1 : decide ((262144 : Int) - (bs.length : Int) < (x.size : Int)) = false := by rw [decide_eq_false_iff_not]; omega
    have h3 : (bs.length : Int) ≤ 262144 := by omega
    have h4 : (x.size : Int) ≤ 262144 := by omega
    have HX := Lib.hid (show bs.length + x.data.toList.length ≤ 262144 from by omega)
    clear h hf hl hxl
    go_enter Tryd.func22, Tryd.ntmps22
    go_wp2_with (first
      | (go_at_call 35; refine (HL.out).mono ?_; rintro e w' ⟨rfl, rfl⟩)
      | (go_at_call 36; refine (HW.out).mono ?_; rintro e w1 ⟨⟨r, rfl⟩, hp, ho⟩; have HP1 := Lib.hid hp; have HO1 := Lib.hid ho; clear hp ho))
    go_ret
    exact .inl ⟨HX.out, rfl, HP1.out, HO1.out⟩
  · have d1 : decide ((262144 : Int) - (bs.length : Int) < (x.size : Int)) = true := by rw [decide_eq_true_eq]; omega
    have h3 : (bs.length : Int) ≤ 262144 := by omega
    have h4 : (x.size : Int) ≤ 9223372036854775807 := by omega
    have HX := Lib.hid (show 262144 < bs.length + x.data.toList.length from by omega)
    clear h hf hl hxl
    go_enter Tryd.func22, Tryd.ntmps22
    go_wp2_with (go_at_call 35; refine (HL.out).mono ?_; rintro e w' ⟨rfl, rfl⟩)
    go_ret
    exact .inr ⟨HX.out, rfl, Old.refl p _⟩
end Go.Proofs.YtonlmennpbklgaaDoor
