/- The reader: a product. -/
import Derived.Test.YtbnaakognnkhdaaGreatDoorZr
namespace Go.Proofs.YtbnaakognnkhdaaGreatDoor
open Go.RowKit
set_option linter.unusedSimpArgs false
set_option linter.unusedVariables false

/-- What a product comes to, from a total t on at the place a: r, or a * that can't be at wa. -/
inductive ProdL (w0 : World) (s : ByteArray) (pb d : Nat) (r : Option (Sm2 × Nat)) (wa : Nat) : Sm2 → Nat → Prop
  | stop {t : Sm2} {a : Nat} : peekN s (skipN s a) ≠ 42 → r = some (t, skipN s a) → ProdL w0 s pb d r wa t a
  | num {t u : Sm2} {a c : Nat} : peekN s (skipN s a) = 42 → Rds 58 w0 s pb d (skipN s a + 1) u c → OkS u → skipN s a < c → c ≤ s.size → u.1 = [] → ProdL w0 s pb d r wa (byS t u.2) c → ProdL w0 s pb d r wa t a
  | sym {t u : Sm2} {a c : Nat} : peekN s (skipN s a) = 42 → Rds 58 w0 s pb d (skipN s a + 1) u c → OkS u → skipN s a < c → c ≤ s.size → u.1 ≠ [] → t.1 = [] → ProdL w0 s pb d r wa (byS u t.2) c → ProdL w0 s pb d r wa t a
  | two {t u : Sm2} {a c : Nat} : peekN s (skipN s a) = 42 → Rds 58 w0 s pb d (skipN s a + 1) u c → OkS u → skipN s a < c → c ≤ s.size → u.1 ≠ [] → t.1 ≠ [] → r = none → wa = skipN s a → ProdL w0 s pb d r wa t a
/-- A reading that ends well, or with the error 121 at wa. -/
def PostR (s : ByteArray) (pb : Nat) (e b : Int) (r : Option (Sm2 × Nat)) (wa : Nat) (w : World) (en : Ending) (w' : World) : Prop :=
  match r with
  | some (t, a') => ∃ v, en = .returned (.tuple #[v, .bool true]) ∧ SumV w w' v t.1 t.2 ∧ PAt w' pb s (a' : Int) e b ∧ Kp (fun g => g = pb) w w'
  | none => ∃ v a' P n, en = .returned (.tuple #[v, .bool false]) ∧ SumV w w' v P n ∧ PAt w' pb s a' 121 (wa : Int) ∧ Kp (fun g => g = pb) w w'
def RdsR (fn : Nat) (w0 : World) (s : ByteArray) (pb d a : Nat) (r : Option (Sm2 × Nat)) (wa : Nat) : Prop :=
  ∀ (w : World) (e b : Int), Fr w0 w → PAt w pb s (a : Int) e b → Calls Tryz.prog fn #[.pointer (some ⟨pb, 0, none⟩), .int .i64 (d : Int)] w (PostR s pb e b r wa w)
/-- The total so far: in the block q; the result's block is p. -/
structure RelTo (w0 : World) (s : ByteArray) (pb p q : Nat) (e b : Int) (t : Sm2) (a : Nat) (mb : Option Nat) (w wr : World) : Prop where
  ha : a ≤ s.size
  ok : OkS t
  pat : PAt wr pb s (a : Int) e b
  tot : B2 wr q (.map mb) (.int .i64 t.2)
  res : B2 wr p (.map none) (.int .i64 0)
  map : MapP wr mb t.1
  new : ∀ g, mb = some g → w.heap.size < g
  far : p = w.heap.size ∧ p < q ∧ pb < p
  kp : Kp (fun g => g = pb) w wr
  fr : Fr w0 wr
theorem RelTo.kept {w0 : World} {s : ByteArray} {pb p q : Nat} {e b : Int} {t : Sm2} {a a' : Nat} {mb : Option Nat} {w wr w' : World} (h : RelTo w0 s pb p q e b t a mb w wr) (hzp : w0.heap.size ≤ pb) (ha : a' ≤ s.size) (hp : PAt w' pb s (a' : Int) e b) (k : Kp (fun g => g = pb) wr w') : RelTo w0 s pb p q e b t a' mb w w' := by
  have hf := h.far
  exact ⟨ha, h.ok, hp, h.tot.kp k (by omega), h.res.kp k (by omega), h.map.kp k (fun b e h2 => by subst e h2; exact map_no_cell h.map h.pat.c0), h.new, h.far, h.kp.call k, ((Kp.of (S := fun g => g = pb) h.fr).call k).to (by rintro x h; omega)⟩
theorem RelTo.frk {w0 : World} {s : ByteArray} {pb p q : Nat} {e b : Int} {t : Sm2} {a : Nat} {mb : Option Nat} {w wr w' : World} (h : RelTo w0 s pb p q e b t a mb w wr) (k : Fr wr w') : RelTo w0 s pb p q e b t a mb w w' :=
  ⟨h.ha, h.ok, h.pat.fr k, h.tot.fr k, h.res.fr k, h.map.fr k, h.new, h.far, h.kp.fr k, h.fr.call k⟩
/-- A new total is put into the block. -/
theorem RelTo.put {w0 : World} {s : ByteArray} {pb p q : Nat} {e b : Int} {t t' : Sm2} {a : Nat} {mb mb' : Option Nat} {w wr : World} (h : RelTo w0 s pb p q e b t a mb w wr) (hzp : w0.heap.size ≤ pb) (ht : OkS t') (hm : MapP wr mb' t'.1) (hn : ∀ g, mb' = some g → w.heap.size < g ∧ g ≠ q) :
    RelTo w0 s pb p q e b t' a mb' w ((wr.setCell ⟨q, 0, none⟩ (.map mb')).setCell ⟨q, 1, none⟩ (.int .i64 t'.2)) := by
  have hf := h.far
  have k : Kp (fun g => g = q) wr ((wr.setCell ⟨q, 0, none⟩ (.map mb')).setCell ⟨q, 1, none⟩ (.int .i64 t'.2)) := ((Kp.refl (fun g => g = q) wr).set (p := ⟨q, 0, none⟩) (.inl rfl) _).set (p := ⟨q, 1, none⟩) (.inl rfl) _
  exact ⟨h.ha, ht, h.pat.kp k (by omega), h.tot.set, h.res.kp k (by omega), hm.kp k (fun g e h2 => (hn g e).2 h2), fun g e => (hn g e).1, h.far, h.kp.trans k (fun x hx e => by omega), ((Kp.of (S := fun g => g = q) h.fr).call k).to (by rintro x h; have := hf.2.2; omega)⟩
/-- Another block of the call's own has turned. -/
theorem RelTo.side {w0 : World} {s : ByteArray} {pb p q x : Nat} {e b : Int} {t : Sm2} {a : Nat} {mb : Option Nat} {w wr w' : World} {y z : Value} (h : RelTo w0 s pb p q e b t a mb w wr) (hzp : w0.heap.size ≤ pb) (hx : B2 wr x y z) (hn : x ≠ pb ∧ x ≠ p ∧ x ≠ q ∧ w.heap.size ≤ x) (k : Kp (fun g => g = x) wr w') : RelTo w0 s pb p q e b t a mb w w' :=
  ⟨h.ha, h.ok, h.pat.kp k (fun e => hn.1 e.symm), h.tot.kp k (fun e => hn.2.2.1 e.symm), h.res.kp k (fun e => hn.2.1 e.symm), h.map.kp k (fun g eg h2 => by subst eg h2; exact map_no_cell h.map hx.c0), h.new, h.far, h.kp.trans k (fun g hg e => by have h1 : g = x := e; have h2 := hn.2.2.2; omega), ((Kp.of (S := fun g => g = x) h.fr).call k).to (by rintro g h1; have := hn.2.2.2; have := h.far; omega)⟩
/-- A round of a product. -/
def RelPd (w0 : World) (s : ByteArray) (pb p q d : Nat) (e b : Int) (r : Option (Sm2 × Nat)) (wa : Nat) (w : World) (ok : Value) (wr : World) : Prop :=
  ∃ t a mb, ok = .bool true ∧ ProdL w0 s pb d r wa t a ∧ RelTo w0 s pb p q e b t a mb w wr
set_option maxHeartbeats 6400000 in
set_option maxRecDepth 100000 in
theorem product_ok {w0 : World} {s : ByteArray} {pb d a c : Nat} {t : Sm2} {r : Option (Sm2 × Nat)} {wa : Nat} (hzp : w0.heap.size ≤ pb) (hs : s.size ≤ 140737488351232) (hc : c ≤ s.size) (ht : OkS t) (hf : Rds 58 w0 s pb d a t c) (hr : ProdL w0 s pb d r wa t c) :
    RdsR 51 w0 s pb d a r wa := by
  intro w e b hz hp
  have z0 := hp.lt
  have HF := Lib.hid (hf (w.alloc (.cells #[.map none, .int .i64 0] 46)) e b (hz.alloc _) (hp.fr ((Fr.refl w).alloc _)))
  have HR := Lib.hid hr
  have HS := Lib.hid hs
  have HT := Lib.hid ht
  have HP0 := Lib.hid hp
  have HZ0 := Lib.hid hz
  clear hr hf hp ht
  go_enter Tryz.func51, Tryz.ntmps51
  go_wp2_with fail
  refine HF.out.mono ?_
  rintro en w1 ⟨v, rfl, ⟨mb, rfl, hm, hnew⟩, hp1, hk1⟩
  obtain ⟨p, hpp⟩ : ∃ p, w.heap.size = p := ⟨_, rfl⟩
  obtain ⟨q, hq⟩ : ∃ q, w1.heap.size = q := ⟨_, rfl⟩
  obtain ⟨W, hW⟩ : ∃ W, W = w1.alloc (.cells #[.map mb, .int .i64 t.2] 46) := ⟨_, rfl⟩
  have hkA : Fr w1 W := by rw [hW]; exact (Fr.refl w1).alloc _
  have HRT := Lib.hid (show RelTo w0 s pb p q e b t c mb w W from by
    have hkw : Kp (fun g => g = pb) w W := (((Kp.refl (fun g => g = pb) w).alloc _).call hk1).fr hkA
    refine ⟨hc, HT.out, hp1.fr hkA, by rw [hW]; exact B2.new hq.symm, ((B2.new hpp.symm).kp hk1 (show ¬ p = pb by omega)).fr hkA, hm.fr hkA, fun g eg => by have h1 := hnew g eg; simp at h1; omega, ⟨hpp.symm, by have := hk1.size; simp at this; omega, by omega⟩, hkw, ((Kp.of (S := fun g => g = pb) HZ0.out).call hkw).to (by rintro x h; omega)⟩)
  go_wp2_with fail
  rw [← hW]
  try simp only [hpp]
  clear hW hkA hp1 hk1 hm hnew HF
  go_loopw [7] (fun ok wr => RelPd w0 s pb p q d e b r wa w ok wr) (fun _ wr => atOf s pb wr)
  case atStart => exact ⟨t, c, mb, rfl, HR.out, HRT.out⟩
  case round =>
    obtain ⟨t1, a1, mb1, rfl, hpr, hto⟩ := hrel
    have HTO := Lib.hid hto
    have HNX := Lib.hid (next_any s a1 e b pb wr (by have := HS.out; omega) hto.ha hto.pat)
    have HAO := Lib.hid (atOf_eq (s := s) hto.pat.c1)
    have hsk := skip_le hto.ha
    have hsg := skip_ge s a1
    have HFA := Lib.hid hto.far
    clear hto
    cases hpr with
    | stop hne hrr =>
      obtain ⟨ch, hch⟩ : ∃ ch : Int, (peekN s (skipN s a1) : Int) = ch := ⟨_, rfl⟩
      have hc2 : (ch == 42) = false := by simp; omega
      rw [hch] at HNX
      clear hch hne
      go_wp2_with fail
      refine HNX.out.mono ?_
      rintro en w2 ⟨rfl, hp2, hk2⟩
      have HT2 := Lib.hid (HTO.out.kept hzp hsk hp2 hk2)
      obtain ⟨c0, c1, _, _⟩ := HT2.out.tot
      obtain ⟨r0, r1, q0, q1⟩ := HT2.out.res
      have z2 := HT2.out.tot.lt
      have z3 := HT2.out.res.lt
      clear hp2 hk2
      go_wp2
      obtain ⟨h1, h2, h3⟩ := HFA.out
      obtain ⟨w5, hw5, hl5, hv5, hf5⟩ := sum_put (w := w) (off := t1.2) HT2.out.res HT2.out.map (fun g eg => Nat.le_of_lt (HT2.out.new g eg)) (fun g eg h => by subst eg h; exact map_no_cell HT2.out.map HT2.out.res.c0)
      rw [← hw5, hrr]
      exact bodyPost_ret (v := .tuple #[.agg #[.map mb1, .int .i64 t1.2], .bool true]) (results_cell2 Tryz.results51 _ rfl rfl hl5) rfl ⟨_, rfl, hv5, HT2.out.pat.kp hf5 (show ¬ pb = p by omega), HT2.out.kp.trans hf5 (fun x hx e => by omega)⟩
    | @num _ u _ c h42 hfac hu hlt hle hu0 hrest =>
      have HU := Lib.hid hu
      have HFC := Lib.hid hfac
      rw [h42] at HNX
      clear h42 hfac hu
      obtain ⟨a2, ha2⟩ : ∃ a2, skipN s a1 = a2 := ⟨_, rfl⟩
      rw [ha2] at HNX HFC hsk hsg hlt
      have HA2 := Lib.hid (show (a2 : Int) + 1 = ((a2 + 1 : Nat) : Int) by omega)
      clear ha2
      go_wp2_with fail
      refine HNX.out.mono ?_
      rintro en w2 ⟨rfl, hp2, hk2⟩
      have HT2 := Lib.hid (HTO.out.kept hzp hsk hp2 hk2)
      obtain ⟨c0, c1, c2, c3, f1, f2, f3⟩ := id hp2
      have z1 := hp2.lt
      clear hp2 hk2
      go_wp2_with fail
      obtain ⟨x, hx⟩ : ∃ x, w2.heap.size = x := ⟨_, rfl⟩
      obtain ⟨W3, hW3⟩ : ∃ W3, W3 = (w2.setCell ⟨pb, 1, none⟩ (.int .i64 ((a2 : Int) + 1))).alloc (.cells #[.map none, .int .i64 0] 46) := ⟨_, rfl⟩
      have HT3 := Lib.hid (show RelTo w0 s pb p q e b t1 (a2 + 1) mb1 w W3 by
        rw [hW3]
        exact (HT2.out.kept hzp (a' := a2 + 1) (by omega) (by rw [← HA2.out]; exact HT2.out.pat.set1) ((Kp.refl (fun g => g = pb) w2).set (p := ⟨pb, 1, none⟩) (.inl rfl) _)).frk ((Fr.refl _).alloc _))
      have HX3 := Lib.hid (show B2 W3 x (.map none) (.int .i64 0) by rw [hW3]; exact B2.new (by simp; omega))
      have HXF := Lib.hid (show x ≠ pb ∧ x ≠ p ∧ x ≠ q ∧ w.heap.size ≤ x from ⟨by have := HT2.out.pat.lt; omega, by have := HT2.out.res.lt; omega, by have := HT2.out.tot.lt; omega, by have := HT2.out.res.lt; have := HFA.out.1; omega⟩)
      try simp only [hx]
      rw [← hW3]
      clear hW3 c0 c1 c2 c3 f1 f2 f3 z1
      refine (HFC.out W3 e b HT3.out.fr HT3.out.pat).mono ?_
      rintro en w4 ⟨v4, rfl, ⟨mbu, rfl, hmu, hnu⟩, hp4, hk4⟩
      have HT4 := Lib.hid (HT3.out.kept hzp hle hp4 hk4)
      have HX4 := Lib.hid (HX3.out.kp hk4 HXF.out.1)
      have HM4 := Lib.hid hmu
      have HN4 := Lib.hid (show ∀ g, mbu = some g → W3.heap.size ≤ g from hnu)
      have HZ4 := Lib.hid (show x < W3.heap.size ∧ q < W3.heap.size from ⟨HX3.out.lt, HT3.out.tot.lt⟩)
      obtain ⟨r0, r1, q0, q1⟩ := HX4.out
      have zx := HX4.out.lt
      clear hp4 hk4 hmu hnu
      go_wp2_with fail
      obtain ⟨W5, hW5⟩ : ∃ W5, W5 = (w4.setCell ⟨x, 0, none⟩ (.map mbu)).setCell ⟨x, 1, none⟩ (.int .i64 u.2) := ⟨_, rfl⟩
      have hkx : Kp (fun g => g = x) w4 W5 := by rw [hW5]; exact ((Kp.refl (fun g => g = x) w4).set (p := ⟨x, 0, none⟩) (.inl rfl) _).set (p := ⟨x, 1, none⟩) (.inl rfl) _
      have HT5 := Lib.hid (HT4.out.side hzp HX4.out HXF.out hkx)
      have HX5 := Lib.hid (show B2 W5 x (.map mbu) (.int .i64 u.2) by rw [hW5]; exact HX4.out.set)
      have HM5 := Lib.hid (HM4.out.kp hkx (fun g eg h => by subst eg h; exact map_no_cell HM4.out HX4.out.c0))
      rw [← hW5]
      clear hW5 hkx r0 r1 q0 q1 zx
      have HH := Lib.hid (hasSymbols_any u.1 u.2 mbu W5 HM5.out)
      rw [(decide_eq_false (by rw [hu0]; simp) : decide (0 < u.1.length) = false)] at HH
      refine HH.out.mono ?_
      rintro en w6 ⟨rfl, hf6⟩
      have HT6 := Lib.hid (HT5.out.frk hf6)
      have HX6 := Lib.hid (HX5.out.fr hf6)
      have HM6 := Lib.hid (HM5.out.fr hf6)
      obtain ⟨c0, c1, e0, e1⟩ := HT6.out.tot
      obtain ⟨x0, x1, _, _⟩ := HX6.out
      have z1 := HT6.out.tot.lt
      have z2 := HX6.out.lt
      clear hf6 HH
      go_wp2_with fail
      have HBY := Lib.hid (by_any t1.1 t1.2 u.2 mb1 w6 HTO.out.ok.asc (by have := HTO.out.ok.len; omega) HTO.out.ok.sm HT6.out.map)
      refine HBY.out.mono ?_
      rintro en w7 ⟨v7, rfl, ⟨mb7, rfl, hm7, hn7⟩, hf7⟩
      have HT7 := Lib.hid (HT6.out.frk hf7)
      have HP7 := Lib.hid (HT7.out.put (t' := byS t1 u.2) (mb' := mb7) hzp (HTO.out.ok.by u.2) hm7 (fun g eg => by have h1 := hn7 g eg; have h2 := HT6.out.tot.lt; have h3 := HFA.out; exact ⟨by omega, by omega⟩))
      obtain ⟨k0, k1, g0, g1⟩ := HT7.out.tot
      have z3 := HT7.out.tot.lt
      clear hm7 hn7 hf7 c0 c1 e0 e1 x0 x1 z1 z2
      go_wp2
      go_roundw
      case rel => exact ⟨byS t1 u.2, c, mb7, rfl, hrest, HP7.out⟩
      case measure => exact Nat.lt_of_le_of_lt (Nat.le_of_eq (atOf_eq (s := s) HP7.out.pat.c1)) (by rw [HAO.out]; omega)
    | @sym _ u _ c h42 hfac hu hlt hle hu0 ht0 hrest =>
      have HU := Lib.hid hu
      have HFC := Lib.hid hfac
      rw [h42] at HNX
      clear h42 hfac hu
      obtain ⟨a2, ha2⟩ : ∃ a2, skipN s a1 = a2 := ⟨_, rfl⟩
      rw [ha2] at HNX HFC hsk hsg hlt
      have HA2 := Lib.hid (show (a2 : Int) + 1 = ((a2 + 1 : Nat) : Int) by omega)
      clear ha2
      go_wp2_with fail
      refine HNX.out.mono ?_
      rintro en w2 ⟨rfl, hp2, hk2⟩
      have HT2 := Lib.hid (HTO.out.kept hzp hsk hp2 hk2)
      obtain ⟨c0, c1, c2, c3, f1, f2, f3⟩ := id hp2
      have z1 := hp2.lt
      clear hp2 hk2
      go_wp2_with fail
      obtain ⟨x, hx⟩ : ∃ x, w2.heap.size = x := ⟨_, rfl⟩
      obtain ⟨W3, hW3⟩ : ∃ W3, W3 = (w2.setCell ⟨pb, 1, none⟩ (.int .i64 ((a2 : Int) + 1))).alloc (.cells #[.map none, .int .i64 0] 46) := ⟨_, rfl⟩
      have HT3 := Lib.hid (show RelTo w0 s pb p q e b t1 (a2 + 1) mb1 w W3 by
        rw [hW3]
        exact (HT2.out.kept hzp (a' := a2 + 1) (by omega) (by rw [← HA2.out]; exact HT2.out.pat.set1) ((Kp.refl (fun g => g = pb) w2).set (p := ⟨pb, 1, none⟩) (.inl rfl) _)).frk ((Fr.refl _).alloc _))
      have HX3 := Lib.hid (show B2 W3 x (.map none) (.int .i64 0) by rw [hW3]; exact B2.new (by simp; omega))
      have HXF := Lib.hid (show x ≠ pb ∧ x ≠ p ∧ x ≠ q ∧ w.heap.size ≤ x from ⟨by have := HT2.out.pat.lt; omega, by have := HT2.out.res.lt; omega, by have := HT2.out.tot.lt; omega, by have := HT2.out.res.lt; have := HFA.out.1; omega⟩)
      try simp only [hx]
      rw [← hW3]
      clear hW3 c0 c1 c2 c3 f1 f2 f3 z1
      refine (HFC.out W3 e b HT3.out.fr HT3.out.pat).mono ?_
      rintro en w4 ⟨v4, rfl, ⟨mbu, rfl, hmu, hnu⟩, hp4, hk4⟩
      have HT4 := Lib.hid (HT3.out.kept hzp hle hp4 hk4)
      have HX4 := Lib.hid (HX3.out.kp hk4 HXF.out.1)
      have HM4 := Lib.hid hmu
      have HN4 := Lib.hid (show ∀ g, mbu = some g → W3.heap.size ≤ g from hnu)
      have HZ4 := Lib.hid (show x < W3.heap.size ∧ q < W3.heap.size from ⟨HX3.out.lt, HT3.out.tot.lt⟩)
      obtain ⟨r0, r1, q0, q1⟩ := HX4.out
      have zx := HX4.out.lt
      clear hp4 hk4 hmu hnu
      go_wp2_with fail
      obtain ⟨W5, hW5⟩ : ∃ W5, W5 = (w4.setCell ⟨x, 0, none⟩ (.map mbu)).setCell ⟨x, 1, none⟩ (.int .i64 u.2) := ⟨_, rfl⟩
      have hkx : Kp (fun g => g = x) w4 W5 := by rw [hW5]; exact ((Kp.refl (fun g => g = x) w4).set (p := ⟨x, 0, none⟩) (.inl rfl) _).set (p := ⟨x, 1, none⟩) (.inl rfl) _
      have HT5 := Lib.hid (HT4.out.side hzp HX4.out HXF.out hkx)
      have HX5 := Lib.hid (show B2 W5 x (.map mbu) (.int .i64 u.2) by rw [hW5]; exact HX4.out.set)
      have HM5 := Lib.hid (HM4.out.kp hkx (fun g eg h => by subst eg h; exact map_no_cell HM4.out HX4.out.c0))
      rw [← hW5]
      clear hW5 hkx r0 r1 q0 q1 zx
      have HH := Lib.hid (hasSymbols_any u.1 u.2 mbu W5 HM5.out)
      rw [(decide_eq_true (List.length_pos_iff.2 hu0) : decide (0 < u.1.length) = true)] at HH
      refine HH.out.mono ?_
      rintro en w6 ⟨rfl, hf6⟩
      have HT6 := Lib.hid (HT5.out.frk hf6)
      have HX6 := Lib.hid (HX5.out.fr hf6)
      have HM6 := Lib.hid (HM5.out.fr hf6)
      obtain ⟨c0, c1, e0, e1⟩ := HT6.out.tot
      obtain ⟨x0, x1, _, _⟩ := HX6.out
      have z1 := HT6.out.tot.lt
      have z2 := HX6.out.lt
      clear hf6 HH
      go_wp2_with fail
      have HH2 := Lib.hid (hasSymbols_any t1.1 t1.2 mb1 w6 HT6.out.map)
      rw [(decide_eq_false (by rw [ht0]; simp) : decide (0 < t1.1.length) = false)] at HH2
      refine HH2.out.mono ?_
      rintro en w7 ⟨rfl, hf7⟩
      have HT7 := Lib.hid (HT6.out.frk hf7)
      have HX7 := Lib.hid (HX6.out.fr hf7)
      have HM7 := Lib.hid (HM6.out.fr hf7)
      clear hf7 c0 c1 e0 e1 x0 x1 z1 z2
      obtain ⟨c0, c1, e0, e1⟩ := HT7.out.tot
      obtain ⟨x0, x1, _, _⟩ := HX7.out
      have z1 := HT7.out.tot.lt
      have z2 := HX7.out.lt
      go_wp2_with fail
      have HBY := Lib.hid (by_any u.1 u.2 t1.2 mbu w7 HU.out.asc (by have := HU.out.len; omega) HU.out.sm HM7.out)
      refine HBY.out.mono ?_
      rintro en w8 ⟨v8, rfl, ⟨mb8, rfl, hm8, hn8⟩, hf8⟩
      have HT8 := Lib.hid (HT7.out.frk hf8)
      have HP8 := Lib.hid (HT8.out.put (t' := byS u t1.2) (mb' := mb8) hzp (HU.out.by t1.2) hm8 (fun g eg => by have h1 := hn8 g eg; have h2 := HT7.out.tot.lt; have h3 := HFA.out; exact ⟨by omega, by omega⟩))
      obtain ⟨k0, k1, g0, g1⟩ := HT8.out.tot
      have z3 := HT8.out.tot.lt
      clear hm8 hn8 hf8 c0 c1 e0 e1 x0 x1 z1 z2
      go_wp2
      go_roundw
      case rel => exact ⟨byS u t1.2, c, mb8, rfl, hrest, HP8.out⟩
      case measure => exact Nat.lt_of_le_of_lt (Nat.le_of_eq (atOf_eq (s := s) HP8.out.pat.c1)) (by rw [HAO.out]; omega)
    | @two _ u _ c h42 hfac hu hlt hle hu0 ht0 hrr hwa =>
      have HU := Lib.hid hu
      have HFC := Lib.hid hfac
      rw [h42] at HNX
      clear h42 hfac hu
      obtain ⟨a2, ha2⟩ : ∃ a2, skipN s a1 = a2 := ⟨_, rfl⟩
      rw [ha2] at HNX HFC hsk hsg hlt hwa
      have HA2 := Lib.hid (show (a2 : Int) + 1 = ((a2 + 1 : Nat) : Int) by omega)
      clear ha2
      go_wp2_with fail
      refine HNX.out.mono ?_
      rintro en w2 ⟨rfl, hp2, hk2⟩
      have HT2 := Lib.hid (HTO.out.kept hzp hsk hp2 hk2)
      obtain ⟨c0, c1, c2, c3, f1, f2, f3⟩ := id hp2
      have z1 := hp2.lt
      clear hp2 hk2
      go_wp2_with fail
      obtain ⟨x, hx⟩ : ∃ x, w2.heap.size = x := ⟨_, rfl⟩
      obtain ⟨W3, hW3⟩ : ∃ W3, W3 = (w2.setCell ⟨pb, 1, none⟩ (.int .i64 ((a2 : Int) + 1))).alloc (.cells #[.map none, .int .i64 0] 46) := ⟨_, rfl⟩
      have HT3 := Lib.hid (show RelTo w0 s pb p q e b t1 (a2 + 1) mb1 w W3 by
        rw [hW3]
        exact (HT2.out.kept hzp (a' := a2 + 1) (by omega) (by rw [← HA2.out]; exact HT2.out.pat.set1) ((Kp.refl (fun g => g = pb) w2).set (p := ⟨pb, 1, none⟩) (.inl rfl) _)).frk ((Fr.refl _).alloc _))
      have HX3 := Lib.hid (show B2 W3 x (.map none) (.int .i64 0) by rw [hW3]; exact B2.new (by simp; omega))
      have HXF := Lib.hid (show x ≠ pb ∧ x ≠ p ∧ x ≠ q ∧ w.heap.size ≤ x from ⟨by have := HT2.out.pat.lt; omega, by have := HT2.out.res.lt; omega, by have := HT2.out.tot.lt; omega, by have := HT2.out.res.lt; have := HFA.out.1; omega⟩)
      try simp only [hx]
      rw [← hW3]
      clear hW3 c0 c1 c2 c3 f1 f2 f3 z1
      refine (HFC.out W3 e b HT3.out.fr HT3.out.pat).mono ?_
      rintro en w4 ⟨v4, rfl, ⟨mbu, rfl, hmu, hnu⟩, hp4, hk4⟩
      have HT4 := Lib.hid (HT3.out.kept hzp hle hp4 hk4)
      have HX4 := Lib.hid (HX3.out.kp hk4 HXF.out.1)
      have HM4 := Lib.hid hmu
      have HN4 := Lib.hid (show ∀ g, mbu = some g → W3.heap.size ≤ g from hnu)
      have HZ4 := Lib.hid (show x < W3.heap.size ∧ q < W3.heap.size from ⟨HX3.out.lt, HT3.out.tot.lt⟩)
      obtain ⟨r0, r1, q0, q1⟩ := HX4.out
      have zx := HX4.out.lt
      clear hp4 hk4 hmu hnu
      go_wp2_with fail
      obtain ⟨W5, hW5⟩ : ∃ W5, W5 = (w4.setCell ⟨x, 0, none⟩ (.map mbu)).setCell ⟨x, 1, none⟩ (.int .i64 u.2) := ⟨_, rfl⟩
      have hkx : Kp (fun g => g = x) w4 W5 := by rw [hW5]; exact ((Kp.refl (fun g => g = x) w4).set (p := ⟨x, 0, none⟩) (.inl rfl) _).set (p := ⟨x, 1, none⟩) (.inl rfl) _
      have HT5 := Lib.hid (HT4.out.side hzp HX4.out HXF.out hkx)
      have HX5 := Lib.hid (show B2 W5 x (.map mbu) (.int .i64 u.2) by rw [hW5]; exact HX4.out.set)
      have HM5 := Lib.hid (HM4.out.kp hkx (fun g eg h => by subst eg h; exact map_no_cell HM4.out HX4.out.c0))
      rw [← hW5]
      clear hW5 hkx r0 r1 q0 q1 zx
      have HH := Lib.hid (hasSymbols_any u.1 u.2 mbu W5 HM5.out)
      rw [(decide_eq_true (List.length_pos_iff.2 hu0) : decide (0 < u.1.length) = true)] at HH
      refine HH.out.mono ?_
      rintro en w6 ⟨rfl, hf6⟩
      have HT6 := Lib.hid (HT5.out.frk hf6)
      have HX6 := Lib.hid (HX5.out.fr hf6)
      have HM6 := Lib.hid (HM5.out.fr hf6)
      obtain ⟨c0, c1, e0, e1⟩ := HT6.out.tot
      obtain ⟨x0, x1, _, _⟩ := HX6.out
      have z1 := HT6.out.tot.lt
      have z2 := HX6.out.lt
      clear hf6 HH
      go_wp2_with fail
      have HH2 := Lib.hid (hasSymbols_any t1.1 t1.2 mb1 w6 HT6.out.map)
      rw [(decide_eq_true (List.length_pos_iff.2 ht0) : decide (0 < t1.1.length) = true)] at HH2
      refine HH2.out.mono ?_
      rintro en w7 ⟨rfl, hf7⟩
      have HT7 := Lib.hid (HT6.out.frk hf7)
      clear hf7 c0 c1 e0 e1 x0 x1 z1 z2
      go_wp2_with fail
      refine (fail_any s c (a2 : Int) e b 121 pb w7 HT7.out.pat).mono ?_
      rintro en w8 ⟨rfl, hp8, hk8⟩
      have HP8 := Lib.hid hp8
      have HK8 := Lib.hid (HT7.out.kp.call hk8)
      have HR8 := Lib.hid (HT7.out.res.kp hk8 (show ¬ p = pb by have := HFA.out; omega))
      obtain ⟨r0, r1, q0, q1⟩ := HR8.out
      have z3 := HR8.out.lt
      clear hp8 hk8
      go_wp2
      obtain ⟨h1, h2, h3⟩ := HFA.out
      obtain ⟨w9, hw9, hl9, hv9, hf9⟩ := sum_put (w := w) (mb := none) (P := []) (off := 0) HR8.out rfl (fun g eg => by cases eg) (fun g eg => by cases eg)
      rw [← hw9, hrr, hwa]
      exact bodyPost_ret (v := .tuple #[.agg #[.map none, .int .i64 0], .bool false]) (results_cell2 Tryz.results51 _ rfl rfl hl9) rfl ⟨_, _, _, _, rfl, hv9, HP8.out.kp hf9 (show ¬ pb = p by omega), HK8.out.trans hf9 (fun x hx e => by omega)⟩
end Go.Proofs.YtbnaakognnkhdaaGreatDoor
