/- The reader: a sum. -/
import Derived.Test.YtbnaakognnkhdaaGreatDoorZs
namespace Go.Proofs.YtbnaakognnkhdaaGreatDoor
open Go.RowKit
set_option linter.unusedSimpArgs false
set_option linter.unusedVariables false

def addS (t u : Sm2) : Sm2 := (mergeP 1 t.1 u.1, add64 t.2 u.2)
theorem OkS.add {t u : Sm2} (ht : OkS t) (hu : OkS u) (h : (addS t u).1.length ≤ 16) : OkS (addS t u) :=
  ⟨merge_asc _ t.1 u.1 (Nat.le_refl _) ht.asc hu.asc, by omega, (merge_sm (k := 1) _ t.1 u.1 (Nat.le_refl _) ht.sm hu.sm).2⟩
/-- What a sum comes to, from a total t on at the place a. -/
inductive SumL (w0 : World) (s : ByteArray) (pb d : Nat) (r : Sm2) (b : Nat) : Sm2 → Nat → Prop
  | stop {t : Sm2} {a : Nat} : peekN s (skipN s a) ≠ 43 → peekN s (skipN s a) ≠ 45 → r = t → b = skipN s a → SumL w0 s pb d r b t a
  | plus {t u : Sm2} {a c : Nat} : peekN s (skipN s a) = 43 → Rds 51 w0 s pb d (skipN s a + 1) u c → OkS u → skipN s a < c → c ≤ s.size → (addS t u).1.length ≤ 16 → SumL w0 s pb d r b (addS t u) c → SumL w0 s pb d r b t a
  | less {t u : Sm2} {a c : Nat} : peekN s (skipN s a) = 45 → Rds 51 w0 s pb d (skipN s a + 1) u c → OkS u → skipN s a < c → c ≤ s.size → (addS t (byS u (-1))).1.length ≤ 16 → SumL w0 s pb d r b (addS t (byS u (-1))) c → SumL w0 s pb d r b t a
theorem rds_some {fn : Nat} {w0 : World} {s : ByteArray} {pb d a a' wa : Nat} {t : Sm2} (h : RdsR fn w0 s pb d a (some (t, a')) wa) : Rds fn w0 s pb d a t a' := h
theorem peek_at {s : ByteArray} {a : Nat} (h : peekN s a ≠ 0) : ∃ h : a < s.size, s[a].toNat = peekN s a := by
  unfold peekN at h ⊢
  split at h
  · next hl => exact ⟨hl, by rw [dif_pos hl]⟩
  · exact absurd rfl h
theorem RelTo.sat {w0 : World} {s : ByteArray} {pb p q : Nat} {e b : Int} {t : Sm2} {a : Nat} {mb : Option Nat} {w wr : World} (h : RelTo w0 s pb p q e b t a mb w wr) : SAt (fun g => g = q ∨ mb = some g) wr q mb t.1 t.2 wr :=
  ⟨h.map, h.tot.c0, h.tot.c1, h.tot.f0, h.tot.f1, fun g e => .inl (.inr e), .inl (.inl rfl), Kp.refl _ _⟩
theorem RelTo.added {w0 : World} {s : ByteArray} {pb p q : Nat} {e b : Int} {t t' : Sm2} {a : Nat} {mb mb' : Option Nat} {w wr w' : World} (h : RelTo w0 s pb p q e b t a mb w wr) (hzp : w0.heap.size ≤ pb) (k : SAt (fun g => g = q ∨ mb = some g) wr q mb' t'.1 t'.2 w') (ht : OkS t') : RelTo w0 s pb p q e b t' a mb' w w' := by
  have hf := h.far
  have hl := h.res.lt
  have hpb : ¬ (pb = q ∨ mb = some pb) := by
    rintro (h1 | h1)
    · omega
    · have h2 := h.map; rw [h1] at h2; exact map_no_cell h2 h.pat.c0
  have hp : ¬ (p = q ∨ mb = some p) := by
    rintro (h1 | h1)
    · omega
    · have h2 := h.map; rw [h1] at h2; exact map_no_cell h2 h.res.c0
  have hk : Kp (fun g => g = pb) w w' := h.kp.trans k.kp (fun x hx e => by
    rcases e with h1 | h1
    · omega
    · have := h.new x h1; omega)
  refine ⟨h.ha, ht, h.pat.kp k.kp hpb, ⟨k.c0, k.c1, k.f0, k.f1⟩, h.res.kp k.kp hp, k.map, fun g eg => ?_, h.far, hk, ((Kp.of (S := fun g => g = q ∨ mb = some g) h.fr).call k.kp).to (by
    rintro x (h1 | h1)
    · omega
    · have h2 := h.new x h1; omega)⟩
  rcases k.new g eg with (h1 | h1) | h1
  · omega
  · exact h.new g h1
  · omega
theorem skip_skip (s : ByteArray) (a : Nat) : skipN s (skipN s a) = skipN s a := by
  by_cases h : skipN s a < s.size
  · refine skip_stop h fun h32 => ?_
    unfold skipN at h h32
    have hd := drop_at s (a + blL (s.data.toList.drop a)) h
    rw [← List.drop_drop] at hd
    have key : ∀ l : List UInt8, ∀ c r, l.drop (blL l) = c :: r → c.toNat ≠ 32 := by
      intro l
      induction l with
      | nil => intro c r e; simp [blL] at e
      | cons x l ih =>
        intro c r e
        rw [blL] at e
        split at e
        · exact ih c r (by simpa using e)
        · next hx => simp at e; rw [← e.1]; exact hx
    exact key _ _ _ hd h32
  · exact skip_end (by omega)
/-- A round of a sum. -/
def RelSd (w0 : World) (s : ByteArray) (pb p q d : Nat) (e b : Int) (r : Sm2) (b' : Nat) (w : World) (ok : Value) (wr : World) : Prop :=
  ∃ t a mb, ok = .bool true ∧ SumL w0 s pb d r b' t a ∧ RelTo w0 s pb p q e b t a mb w wr
set_option maxHeartbeats 6400000 in
set_option maxRecDepth 100000 in
theorem sum_ok {w0 : World} {s : ByteArray} {pb d a c : Nat} {t r : Sm2} {b' : Nat} (hzp : w0.heap.size ≤ pb) (hs : s.size ≤ 140737488351232) (hc : c ≤ s.size) (ht : OkS t) (hf : Rds 51 w0 s pb d a t c) (hr : SumL w0 s pb d r b' t c) :
    Rds 40 w0 s pb d a r b' := by
  intro w e b hz hp
  have z0 := hp.lt
  have HF := Lib.hid (hf (w.alloc (.cells #[.map none, .int .i64 0] 46)) e b (hz.alloc _) (hp.fr ((Fr.refl w).alloc _)))
  have HR := Lib.hid hr
  have HS := Lib.hid hs
  have HT := Lib.hid ht
  have HP0 := Lib.hid hp
  have HZ0 := Lib.hid hz
  clear hr hf hp ht
  go_enter Tryz.func40, Tryz.ntmps40
  go_wp2_with fail
  refine HF.out.mono ?_
  rintro en w1 ⟨v, rfl, ⟨mb, rfl, hm, hnew⟩, hp1, hk1⟩
  obtain ⟨p, hpp⟩ : ∃ p, w.heap.size = p := ⟨_, rfl⟩
  obtain ⟨q, hq⟩ : ∃ q, w1.heap.size = q := ⟨_, rfl⟩
  obtain ⟨W, hW⟩ : ∃ W, W = w1.alloc (.cells #[.map mb, .int .i64 t.2] 46) := ⟨_, rfl⟩
  have hkA : Fr w1 W := by rw [hW]; exact (Fr.refl w1).alloc _
  have HRT := Lib.hid (show RelTo w0 s pb p q e b t c mb w W from by
    have hkw : Kp (fun g => g = pb) w W := (((Kp.refl (fun g => g = pb) w).alloc _).call hk1).fr hkA
    refine ⟨hc, HT.out, hp1.fr hkA, by rw [hW]; exact B2.new hq.symm, ((B2.new hpp.symm).kp hk1 (show ¬ p = pb by omega)).fr hkA, hm.fr hkA, fun g eg => by have h1 := hnew g eg; simp at h1; omega, ⟨hpp.symm, by have := hk1.size; simp at this; omega, by omega⟩, hkw, ((Kp.of (S := fun g => g = pb) HZ0.out).call hkw).to (by rintro x h; omega)⟩)
  go_wp2_with fail
  rw [← hW]
  try simp only [hpp]
  clear hW hkA hp1 hk1 hm hnew HF
  go_loopw [7] (fun ok wr => RelSd w0 s pb p q d e b r b' w ok wr) (fun _ wr => atOf s pb wr)
  case atStart => exact ⟨t, c, mb, rfl, HR.out, HRT.out⟩
  case round =>
    obtain ⟨t1, a1, mb1, rfl, hpr, hto⟩ := hrel
    have HTO := Lib.hid hto
    have HNX := Lib.hid (next_any s a1 e b pb wr (by have := HS.out; omega) hto.ha hto.pat)
    have HAO := Lib.hid (atOf_eq (s := s) hto.pat.c1)
    have hsk := skip_le hto.ha
    have hsg := skip_ge s a1
    have HFA := Lib.hid hto.far
    have HSS := Lib.hid (skip_skip s a1)
    clear hto
    cases hpr with
    | stop hne hne2 hrr hbb =>
      obtain ⟨ch, hch⟩ : ∃ ch : Int, (peekN s (skipN s a1) : Int) = ch := ⟨_, rfl⟩
      have hc2 : (ch == 43) = false := by simp; omega
      have hc3 : (ch == 45) = false := by simp; omega
      have HCH := Lib.hid hch
      rw [hch] at HNX
      clear hch hne hne2
      go_wp2_with fail
      refine HNX.out.mono ?_
      rintro en w2 ⟨rfl, hp2, hk2⟩
      have HT2 := Lib.hid (HTO.out.kept hzp hsk hp2 hk2)
      have HN2 := Lib.hid (next_any s (skipN s a1) e b pb w2 (by have := HS.out; omega) hsk HT2.out.pat)
      rw [HSS.out, HCH.out] at HN2
      clear hp2 hk2
      go_wp2_with fail
      refine HN2.out.mono ?_
      rintro en w3 ⟨rfl, hp3, hk3⟩
      have HT3 := Lib.hid (HT2.out.kept hzp hsk hp3 hk3)
      obtain ⟨c0, c1, _, _⟩ := HT3.out.tot
      obtain ⟨r0, r1, q0, q1⟩ := HT3.out.res
      have z2 := HT3.out.tot.lt
      have z3 := HT3.out.res.lt
      clear hp3 hk3
      go_wp2
      obtain ⟨h1, h2, h3⟩ := HFA.out
      obtain ⟨w5, hw5, hl5, hv5, hf5⟩ := sum_put (w := w) (off := t1.2) HT3.out.res HT3.out.map (fun g eg => Nat.le_of_lt (HT3.out.new g eg)) (fun g eg h => by subst eg h; exact map_no_cell HT3.out.map HT3.out.res.c0)
      rw [← hw5, hrr, hbb]
      exact bodyPost_ret (v := .tuple #[.agg #[.map mb1, .int .i64 t1.2], .bool true]) (results_cell2 Tryz.results40 _ rfl rfl hl5) rfl ⟨_, rfl, hv5, HT3.out.pat.kp hf5 (show ¬ pb = p by omega), HT3.out.kp.trans hf5 (fun x hx e => by omega)⟩
    | @plus _ u _ c h42 hfac hu hlt hle h16 hrest =>
      have HU := Lib.hid hu
      have HFC := Lib.hid hfac
      have HSS2 := Lib.hid (skip_skip s a1)
      obtain ⟨hal, hav⟩ := peek_at (show peekN s (skipN s a1) ≠ 0 by omega)
      rw [h42] at HNX hav
      have HPK := Lib.hid h42
      clear h42 hfac hu
      obtain ⟨a2, ha2⟩ : ∃ a2, skipN s a1 = a2 := ⟨_, rfl⟩
      simp only [ha2] at HNX HFC hsk hsg hlt hal hav HSS2 HPK
      have HA2 := Lib.hid (show (a2 : Int) + 1 = ((a2 + 1 : Nat) : Int) by omega)
      have hm : (s[a2].toNat : Int) = 43 := by omega
      clear ha2 hav
      go_wp2_with fail
      refine HNX.out.mono ?_
      rintro en w2 ⟨rfl, hp2, hk2⟩
      have HT2 := Lib.hid (HTO.out.kept hzp hsk hp2 hk2)
      obtain ⟨c0, c1, c2, c3, f1, f2, f3⟩ := id hp2
      have z1 := hp2.lt
      clear hp2 hk2
      go_wp2_with fail
      obtain ⟨x, hx⟩ : ∃ x, w2.heap.size = x := ⟨_, rfl⟩
      obtain ⟨W3, hW3⟩ : ∃ W3, W3 = (w2.setCell ⟨pb, 1, none⟩ (.int .i64 ((a2 : Int) + 1))).alloc (.cells #[.map none, .int .i64 0] 46) := ⟨_, rfl⟩
      have HT3 := Lib.hid (show RelTo w0 s pb p q e b t1 (a2 + 1) mb1 w W3 by
        rw [hW3]
        exact (HT2.out.kept hzp (a' := a2 + 1) (by omega) (by rw [← HA2.out]; exact HT2.out.pat.set1) ((Kp.refl (fun g => g = pb) w2).set (p := ⟨pb, 1, none⟩) (.inl rfl) _)).frk ((Fr.refl _).alloc _))
      have HX3 := Lib.hid (show B2 W3 x (.map none) (.int .i64 0) by rw [hW3]; exact B2.new (by simp; omega))
      have HXF := Lib.hid (show x ≠ pb ∧ x ≠ p ∧ x ≠ q ∧ w.heap.size ≤ x from ⟨by have := HT2.out.pat.lt; omega, by have := HT2.out.res.lt; omega, by have := HT2.out.tot.lt; omega, by have := HT2.out.res.lt; have := HFA.out.1; omega⟩)
      try simp only [hx]
      rw [← hW3]
      clear hW3 c0 c1 c2 c3 f1 f2 f3 z1
      refine (HFC.out W3 e b HT3.out.fr HT3.out.pat).mono ?_
      rintro en w4 ⟨v4, rfl, ⟨mbu, rfl, hmu, hnu⟩, hp4, hk4⟩
      have HT4 := Lib.hid (HT3.out.kept hzp hle hp4 hk4)
      have HX4 := Lib.hid (HX3.out.kp hk4 HXF.out.1)
      have HM4 := Lib.hid hmu
      have HN4 := Lib.hid (show ∀ g, mbu = some g → W3.heap.size ≤ g from hnu)
      have HZ4 := Lib.hid (show ∀ g, mb1 = some g → g < W3.heap.size from fun g eg => by have := HT3.out.map; subst eg; exact this.lt)
      obtain ⟨c0, c1, c2, c3, f1, f2, f3⟩ := HT4.out.pat
      obtain ⟨r0, r1, q0, q1⟩ := HX4.out
      have zx := HX4.out.lt
      have zp4 := HT4.out.pat.lt
      have hxp := HXF.out.1
      clear hp4 hk4 hmu hnu
      go_wp2_with fail
      obtain ⟨W5, hW5⟩ : ∃ W5, W5 = (w4.setCell ⟨x, 0, none⟩ (.map mbu)).setCell ⟨x, 1, none⟩ (.int .i64 u.2) := ⟨_, rfl⟩
      have hkx : Kp (fun g => g = x) w4 W5 := by rw [hW5]; exact ((Kp.refl (fun g => g = x) w4).set (p := ⟨x, 0, none⟩) (.inl rfl) _).set (p := ⟨x, 1, none⟩) (.inl rfl) _
      have HT5 := Lib.hid (HT4.out.side hzp HX4.out HXF.out hkx)
      have HX5 := Lib.hid (show B2 W5 x (.map mbu) (.int .i64 u.2) by rw [hW5]; exact HX4.out.set)
      have HM5 := Lib.hid (HM4.out.kp hkx (fun g eg h => by subst eg h; exact map_no_cell HM4.out HX4.out.c0))
      rw [← hW5]
      clear hW5 hkx r0 r1 q0 q1 zx c0 c1 c2 c3 f1 f2 f3 zp4 hxp
      have HAD := Lib.hid (add_any t1.1 u.1 t1.2 u.2 q mb1 mbu W5 HTO.out.ok.asc HTO.out.ok.sm HU.out.asc HU.out.sm (by have := HTO.out.ok.len; have := HU.out.len; omega) HT5.out.sat HM5.out (fun g e1 e2 => by have := HN4.out g e1; have := HZ4.out g e2; omega))
      refine HAD.out.mono ?_
      rintro en w8 ⟨⟨v8, rfl⟩, mb8, hs8⟩
      have HT8 := Lib.hid (HT5.out.added (t' := addS t1 u) hzp hs8 (HTO.out.ok.add HU.out h16))
      obtain ⟨c0, c1, _, _⟩ := HT8.out.tot
      have z2 := HT8.out.tot.lt
      have HTM := Lib.hid (tooMany_any (addS t1 u).1 (addS t1 u).2 mb8 w8 HT8.out.map)
      rw [(decide_eq_false (by omega) : decide (16 < (addS t1 u).1.length) = false)] at HTM
      clear hs8
      go_wp2_with fail
      refine HTM.out.mono ?_
      rintro en w9 ⟨rfl, hf9⟩
      have HT9 := Lib.hid (HT8.out.frk hf9)
      clear hf9 c0 c1 z2
      go_wp2
      go_roundw
      case rel => exact ⟨addS t1 u, c, mb8, rfl, hrest, HT9.out⟩
      case measure => exact Nat.lt_of_le_of_lt (Nat.le_of_eq (atOf_eq (s := s) HT9.out.pat.c1)) (by rw [HAO.out]; omega)
    | @less _ u _ c h42 hfac hu hlt hle h16 hrest =>
      have HU := Lib.hid hu
      have HFC := Lib.hid hfac
      have HSS2 := Lib.hid (skip_skip s a1)
      obtain ⟨hal, hav⟩ := peek_at (show peekN s (skipN s a1) ≠ 0 by omega)
      rw [h42] at HNX hav
      have HPK := Lib.hid h42
      clear h42 hfac hu
      obtain ⟨a2, ha2⟩ : ∃ a2, skipN s a1 = a2 := ⟨_, rfl⟩
      simp only [ha2] at HNX HFC hsk hsg hlt hal hav HSS2 HPK
      have HA2 := Lib.hid (show (a2 : Int) + 1 = ((a2 + 1 : Nat) : Int) by omega)
      have hm : (s[a2].toNat : Int) = 45 := by omega
      clear ha2 hav
      go_wp2_with fail
      refine HNX.out.mono ?_
      rintro en w2 ⟨rfl, hp2, hk2⟩
      have HT2 := Lib.hid (HTO.out.kept hzp hsk hp2 hk2)
      have HN2 := Lib.hid (next_any s a2 e b pb w2 (by have := HS.out; omega) hsk HT2.out.pat)
      rw [HSS2.out, HPK.out] at HN2
      clear hp2 hk2
      go_wp2_with fail
      refine HN2.out.mono ?_
      rintro en w2b ⟨rfl, hp2, hk2⟩
      replace HT2 := Lib.hid (HT2.out.kept hzp hsk hp2 hk2)
      obtain ⟨c0, c1, c2, c3, f1, f2, f3⟩ := id hp2
      have z1 := hp2.lt
      clear hp2 hk2
      go_wp2_with fail
      obtain ⟨x, hx⟩ : ∃ x, w2b.heap.size = x := ⟨_, rfl⟩
      obtain ⟨W3, hW3⟩ : ∃ W3, W3 = (w2b.setCell ⟨pb, 1, none⟩ (.int .i64 ((a2 : Int) + 1))).alloc (.cells #[.map none, .int .i64 0] 46) := ⟨_, rfl⟩
      have HT3 := Lib.hid (show RelTo w0 s pb p q e b t1 (a2 + 1) mb1 w W3 by
        rw [hW3]
        exact (HT2.out.kept hzp (a' := a2 + 1) (by omega) (by rw [← HA2.out]; exact HT2.out.pat.set1) ((Kp.refl (fun g => g = pb) w2b).set (p := ⟨pb, 1, none⟩) (.inl rfl) _)).frk ((Fr.refl _).alloc _))
      have HX3 := Lib.hid (show B2 W3 x (.map none) (.int .i64 0) by rw [hW3]; exact B2.new (by simp; omega))
      have HXF := Lib.hid (show x ≠ pb ∧ x ≠ p ∧ x ≠ q ∧ w.heap.size ≤ x from ⟨by have := HT2.out.pat.lt; omega, by have := HT2.out.res.lt; omega, by have := HT2.out.tot.lt; omega, by have := HT2.out.res.lt; have := HFA.out.1; omega⟩)
      try simp only [hx]
      rw [← hW3]
      clear hW3 c0 c1 c2 c3 f1 f2 f3 z1
      refine (HFC.out W3 e b HT3.out.fr HT3.out.pat).mono ?_
      rintro en w4 ⟨v4, rfl, ⟨mbu, rfl, hmu, hnu⟩, hp4, hk4⟩
      have HT4 := Lib.hid (HT3.out.kept hzp hle hp4 hk4)
      have HX4 := Lib.hid (HX3.out.kp hk4 HXF.out.1)
      have HM4 := Lib.hid hmu
      have HN4 := Lib.hid (show ∀ g, mbu = some g → W3.heap.size ≤ g from hnu)
      have HZ4 := Lib.hid (show ∀ g, mb1 = some g → g < W3.heap.size from fun g eg => by have := HT3.out.map; subst eg; exact this.lt)
      obtain ⟨c0, c1, c2, c3, f1, f2, f3⟩ := HT4.out.pat
      obtain ⟨r0, r1, q0, q1⟩ := HX4.out
      have zx := HX4.out.lt
      have zp4 := HT4.out.pat.lt
      have hxp := HXF.out.1
      clear hp4 hk4 hmu hnu
      go_wp2_with fail
      obtain ⟨W5, hW5⟩ : ∃ W5, W5 = (w4.setCell ⟨x, 0, none⟩ (.map mbu)).setCell ⟨x, 1, none⟩ (.int .i64 u.2) := ⟨_, rfl⟩
      have hkx : Kp (fun g => g = x) w4 W5 := by rw [hW5]; exact ((Kp.refl (fun g => g = x) w4).set (p := ⟨x, 0, none⟩) (.inl rfl) _).set (p := ⟨x, 1, none⟩) (.inl rfl) _
      have HT5 := Lib.hid (HT4.out.side hzp HX4.out HXF.out hkx)
      have HX5 := Lib.hid (show B2 W5 x (.map mbu) (.int .i64 u.2) by rw [hW5]; exact HX4.out.set)
      have HM5 := Lib.hid (HM4.out.kp hkx (fun g eg h => by subst eg h; exact map_no_cell HM4.out HX4.out.c0))
      rw [← hW5]
      clear hW5 hkx r0 r1 q0 q1 zx c0 c1 c2 c3 f1 f2 f3 zp4 hxp
      have HBY := Lib.hid (by_any u.1 u.2 (-1) mbu W5 HU.out.asc (by have := HU.out.len; omega) HU.out.sm HM5.out)
      refine HBY.out.mono ?_
      rintro en w6 ⟨v6, rfl, ⟨mb6, rfl, hm6, hn6⟩, hf6⟩
      have HT6 := Lib.hid (HT5.out.frk hf6)
      have HX6 := Lib.hid (HX5.out.fr hf6)
      have HM6 := Lib.hid hm6
      have HN6 := Lib.hid (show ∀ g, mb6 = some g → W5.heap.size ≤ g from hn6)
      have HZ6 := Lib.hid (show ∀ g, mb1 = some g → g < W5.heap.size from fun g eg => by have := HT5.out.map; subst eg; exact this.lt)
      obtain ⟨r0, r1, q0, q1⟩ := HX6.out
      have zx := HX6.out.lt
      clear hm6 hn6 hf6
      go_wp2_with fail
      obtain ⟨W7, hW7⟩ : ∃ W7, W7 = (w6.setCell ⟨x, 0, none⟩ (.map mb6)).setCell ⟨x, 1, none⟩ (.int .i64 (mul64 (-1) u.2)) := ⟨_, rfl⟩
      have hky : Kp (fun g => g = x) w6 W7 := by rw [hW7]; exact ((Kp.refl (fun g => g = x) w6).set (p := ⟨x, 0, none⟩) (.inl rfl) _).set (p := ⟨x, 1, none⟩) (.inl rfl) _
      have HT7 := Lib.hid (HT6.out.side hzp HX6.out HXF.out hky)
      have HM7 := Lib.hid (HM6.out.kp hky (fun g eg h => by subst eg h; exact map_no_cell HM6.out HX6.out.c0))
      rw [← hW7]
      clear hW7 hky r0 r1 q0 q1 zx
      have HAD := Lib.hid (add_any t1.1 (byS u (-1)).1 t1.2 (byS u (-1)).2 q mb1 mb6 W7 HTO.out.ok.asc HTO.out.ok.sm (HU.out.by (-1)).asc (HU.out.by (-1)).sm (by have := HTO.out.ok.len; have := (HU.out.by (-1)).len; omega) HT7.out.sat HM7.out (fun g e1 e2 => by have := HN6.out g e1; have := HZ6.out g e2; omega))
      refine HAD.out.mono ?_
      rintro en w8 ⟨⟨v8, rfl⟩, mb8, hs8⟩
      have HT8 := Lib.hid (HT7.out.added (t' := addS t1 (byS u (-1))) hzp hs8 (HTO.out.ok.add (HU.out.by (-1)) h16))
      obtain ⟨c0, c1, _, _⟩ := HT8.out.tot
      have z2 := HT8.out.tot.lt
      have HTM := Lib.hid (tooMany_any (addS t1 (byS u (-1))).1 (addS t1 (byS u (-1))).2 mb8 w8 HT8.out.map)
      rw [(decide_eq_false (by omega) : decide (16 < (addS t1 (byS u (-1))).1.length) = false)] at HTM
      clear hs8
      go_wp2_with fail
      refine HTM.out.mono ?_
      rintro en w9 ⟨rfl, hf9⟩
      have HT9 := Lib.hid (HT8.out.frk hf9)
      clear hf9 c0 c1 z2
      go_wp2
      go_roundw
      case rel => exact ⟨addS t1 (byS u (-1)), c, mb8, rfl, hrest, HT9.out⟩
      case measure => exact Nat.lt_of_le_of_lt (Nat.le_of_eq (atOf_eq (s := s) HT9.out.pat.c1)) (by rw [HAO.out]; omega)
end Go.Proofs.YtbnaakognnkhdaaGreatDoor
