/- A sum as it is handed out. -/
import Derived.Test.YtbnaakognnkhdaaGreatDoorZi
import Derived.Deep.RegionLaw
import Derived.Deep.AppendLies
import Derived.Deep.RegionWith
namespace Go.Proofs.YtbnaakognnkhdaaGreatDoor
open Go.RowKit
set_option linter.unusedSimpArgs false
set_option linter.unusedVariables false

/-- The sum that grows: a block of three cells, two rows that are newer than W. -/
structure OutL (W : World) (ob : Nat) (ss : List ByteArray) (ts : List Int) (off : Int) (v1 v2 : Value) (wr : World) : Prop where
  kp : Kp (fun g => g = ob) W wr
  lo : ob < W.heap.size
  c0 : wr.cell? ⟨ob, 0, none⟩ = some v1
  c1 : wr.cell? ⟨ob, 1, none⟩ = some v2
  c2 : wr.cell? ⟨ob, 2, none⟩ = some (.int .i64 off)
  f0 : wr.frozen? ⟨ob, 0, none⟩ = false
  f1 : wr.frozen? ⟨ob, 1, none⟩ = false
  o1 : Own strv wr W.heap.size 9 v1 ss
  o2 : Own intv wr W.heap.size 3 v2 ts
  apart : ∀ g, v1.ownBlock = some g → v2.ownBlock ≠ some g
section
variable {W wr w1 : World} {ob : Nat} {ss : List ByteArray} {ts : List Int} {off : Int} {v1 v2 v1' v2' : Value} {s : ByteArray} {n : Int} {o : Obj}
theorem OutL.fr (h : OutL W ob ss ts off v1 v2 wr) (k : Fr wr w1) : OutL W ob ss ts off v1 v2 w1 :=
  ⟨h.kp.fr k, h.lo, k.get h.c0, k.get h.c1, k.get h.c2, k.free h.c0 h.f0, k.free h.c1 h.f1, h.o1.fr k, h.o2.fr k, h.apart⟩
theorem OutL.ne1 (h : OutL W ob ss ts off v1 v2 wr) : v1.ownBlock ≠ some ob := fun e => by have := h.o1.base_le ob e; have := h.lo; omega
theorem OutL.ne2 (h : OutL W ob ss ts off v1 v2 wr) : v2.ownBlock ≠ some ob := fun e => by have := h.o2.base_le ob e; have := h.lo; omega
theorem OutL.cells1 (h : OutL W ob ss ts off v1 v2 wr) (hg : Grew strv (wr.alloc o) W.heap.size 9 v1 (ss ++ [s]) v1' w1) :
    w1.cell? ⟨ob, 0, none⟩ = some v1 ∧ w1.cell? ⟨ob, 1, none⟩ = some v2 ∧ w1.cell? ⟨ob, 2, none⟩ = some (.int .i64 off) ∧ w1.frozen? ⟨ob, 0, none⟩ = false ∧ w1.frozen? ⟨ob, 1, none⟩ = false ∧ ob < w1.heap.size := by
  have k := (Fr.refl wr).alloc o
  have c := grew_cell hg.2.1 h.ne1 (k.get h.c0)
  exact ⟨c, grew_cell hg.2.1 h.ne1 (k.get h.c1), grew_cell hg.2.1 h.ne1 (k.get h.c2), grew_free hg.2.1 h.ne1 (k.get h.c0) (k.free h.c0 h.f0), grew_free hg.2.1 h.ne1 (k.get h.c1) (k.free h.c1 h.f1), lt_of_cell c⟩
theorem OutL.push1 (h : OutL W ob ss ts off v1 v2 wr) (hg : Grew strv (wr.alloc o) W.heap.size 9 v1 (ss ++ [s]) v1' w1) : OutL W ob (ss ++ [s]) ts off v1' v2 (w1.setCell ⟨ob, 0, none⟩ v1') := by
  obtain ⟨d0, d1, d2, e0, e1, zw⟩ := h.cells1 hg
  have hb : w1.grownBy (w1.setCell ⟨ob, 0, none⟩ v1') (some ob) := grown_set (World.grownBy.refl w1 _)
  have ho2 : Own intv w1 W.heap.size 3 v2 ts := grew_kept hg (h.o2.alloc o) (by
    cases hv : v2.ownBlock with
    | none => exact .inl rfl
    | some g => exact .inr (fun e => h.apart g e.symm hv))
  refine ⟨((h.kp.alloc o).grown hg.2.1 fun j e => .inr (h.o1.base_le j e)).set (p := ⟨ob, 0, none⟩) (.inl rfl) _, h.lo, by simp [go_sem, *], by simp [go_sem, *], by simp [go_sem, *], by simp [go_sem, *], by simp [go_sem, *], own_other hg.own h.lo hb, own_other ho2 h.lo hb, fun g hv1 hv2 => ?_⟩
  rcases hg.2.2 with e | e
  · rw [hv1] at e
    exact h.apart g e.symm hv2
  · rw [hv1] at e
    injection e with e
    have := (World.ownsRow.lt h.o2 g hv2).2
    simp at e
    omega
theorem OutL.cells2 (h : OutL W ob ss ts off v1 v2 wr) (hg : Grew intv (wr.alloc o) W.heap.size 3 v2 (ts ++ [n]) v2' w1) :
    w1.cell? ⟨ob, 0, none⟩ = some v1 ∧ w1.cell? ⟨ob, 1, none⟩ = some v2 ∧ w1.cell? ⟨ob, 2, none⟩ = some (.int .i64 off) ∧ w1.frozen? ⟨ob, 0, none⟩ = false ∧ w1.frozen? ⟨ob, 1, none⟩ = false ∧ ob < w1.heap.size := by
  have k := (Fr.refl wr).alloc o
  have c := grew_cell hg.2.1 h.ne2 (k.get h.c0)
  exact ⟨c, grew_cell hg.2.1 h.ne2 (k.get h.c1), grew_cell hg.2.1 h.ne2 (k.get h.c2), grew_free hg.2.1 h.ne2 (k.get h.c0) (k.free h.c0 h.f0), grew_free hg.2.1 h.ne2 (k.get h.c1) (k.free h.c1 h.f1), lt_of_cell c⟩
theorem OutL.push2 (h : OutL W ob ss ts off v1 v2 wr) (hg : Grew intv (wr.alloc o) W.heap.size 3 v2 (ts ++ [n]) v2' w1) : OutL W ob ss (ts ++ [n]) off v1 v2' (w1.setCell ⟨ob, 1, none⟩ v2') := by
  obtain ⟨d0, d1, d2, e0, e1, zw⟩ := h.cells2 hg
  have hb : w1.grownBy (w1.setCell ⟨ob, 1, none⟩ v2') (some ob) := grown_set (World.grownBy.refl w1 _)
  have ho1 : Own strv w1 W.heap.size 9 v1 ss := grew_kept hg (h.o1.alloc o) (by
    cases hv : v1.ownBlock with
    | none => exact .inl rfl
    | some g => exact .inr (fun e => h.apart g hv e.symm))
  refine ⟨((h.kp.alloc o).grown hg.2.1 fun j e => .inr (h.o2.base_le j e)).set (p := ⟨ob, 1, none⟩) (.inl rfl) _, h.lo, by simp [go_sem, *], by simp [go_sem, *], by simp [go_sem, *], by simp [go_sem, *], by simp [go_sem, *], own_other ho1 h.lo hb, own_other hg.own h.lo hb, fun g hv1 hv2 => ?_⟩
  rcases hg.2.2 with e | e
  · rw [hv2] at e
    exact h.apart g hv1 e.symm
  · rw [hv2] at e
    injection e with e
    have := (World.ownsRow.lt h.o1 g hv1).2
    simp at e
    omega
end
/-- A round over the sorted names. -/
def RelLi (P : List (ByteArray × Int)) (off : Int) (ob : Nat) (W : World) (n : Nat) (i : Value) (wr : World) : Prop := ∃ (k : Nat) (A B : Option Addr) (c d : Nat), k ≤ n ∧ i = .int .i64 (k : Int) ∧ OutL W ob (fsts (P.take k)) (snds (P.take k)) off (.slice A (fsts (P.take k)).length c) (.slice B (snds (P.take k)).length d) wr
theorem box_lin {w : World} {mb : Option Nat} {off : Int} {W : World} (h : Fr (((w.alloc (.cells #[.map mb, .int .i64 off] 46)).alloc (.cells #[.slice none 0 0, .slice none 0 0, .int .i64 0] 25)).alloc (.cells #[.slice none 0 0, .slice none 0 0, .int .i64 off] 25)) W) :
    (W.cell? ⟨w.heap.size, 0, none⟩ = some (.map mb) ∧ W.cell? ⟨w.heap.size, 1, none⟩ = some (.int .i64 off)) ∧
      (W.cell? ⟨w.heap.size + 1, 0, none⟩ = some (.slice none 0 0) ∧ W.cell? ⟨w.heap.size + 1, 1, none⟩ = some (.slice none 0 0) ∧ W.cell? ⟨w.heap.size + 1, 2, none⟩ = some (.int .i64 0)) ∧ (W.frozen? ⟨w.heap.size + 1, 0, none⟩ = false ∧ W.frozen? ⟨w.heap.size + 1, 1, none⟩ = false ∧ W.frozen? ⟨w.heap.size + 1, 2, none⟩ = false) ∧
      OutL W (w.heap.size + 2) [] [] off (.slice none 0 0) (.slice none 0 0) W ∧ Fr w W := by
  have e0 : (((w.alloc (.cells #[.map mb, .int .i64 off] 46)).alloc (.cells #[.slice none 0 0, .slice none 0 0, .int .i64 0] 25)).alloc (.cells #[.slice none 0 0, .slice none 0 0, .int .i64 off] 25)).cell? ⟨w.heap.size, 0, none⟩ = some (.map mb) := by simp [go_sem]
  have e1 : (((w.alloc (.cells #[.map mb, .int .i64 off] 46)).alloc (.cells #[.slice none 0 0, .slice none 0 0, .int .i64 0] 25)).alloc (.cells #[.slice none 0 0, .slice none 0 0, .int .i64 off] 25)).cell? ⟨w.heap.size, 1, none⟩ = some (.int .i64 off) := by simp [go_sem]
  have g0 : (((w.alloc (.cells #[.map mb, .int .i64 off] 46)).alloc (.cells #[.slice none 0 0, .slice none 0 0, .int .i64 0] 25)).alloc (.cells #[.slice none 0 0, .slice none 0 0, .int .i64 off] 25)).cell? ⟨w.heap.size + 1, 0, none⟩ = some (.slice none 0 0) := by simp [go_sem]
  have g1 : (((w.alloc (.cells #[.map mb, .int .i64 off] 46)).alloc (.cells #[.slice none 0 0, .slice none 0 0, .int .i64 0] 25)).alloc (.cells #[.slice none 0 0, .slice none 0 0, .int .i64 off] 25)).cell? ⟨w.heap.size + 1, 1, none⟩ = some (.slice none 0 0) := by simp [go_sem]
  have g2 : (((w.alloc (.cells #[.map mb, .int .i64 off] 46)).alloc (.cells #[.slice none 0 0, .slice none 0 0, .int .i64 0] 25)).alloc (.cells #[.slice none 0 0, .slice none 0 0, .int .i64 off] 25)).cell? ⟨w.heap.size + 1, 2, none⟩ = some (.int .i64 0) := by simp [go_sem]
  have k0 : (((w.alloc (.cells #[.map mb, .int .i64 off] 46)).alloc (.cells #[.slice none 0 0, .slice none 0 0, .int .i64 0] 25)).alloc (.cells #[.slice none 0 0, .slice none 0 0, .int .i64 off] 25)).cell? ⟨w.heap.size + 2, 0, none⟩ = some (.slice none 0 0) := by simp [go_sem]
  have k1 : (((w.alloc (.cells #[.map mb, .int .i64 off] 46)).alloc (.cells #[.slice none 0 0, .slice none 0 0, .int .i64 0] 25)).alloc (.cells #[.slice none 0 0, .slice none 0 0, .int .i64 off] 25)).cell? ⟨w.heap.size + 2, 1, none⟩ = some (.slice none 0 0) := by simp [go_sem]
  have k2 : (((w.alloc (.cells #[.map mb, .int .i64 off] 46)).alloc (.cells #[.slice none 0 0, .slice none 0 0, .int .i64 0] 25)).alloc (.cells #[.slice none 0 0, .slice none 0 0, .int .i64 off] 25)).cell? ⟨w.heap.size + 2, 2, none⟩ = some (.int .i64 off) := by simp [go_sem]
  exact ⟨⟨h.get e0, h.get e1⟩, ⟨h.get g0, h.get g1, h.get g2⟩, ⟨h.free g0 (by simp [go_sem]), h.free g1 (by simp [go_sem]), h.free g2 (by simp [go_sem])⟩,
    ⟨Kp.refl _ _, lt_of_cell (h.get k0), h.get k0, h.get k1, h.get k2, h.free k0 (by simp [go_sem]), h.free k1 (by simp [go_sem]), Own.nil, Own.nil, fun g e => by cases e⟩, ((((Fr.refl w).alloc _).alloc _).alloc _).call h⟩
theorem take_add {P : List (ByteArray × Int)} {k : Nat} (h : k < P.length) : P.take (k + 1) = P.take k ++ [(P[k].1, P[k].2)] := by rw [List.take_succ_eq_append_getElem h]
theorem fsts_app (l : List (ByteArray × Int)) (x : ByteArray) (n : Int) : fsts (l ++ [(x, n)]) = fsts l ++ [x] := by simp [fsts]
theorem snds_app (l : List (ByteArray × Int)) (x : ByteArray) (n : Int) : snds (l ++ [(x, n)]) = snds l ++ [n] := by simp [snds]
set_option maxHeartbeats 6400000 in
set_option maxRecDepth 100000 in
theorem lin_any (P : List (ByteArray × Int)) (off : Int) (mb : Option Nat) (w : World) (hP : ascP P) (hl : P.length ≤ 100000) (hi : ∀ x ∈ P, x.1.size ≤ 140737488351232 ∧ I64 x.2) (hM : MapP w mb P) :
    Calls Tryz.prog 22 #[.agg #[.map mb, .int .i64 off]] w fun e w' => ∃ v, e = .returned v ∧ LnF (New w w') w' v (fsts P) (snds P) off ∧ Fr w w' := by
  have hk := fun w => keys_any mb w
  have hst := sorted_any mb P (((w.alloc (.cells #[.map mb, .int .i64 off] 46)).alloc (.cells #[.slice none 0 0, .slice none 0 0, .int .i64 0] 25)).alloc (.cells #[.slice none 0 0, .slice none 0 0, .int .i64 off] 25)) (((hM.fr ((Fr.refl w).alloc _)).fr ((Fr.refl _).alloc _)).fr ((Fr.refl _).alloc _)) hP hl
  simp only [World.size_alloc] at hst
  have hmW := hM
  have HAT := Lib.hid (fun (k : Nat) (hk : k < P.length) c (h : (dP P).atKey (Kl P[k].1) (.lit (.int .i64 0)) = .lit (.int .i64 c)) => (at_lit hP h).trans (look_mem hP _ (List.getElem_mem hk)))
  have HSZ := Lib.hid (fun (k : Nat) (hk : k < P.length) => (hi _ (List.getElem_mem hk)).1)
  have HLN := Lib.hid (show P.length ≤ 100000 from hl)
  clear hM hi hP
  go_enter Tryz.func22, Tryz.ntmps22
  go_wp2_with (first
    | (go_at_call 33; refine (hk _).mono ?_; rintro e w1 ⟨rfl, rfl⟩)
    | (go_at_call 32; refine hst.mono ?_; rintro e W ⟨A, c, rfl, hr, hF, hf⟩)
    | fail)
  clear hst hk
  have HX := Lib.hid (box_lin (((Fr.refl _).alloc _).call hf))
  have HM := Lib.hid (hmW.fr HX.out.2.2.2.2)
  have HR := Lib.hid hr
  have HFR0 := Lib.hid HX.out.2.2.2.2
  have HP := Lib.hid (show ∀ b, mb = some b → b < w.heap.size from fun b e => by subst e; exact hmW.lt)
  have HFF := Lib.hid hF
  obtain ⟨p, hp⟩ : ∃ p, w.heap.size = p := ⟨_, rfl⟩
  have hp1 : p + 1 + 1 = p + 2 := rfl
  rw [hp] at HX HP HFF
  simp only [hp, hp1]
  clear hr hF hf hmW
  obtain ⟨n, hn⟩ : ∃ n, P.length = n := ⟨_, rfl⟩
  simp only [hn]
  go_loopw [14] (fun i wr => RelLi P off (p + 2) W n i wr) (fun i _ => n - (intOf i).toNat)
  case atStart => exact ⟨0, none, none, 0, 0, Nat.zero_le _, rfl, HX.out.2.2.2.1⟩
  case round =>
    obtain ⟨k, A3, A7, c3, c7, hk, rfl, ho⟩ := hrel
    have HO := Lib.hid ho
    obtain ⟨⟨y0, y1⟩, ⟨g0, g1, g2⟩, ⟨h0, h1, h2⟩, _, _⟩ := HX.out
    have kpW := ho.kp
    have k0 : wr.cell? ⟨p, 0, none⟩ = some (.map mb) := kpW.get (show ¬ p = p + 2 by omega) y0
    have HG := Lib.hid (show wr.cell? ⟨p + 1, 0, none⟩ = some (.slice none 0 0) ∧ wr.cell? ⟨p + 1, 1, none⟩ = some (.slice none 0 0) ∧ wr.cell? ⟨p + 1, 2, none⟩ = some (.int .i64 0) ∧ wr.frozen? ⟨p + 1, 0, none⟩ = false ∧ wr.frozen? ⟨p + 1, 1, none⟩ = false ∧ wr.frozen? ⟨p + 1, 2, none⟩ = false from
      ⟨kpW.get (show ¬ p + 1 = p + 2 by omega) g0, kpW.get (show ¬ p + 1 = p + 2 by omega) g1, kpW.get (show ¬ p + 1 = p + 2 by omega) g2, kpW.free (show ¬ p + 1 = p + 2 by omega) g0 h0, kpW.free (show ¬ p + 1 = p + 2 by omega) g1 h1, kpW.free (show ¬ p + 1 = p + 2 by omega) g2 h2⟩)
    have HM2 := Lib.hid (HM.out.kp kpW fun b e hb => by have := HP.out b e; omega)
    have HK := Lib.hid (show Fr w wr from ((Kp.of (S := fun g => g = p + 2) HFR0.out).call kpW).to (by rintro x rfl; omega))
    have q0 := ho.c0
    have q1 := ho.c1
    have q2 := ho.c2
    have r0 := ho.f0
    have r1 := ho.f1
    have zq := lt_of_cell q0
    have zp := lt_of_cell k0
    have LN : (fsts (P.take k)).length = k := by simp [fsts]; omega
    have LM : (snds (P.take k)).length = k := by simp [snds]; omega
    rw [LN] at q0
    rw [LM] at q1
    rw [LN, LM] at HO
    clear y0 y1 g0 g1 g2 kpW ho
    by_cases hlt : k < n
    · have hka : k < P.length := by rw [hn]; exact hlt
      cases mb with
      | none =>
        have : P = [] := HM.out
        rw [this] at hka
        exact absurd hka (by simp)
      | some b =>
        have hown : wr.ownsMap Tryz.prog 9 (plainElem (H := Unit) Tryz.prog 3) b P.length (dP P) := HM2.out
        obtain ⟨ga, oa, rfl, hga, hca⟩ := HR.out (by simp [fsts]; omega)
        have hgo : ¬ ga = p + 2 := by
          obtain ⟨g', o', s', e1, e2⟩ := HFF.out (by omega)
          injection e1 with e1
          injection e1 with e1
          omega
        have a1 : wr.cell? ⟨ga, oa + k, none⟩ = some (.string P[k].1) := by
          have := HO.out.kp.get hgo (hca k (by simp [fsts]; omega)); rw [fsts_get hka] at this; exact this
        have hga' : ga < wr.heap.size := lt_of_cell a1
        have HA1 := Lib.hid (HAT.out k hka)
        have HS1 := Lib.hid (HSZ.out k hka)
        have hcl : ∀ w, Calls Tryz.prog 34 #[.string P[k].1] w fun e w' => e = .returned (.string P[k].1) ∧ Fr w w' := fun w => clone_any _ w (Nat.le_trans (HSZ.out k hka) (by decide))
        clear hca
        go_wp2
        go_region_law (first
          | (go_simp; go_at_call 34; refine (hcl _).mono ?_; rintro e w1 ⟨rfl, hf1⟩; have HO1 := Lib.hid (HO.out.fr (((Fr.refl wr).drew).call hf1)); have s0 := HO1.out.c0; have s1 := HO1.out.c1; have zq1 := lt_of_cell s0)
          | (refine step_append_rd (f := strv) (fun _ => rfl) _ rfl (.tmp 19) (.tmp 22) 22 rfl W.heap.size 9 Tryz.underlying22 Tryz.infoStr rfl (.slice A3 k c3) (fsts (P.take k)) rfl (HO1.out.o1.alloc _) (some ⟨w1.heap.size, 0, none⟩) 1 1 [P[k].1] rfl rfl (rd_one _ _ _) (Nat.le_trans (show (fsts (P.take k)).length + 1 ≤ 200000 by omega) (by decide)) (by omega) (by have := HO1.out.kp.size; simp; omega) ?_; intro v1' w2 hg1; obtain ⟨A4, c4, hv1, _, _, _⟩ := hg1.out.own.val; obtain ⟨m1, hm1⟩ : ∃ m, (fsts (P.take k) ++ [P[k].1]).length = m := ⟨_, rfl⟩; rw [hm1] at hv1; subst hv1; obtain ⟨d0, d1, d2, e0, e1, zw⟩ := HO1.out.cells1 hg1.out; have HP1 := Lib.hid (HO1.out.push1 hg1.out); have k02 : w2.cell? ⟨p, 0, none⟩ = some (.map (some b)) := ((HO1.out.kp.alloc _).grown hg1.out.2.1 fun j e => .inr (HO1.out.o1.base_le j e)).get (show ¬ p = p + 2 by omega) HX.out.1.1; clear hg1))
        all_goals
          have hown2 : (w2.setCell ⟨p + 2, 0, none⟩ (.slice A4 m1 c4)).ownsMap Tryz.prog 9 (plainElem (H := Unit) Tryz.prog 3) b P.length (dP P) := HM.out.kp HP1.out.kp (fun b' e hb => by have := HP.out b' e; omega)
          have hkey : keyOf Tryz.prog 9 (.string P[k].1) = some (Kl P[k].1) := Go.WideMaps.keyOf_string_mk Tryz.underlying9 (Nat.le_trans HS1.out (by decide))
          have zp2 := lt_of_cell k02
          generalize hx : P[k].1 = x at *
          go_wp2_with (first
            | (at_lookup; refine wpList_lookup_own_int _ rfl _ _ 44 rfl 9 3 .i64 lawS Tryz.underlying44 Tryz.underlying3 (zeroI _) b _ _ rfl hown2 _ (Kl x) rfl hkey ?_; intro cv hat hwc)
            | (at_builtin; refine wpList_append_rd (f := intv) (fun _ => rfl) _ rfl (.tmp 26) (.tmp 31) 23 rfl W.heap.size 3 Tryz.underlying23 Tryz.infoInt rfl (.slice A7 k c7) (snds (P.take k)) rfl (HP1.out.o2.alloc _) (some ⟨w2.heap.size, 0, none⟩) 1 1 [cv] rfl rfl (rd_one' _ _ _ (by simp)) (Nat.le_trans (show (snds (P.take k)).length + 1 ≤ 200000 by omega) (by decide)) (by omega) (by have := HP1.out.kp.size; simp at this ⊢; omega) ?_; intro v2' w3 hg2; obtain ⟨A8, c8, hv2, _, _, _⟩ := hg2.out.own.val; obtain ⟨m2, hm2⟩ : ∃ m, (snds (P.take k) ++ [cv]).length = m := ⟨_, rfl⟩; rw [hm2] at hv2; subst hv2; obtain ⟨d0, d1, d2, e0, e1, zw⟩ := HP1.out.cells2 hg2.out; have HP2 := Lib.hid (HP1.out.push2 hg2.out); clear hg2)
            | fail)
          go_roundw
          case rel => exact ⟨k + 1, A4, A8, c4, c8, by omega, by go_num, by
            have e1 := HA1.out cv hat
            have e2 := take_add hka
            rw [e2, hx, ← e1, fsts_app, snds_app, hm1, hm2]
            exact HP2.out⟩
          case measure => simp [intOf]; omega
    · obtain rfl : k = n := by omega
      obtain ⟨g0, g1, g2, f0, f1, f2⟩ := HG.out
      have zg := lt_of_cell g0
      have eT : P.take k = P := List.take_of_length_le (by omega)
      rw [eT] at HO LN LM
      have HE := Lib.hid (show Own strv wr W.heap.size 9 (.slice A3 (fsts P).length c3) (fsts P) from by rw [LN]; exact HO.out.o1)
      have HE2 := Lib.hid (show Own intv wr W.heap.size 3 (.slice A7 (snds P).length c7) (snds P) from by rw [LM]; exact HO.out.o2)
      go_wp2
      obtain ⟨w5, hw5, hl5, hr5, hf5⟩ := lin_end (off := off) (show w.heap.size ≤ p + 1 by omega) HK.out (show p + 1 < W.heap.size by have := HO.out.lo; omega) HE.out HE2.out g0 g1 g2
      rw [LN, LM] at hw5 hl5 hr5
      rw [← hw5]
      exact bodyPost_ret (v := .agg #[.slice A3 k c3, .slice A7 k c7, .int .i64 off]) (results_cell Tryz.results22 _ rfl hl5) rfl ⟨_, rfl, hr5, hf5⟩
end Go.Proofs.YtbnaakognnkhdaaGreatDoor
