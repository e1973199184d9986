/- A sum as the program reckons with it: a map of names, a number. A symbol is counted. -/
import Derived.Test.YtbnaakognnkhdaaGreatDoorZc
import Derived.Test.YtbnaakognnkhdaaGreatDoorChecked
import Derived.WalkSpells
namespace Go.Proofs.YtbnaakognnkhdaaGreatDoor
open Go.RowKit
set_option linter.unusedSimpArgs false
set_option linter.unusedVariables false

theorem lawS : Go.Maps.Keyed Tryz.prog 9 := Go.Maps.string_keyed Tryz.underlying9
theorem zeroI (w : World) : (zeroValue 3).run Tryz.prog w = .ok (.int .i64 0) w := by kernel_rfl
/-- The map mb holds the list P. -/
def MapP (w : World) (mb : Option Nat) (P : List (ByteArray × Int)) : Prop :=
  match mb with
  | none => P = []
  | some b => w.ownsMap Tryz.prog 9 (plainElem (H := Unit) Tryz.prog 3) b P.length (dP P)
theorem MapP.lt {w : World} {b : Nat} {P : List (ByteArray × Int)} (h : MapP w (some b) P) : b < w.heap.size := World.ownsMap.lt h
theorem MapP.keep {w w' : World} {mb : Option Nat} {P : List (ByteArray × Int)} (h : MapP w mb P) (k : ∀ b, mb = some b → w'.heap[b]? = w.heap[b]?) : MapP w' mb P := by
  cases mb with
  | none => exact h
  | some b => exact own_keep h (k b rfl)
theorem MapP.fr {w w' : World} {mb : Option Nat} {P : List (ByteArray × Int)} (h : MapP w mb P) (k : Fr w w') : MapP w' mb P := h.keep fun b e => by
  subst e; exact k.block b h.lt
theorem MapP.kp {S : Nat → Prop} {w w' : World} {mb : Option Nat} {P : List (ByteArray × Int)} (h : MapP w mb P) (k : Kp S w w') (hs : ∀ b, mb = some b → ¬ S b) : MapP w' mb P := h.keep fun b e => by
  have := hs b e
  subst e; exact k.block b h.lt this
theorem MapP.of {w : World} {b n : Nat} {D : DataW Unit} {L : List (ByteArray × Int)} (h : w.ownsMap Tryz.prog 9 (plainElem (H := Unit) Tryz.prog 3) b n D) (hL : ascP L) (ha : ∀ s z, D.atKey (Kl s) z = if look L s = 0 then z else nD (look L s)) : MapP w (some b) L := by
  have e := own_eq Tryz.underlying9 h hL ha
  subst e
  have := own_tight h
  rw [size_dP] at this
  exact this
theorem at_lit {P : List (ByteArray × Int)} (h : ascP P) {s : ByteArray} {c : Int} (hat : (dP P).atKey (Kl s) (.lit (.int .i64 0)) = .lit (.int .i64 c)) : c = look P s := by
  rw [at_dP s _ h] at hat
  by_cases e : look P s = 0
  · rw [if_pos e] at hat
    simp only [DataW.lit.injEq, Lit.int.injEq, true_and] at hat
    omega
  · rw [if_neg e] at hat
    simp only [nD, DataW.lit.injEq, Lit.int.injEq, true_and] at hat
    omega
/-- What a counted symbol leaves. -/
structure CntP (q : Nat) (mb : Option Nat) (Q : List (ByteArray × Int)) (w w' : World) (mb' : Option Nat) : Prop where
  map : MapP w' mb' Q
  c0 : w'.cell? ⟨q, 0, none⟩ = some (.map mb')
  f0 : w'.frozen? ⟨q, 0, none⟩ = false
  rest : w'.cell? ⟨q, 1, none⟩ = w.cell? ⟨q, 1, none⟩ ∧ w'.frozen? ⟨q, 1, none⟩ = w.frozen? ⟨q, 1, none⟩
  same : mb' = mb ∨ (mb = none ∧ ∃ b, mb' = some b ∧ w.heap.size ≤ b)
  kp : Kp (fun g => g = q ∨ mb = some g) w w'
theorem maxLen_eq : maxLen = 140737488355328 ∨ 64 < maxLen := by unfold maxLen; omega
theorem map_nil_eq (mb : Option Nat) (w : World) : (binOp .eql 44 (.map mb) (.map none)).run Tryz.prog w = .ok (.bool mb.isNone) w := run_eql_map_nil w _ _ _ mb Tryz.underlying44
theorem Kp.one {q b : Nat} {w w' w'' : World} (h : Kp (fun g => g = q ∨ some b = some g) w w') (k : w'.grownBy w'' (some b)) : Kp (fun g => g = q ∨ some b = some g) w w'' := h.grown k fun j e => .inl (.inr e)
/-- Behind the walk. -/
theorem CntP.done {P Q : List (ByteArray × Int)} {s : ByteArray} {n : Int} (hQ : ascP Q) (hP : ascP P) (hq : ∀ t, look Q t = if s = t then add64 (look P s) n else look P t) {w : World} {b m : Nat} {c c2 : Int} {D : DataW Unit}
    (hc : (dP P).atKey (Kl s) (.lit (.int .i64 0)) = .lit (.int .i64 c)) (hc2 : ((dP P).put (Kl s) (.lit (.int .i64 (wrap64 (c + n))))).atKey (Kl s) (.lit (.int .i64 0)) = .lit (.int .i64 c2)) (h : w.ownsMap Tryz.prog 9 (plainElem (H := Unit) Tryz.prog 3) b m D)
    (hD : (c2 ≠ 0 ∧ D = (dP P).put (Kl s) (.lit (.int .i64 (wrap64 (c + n))))) ∨ (c2 = 0 ∧ D = ((dP P).put (Kl s) (.lit (.int .i64 (wrap64 (c + n))))).del (Kl s))) : MapP w (some b) Q := by
  have e1 : c = look P s := at_lit hP hc
  have e2 : c2 = add64 (look P s) n := by
    rw [Go.Maps.atKey_put_same (D := dP P) ⟨_, rfl⟩ (Kl_key s)] at hc2
    simp only [DataW.lit.injEq, Lit.int.injEq, true_and] at hc2
    rw [← hc2, e1]; rfl
  have e3 : look Q s = c2 := by rw [hq s, if_pos rfl, e2]
  have ho : ∀ t, s ≠ t → Kl t ≠ Kl s := fun t h e => h (Kl_inj e).symm
  refine MapP.of h hQ fun t z => ?_
  rcases hD with ⟨h0, rfl⟩ | ⟨h0, rfl⟩
  · by_cases e : s = t
    · subst e
      rw [Go.Maps.atKey_put_same (D := dP P) ⟨_, rfl⟩ (Kl_key s), e3, if_neg h0, e2, e1]; rfl
    · rw [Go.Maps.atKey_put_other (ho t e), at_dP t z hP, hq t, if_neg e]
  · by_cases e : s = t
    · subst e
      rw [Go.Maps.atKey_del_same, e3, if_pos h0]
    · rw [Go.Maps.atKey_del_other (ho t e), Go.Maps.atKey_put_other (ho t e), at_dP t z hP, hq t, if_neg e]
theorem CntP.mk' {P Q : List (ByteArray × Int)} {q b : Nat} {mb : Option Nat} {w W w' : World} (hm : MapP w' (some b) Q) (k0 : Kp (fun g => g = q ∨ mb = some g) w W) (hg : W.grownBy w' (some b)) (hb : mb = some b ∨ (mb = none ∧ w.heap.size ≤ b)) (hqb : q ≠ b)
    (c0 : W.cell? ⟨q, 0, none⟩ = some (.map (some b))) (f0 : W.frozen? ⟨q, 0, none⟩ = false) (r : W.cell? ⟨q, 1, none⟩ = w.cell? ⟨q, 1, none⟩ ∧ W.frozen? ⟨q, 1, none⟩ = w.frozen? ⟨q, 1, none⟩) : CntP q mb Q w w' (some b) := by
  have hk := hg.block q (lt_of_cell c0) (fun e => hqb (by injection e))
  refine ⟨hm, (heap_cell hk).trans c0, (heap_frozen hk).trans f0, ⟨(heap_cell hk).trans r.1, (heap_frozen hk).trans r.2⟩, ?_, k0.grown hg fun j e => ?_⟩
  · rcases hb with h | h
    · exact .inl h.symm
    · exact .inr ⟨h.1, b, rfl, h.2⟩
  · injection e with e
    subst e
    rcases hb with h | h
    · exact .inl (.inr h)
    · exact .inr h.2
set_option maxHeartbeats 3200000 in
set_option maxRecDepth 100000 in
theorem count_any (P Q : List (ByteArray × Int)) (s : ByteArray) (n : Int) (q : Nat) (mb : Option Nat) (w : World) (hP : ascP P) (hQ : ascP Q) (hl : P.length ≤ 1000000) (hs : s.size ≤ maxLen)
    (hq : ∀ t, look Q t = if s = t then add64 (look P s) n else look P t) (c0 : w.cell? ⟨q, 0, none⟩ = some (.map mb)) (f0 : w.frozen? ⟨q, 0, none⟩ = false) (hm : MapP w mb P) :
    Calls Tryz.prog 31 #[.pointer (some ⟨q, 0, none⟩), .string s, .int .i64 n] w fun e w' => (∃ v, e = .returned v) ∧ ∃ mb', CntP q mb Q w w' mb' := by
  have hkey : keyOf Tryz.prog 9 (.string s) = some (Kl s) := Go.WideMaps.keyOf_string_mk Tryz.underlying9 hs
  have zq := lt_of_cell c0
  have hmm := @run_makeMap Tryz.prog
  have hnil := map_nil_eq
  cases mb with
  | none =>
    obtain rfl : P = [] := hm
    have hown : ((w.setCell ⟨q, 0, none⟩ (.map (some w.heap.size))).alloc (.map #[] 0)).ownsMap Tryz.prog 9 (plainElem (H := Unit) Tryz.prog 3) w.heap.size 0 (dP []) := by
      have := World.ownsMap_made (H := Unit) (w.setCell ⟨q, 0, none⟩ (.map (some w.heap.size))) Tryz.prog 9 (plainElem (H := Unit) Tryz.prog 3)
      simp at this
      exact this
    obtain ⟨W, hW⟩ : ∃ W, W = (w.setCell ⟨q, 0, none⟩ (.map (some w.heap.size))).alloc (.map #[] 0) := ⟨_, rfl⟩
    have HD := Lib.hid (show ∀ (w' : World) (m : Nat) (c c2 : Int) (D : DataW Unit), (dP []).atKey (Kl s) (.lit (.int .i64 0)) = .lit (.int .i64 c) → ((dP []).put (Kl s) (.lit (.int .i64 (wrap64 (c + n))))).atKey (Kl s) (.lit (.int .i64 0)) = .lit (.int .i64 c2) → w'.ownsMap Tryz.prog 9 (plainElem (H := Unit) Tryz.prog 3) w.heap.size m D →
        ((c2 ≠ 0 ∧ D = (dP []).put (Kl s) (.lit (.int .i64 (wrap64 (c + n))))) ∨ (c2 = 0 ∧ D = ((dP []).put (Kl s) (.lit (.int .i64 (wrap64 (c + n))))).del (Kl s))) → W.grownBy w' (some w.heap.size) → CntP q none Q w w' (some w.heap.size) from fun _ _ _ _ _ h1 h2 h3 h4 h5 =>
      CntP.mk' (P := []) (CntP.done hQ hP hq h1 h2 h3 h4) (by rw [hW]; exact ((Kp.refl _ w).set (p := ⟨q, 0, none⟩) (.inl (.inl rfl)) _).alloc _) h5 (.inr ⟨rfl, Nat.le_refl _⟩) (by omega) (by rw [hW]; simp [go_sem, *]) (by rw [hW]; simp [go_sem, *]) (by rw [hW]; simp [go_sem, *]))
    have HGC := Lib.hid (show ∀ w1, W.grownBy w1 (some w.heap.size) → w1.cell? ⟨q, 0, none⟩ = some (.map (some w.heap.size)) from fun w1 h => (heap_cell (h.block q (by rw [hW]; simp; omega) (fun e => by injection e with e; omega))).trans (by rw [hW]; simp [go_sem, *]))
    rw [hW] at HD HGC
    have hlm : 0 < maxLen := by unfold maxLen; omega
    clear hQ hq hP hW hl
    go_enter Tryz.func31, Tryz.ntmps31
    go_wp2_with (first
      | (at_lookup; refine wpList_lookup_own_int _ rfl _ _ 44 rfl 9 3 .i64 lawS Tryz.underlying44 Tryz.underlying3 (zeroI _) w.heap.size _ _ rfl hown1 _ (Kl s) rfl hkey ?_; intro c2 hat2 hwc2)
      | (at_lookup; refine wpList_lookup_own_int _ rfl _ _ 44 rfl 9 3 .i64 lawS Tryz.underlying44 Tryz.underlying3 (zeroI _) w.heap.size _ _ rfl hown _ (Kl s) rfl hkey ?_; intro c hat hwc)
      | (at_mapUpdate; refine wpList_mapUpdate_own _ rfl _ _ _ 44 rfl 9 3 lawS Tryz.underlying44 _ w.heap.size _ _ rfl hown hlm _ _ _ rfl rfl hkey _ [] (plainElem_int Tryz.underlying3 (wrap64_wf _)) ?_; intro w1 hown1 hgrow1; have c1 := HGC.out w1 hgrow1)
      | (at_delete; refine wpList_delete_own _ rfl _ _ 44 9 rfl 3 lawS Tryz.underlying44 _ w.heap.size _ _ rfl hown1 _ _ rfl hkey ?_; intro w2 hown2 hturn2)
      | fail)
    · go_end0
      exact ⟨⟨_, rfl⟩, _, HD.out _ _ _ _ _ hat hat2 hown2 (.inr ⟨by simpa using ‹(c2 == 0) = true›, rfl⟩) (hgrow1.andThen hturn2.grown (fun j e => .inr e))⟩
    · go_end0
      exact ⟨⟨_, rfl⟩, _, HD.out _ _ _ _ _ hat hat2 hown1 (.inl ⟨by simpa using ‹(c2 == 0) = false›, rfl⟩) hgrow1⟩
  | some b =>
    have hown : w.ownsMap Tryz.prog 9 (plainElem (H := Unit) Tryz.prog 3) b P.length (dP P) := hm
    have hqb : q ≠ b := fun e => by
      obtain ⟨es, clock, hb, _⟩ := hown
      subst e
      simp [World.cell?, hb] at c0
    have HD := Lib.hid (show ∀ (w' : World) (m : Nat) (c c2 : Int) (D : DataW Unit), (dP P).atKey (Kl s) (.lit (.int .i64 0)) = .lit (.int .i64 c) → ((dP P).put (Kl s) (.lit (.int .i64 (wrap64 (c + n))))).atKey (Kl s) (.lit (.int .i64 0)) = .lit (.int .i64 c2) → w'.ownsMap Tryz.prog 9 (plainElem (H := Unit) Tryz.prog 3) b m D →
        ((c2 ≠ 0 ∧ D = (dP P).put (Kl s) (.lit (.int .i64 (wrap64 (c + n))))) ∨ (c2 = 0 ∧ D = ((dP P).put (Kl s) (.lit (.int .i64 (wrap64 (c + n))))).del (Kl s))) → w.grownBy w' (some b) → CntP q (some b) Q w w' (some b) from fun _ _ _ _ _ h1 h2 h3 h4 h5 =>
      CntP.mk' (P := P) (CntP.done hQ hP hq h1 h2 h3 h4) (Kp.refl _ w) h5 (.inl rfl) hqb c0 f0 ⟨rfl, rfl⟩)
    have HGC := Lib.hid (show ∀ w1, w.grownBy w1 (some b) → w1.cell? ⟨q, 0, none⟩ = some (.map (some b)) from fun w1 h => (heap_cell (h.block q zq (fun e => hqb (by injection e)))).trans c0)
    have hlm : P.length < maxLen := by unfold maxLen; omega
    clear hQ hq hP hm hqb hl
    go_enter Tryz.func31, Tryz.ntmps31
    go_wp2_with (first
      | (at_lookup; refine wpList_lookup_own_int _ rfl _ _ 44 rfl 9 3 .i64 lawS Tryz.underlying44 Tryz.underlying3 (zeroI _) b _ _ rfl hown1 _ (Kl s) rfl hkey ?_; intro c2 hat2 hwc2)
      | (at_lookup; refine wpList_lookup_own_int _ rfl _ _ 44 rfl 9 3 .i64 lawS Tryz.underlying44 Tryz.underlying3 (zeroI _) b _ _ rfl hown _ (Kl s) rfl hkey ?_; intro c hat hwc)
      | (at_mapUpdate; refine wpList_mapUpdate_own _ rfl _ _ _ 44 rfl 9 3 lawS Tryz.underlying44 _ b _ _ rfl hown hlm _ _ _ rfl rfl hkey _ [] (plainElem_int Tryz.underlying3 (wrap64_wf _)) ?_; intro w1 hown1 hgrow1; have c1 := HGC.out w1 hgrow1)
      | (at_delete; refine wpList_delete_own _ rfl _ _ 44 9 rfl 3 lawS Tryz.underlying44 _ b _ _ rfl hown1 _ _ rfl hkey ?_; intro w2 hown2 hturn2)
      | fail)
    · go_end0
      exact ⟨⟨_, rfl⟩, _, HD.out _ _ _ _ _ hat hat2 hown2 (.inr ⟨by simpa using ‹(c2 == 0) = true›, rfl⟩) (hgrow1.andThen hturn2.grown (fun j e => .inr e))⟩
    · go_end0
      exact ⟨⟨_, rfl⟩, _, HD.out _ _ _ _ _ hat hat2 hown1 (.inl ⟨by simpa using ‹(c2 == 0) = false›, rfl⟩) hgrow1⟩
end Go.Proofs.YtbnaakognnkhdaaGreatDoor
