/- ExprEvals answers true, given what the program's calls answer. -/
import Derived.Test.YtbnaakognnkhdaaGreatDoorNi
import Derived.Test.YtbnaakognnkhdaaGreatDoorNj
namespace Go.Proofs.YtbnaakognnkhdaaGreatDoor
open Go.RowKit
set_option linter.unusedSimpArgs false
set_option linter.unusedVariables false

def EvalC : Prop := ∀ (a : Ln) (F : Nat → Prop) (u : Value) (names : List ByteArray) (vals : List Int) (N V : Option Addr) (cn cv p q : Nat) (w : World), a.Sm → SmS names → SmT vals → names.length = p → vals.length = q → a.At F w u → Rd strv w N names → Rd intv w V vals →
  Calls Tryz.prog 16 #[u, .slice N p cn, .slice V q cv] w fun e w' => e = .returned (.tuple #[.int .i64 (evalN names vals a).1, .bool (evalN names vals a).2]) ∧ Fr w w'
theorem eval_at {a : Ln} {F : Nat → Prop} {u : Value} {names : List ByteArray} {vals : List Int} {N V : Option Addr} {cn cv p q : Nat} {w : World} (hs : a.Sm) (h3 : SmS names) (h4 : SmT vals) (hp : names.length = p) (hq : vals.length = q) (h : a.At F w u) (hN : Rd strv w N names) (hV : Rd intv w V vals) :
    Calls Tryz.prog 17 #[u, .slice N p cn, .slice V q cv] w fun e w' => e = .returned (.tuple #[.int .i64 (evalN names vals a).1, .bool (evalN names vals a).2]) ∧ Fr w w' := by
  obtain ⟨A, B, c, d, rfl, h1, h2, _⟩ := h
  exact evall_any a.ss a.ts a.off names vals A B N V c d cn cv _ _ p q w rfl rfl hp hq hs.1 hs.2.1 h3 h4 h1 h2 hN hV
theorem at_rows {a : Ln} {F : Nat → Prop} {w : World} {A B : Option Addr} {n m c d : Nat} {o : Int} (h : a.At F w (.agg #[.slice A n c, .slice B m d, .int .i64 o])) : Rd strv w A a.ss ∧ Rd intv w B a.ts := by
  obtain ⟨A', B', c', d', e, h1, h2, _⟩ := h
  injection e with e
  simp only [Array.mk.injEq, List.cons.injEq, and_true] at e
  obtain ⟨e1, e2, _⟩ := e
  injection e1 with e1
  injection e2 with e2
  subst e1 e2
  exact ⟨h1, h2⟩
theorem times_len {a : Ln} {n : Int} (h : a.norm = true) (ha : a.Sm) : (plusL zeroL a n).ss.length ≤ 16 := by
  have h1 := merge_sm (k := n) _ zeroL.P a.P (Nat.le_refl _) (fun x hx => by cases hx) (norm_mem ha)
  have h2 := norm_len h
  have h3 := norm_plen h
  simp only [plusL, ofP, fsts, List.length_map]
  have : zeroL.P.length = 0 := rfl
  omega
def Reg10 (w w10 : World) (a b s : Ln) (p : Nat) (er : Int) (s14 s15 : Value) (wx : World) : Prop := ∃ q14 F, s14 = .pointer (some ⟨q14, 0, none⟩) ∧ s15 = .int .i64 er ∧ Bxs w wx F [(q14, s), (p + 1, b), (p, a)] ∧ Fr w10 wx
set_option maxHeartbeats 12800000 in
set_option maxRecDepth 100000 in
theorem evals_walk (HAL : AliveC) (HAD : AddC) (HTI : TimesC) (HEV : EvalC) (a b : Ln) (u v : Value) (vals : List Int) (V : Option Addr) (cv n : Nat) (w : World) (ha : a.Sm) (hb : b.Sm) (hvs : SmT vals) (hn : vals.length = n) (hsz : (a.ss.length + b.ss.length) * 16 ≤ 140737488351232)
    (hu : a.At (fun g => g < w.heap.size) w u) (hv : b.At (fun g => g < w.heap.size) w v) (hV : Rd intv w V vals) :
    Calls Tryz.prog 5 #[u, v, .slice V n cv] w fun e w' => e = .returned (.bool true) ∧ Fr w w' := by
  obtain ⟨A3, B3, c3, d3, rfl, _, _, _⟩ := id hu
  obtain ⟨A4, B4, c4, d4, rfl, _, _, _⟩ := id hv
  obtain ⟨p, hp⟩ : ∃ p, w.heap.size = p := ⟨_, rfl⟩
  have HBX := Lib.hid ((Bxs.start w).add (t := 25) hu)
  have hv1 := hv.fr ((Fr.refl w).alloc (.cells #[.slice A3 a.ss.length c3, .slice B3 a.ts.length d3, .int .i64 a.off] 25))
  replace HBX := Lib.hid (HBX.out.add (t := 25) hv1)
  have e1 : (w.alloc (.cells #[.slice A3 a.ss.length c3, .slice B3 a.ts.length d3, .int .i64 a.off] 25)).heap.size = p + 1 := by simp [hp]
  have HP := Lib.hid hp
  have HVV := Lib.hid hV
  have HNV := Lib.hid hn
  obtain ⟨F0, hF0⟩ : ∃ F0 : Nat → Prop, F0 = fun g => g < w.heap.size := ⟨_, rfl⟩
  rw [← hF0] at HBX hu hv1
  have HF0 := Lib.hid (show ∀ g, F0 g → g < p by rw [hF0, hp]; exact fun _ h => h)
  clear hF0
  rw [e1, hp] at HBX
  clear e1 hv1 hu hv hV hn
  have LA := Lib.hid (show a.ss.length * 16 ≤ 140737488351232 from ha.1.1)
  have LAB := Lib.hid hsz
  clear hsz
  go_enter Tryz.func5, Tryz.ntmps5
  go_wp2_with (first
    | (go_at_call 6; refine (HAL _).mono ?_; rintro e w1 ⟨rfl, hf1⟩; replace HBX := Lib.hid (HBX.out.call hf1); clear hf1; obtain ⟨A3, B3, c3, d3, hb3, ha3⟩ := HBX.out.box (p, a) (by simp); obtain ⟨A4, B4, c4, d4, hb4, ha4⟩ := HBX.out.box (p + 1, b) (by simp); have HB3 := Lib.hid (show BlkC w1 p [.slice A3 a.ss.length c3, .slice B3 a.ts.length d3, .int .i64 a.off] from hb3); have HB4 := Lib.hid (show BlkC w1 (p + 1) [.slice A4 b.ss.length c4, .slice B4 b.ts.length d4, .int .i64 b.off] from hb4); have HA3 := Lib.hid ha3; have HA4 := Lib.hid ha4; have HK := Lib.hid HBX.out.fr; clear hb3 hb4 ha3 ha4; obtain ⟨x30, x31, x32⟩ := HB3.out.three; have z3 := lt_of_cell x30; obtain ⟨x40, x41, x42⟩ := HB4.out.three; have z4 := lt_of_cell x40)
    | (at_builtin; refine wpList_append_rd (f := strv) (fun _ => rfl) _ rfl (.tmp 22) (.tmp 24) 22 rfl w1.heap.size 9 Tryz.underlying22 Tryz.infoStr rfl (.slice (some ⟨w1.heap.size, 0, none⟩) 0 0) [] rfl (own_fresh strv 9 w1 w1.heap.size (Nat.le_refl _)) A3 a.ss.length c3 a.ss rfl rfl ((at_rows HA3.out).1.alloc _) (Nat.le_trans (show 0 + a.ss.length ≤ 140737488351232 by have := LA.out; omega) (by decide)) (by have := LA.out; simp only [List.length_nil]; omega) (by simp) ?_; intro v5 w2 hg1; obtain ⟨A5, c5, hv5, _, _, _⟩ := hg1.out.own.val; obtain ⟨q1, hq1⟩ : ∃ q, ([] ++ a.ss).length = q := ⟨_, rfl⟩; rw [hq1] at hv5; subst hv5; have HQ1 := Lib.hid hq1; have hf := grew_fr hg1.out ((Fr.refl w1).alloc _) (Nat.le_refl _) (own_fresh strv 9 w1 w1.heap.size (Nat.le_refl _)); have HO5 := Lib.hid hg1.out.own; have HF12 := Lib.hid hf; have HB3o := HB3; have HB4o := HB4; have HA3o := HA3; have HA4o := HA4; have HKo := HK; have HBXo := HBX; clear x30 x31 x32 z3; replace HB3 := Lib.hid (HB3.out.fr hf); replace HA3 := Lib.hid (HA3.out.fr hf); clear x40 x41 x42 z4; replace HB4 := Lib.hid (HB4.out.fr hf); replace HA4 := Lib.hid (HA4.out.fr hf); replace HK := Lib.hid (HK.out.call hf); replace HBX := Lib.hid (HBX.out.call hf); obtain ⟨x30, x31, x32⟩ := HB3.out.three; have z3 := lt_of_cell x30; obtain ⟨x40, x41, x42⟩ := HB4.out.three; have z4 := lt_of_cell x40; have zs2 := hf.size; clear hg1 hq1 hf)
    | (at_builtin; refine wpList_append_rd (f := strv) (fun _ => rfl) _ rfl (.tmp 26) (.tmp 28) 22 rfl w1.heap.size 9 Tryz.underlying22 Tryz.infoStr rfl (.slice A5 q1 c5) ([] ++ a.ss) rfl HO5.out A4 b.ss.length c4 b.ss rfl rfl (at_rows HA4.out).1 (Nat.le_trans (show ([] ++ a.ss).length + b.ss.length ≤ 140737488351232 by have := LAB.out; simp only [List.nil_append]; omega) (by decide)) (by have := LAB.out; simp only [List.nil_append]; omega) zs2 ?_; intro v6 w3 hg2; obtain ⟨A6, c6, hv6, _, _, hr6⟩ := hg2.out.own.val; obtain ⟨q2, hq2⟩ : ∃ q, ([] ++ a.ss ++ b.ss).length = q := ⟨_, rfl⟩; rw [hq2] at hv6; subst hv6; have HQ2 := Lib.hid hq2; have hf := hg2.out.fr HF12.out (Nat.le_refl _) HO5.out.base_le; have HRN := Lib.hid hr6; clear x30 x31 x32 z3 x40 x41 x42 z4; have x30 := True.intro; have x31 := True.intro; have x32 := True.intro; have z3 := True.intro; have x40 := True.intro; have x41 := True.intro; have x42 := True.intro; have z4 := True.intro; clear HB3 HB4 HA3 HA4 HK HBX; have HB3 := HB3o; have HB4 := HB4o; have HA3 := HA3o; have HA4 := HA4o; have HK := HKo; have HBX := HBXo; clear HB3o HB4o HA3o HA4o HKo HBXo; clear x30 x31 x32 z3; replace HB3 := Lib.hid (HB3.out.fr hf); replace HA3 := Lib.hid (HA3.out.fr hf); clear x40 x41 x42 z4; replace HB4 := Lib.hid (HB4.out.fr hf); replace HA4 := Lib.hid (HA4.out.fr hf); replace HK := Lib.hid (HK.out.call hf); replace HBX := Lib.hid (HBX.out.call hf); obtain ⟨x30, x31, x32⟩ := HB3.out.three; have z3 := lt_of_cell x30; obtain ⟨x40, x41, x42⟩ := HB4.out.three; have z4 := lt_of_cell x40; clear hg2 hq2 hf HO5))
  clear hp
  have hnm : SmS ([] ++ a.ss ++ b.ss) := ⟨by have := LAB.out; simp only [List.nil_append, List.length_append]; omega, fun s hs => by rcases List.mem_append.1 hs with h | h; exact ha.1.2 s (by simpa using h); exact hb.1.2 s h⟩
  obtain ⟨names, hnames⟩ : ∃ names, [] ++ a.ss ++ b.ss = names := ⟨_, rfl⟩
  rw [hnames] at HRN HQ2 hnm
  clear hnames LA LAB HQ1
  have HV3 := Lib.hid (HVV.out.fr HK.out)
  obtain ⟨ea, hea⟩ : ∃ e, evalN names vals a = e := ⟨_, rfl⟩
  obtain ⟨va, oka⟩ := ea
  obtain ⟨eb, heb⟩ : ∃ e, evalN names vals b = e := ⟨_, rfl⟩
  obtain ⟨vb, okb⟩ := eb
  have HQ := Lib.hid (HEV a _ _ names vals _ _ c6 cv q2 n _ ha hnm hvs HQ2.out HNV.out HA3.out HRN.out HV3.out)
  rw [hea] at HQ
  refine (HQ.out).mono ?_
  rintro e y1 ⟨rfl, hf⟩
  clear x30 x31 x32 z3
  clear x40 x41 x42 z4
  replace HB3 := Lib.hid (HB3.out.fr hf)
  replace HA3 := Lib.hid (HA3.out.fr hf)
  replace HB4 := Lib.hid (HB4.out.fr hf)
  replace HA4 := Lib.hid (HA4.out.fr hf)
  replace HK := Lib.hid (HK.out.call hf)
  replace HRN := Lib.hid (HRN.out.fr hf)
  replace HV3 := Lib.hid (HV3.out.fr hf)
  replace HBX := Lib.hid (HBX.out.call hf)
  obtain ⟨x30, x31, x32⟩ := HB3.out.three
  have z3 := lt_of_cell x30
  obtain ⟨x40, x41, x42⟩ := HB4.out.three
  have z4 := lt_of_cell x40
  clear hf
  clear HQ
  have HQ := Lib.hid (eval_at (cn := c6) (cv := cv) (p := q2) (q := n) ha hnm hvs HQ2.out HNV.out HA3.out HRN.out HV3.out)
  rw [hea] at HQ
  go_wp2_with fail
  refine (HQ.out).mono ?_
  rintro e y2 ⟨rfl, hf⟩
  clear x30 x31 x32 z3
  clear x40 x41 x42 z4
  replace HB3 := Lib.hid (HB3.out.fr hf)
  replace HA3 := Lib.hid (HA3.out.fr hf)
  replace HB4 := Lib.hid (HB4.out.fr hf)
  replace HA4 := Lib.hid (HA4.out.fr hf)
  replace HK := Lib.hid (HK.out.call hf)
  replace HRN := Lib.hid (HRN.out.fr hf)
  replace HV3 := Lib.hid (HV3.out.fr hf)
  replace HBX := Lib.hid (HBX.out.call hf)
  obtain ⟨x30, x31, x32⟩ := HB3.out.three
  have z3 := lt_of_cell x30
  obtain ⟨x40, x41, x42⟩ := HB4.out.three
  have z4 := lt_of_cell x40
  clear hf
  clear HQ
  have HQ := Lib.hid (HEV b _ _ names vals _ _ c6 cv q2 n _ hb hnm hvs HQ2.out HNV.out HA4.out HRN.out HV3.out)
  rw [heb] at HQ
  have en : (va != va) = false := by simp
  have eo : (oka != oka) = false := by simp
  go_wp2_with fail
  refine (HQ.out).mono ?_
  rintro e y3 ⟨rfl, hf⟩
  clear x30 x31 x32 z3
  clear x40 x41 x42 z4
  replace HB3 := Lib.hid (HB3.out.fr hf)
  replace HA3 := Lib.hid (HA3.out.fr hf)
  replace HB4 := Lib.hid (HB4.out.fr hf)
  replace HA4 := Lib.hid (HA4.out.fr hf)
  replace HK := Lib.hid (HK.out.call hf)
  replace HRN := Lib.hid (HRN.out.fr hf)
  replace HV3 := Lib.hid (HV3.out.fr hf)
  replace HBX := Lib.hid (HBX.out.call hf)
  obtain ⟨x30, x31, x32⟩ := HB3.out.three
  have z3 := lt_of_cell x30
  obtain ⟨x40, x41, x42⟩ := HB4.out.three
  have z4 := lt_of_cell x40
  clear hf
  clear HQ
  go_wp2_with fail
  obtain ⟨ad, hAD⟩ : ∃ ad, addL a b = ad := ⟨_, rfl⟩
  obtain ⟨s9, er⟩ := ad
  have hs9 : s9.Sm := by have := add_sm ha hb; rw [hAD] at this; exact this
  go_cut [14, 15] from 59 to 66 (fun s14 s15 wx => Reg10 w y3 a b s9 p er s14 s15 wx)
  case first =>
    refine wp_region_noPanic ?_
    have hp2 : p + 1 < y3.heap.size := (HBX.out.lo (p + 1, b) (by simp)).2
    refine wp_region_head (n := 10) (S := fun wx => BlkC wx p [.slice A3 a.ss.length c3, .slice B3 a.ts.length d3, .int .i64 a.off] ∧ BlkC wx (p + 1) [.slice A4 b.ss.length c4, .slice B4 b.ts.length d4, .int .i64 b.off]) (by kernel_rfl) (by decide) ?_
    have HSF := Lib.hid (fun (wx : World) (k : Fr y3 wx) => (⟨HB3.out.fr k, HB4.out.fr k⟩ : BlkC wx p [.slice A3 a.ss.length c3, .slice B3 a.ts.length d3, .int .i64 a.off] ∧ BlkC wx (p + 1) [.slice A4 b.ss.length c4, .slice B4 b.ts.length d4, .int .i64 b.off]))
    have HK0 := Lib.hid (show Fr y3 y3.drew from Fr.drew (Fr.refl y3))
    have hz0 := HK0.out.size
    have HX0 := Lib.hid (HBX.out.call HK0.out)
    have HD := HSF.out _ HK0.out
    clear HB3 HB4 HBX x30 x31 x32 z3 x40 x41 x42 z4
    generalize World.drew y3 = v0 at *
    simp only [List.size_toArray, List.length_cons, List.length_nil, Nat.reduceAdd]
    refine wpHead_take (i := 0) (v := ?_) rfl (by kernel_rfl) (fun _ _ _ h => h) (Or.inl ⟨by rfl, ?hy0⟩) HD ?rest0
    case hy0 => (intro w' hw'; have g0 := hw'.1 0 _ rfl; have g1 := hw'.1 1 _ rfl; have g2 := hw'.1 2 _ rfl; go_simp) <;> (try with_reducible rfl)
    (try simp only [Act.put, List.getElem_toArray, List.getElem_cons_zero, List.getElem_cons_succ, List.setIfInBounds_toArray, List.set_cons_zero, List.set_cons_succ])
    refine wpHead_take (i := 2) (v := ?_) rfl (by kernel_rfl) (fun _ _ _ h => h) (Or.inl ⟨by rfl, ?hy2⟩) HD ?rest2
    case hy2 => (intro w' hw'; have g0 := hw'.2 0 _ rfl; have g1 := hw'.2 1 _ rfl; have g2 := hw'.2 2 _ rfl; go_simp) <;> (try with_reducible rfl)
    (try simp only [Act.put, List.getElem_toArray, List.getElem_cons_zero, List.getElem_cons_succ, List.setIfInBounds_toArray, List.set_cons_zero, List.set_cons_succ])
    clear HD
    refine wpHead_two (i := 1) (j := 8) rfl rfl (by kernel_rfl) (by decide) (by decide) rfl rfl (fun K hK => ?_) (fun K hK => ?_)
    · skip
      go_simp
      refine (copy_at ha (HA3.out.fr HK0.out)).mono ?_
      rintro e v1 ⟨_, rfl, hat, hf⟩
      obtain ⟨A5, B5, c5, d5, rfl, _, _, _⟩ := id hat
      have HK1 := Lib.hid (HK0.out.call hf)
      have hz1 := hf.size
      have HX1 := Lib.hid (HX0.out.also hf)
      have HR5 := Lib.hid hat
      clear hat
      (try go_wp2_with fail)
      refine hK _ _ (HSF.out _ HK1.out) ?_
      clear hK K hf
      (try simp only [Act.put, List.getElem_toArray, List.getElem_cons_zero, List.getElem_cons_succ, List.setIfInBounds_toArray, List.set_cons_zero, List.set_cons_succ])
      refine wpHead_two (i := 3) (j := 8) rfl rfl (by kernel_rfl) (by decide) (by decide) rfl rfl (fun K hK => ?_) (fun K hK => ?_)
      · skip
        go_simp
        refine (copy_at hb (HA4.out.fr HK1.out)).mono ?_
        rintro e v2 ⟨_, rfl, hat, hf⟩
        obtain ⟨A6, B6, c6, d6, rfl, _, _, _⟩ := id hat
        have HK2 := Lib.hid (HK1.out.call hf)
        have hz2 := hf.size
        have HX2 := Lib.hid (HX1.out.also hf)
        replace HR5 := Lib.hid (HR5.out.fr hf)
        have HR6 := Lib.hid hat
        clear hat
        (try go_wp2_with fail)
        refine hK _ _ (HSF.out _ HK2.out) ?_
        clear hK K hf
        (try simp only [Act.put, List.getElem_toArray, List.getElem_cons_zero, List.getElem_cons_succ, List.setIfInBounds_toArray, List.set_cons_zero, List.set_cons_succ])
        refine wpHead_two (i := 4) (j := 8) rfl rfl (by kernel_rfl) (by decide) (by decide) rfl rfl (fun K hK => ?_) (fun K hK => ?_)
        · skip
          go_simp
          have HQ := Lib.hid (HAD a b (Also (Also F0 v0 v1) v1 v2) _ _ v2 ha hb (HR5.out.mono fun g h => .inl h) (HR6.out.mono fun g h => h.elim (fun h => .inl (.inl h)) .inr))
          rw [hAD] at HQ
          refine (HQ.out).mono ?_
          rintro e v3 ⟨_, rfl, hat, hf⟩
          obtain ⟨A9, B9, c9, d9, rfl, _, _, _⟩ := id hat
          have HK3 := Lib.hid (HK2.out.call hf)
          have hz3 := hf.size
          have HX3 := Lib.hid (HX2.out.also hf)
          replace HR5 := Lib.hid (HR5.out.fr hf)
          replace HR6 := Lib.hid (HR6.out.fr hf)
          have HR9 := Lib.hid hat
          clear hat HQ
          (try go_wp2_with fail)
          refine hK _ _ (HSF.out _ HK3.out) ?_
          clear hK K hf
          (try simp only [Act.put, List.getElem_toArray, List.getElem_cons_zero, List.getElem_cons_succ, List.setIfInBounds_toArray, List.set_cons_zero, List.set_cons_succ])
          refine wpHead_take (i := 5) (v := ?_) rfl (by kernel_rfl) (fun _ _ _ h => h) (Or.inl ⟨by rfl, ?ny1⟩) (HSF.out _ HK3.out) ?nr1
          case ny1 => (intro w' hw'; go_simp) <;> (try with_reducible rfl)
          (try simp only [Act.put, List.getElem_toArray, List.getElem_cons_zero, List.getElem_cons_succ, List.setIfInBounds_toArray, List.set_cons_zero, List.set_cons_succ])
          refine wpHead_take (i := 6) (v := ?_) rfl (by kernel_rfl) (fun _ _ _ h => h) (Or.inl ⟨by rfl, ?ny2⟩) (HSF.out _ HK3.out) ?nr2
          case ny2 => (intro w' hw'; go_simp) <;> (try with_reducible rfl)
          (try simp only [Act.put, List.getElem_toArray, List.getElem_cons_zero, List.getElem_cons_succ, List.setIfInBounds_toArray, List.set_cons_zero, List.set_cons_succ])
          refine wpHead_take (i := 7) (v := ?_) rfl (by kernel_rfl) (fun _ _ _ h => h) (Or.inl ⟨by rfl, ?ny3⟩) (HSF.out _ HK3.out) ?nr3
          case ny3 => (intro w' hw'; go_simp) <;> (try with_reducible rfl)
          (try simp only [Act.put, List.getElem_toArray, List.getElem_cons_zero, List.getElem_cons_succ, List.setIfInBounds_toArray, List.set_cons_zero, List.set_cons_succ])
          refine wpHead_lone (i := 8) rfl (by kernel_rfl) (by decide) rfl (fun K hK => ?_)
          try go_simp
          have kf := (Fr.refl v3).alloc (.cells #[.slice none 0 0, .slice none 0 0, .int .i64 0] 25)
          have HK4 := Lib.hid (HK3.out.call kf)
          have hz4 : v3.heap.size + 1 = (v3.alloc (.cells #[.slice none 0 0, .slice none 0 0, .int .i64 0] 25)).heap.size := by simp
          have HX4 := Lib.hid (HX3.out.call kf)
          replace HR5 := Lib.hid (HR5.out.fr kf)
          replace HR6 := Lib.hid (HR6.out.fr kf)
          replace HR9 := Lib.hid (HR9.out.fr kf)
          have HZ := Lib.hid (BlkC.alloc (w := v3) (t := 25) (cs := #[.slice none 0 0, .slice none 0 0, .int .i64 0]))
          have HY := Lib.hid (show (v3.alloc (.cells #[.slice none 0 0, .slice none 0 0, .int .i64 0] 25)).frozen? ⟨v3.heap.size, 0, none⟩ = false ∧ (v3.alloc (.cells #[.slice none 0 0, .slice none 0 0, .int .i64 0] 25)).frozen? ⟨v3.heap.size, 1, none⟩ = false ∧ (v3.alloc (.cells #[.slice none 0 0, .slice none 0 0, .int .i64 0] 25)).frozen? ⟨v3.heap.size, 2, none⟩ = false from ⟨World.frozen?_alloc_at _ _ _ _ rfl, World.frozen?_alloc_at _ _ _ _ rfl, World.frozen?_alloc_at _ _ _ _ rfl⟩)
          refine hK _ _ (HSF.out _ HK4.out) ?_
          clear hK K kf
          generalize World.alloc v3 (.cells #[.slice none 0 0, .slice none 0 0, .int .i64 0] 25) = v4 at *
          obtain ⟨g14, hgz14⟩ : ∃ g, v3.heap.size = g := ⟨_, rfl⟩
          rw [hgz14] at HZ HY ⊢
          (try simp only [Act.put, List.getElem_toArray, List.getElem_cons_zero, List.getElem_cons_succ, List.setIfInBounds_toArray, List.set_cons_zero, List.set_cons_succ])
          obtain ⟨z0, z1, z2⟩ := HZ.out.three
          obtain ⟨y0, y1', y2'⟩ := HY.out
          have zl := lt_of_cell z0
          have hpw := HP.out
          have hfar : ¬ Also (Also (Also F0 v0 v1) v1 v2) v2 v3 g14 := by
            rintro (((h | h) | h) | h)
            · have := HF0.out _ h; omega
            · have := h.1; have := h.2; omega
            · have := h.1; have := h.2; omega
            · have := h.1; have := h.2; omega
          have P14 := HX4.out.put (q := g14) HR9.out (by omega) HZ.out hfar (by intro x hx; simp only [List.mem_cons, List.not_mem_nil, or_false] at hx; rcases hx with rfl | rfl <;> (show _ ≠ _; simp; omega))
          have HP14 := Lib.hid P14
          have HFF := Lib.hid (((HK4.out.set (p := ⟨g14, 0, none⟩) (by show y3.heap.size ≤ g14; omega) (.slice A9 s9.ss.length c9)).set (p := ⟨g14, 1, none⟩) (by show y3.heap.size ≤ g14; omega) (.slice B9 s9.ts.length d9)).set (p := ⟨g14, 2, none⟩) (by show y3.heap.size ≤ g14; omega) (.int .i64 s9.off))
          have hSS := HSF.out _ HFF.out
          clear P14 hfar hpw
          refine wpHead_lone (i := 9) rfl (by kernel_rfl) (by decide) rfl (fun K hK => ?_)
          go_simp
          (try go_wp2_with fail)
          refine hK _ _ hSS ?_
          clear hK K hSS
          (try simp only [Act.put, List.getElem_toArray, List.getElem_cons_zero, List.getElem_cons_succ, List.setIfInBounds_toArray, List.set_cons_zero, List.set_cons_succ])
          refine wpHead_done (by kernel_rfl) ?_
          simp only [List.drop_succ_cons, List.drop_zero]
          (try simp only [Act.put, List.getElem_toArray, List.getElem_cons_zero, List.getElem_cons_succ, List.setIfInBounds_toArray, List.set_cons_zero, List.set_cons_succ])
          go_wp2_with fail
          refine NoPanic.normal ?_
          go_wp2_with fail
          go_meet
          exact ⟨g14, _, rfl, rfl, HP14.out, HFF.out⟩
        · skip
          try go_simp
          have kf := (Fr.refl v2).alloc (.cells #[.slice none 0 0, .slice none 0 0, .int .i64 0] 25)
          have HK3 := Lib.hid (HK2.out.call kf)
          have hz3 : v2.heap.size + 1 = (v2.alloc (.cells #[.slice none 0 0, .slice none 0 0, .int .i64 0] 25)).heap.size := by simp
          have HX3 := Lib.hid (HX2.out.call kf)
          replace HR5 := Lib.hid (HR5.out.fr kf)
          replace HR6 := Lib.hid (HR6.out.fr kf)
          have HZ := Lib.hid (BlkC.alloc (w := v2) (t := 25) (cs := #[.slice none 0 0, .slice none 0 0, .int .i64 0]))
          have HY := Lib.hid (show (v2.alloc (.cells #[.slice none 0 0, .slice none 0 0, .int .i64 0] 25)).frozen? ⟨v2.heap.size, 0, none⟩ = false ∧ (v2.alloc (.cells #[.slice none 0 0, .slice none 0 0, .int .i64 0] 25)).frozen? ⟨v2.heap.size, 1, none⟩ = false ∧ (v2.alloc (.cells #[.slice none 0 0, .slice none 0 0, .int .i64 0] 25)).frozen? ⟨v2.heap.size, 2, none⟩ = false from ⟨World.frozen?_alloc_at _ _ _ _ rfl, World.frozen?_alloc_at _ _ _ _ rfl, World.frozen?_alloc_at _ _ _ _ rfl⟩)
          refine hK _ _ (HSF.out _ HK3.out) ?_
          clear hK K kf
          generalize World.alloc v2 (.cells #[.slice none 0 0, .slice none 0 0, .int .i64 0] 25) = v3 at *
          obtain ⟨g14, hgz14⟩ : ∃ g, v2.heap.size = g := ⟨_, rfl⟩
          rw [hgz14] at HZ HY ⊢
          (try simp only [Act.put, List.getElem_toArray, List.getElem_cons_zero, List.getElem_cons_succ, List.setIfInBounds_toArray, List.set_cons_zero, List.set_cons_succ])
          refine wpHead_lone (i := 4) rfl (by kernel_rfl) (by decide) rfl (fun K hK => ?_)
          go_simp
          have HQ := Lib.hid (HAD a b (Also (Also F0 v0 v1) v1 v2) _ _ v3 ha hb (HR5.out.mono fun g h => .inl h) (HR6.out.mono fun g h => h.elim (fun h => .inl (.inl h)) .inr))
          rw [hAD] at HQ
          refine (HQ.out).mono ?_
          rintro e v4 ⟨_, rfl, hat, hf⟩
          obtain ⟨A9, B9, c9, d9, rfl, _, _, _⟩ := id hat
          have HK4 := Lib.hid (HK3.out.call hf)
          have hz4 := hf.size
          have HX4 := Lib.hid (HX3.out.also hf)
          replace HY := Lib.hid (show _ ∧ _ ∧ _ from ⟨hf.free (HZ.out 0 _ rfl) HY.out.1, hf.free (HZ.out 1 _ rfl) HY.out.2.1, hf.free (HZ.out 2 _ rfl) HY.out.2.2⟩)
          replace HZ := Lib.hid (HZ.out.fr hf)
          replace HR5 := Lib.hid (HR5.out.fr hf)
          replace HR6 := Lib.hid (HR6.out.fr hf)
          have HR9 := Lib.hid hat
          clear hat HQ
          (try go_wp2_with fail)
          refine hK _ _ (HSF.out _ HK4.out) ?_
          clear hK K hf
          (try simp only [Act.put, List.getElem_toArray, List.getElem_cons_zero, List.getElem_cons_succ, List.setIfInBounds_toArray, List.set_cons_zero, List.set_cons_succ])
          refine wpHead_take (i := 5) (v := ?_) rfl (by kernel_rfl) (fun _ _ _ h => h) (Or.inl ⟨by rfl, ?ny4⟩) (HSF.out _ HK4.out) ?nr4
          case ny4 => (intro w' hw'; go_simp) <;> (try with_reducible rfl)
          (try simp only [Act.put, List.getElem_toArray, List.getElem_cons_zero, List.getElem_cons_succ, List.setIfInBounds_toArray, List.set_cons_zero, List.set_cons_succ])
          refine wpHead_take (i := 6) (v := ?_) rfl (by kernel_rfl) (fun _ _ _ h => h) (Or.inl ⟨by rfl, ?ny5⟩) (HSF.out _ HK4.out) ?nr5
          case ny5 => (intro w' hw'; go_simp) <;> (try with_reducible rfl)
          (try simp only [Act.put, List.getElem_toArray, List.getElem_cons_zero, List.getElem_cons_succ, List.setIfInBounds_toArray, List.set_cons_zero, List.set_cons_succ])
          refine wpHead_take (i := 7) (v := ?_) rfl (by kernel_rfl) (fun _ _ _ h => h) (Or.inl ⟨by rfl, ?ny6⟩) (HSF.out _ HK4.out) ?nr6
          case ny6 => (intro w' hw'; go_simp) <;> (try with_reducible rfl)
          (try simp only [Act.put, List.getElem_toArray, List.getElem_cons_zero, List.getElem_cons_succ, List.setIfInBounds_toArray, List.set_cons_zero, List.set_cons_succ])
          obtain ⟨z0, z1, z2⟩ := HZ.out.three
          obtain ⟨y0, y1', y2'⟩ := HY.out
          have zl := lt_of_cell z0
          have hpw := HP.out
          have hfar : ¬ Also (Also (Also F0 v0 v1) v1 v2) v3 v4 g14 := by
            rintro (((h | h) | h) | h)
            · have := HF0.out _ h; omega
            · have := h.1; have := h.2; omega
            · have := h.1; have := h.2; omega
            · have := h.1; have := h.2; omega
          have P14 := HX4.out.put (q := g14) HR9.out (by omega) HZ.out hfar (by intro x hx; simp only [List.mem_cons, List.not_mem_nil, or_false] at hx; rcases hx with rfl | rfl <;> (show _ ≠ _; simp; omega))
          have HP14 := Lib.hid P14
          have HFF := Lib.hid (((HK4.out.set (p := ⟨g14, 0, none⟩) (by show y3.heap.size ≤ g14; omega) (.slice A9 s9.ss.length c9)).set (p := ⟨g14, 1, none⟩) (by show y3.heap.size ≤ g14; omega) (.slice B9 s9.ts.length d9)).set (p := ⟨g14, 2, none⟩) (by show y3.heap.size ≤ g14; omega) (.int .i64 s9.off))
          have hSS := HSF.out _ HFF.out
          clear P14 hfar hpw
          refine wpHead_lone (i := 9) rfl (by kernel_rfl) (by decide) rfl (fun K hK => ?_)
          go_simp
          (try go_wp2_with fail)
          refine hK _ _ hSS ?_
          clear hK K hSS
          (try simp only [Act.put, List.getElem_toArray, List.getElem_cons_zero, List.getElem_cons_succ, List.setIfInBounds_toArray, List.set_cons_zero, List.set_cons_succ])
          refine wpHead_done (by kernel_rfl) ?_
          simp only [List.drop_succ_cons, List.drop_zero]
          (try simp only [Act.put, List.getElem_toArray, List.getElem_cons_zero, List.getElem_cons_succ, List.setIfInBounds_toArray, List.set_cons_zero, List.set_cons_succ])
          go_wp2_with fail
          refine NoPanic.normal ?_
          go_wp2_with fail
          go_meet
          exact ⟨g14, _, rfl, rfl, HP14.out, HFF.out⟩
      · skip
        try go_simp
        have kf := (Fr.refl v1).alloc (.cells #[.slice none 0 0, .slice none 0 0, .int .i64 0] 25)
        have HK2 := Lib.hid (HK1.out.call kf)
        have hz2 : v1.heap.size + 1 = (v1.alloc (.cells #[.slice none 0 0, .slice none 0 0, .int .i64 0] 25)).heap.size := by simp
        have HX2 := Lib.hid (HX1.out.call kf)
        replace HR5 := Lib.hid (HR5.out.fr kf)
        have HZ := Lib.hid (BlkC.alloc (w := v1) (t := 25) (cs := #[.slice none 0 0, .slice none 0 0, .int .i64 0]))
        have HY := Lib.hid (show (v1.alloc (.cells #[.slice none 0 0, .slice none 0 0, .int .i64 0] 25)).frozen? ⟨v1.heap.size, 0, none⟩ = false ∧ (v1.alloc (.cells #[.slice none 0 0, .slice none 0 0, .int .i64 0] 25)).frozen? ⟨v1.heap.size, 1, none⟩ = false ∧ (v1.alloc (.cells #[.slice none 0 0, .slice none 0 0, .int .i64 0] 25)).frozen? ⟨v1.heap.size, 2, none⟩ = false from ⟨World.frozen?_alloc_at _ _ _ _ rfl, World.frozen?_alloc_at _ _ _ _ rfl, World.frozen?_alloc_at _ _ _ _ rfl⟩)
        refine hK _ _ (HSF.out _ HK2.out) ?_
        clear hK K kf
        generalize World.alloc v1 (.cells #[.slice none 0 0, .slice none 0 0, .int .i64 0] 25) = v2 at *
        obtain ⟨g14, hgz14⟩ : ∃ g, v1.heap.size = g := ⟨_, rfl⟩
        rw [hgz14] at HZ HY ⊢
        (try simp only [Act.put, List.getElem_toArray, List.getElem_cons_zero, List.getElem_cons_succ, List.setIfInBounds_toArray, List.set_cons_zero, List.set_cons_succ])
        refine wpHead_lone (i := 3) rfl (by kernel_rfl) (by decide) rfl (fun K hK => ?_)
        go_simp
        refine (copy_at hb (HA4.out.fr HK2.out)).mono ?_
        rintro e v3 ⟨_, rfl, hat, hf⟩
        obtain ⟨A6, B6, c6, d6, rfl, _, _, _⟩ := id hat
        have HK3 := Lib.hid (HK2.out.call hf)
        have hz3 := hf.size
        have HX3 := Lib.hid (HX2.out.also hf)
        replace HY := Lib.hid (show _ ∧ _ ∧ _ from ⟨hf.free (HZ.out 0 _ rfl) HY.out.1, hf.free (HZ.out 1 _ rfl) HY.out.2.1, hf.free (HZ.out 2 _ rfl) HY.out.2.2⟩)
        replace HZ := Lib.hid (HZ.out.fr hf)
        replace HR5 := Lib.hid (HR5.out.fr hf)
        have HR6 := Lib.hid hat
        clear hat
        (try go_wp2_with fail)
        refine hK _ _ (HSF.out _ HK3.out) ?_
        clear hK K hf
        (try simp only [Act.put, List.getElem_toArray, List.getElem_cons_zero, List.getElem_cons_succ, List.setIfInBounds_toArray, List.set_cons_zero, List.set_cons_succ])
        refine wpHead_lone (i := 4) rfl (by kernel_rfl) (by decide) rfl (fun K hK => ?_)
        go_simp
        have HQ := Lib.hid (HAD a b (Also (Also F0 v0 v1) v2 v3) _ _ v3 ha hb (HR5.out.mono fun g h => .inl h) (HR6.out.mono fun g h => h.elim (fun h => .inl (.inl h)) .inr))
        rw [hAD] at HQ
        refine (HQ.out).mono ?_
        rintro e v4 ⟨_, rfl, hat, hf⟩
        obtain ⟨A9, B9, c9, d9, rfl, _, _, _⟩ := id hat
        have HK4 := Lib.hid (HK3.out.call hf)
        have hz4 := hf.size
        have HX4 := Lib.hid (HX3.out.also hf)
        replace HY := Lib.hid (show _ ∧ _ ∧ _ from ⟨hf.free (HZ.out 0 _ rfl) HY.out.1, hf.free (HZ.out 1 _ rfl) HY.out.2.1, hf.free (HZ.out 2 _ rfl) HY.out.2.2⟩)
        replace HZ := Lib.hid (HZ.out.fr hf)
        replace HR5 := Lib.hid (HR5.out.fr hf)
        replace HR6 := Lib.hid (HR6.out.fr hf)
        have HR9 := Lib.hid hat
        clear hat HQ
        (try go_wp2_with fail)
        refine hK _ _ (HSF.out _ HK4.out) ?_
        clear hK K hf
        (try simp only [Act.put, List.getElem_toArray, List.getElem_cons_zero, List.getElem_cons_succ, List.setIfInBounds_toArray, List.set_cons_zero, List.set_cons_succ])
        refine wpHead_take (i := 5) (v := ?_) rfl (by kernel_rfl) (fun _ _ _ h => h) (Or.inl ⟨by rfl, ?ny7⟩) (HSF.out _ HK4.out) ?nr7
        case ny7 => (intro w' hw'; go_simp) <;> (try with_reducible rfl)
        (try simp only [Act.put, List.getElem_toArray, List.getElem_cons_zero, List.getElem_cons_succ, List.setIfInBounds_toArray, List.set_cons_zero, List.set_cons_succ])
        refine wpHead_take (i := 6) (v := ?_) rfl (by kernel_rfl) (fun _ _ _ h => h) (Or.inl ⟨by rfl, ?ny8⟩) (HSF.out _ HK4.out) ?nr8
        case ny8 => (intro w' hw'; go_simp) <;> (try with_reducible rfl)
        (try simp only [Act.put, List.getElem_toArray, List.getElem_cons_zero, List.getElem_cons_succ, List.setIfInBounds_toArray, List.set_cons_zero, List.set_cons_succ])
        refine wpHead_take (i := 7) (v := ?_) rfl (by kernel_rfl) (fun _ _ _ h => h) (Or.inl ⟨by rfl, ?ny9⟩) (HSF.out _ HK4.out) ?nr9
        case ny9 => (intro w' hw'; go_simp) <;> (try with_reducible rfl)
        (try simp only [Act.put, List.getElem_toArray, List.getElem_cons_zero, List.getElem_cons_succ, List.setIfInBounds_toArray, List.set_cons_zero, List.set_cons_succ])
        obtain ⟨z0, z1, z2⟩ := HZ.out.three
        obtain ⟨y0, y1', y2'⟩ := HY.out
        have zl := lt_of_cell z0
        have hpw := HP.out
        have hfar : ¬ Also (Also (Also F0 v0 v1) v2 v3) v3 v4 g14 := by
          rintro (((h | h) | h) | h)
          · have := HF0.out _ h; omega
          · have := h.1; have := h.2; omega
          · have := h.1; have := h.2; omega
          · have := h.1; have := h.2; omega
        have P14 := HX4.out.put (q := g14) HR9.out (by omega) HZ.out hfar (by intro x hx; simp only [List.mem_cons, List.not_mem_nil, or_false] at hx; rcases hx with rfl | rfl <;> (show _ ≠ _; simp; omega))
        have HP14 := Lib.hid P14
        have HFF := Lib.hid (((HK4.out.set (p := ⟨g14, 0, none⟩) (by show y3.heap.size ≤ g14; omega) (.slice A9 s9.ss.length c9)).set (p := ⟨g14, 1, none⟩) (by show y3.heap.size ≤ g14; omega) (.slice B9 s9.ts.length d9)).set (p := ⟨g14, 2, none⟩) (by show y3.heap.size ≤ g14; omega) (.int .i64 s9.off))
        have hSS := HSF.out _ HFF.out
        clear P14 hfar hpw
        refine wpHead_lone (i := 9) rfl (by kernel_rfl) (by decide) rfl (fun K hK => ?_)
        go_simp
        (try go_wp2_with fail)
        refine hK _ _ hSS ?_
        clear hK K hSS
        (try simp only [Act.put, List.getElem_toArray, List.getElem_cons_zero, List.getElem_cons_succ, List.setIfInBounds_toArray, List.set_cons_zero, List.set_cons_succ])
        refine wpHead_done (by kernel_rfl) ?_
        simp only [List.drop_succ_cons, List.drop_zero]
        (try simp only [Act.put, List.getElem_toArray, List.getElem_cons_zero, List.getElem_cons_succ, List.setIfInBounds_toArray, List.set_cons_zero, List.set_cons_succ])
        go_wp2_with fail
        refine NoPanic.normal ?_
        go_wp2_with fail
        go_meet
        exact ⟨g14, _, rfl, rfl, HP14.out, HFF.out⟩
    · skip
      try go_simp
      have kf := (Fr.refl v0).alloc (.cells #[.slice none 0 0, .slice none 0 0, .int .i64 0] 25)
      have HK1 := Lib.hid (HK0.out.call kf)
      have hz1 : v0.heap.size + 1 = (v0.alloc (.cells #[.slice none 0 0, .slice none 0 0, .int .i64 0] 25)).heap.size := by simp
      have HX1 := Lib.hid (HX0.out.call kf)
      have HZ := Lib.hid (BlkC.alloc (w := v0) (t := 25) (cs := #[.slice none 0 0, .slice none 0 0, .int .i64 0]))
      have HY := Lib.hid (show (v0.alloc (.cells #[.slice none 0 0, .slice none 0 0, .int .i64 0] 25)).frozen? ⟨v0.heap.size, 0, none⟩ = false ∧ (v0.alloc (.cells #[.slice none 0 0, .slice none 0 0, .int .i64 0] 25)).frozen? ⟨v0.heap.size, 1, none⟩ = false ∧ (v0.alloc (.cells #[.slice none 0 0, .slice none 0 0, .int .i64 0] 25)).frozen? ⟨v0.heap.size, 2, none⟩ = false from ⟨World.frozen?_alloc_at _ _ _ _ rfl, World.frozen?_alloc_at _ _ _ _ rfl, World.frozen?_alloc_at _ _ _ _ rfl⟩)
      refine hK _ _ (HSF.out _ HK1.out) ?_
      clear hK K kf
      generalize World.alloc v0 (.cells #[.slice none 0 0, .slice none 0 0, .int .i64 0] 25) = v1 at *
      obtain ⟨g14, hgz14⟩ : ∃ g, v0.heap.size = g := ⟨_, rfl⟩
      rw [hgz14] at HZ HY ⊢
      (try simp only [Act.put, List.getElem_toArray, List.getElem_cons_zero, List.getElem_cons_succ, List.setIfInBounds_toArray, List.set_cons_zero, List.set_cons_succ])
      refine wpHead_lone (i := 1) rfl (by kernel_rfl) (by decide) rfl (fun K hK => ?_)
      go_simp
      refine (copy_at ha (HA3.out.fr HK1.out)).mono ?_
      rintro e v2 ⟨_, rfl, hat, hf⟩
      obtain ⟨A5, B5, c5, d5, rfl, _, _, _⟩ := id hat
      have HK2 := Lib.hid (HK1.out.call hf)
      have hz2 := hf.size
      have HX2 := Lib.hid (HX1.out.also hf)
      replace HY := Lib.hid (show _ ∧ _ ∧ _ from ⟨hf.free (HZ.out 0 _ rfl) HY.out.1, hf.free (HZ.out 1 _ rfl) HY.out.2.1, hf.free (HZ.out 2 _ rfl) HY.out.2.2⟩)
      replace HZ := Lib.hid (HZ.out.fr hf)
      have HR5 := Lib.hid hat
      clear hat
      (try go_wp2_with fail)
      refine hK _ _ (HSF.out _ HK2.out) ?_
      clear hK K hf
      (try simp only [Act.put, List.getElem_toArray, List.getElem_cons_zero, List.getElem_cons_succ, List.setIfInBounds_toArray, List.set_cons_zero, List.set_cons_succ])
      refine wpHead_lone (i := 3) rfl (by kernel_rfl) (by decide) rfl (fun K hK => ?_)
      go_simp
      refine (copy_at hb (HA4.out.fr HK2.out)).mono ?_
      rintro e v3 ⟨_, rfl, hat, hf⟩
      obtain ⟨A6, B6, c6, d6, rfl, _, _, _⟩ := id hat
      have HK3 := Lib.hid (HK2.out.call hf)
      have hz3 := hf.size
      have HX3 := Lib.hid (HX2.out.also hf)
      replace HY := Lib.hid (show _ ∧ _ ∧ _ from ⟨hf.free (HZ.out 0 _ rfl) HY.out.1, hf.free (HZ.out 1 _ rfl) HY.out.2.1, hf.free (HZ.out 2 _ rfl) HY.out.2.2⟩)
      replace HZ := Lib.hid (HZ.out.fr hf)
      replace HR5 := Lib.hid (HR5.out.fr hf)
      have HR6 := Lib.hid hat
      clear hat
      (try go_wp2_with fail)
      refine hK _ _ (HSF.out _ HK3.out) ?_
      clear hK K hf
      (try simp only [Act.put, List.getElem_toArray, List.getElem_cons_zero, List.getElem_cons_succ, List.setIfInBounds_toArray, List.set_cons_zero, List.set_cons_succ])
      refine wpHead_lone (i := 4) rfl (by kernel_rfl) (by decide) rfl (fun K hK => ?_)
      go_simp
      have HQ := Lib.hid (HAD a b (Also (Also F0 v1 v2) v2 v3) _ _ v3 ha hb (HR5.out.mono fun g h => .inl h) (HR6.out.mono fun g h => h.elim (fun h => .inl (.inl h)) .inr))
      rw [hAD] at HQ
      refine (HQ.out).mono ?_
      rintro e v4 ⟨_, rfl, hat, hf⟩
      obtain ⟨A9, B9, c9, d9, rfl, _, _, _⟩ := id hat
      have HK4 := Lib.hid (HK3.out.call hf)
      have hz4 := hf.size
      have HX4 := Lib.hid (HX3.out.also hf)
      replace HY := Lib.hid (show _ ∧ _ ∧ _ from ⟨hf.free (HZ.out 0 _ rfl) HY.out.1, hf.free (HZ.out 1 _ rfl) HY.out.2.1, hf.free (HZ.out 2 _ rfl) HY.out.2.2⟩)
      replace HZ := Lib.hid (HZ.out.fr hf)
      replace HR5 := Lib.hid (HR5.out.fr hf)
      replace HR6 := Lib.hid (HR6.out.fr hf)
      have HR9 := Lib.hid hat
      clear hat HQ
      (try go_wp2_with fail)
      refine hK _ _ (HSF.out _ HK4.out) ?_
      clear hK K hf
      (try simp only [Act.put, List.getElem_toArray, List.getElem_cons_zero, List.getElem_cons_succ, List.setIfInBounds_toArray, List.set_cons_zero, List.set_cons_succ])
      refine wpHead_take (i := 5) (v := ?_) rfl (by kernel_rfl) (fun _ _ _ h => h) (Or.inl ⟨by rfl, ?ny10⟩) (HSF.out _ HK4.out) ?nr10
      case ny10 => (intro w' hw'; go_simp) <;> (try with_reducible rfl)
      (try simp only [Act.put, List.getElem_toArray, List.getElem_cons_zero, List.getElem_cons_succ, List.setIfInBounds_toArray, List.set_cons_zero, List.set_cons_succ])
      refine wpHead_take (i := 6) (v := ?_) rfl (by kernel_rfl) (fun _ _ _ h => h) (Or.inl ⟨by rfl, ?ny11⟩) (HSF.out _ HK4.out) ?nr11
      case ny11 => (intro w' hw'; go_simp) <;> (try with_reducible rfl)
      (try simp only [Act.put, List.getElem_toArray, List.getElem_cons_zero, List.getElem_cons_succ, List.setIfInBounds_toArray, List.set_cons_zero, List.set_cons_succ])
      refine wpHead_take (i := 7) (v := ?_) rfl (by kernel_rfl) (fun _ _ _ h => h) (Or.inl ⟨by rfl, ?ny12⟩) (HSF.out _ HK4.out) ?nr12
      case ny12 => (intro w' hw'; go_simp) <;> (try with_reducible rfl)
      (try simp only [Act.put, List.getElem_toArray, List.getElem_cons_zero, List.getElem_cons_succ, List.setIfInBounds_toArray, List.set_cons_zero, List.set_cons_succ])
      obtain ⟨z0, z1, z2⟩ := HZ.out.three
      obtain ⟨y0, y1', y2'⟩ := HY.out
      have zl := lt_of_cell z0
      have hpw := HP.out
      have hfar : ¬ Also (Also (Also F0 v1 v2) v2 v3) v3 v4 g14 := by
        rintro (((h | h) | h) | h)
        · have := HF0.out _ h; omega
        · have := h.1; have := h.2; omega
        · have := h.1; have := h.2; omega
        · have := h.1; have := h.2; omega
      have P14 := HX4.out.put (q := g14) HR9.out (by omega) HZ.out hfar (by intro x hx; simp only [List.mem_cons, List.not_mem_nil, or_false] at hx; rcases hx with rfl | rfl <;> (show _ ≠ _; simp; omega))
      have HP14 := Lib.hid P14
      have HFF := Lib.hid (((HK4.out.set (p := ⟨g14, 0, none⟩) (by show y3.heap.size ≤ g14; omega) (.slice A9 s9.ss.length c9)).set (p := ⟨g14, 1, none⟩) (by show y3.heap.size ≤ g14; omega) (.slice B9 s9.ts.length d9)).set (p := ⟨g14, 2, none⟩) (by show y3.heap.size ≤ g14; omega) (.int .i64 s9.off))
      have hSS := HSF.out _ HFF.out
      clear P14 hfar hpw
      refine wpHead_lone (i := 9) rfl (by kernel_rfl) (by decide) rfl (fun K hK => ?_)
      go_simp
      (try go_wp2_with fail)
      refine hK _ _ hSS ?_
      clear hK K hSS
      (try simp only [Act.put, List.getElem_toArray, List.getElem_cons_zero, List.getElem_cons_succ, List.setIfInBounds_toArray, List.set_cons_zero, List.set_cons_succ])
      refine wpHead_done (by kernel_rfl) ?_
      simp only [List.drop_succ_cons, List.drop_zero]
      (try simp only [Act.put, List.getElem_toArray, List.getElem_cons_zero, List.getElem_cons_succ, List.setIfInBounds_toArray, List.set_cons_zero, List.set_cons_succ])
      go_wp2_with fail
      refine NoPanic.normal ?_
      go_wp2_with fail
      go_meet
      exact ⟨g14, _, rfl, rfl, HP14.out, HFF.out⟩
  case rest =>
    obtain ⟨q14, F, rfl, rfl, hbx, hf10⟩ := hcut
    clear x30 x31 x32 z3
    clear x40 x41 x42 z4
    clear HBX
    replace HB3 := Lib.hid (HB3.out.fr hf10)
    replace HA3 := Lib.hid (HA3.out.fr hf10)
    replace HB4 := Lib.hid (HB4.out.fr hf10)
    replace HA4 := Lib.hid (HA4.out.fr hf10)
    replace HK := Lib.hid (HK.out.call hf10)
    replace HRN := Lib.hid (HRN.out.fr hf10)
    replace HV3 := Lib.hid (HV3.out.fr hf10)
    obtain ⟨A14, B14, c14, d14, hb14, ha14⟩ := hbx.box (q14, s9) (by simp)
    have HB14 := Lib.hid (show BlkC wc q14 [.slice A14 s9.ss.length c14, .slice B14 s9.ts.length d14, .int .i64 s9.off] from hb14); have HA14 := Lib.hid ha14; clear hb14 ha14 hf10
    have HBX := Lib.hid hbx; clear hbx
    obtain ⟨x30, x31, x32⟩ := HB3.out.three
    have z3 := lt_of_cell x30
    obtain ⟨x40, x41, x42⟩ := HB4.out.three
    have z4 := lt_of_cell x40
    obtain ⟨x140, x141, x142⟩ := HB14.out.three
    have z14 := lt_of_cell x140
    have HEA := Lib.hid hea; have HEB := Lib.hid heb; have HADD := Lib.hid hAD; clear hea heb hAD
    cases oka with
    | false =>
      go_wp2_with fail
      go_ret
      exact ⟨rfl, HK.out⟩
    | true =>
      cases okb with
      | false =>
        go_wp2_with fail
        go_ret
        exact ⟨rfl, HK.out⟩
      | true =>
        by_cases he : er = 0
        · subst he
          have hea := HEA.out; have heb := HEB.out; have hAD := HADD.out
          have hpl : s9 = plusL a b 1 ∧ (plusL a b 1).ss.length ≤ 16 ∧ a.norm = true := by
            unfold addL at hAD
            split at hAD
            · next hn =>
              split at hAD
              · next hl => injection hAD with h1 h2; exact ⟨h1.symm, hl, hn.1⟩
              · injection hAD with h1 h2; cases h2
            · injection hAD with h1 h2; cases h2
          obtain ⟨hpl, h16, hna⟩ := hpl
          have hE1 : evalN names vals s9 = (wrap64 (va + vb), true) := by
            have := eval_plus names vals (k := 1) ha hb (by rw [hea]) (by rw [heb]) h16
            rw [hea, heb, ← hpl] at this
            simpa using this
          have hz : evalN names vals zeroL = (0, true) := by
            have := eval_of names vals zero_sm zero_norm (z := 0) rfl
            rw [this, show wrap64 (zeroL.off + 0) = 0 from by show wrap64 (0 + 0) = 0; unfold wrap64; omega]
          have hE2 : evalN names vals (timesL a 7) = (wrap64 (7 * va), true) := by
            have h1 : timesL a 7 = plusL zeroL a 7 := by unfold timesL; rw [hna]; rfl
            have := eval_plus names vals (k := 7) zero_sm ha (by rw [hz]) (by rw [hea]) (times_len hna ha)
            rw [hea, hz, ← h1] at this
            simpa using this
          have HE1 := Lib.hid hE1; have HE2 := Lib.hid hE2; clear hpl h16 hna hE1 hz hE2 hAD hea heb HEA HEB HADD
          have HQ := Lib.hid (HEV s9 _ _ names vals _ _ c6 cv q2 n _ hs9 hnm hvs HQ2.out HNV.out HA14.out HRN.out HV3.out)
          rw [HE1.out] at HQ
          go_wp2_with fail
          refine (HQ.out).mono ?_
          rintro e y4 ⟨rfl, hf⟩
          clear x30 x31 x32 z3
          clear x40 x41 x42 z4
          clear x140 x141 x142 z14
          replace HB3 := Lib.hid (HB3.out.fr hf)
          replace HA3 := Lib.hid (HA3.out.fr hf)
          replace HB4 := Lib.hid (HB4.out.fr hf)
          replace HA4 := Lib.hid (HA4.out.fr hf)
          replace HB14 := Lib.hid (HB14.out.fr hf)
          replace HA14 := Lib.hid (HA14.out.fr hf)
          replace HK := Lib.hid (HK.out.call hf)
          replace HRN := Lib.hid (HRN.out.fr hf)
          replace HV3 := Lib.hid (HV3.out.fr hf)
          replace HBX := Lib.hid (HBX.out.call hf)
          obtain ⟨x30, x31, x32⟩ := HB3.out.three
          have z3 := lt_of_cell x30
          obtain ⟨x40, x41, x42⟩ := HB4.out.three
          have z4 := lt_of_cell x40
          obtain ⟨x140, x141, x142⟩ := HB14.out.three
          have z14 := lt_of_cell x140
          clear hf
          clear HQ
          go_wp2_with fail
          refine (copy_at ha HA3.out).mono ?_
          rintro e y5 ⟨x, rfl, hx, hf⟩
          clear x30 x31 x32 z3
          clear x40 x41 x42 z4
          clear x140 x141 x142 z14
          replace HB3 := Lib.hid (HB3.out.fr hf)
          replace HA3 := Lib.hid (HA3.out.fr hf)
          replace HB4 := Lib.hid (HB4.out.fr hf)
          replace HA4 := Lib.hid (HA4.out.fr hf)
          replace HB14 := Lib.hid (HB14.out.fr hf)
          replace HA14 := Lib.hid (HA14.out.fr hf)
          replace HK := Lib.hid (HK.out.call hf)
          replace HRN := Lib.hid (HRN.out.fr hf)
          replace HV3 := Lib.hid (HV3.out.fr hf)
          replace HBX := Lib.hid (HBX.out.call hf)
          obtain ⟨x30, x31, x32⟩ := HB3.out.three
          have z3 := lt_of_cell x30
          obtain ⟨x40, x41, x42⟩ := HB4.out.three
          have z4 := lt_of_cell x40
          obtain ⟨x140, x141, x142⟩ := HB14.out.three
          have z14 := lt_of_cell x140
          clear hf
          have HX := Lib.hid hx; clear hx
          have HQ := Lib.hid (HTI a 7 _ x y5 ha (by unfold I64; decide) HX.out)
          go_wp2_with fail
          refine (HQ.out).mono ?_
          rintro e y6 ⟨x2, rfl, hx, hf⟩
          clear x30 x31 x32 z3
          clear x40 x41 x42 z4
          clear x140 x141 x142 z14
          replace HB3 := Lib.hid (HB3.out.fr hf)
          replace HA3 := Lib.hid (HA3.out.fr hf)
          replace HB4 := Lib.hid (HB4.out.fr hf)
          replace HA4 := Lib.hid (HA4.out.fr hf)
          replace HB14 := Lib.hid (HB14.out.fr hf)
          replace HA14 := Lib.hid (HA14.out.fr hf)
          replace HK := Lib.hid (HK.out.call hf)
          replace HRN := Lib.hid (HRN.out.fr hf)
          replace HV3 := Lib.hid (HV3.out.fr hf)
          replace HBX := Lib.hid (HBX.out.call hf)
          obtain ⟨x30, x31, x32⟩ := HB3.out.three
          have z3 := lt_of_cell x30
          obtain ⟨x40, x41, x42⟩ := HB4.out.three
          have z4 := lt_of_cell x40
          obtain ⟨x140, x141, x142⟩ := HB14.out.three
          have z14 := lt_of_cell x140
          clear hf
          clear HQ HX
          have HX := Lib.hid hx; clear hx
          have HQ := Lib.hid (HEV (timesL a 7) _ x2 names vals _ _ c6 cv q2 n _ (times_sm ha) hnm hvs HQ2.out HNV.out HX.out HRN.out HV3.out)
          rw [HE2.out] at HQ
          go_wp2_with fail
          refine (HQ.out).mono ?_
          rintro e y7 ⟨rfl, hf⟩
          clear x30 x31 x32 z3
          clear x40 x41 x42 z4
          clear x140 x141 x142 z14
          replace HB3 := Lib.hid (HB3.out.fr hf)
          replace HA3 := Lib.hid (HA3.out.fr hf)
          replace HB4 := Lib.hid (HB4.out.fr hf)
          replace HA4 := Lib.hid (HA4.out.fr hf)
          replace HB14 := Lib.hid (HB14.out.fr hf)
          replace HA14 := Lib.hid (HA14.out.fr hf)
          replace HK := Lib.hid (HK.out.call hf)
          replace HRN := Lib.hid (HRN.out.fr hf)
          replace HV3 := Lib.hid (HV3.out.fr hf)
          replace HBX := Lib.hid (HBX.out.call hf)
          obtain ⟨x30, x31, x32⟩ := HB3.out.three
          have z3 := lt_of_cell x30
          obtain ⟨x40, x41, x42⟩ := HB4.out.three
          have z4 := lt_of_cell x40
          obtain ⟨x140, x141, x142⟩ := HB14.out.three
          have z14 := lt_of_cell x140
          clear hf
          clear HQ HX
          go_wp2_with fail
          go_ret
          exact ⟨rfl, HK.out⟩
        · have hx : (er != 0) = true := by simp [he]
          go_wp2_with fail
          go_ret
          exact ⟨rfl, HK.out⟩
end Go.Proofs.YtbnaakognnkhdaaGreatDoor
