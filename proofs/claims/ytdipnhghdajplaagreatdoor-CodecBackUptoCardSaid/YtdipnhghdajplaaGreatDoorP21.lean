/- A form's effects, of the program: an effect of one kind. -/
import Derived.Test.YtdipnhghdajplaaGreatDoorP20
import Derived.Deep.RegionHeld3
import Derived.Deep.QuietTactic
namespace Go.Proofs.YtdipnhghdajplaaGreatDoor
open Go.RowKit
set_option linter.unusedSimpArgs false
set_option linter.unusedVariables false
theorem row1b {w : World} (x : Int) (t : TypeId) (g : Nat) (hg : g = w.heap.size) : RowOf IntC 1 (w.alloc (.cells #[.int .i64 x] t)) (some ⟨g, 0, none⟩) [x] := fun _ => ⟨g, 0, rfl, fun i hi => by
 subst hg
 obtain rfl : i = 0 := by simpa using hi
 unfold IntC; simp⟩
theorem row2b {w : World} (x y : Int) (t : TypeId) (g : Nat) (hg : g = w.heap.size) : RowOf IntC 1 (w.alloc (.cells #[.int .i64 x, .int .i64 y] t)) (some ⟨g, 0, none⟩) [x, y] := fun _ => ⟨g, 0, rfl, fun i hi => by
 subst hg
 unfold IntC
 have : i = 0 ∨ i = 1 := by simp at hi; omega
 rcases this with rfl | rfl <;> simp⟩
section
variable {E : Env} {Fa Ca Aa Ga Ma : Option Addr} {sb : Nat} {n0 n1 n3 n7 n8 n9 n10 n11 n12 : Value} {fc gc cc ml mc ac : Nat}
set_option maxHeartbeats 6400000 in
set_option maxRecDepth 100000 in
theorem eff33 {w : World} (S : BlkAt w sb [n0, n1, .slice Fa E.files.length fc, n3, .slice Ga E.nflags gc, .slice Ca E.classes.length cc, .slice Ma ml mc, n7, n8, n9, n10, n11, n12, .slice Aa E.args.length ac]) (hE : EnvAt E w Fa Ca Aa) (wd a b : Int) (ks : List Tm) (A : Option Addr) (c : Nat) (hT : TmL w A ks) :
   Calls Tryz.prog 79 #[.pointer (some ⟨sb, 0, none⟩), .agg #[.int .i64 33, .int .i64 wd, .int .i64 a, .int .i64 b, .slice A ks.length c]] w fun e w' => e = .returned (.bool (memB wd && havB E ks [64, wd])) ∧ Fr w w' := by
 have HS := Lib.hid S
 have HE := Lib.hid hE
 have HT := Lib.hid hT
 have HB := Lib.hid (BlkAt.alloc (w := w) (t := 124) (cs := #[.int .i64 33, .int .i64 wd, .int .i64 a, .int .i64 b, .slice A ks.length c]))
 have HF0 := Lib.hid (Fr.alloc (Fr.refl w) (.cells #[.int .i64 33, .int .i64 wd, .int .i64 a, .int .i64 b, .slice A ks.length c] 124))
 have HV := Lib.hid (fun (w1 : World) (k : Fr w w1) (ws : List Int) (W : Option Addr) (c2 : Nat) (hW : RowOf IntC 1 w1 W ws) (hl : ws.length ≤ 2) => have_any (S.fr k) (hE.fr k) ks A c (TmL.fr k hT) ws W c2 hW hl)
 have HM := Lib.hid (fun w => stored_any wd w)
 clear S hE hT
 cases hm : memB wd with
 | false =>
   rw [Bool.false_and]
   rw [hm] at HM
   clear hm
   go_enter Tryz.func79, Tryz.ntmps79
   go_wp2_with (go_at_call 113; refine (HM.out _).mono ?_; rintro e w4 ⟨rfl, rfl⟩)
   go_ret
   exact ⟨rfl, HF0.out⟩
 | true =>
   rw [Bool.true_and]
   rw [hm] at HM
   clear hm
   go_enter Tryz.func79, Tryz.ntmps79
   go_wp2_with fail
   refine (HM.out _).mono ?_
   rintro e w4 ⟨rfl, rfl⟩
   go_wp2_with fail
   refine (HV.out _ (Fr.alloc HF0.out _) _ _ _ (row2b _ _ _ _ (by simp)) (by simp)).mono ?_
   rintro e w5 ⟨rfl, hf5⟩
   have HF5 := Lib.hid (Fr.call (Fr.alloc HF0.out _) hf5)
   clear hf5
   go_wp2
   go_ret
   exact ⟨rfl, HF5.out⟩
set_option maxHeartbeats 6400000 in
set_option maxRecDepth 100000 in
theorem eff31 {w : World} (S : BlkAt w sb [n0, n1, .slice Fa E.files.length fc, n3, .slice Ga E.nflags gc, .slice Ca E.classes.length cc, .slice Ma ml mc, n7, n8, n9, n10, n11, n12, .slice Aa E.args.length ac]) (hE : EnvAt E w Fa Ca Aa) (wd a b : Int) (ks : List Tm) (A : Option Addr) (c : Nat) (hT : TmL w A ks) :
   Calls Tryz.prog 79 #[.pointer (some ⟨sb, 0, none⟩), .agg #[.int .i64 31, .int .i64 wd, .int .i64 a, .int .i64 b, .slice A ks.length c]] w fun e w' => e = .returned (.bool (decide (0 < regW E a b) && havB E ks [regW E a b])) ∧ Fr w w' := by
 have HS := Lib.hid S
 have HE := Lib.hid hE
 have HT := Lib.hid hT
 have HB := Lib.hid (BlkAt.alloc (w := w) (t := 124) (cs := #[.int .i64 31, .int .i64 wd, .int .i64 a, .int .i64 b, .slice A ks.length c]))
 have HF0 := Lib.hid (Fr.alloc (Fr.refl w) (.cells #[.int .i64 31, .int .i64 wd, .int .i64 a, .int .i64 b, .slice A ks.length c] 124))
 have HV := Lib.hid (fun (w1 : World) (k : Fr w w1) (ws : List Int) (W : Option Addr) (c2 : Nat) (hW : RowOf IntC 1 w1 W ws) (hl : ws.length ≤ 2) => have_any (S.fr k) (hE.fr k) ks A c (TmL.fr k hT) ws W c2 hW hl)
 have HM := Lib.hid (fun (w1 : World) (k : Fr w w1) => regw_any (S.fr k) (hE.fr k) 31 wd a b A ks.length c)
 clear S hE hT
 generalize regW E a b = v at *
 by_cases h1 : 0 < v
 · have hd1 : decide (0 < v) = true := by simp [h1]
   rw [hd1, Bool.true_and]
   clear h1
   go_enter Tryz.func79, Tryz.ntmps79
   go_wp2_with fail
   refine (HM.out _ HF0.out).mono ?_
   rintro e w4 ⟨rfl, hf4⟩
   have HF4 := Lib.hid (HF0.out.call hf4)
   have b4 := HB.out.fr hf4 4 _ rfl
   have zb := lt_of_cell b4
   clear hf4
   go_wp2_with fail
   refine (HV.out _ (Fr.alloc HF4.out _) _ _ _ (row1b _ _ _ (by simp)) (by simp)).mono ?_
   rintro e w5 ⟨rfl, hf5⟩
   have HF5 := Lib.hid (Fr.call (Fr.alloc HF4.out _) hf5)
   clear hf5
   go_wp2
   go_ret
   exact ⟨rfl, HF5.out⟩
 · have hd1 : decide (0 < v) = false := by simp; omega
   rw [hd1, Bool.false_and]
   clear h1
   go_enter Tryz.func79, Tryz.ntmps79
   go_wp2_with fail
   refine (HM.out _ HF0.out).mono ?_
   rintro e w4 ⟨rfl, hf4⟩
   have HF4 := Lib.hid (HF0.out.call hf4)
   clear hf4
   go_wp2
   go_ret
   exact ⟨rfl, HF4.out⟩
end
end Go.Proofs.YtdipnhghdajplaaGreatDoor
namespace Go.Proofs.YtdipnhghdajplaaGreatDoor
open Go.RowKit
set_option linter.unusedSimpArgs false
set_option linter.unusedVariables false
def flaKids (op : Int) : Int := if op = 20 ∨ op = 38 ∨ op = 39 ∨ op = 40 ∨ op = 41 ∨ op = 42 ∨ op = 44 then 0 else if op = 43 then 1 else if op = 1 ∨ op = 2 then 2 else -1
def chkB (sign width align round : Int) : Bool := decide (0 ≤ sign) && decide (sign ≤ 3) && (decide (sign = 0) || decide (1 ≤ width) && decide (width ≤ 64)) && decide (0 ≤ align) && decide (align ≤ 30) && decide (0 ≤ round) && decide (round ≤ 4294967296)
def atB {α : Type} (l : List α) (x : Int) (P : α → Bool) : Bool := if 0 ≤ x then match l[x.toNat]? with
 | some a => P a
 | none => false
 else false
theorem atB_no {α : Type} {l : List α} {x : Int} {P : α → Bool} (h : plB x l.length = false) : atB l x P = false := by
 unfold atB
 by_cases h0 : 0 ≤ x
 · rw [if_pos h0, List.getElem?_eq_none (by simp [plB, h0] at h; omega)]
 · rw [if_neg h0]
theorem atB_at {α : Type} {l : List α} {k : Nat} {P : α → Bool} (h : k < l.length) : atB l (k : Int) P = P l[k] := by
 unfold atB
 rw [if_pos (by omega)]
 simp [h]
theorem formulaKids_any (x : Int) (w : World) : Calls Tryz.prog 115 #[.int .i64 x] w fun e w' => e = .returned (.int .i64 (flaKids x)) ∧ w' = w := by
 go_enter Tryz.func115, Tryz.ntmps115
 go_wp2
 all_goals (go_ret; exact ⟨ret_int (by unfold flaKids; simp_all; try omega), rfl⟩)
set_option maxHeartbeats 6400000 in
set_option maxRecDepth 100000 in
theorem checksRight_any (n0 : ByteArray) (num kind bytes cls cls2 op wd ta tb sign width align round hi lo : Int) (A : Option Addr) (l c : Nat) (w : World) :
   Calls Tryz.prog 81 #[.agg #[.string n0, .int .i64 num, .int .i64 kind, .int .i64 bytes, .int .i64 cls, .int .i64 cls2, .int .i64 op, .int .i64 wd, .int .i64 ta, .int .i64 tb, .slice A l c, .int .i64 sign, .int .i64 width, .int .i64 align, .int .i64 round, .int .i64 hi, .int .i64 lo]] w fun e w' => e = .returned (.bool (chkB sign width align round)) ∧ Fr w w' := by
 go_enter Tryz.func81, Tryz.ntmps81
 go_wp2
 all_goals (go_ret; exact ⟨bool_iff (by first | (simp [chkB]; done) | (simp [chkB]; omega) | (simp_all [chkB]; done) | (simp_all [chkB]; omega)), by first | exact Fr.alloc (Fr.refl w) _ | exact Fr.drewN (Fr.alloc (Fr.refl w) _) _⟩)
theorem relPlace_any (x : Int) (A : Option Addr) (n c : Nat) (w : World) : Calls Tryz.prog 84 #[.int .i64 x, .slice A n c] w fun e w' => e = .returned (.bool (plB x n)) ∧ w' = w := by
 go_enter Tryz.func84, Tryz.ntmps84
 go_wp2
 all_goals (go_ret; exact ⟨bool_iff (by simp [plB]; omega), rfl⟩)
set_option maxHeartbeats 6400000 in
set_option maxRecDepth 100000 in
theorem hasKind_any {w : World} {D : Ds} {v : Array Value} (hD : DescAt w D v) (x kd : Int) :
   Calls Tryz.prog 83 #[.agg v, .int .i64 x, .int .i64 kd] w fun e w' => e = .returned (.bool (atB D.rels x fun a => decide (a.kind = kd))) ∧ Fr w w' := by
 obtain ⟨s0, Fa, Ba, Ga, Ca, Ma, Ra, Ua, Xa, Ka, Na, Pa, fc, bc, gc, cc, mc, rc, uc, xc, kc, nl, nc, pc, rfl, h1, h2, h3, h4, h5, h6, h7, h8, h9⟩ := hD
 cases hp : plB x D.rels.length with
 | false =>
   have HP := Lib.hid (fun A c w => hp ▸ relPlace_any x A D.rels.length c w)
   have HR := Lib.hid (atB_no (P := fun a => decide (a.kind = kd)) hp)
   clear hp h1 h2 h3 h4 h5 h6 h7 h8 h9
   go_enter Tryz.func83, Tryz.ntmps83
   go_wp2_with (go_at_call 84; refine (HP.out _ _ _).mono ?_; rintro e w4 ⟨rfl, rfl⟩)
   go_ret
   exact ⟨ret_bool (by rw [HR.out]), Fr.alloc (Fr.refl w) _⟩
 | true =>
   have HP := Lib.hid (fun A c w => hp ▸ relPlace_any x A D.rels.length c w)
   obtain ⟨k, rfl, hk⟩ := plB_ex hp
   obtain ⟨bk, ok, rfl, n0, c0, w1, c1, w2, c2, rest⟩ := h5.at hk
   rw [Nat.mul_comm 17 k] at c2
   have hki : (k : Int) < (D.rels.length : Int) := by omega
   have HR := Lib.hid (atB_at (P := fun a => decide (a.kind = kd)) hk)
   have hbk := lt_of_cell c2
   have z1 : bk < w.heap.size + 1 := by omega
   generalize D.rels[k].kind = y at *
   clear hp h1 h2 h3 h4 h5 h6 h7 h8 h9
   go_enter Tryz.func83, Tryz.ntmps83
   go_wp2_with (go_at_call 84; refine (HP.out _ _ _).mono ?_; rintro e w4 ⟨rfl, rfl⟩)
   go_ret
   exact ⟨bool_iff (by rw [HR.out]; simp), Fr.alloc (Fr.refl w) _⟩
set_option maxHeartbeats 6400000 in
set_option maxRecDepth 100000 in
theorem patches_any {w : World} {D : Ds} {v : Array Value} (hD : DescAt w D v) (x : Int) :
   Calls Tryz.prog 52 #[.agg v, .int .i64 x] w fun e w' => e = .returned (.bool (atB D.rels x fun a => !decide (a.kind = 1))) ∧ Fr w w' := by
 obtain ⟨s0, Fa, Ba, Ga, Ca, Ma, Ra, Ua, Xa, Ka, Na, Pa, fc, bc, gc, cc, mc, rc, uc, xc, kc, nl, nc, pc, rfl, h1, h2, h3, h4, h5, h6, h7, h8, h9⟩ := hD
 cases hp : plB x D.rels.length with
 | false =>
   have HP := Lib.hid (fun A c w => hp ▸ relPlace_any x A D.rels.length c w)
   have HR := Lib.hid (atB_no (P := fun a => !decide (a.kind = 1)) hp)
   clear hp h1 h2 h3 h4 h5 h6 h7 h8 h9
   go_enter Tryz.func52, Tryz.ntmps52
   go_wp2_with (go_at_call 84; refine (HP.out _ _ _).mono ?_; rintro e w4 ⟨rfl, rfl⟩)
   go_ret
   exact ⟨ret_bool (by rw [HR.out]), Fr.alloc (Fr.refl w) _⟩
 | true =>
   have HP := Lib.hid (fun A c w => hp ▸ relPlace_any x A D.rels.length c w)
   obtain ⟨k, rfl, hk⟩ := plB_ex hp
   obtain ⟨bk, ok, rfl, n0, c0, w1, c1, w2, c2, rest⟩ := h5.at hk
   rw [Nat.mul_comm 17 k] at c2
   have hki : (k : Int) < (D.rels.length : Int) := by omega
   have HR := Lib.hid (atB_at (P := fun a => !decide (a.kind = 1)) hk)
   have hbk := lt_of_cell c2
   have z1 : bk < w.heap.size + 1 := by omega
   generalize D.rels[k].kind = y at *
   clear hp h1 h2 h3 h4 h5 h6 h7 h8 h9
   go_enter Tryz.func52, Tryz.ntmps52
   go_wp2_with (go_at_call 84; refine (HP.out _ _ _).mono ?_; rintro e w4 ⟨rfl, rfl⟩)
   go_ret
   exact ⟨bool_iff (by rw [HR.out]; simp), Fr.alloc (Fr.refl w) _⟩
set_option maxHeartbeats 6400000 in
set_option maxRecDepth 100000 in
theorem hasBits_any {w : World} {D : Ds} {v : Array Value} (hD : DescAt w D v) (x bt : Int) :
   Calls Tryz.prog 114 #[.agg v, .int .i64 x, .int .i64 bt] w fun e w' => e = .returned (.bool (atB D.cls x fun a => decide (a.bits = bt))) ∧ Fr w w' := by
 obtain ⟨s0, Fa, Ba, Ga, Ca, Ma, Ra, Ua, Xa, Ka, Na, Pa, fc, bc, gc, cc, mc, rc, uc, xc, kc, nl, nc, pc, rfl, h1, h2, h3, h4, h5, h6, h7, h8, h9⟩ := hD
 cases hp : plB x D.cls.length with
 | false =>
   have HP := Lib.hid (fun A c w => hp ▸ classPlace_any x A D.cls.length c w)
   have HR := Lib.hid (atB_no (P := fun a => decide (a.bits = bt)) hp)
   clear hp h1 h2 h3 h4 h5 h6 h7 h8 h9
   go_enter Tryz.func114, Tryz.ntmps114
   go_wp2_with (go_at_call 76; refine (HP.out _ _ _).mono ?_; rintro e w4 ⟨rfl, rfl⟩)
   go_ret
   exact ⟨ret_bool (by rw [HR.out]), Fr.alloc (Fr.refl w) _⟩
 | true =>
   have HP := Lib.hid (fun A c w => hp ▸ classPlace_any x A D.cls.length c w)
   obtain ⟨k, rfl, hk⟩ := plB_ex hp
   obtain ⟨bk, ok, rfl, n0, A6, k6, c0, w1, c1, w2, c2, w3, c3, rest⟩ := h3.at hk
   rw [Nat.mul_comm 7 k] at c3
   have hki : (k : Int) < (D.cls.length : Int) := by omega
   have HR := Lib.hid (atB_at (P := fun a => decide (a.bits = bt)) hk)
   have hbk := lt_of_cell c3
   have z1 : bk < w.heap.size + 1 := by omega
   generalize D.cls[k].bits = y at *
   clear hp h1 h2 h3 h4 h5 h6 h7 h8 h9
   go_enter Tryz.func114, Tryz.ntmps114
   go_wp2_with (go_at_call 76; refine (HP.out _ _ _).mono ?_; rintro e w4 ⟨rfl, rfl⟩)
   go_ret
   exact ⟨bool_iff (by rw [HR.out]; simp), Fr.alloc (Fr.refl w) _⟩
mutual
def flaB : Tm → Bool
 | .node op wd a b ks => decide ((ks.length : Int) = flaKids op) && flaL ks
def flaL : List Tm → Bool
 | [] => true
 | t :: r => flaB t && flaL r
end
theorem flaL_all : ∀ l : List Tm, flaL l = l.all flaB
 | [] => rfl
 | t :: r => by unfold flaL; rw [flaL_all r]; rfl
def FlaC (n : Nat) : Prop := ∀ (op wd a b : Int) (ks : List Tm) (A : Option Addr) (c : Nat) (w : World), SizeOf.sizeOf (Tm.node op wd a b ks) < n → TmL w A ks →
 Calls Tryz.prog 82 #[.agg #[.int .i64 op, .int .i64 wd, .int .i64 a, .int .i64 b, .slice A ks.length c]] w fun e w' => e = .returned (.bool (flaB (.node op wd a b ks))) ∧ Fr w w'
theorem flaKids_le {op : Int} : flaKids op ≤ 2 := by
 unfold flaKids
 repeat' split
 all_goals omega
def RelF (w : World) (ks : List Tm) (i : Value) (wr : World) : Prop := ∃ j : Nat, j ≤ ks.length ∧ i = .int .i64 (j : Int) ∧ Fr w wr ∧ (ks.take j).all flaB = true
set_option maxHeartbeats 12800000 in
set_option maxRecDepth 100000 in
theorem fla_step (n : Nat) (ih : FlaC n) : FlaC (n + 1) := by
 intro op wd a b ks A c w hn hT
 have IH := Lib.hid ih
 have HT := Lib.hid hT
 have HN := Lib.hid hn
 clear ih hT hn
 by_cases hk : (ks.length : Int) = flaKids op
 · have hk3 := flaKids_le (op := op)
   have HK := Lib.hid (show flaB (.node op wd a b ks) = ks.all flaB by unfold flaB; rw [flaL_all]; simp [hk])
   have hke : ((ks.length : Int) != flaKids op) = false := by simp [hk]
   have hl3 : ks.length ≤ 2 := by omega
   clear hk hk3
   go_enter Tryz.func82, Tryz.ntmps82
   go_wp2
   go_quiet ((go_at_call 115; refine Calls.quiet_of_same (formulaKids_any _ _)))
   go_wp2
   go_loopw [15] (fun i wr => RelF w ks i wr) (fun i _ => ks.length - (intOf i).toNat)
   case atStart => exact ⟨0, by omega, rfl, Fr.drewN (Fr.alloc (Fr.refl w) _) _, by simp⟩
   case round =>
     obtain ⟨j, hj, rfl, hf, hal⟩ := hrel
     have HF := Lib.hid hf
     by_cases hlt : j < ks.length
     · obtain ⟨b', o', rfl, ht⟩ := (HT.out.fr hf).elem j hlt
       rw [Nat.mul_comm 5 j] at ht
       have hm := List.getElem_mem hlt
       have HX := Lib.hid (fun h : flaB ks[j] = false => all_no hlt h)
       have HY := Lib.hid (fun h : flaB ks[j] = true => all_next hlt hal h)
       generalize hx : ks[j] = x at *
       obtain ⟨op2, wd2, a2, b2, ks2⟩ := x
       unfold TmT at ht
       obtain ⟨A2, c2, hc2, h0, h1, h2, h3, h4, hkk⟩ := ht
       have hsz := List.sizeOf_lt_of_mem hm
       have hji : (j : Int) < (ks.length : Int) := by omega
       have HR := Lib.hid (fun w1 (k : Fr wr w1) => IH.out op2 wd2 a2 b2 ks2 A2 c2 w1 (by have := HN.out; simp at this; omega) (hkk.fr k))
       have zb := lt_of_cell h0
       generalize flaB (.node op2 wd2 a2 b2 ks2) = q at *
       clear hf hal hkk hsz hx hm hj
       go_wp2_with (go_at_call 82; refine (HR.out _ (Fr.alloc (Fr.refl wr) _)).mono ?_; rintro e w4 ⟨rfl, hf4⟩; have HF4 := Lib.hid (HF.out.call (Fr.call (Fr.alloc (Fr.refl wr) _) hf4)); clear hf4)
       · go_ret
         rename_i hq
         exact ⟨ret_bool (by rw [HK.out, HX.out (by simpa using hq)]), HF4.out⟩
       · rename_i hq
         go_roundw
         case rel => exact ⟨j + 1, by omega, by go_num, HF4.out, HY.out (by simpa using hq)⟩
         case measure => simp [intOf]; omega
     · obtain rfl : j = ks.length := by omega
       have H1 := Lib.hid (all_end hal)
       clear hf hal hj
       go_wp2
       go_ret
       exact ⟨ret_bool (by rw [HK.out, H1.out]), HF.out⟩
 · have hke : ((ks.length : Int) != flaKids op) = true := by simp [hk]
   have HZ := Lib.hid (show flaB (.node op wd a b ks) = false by unfold flaB; simp [hk])
   clear hk
   go_enter Tryz.func82, Tryz.ntmps82
   go_wp2
   go_quiet ((go_at_call 115; refine Calls.quiet_of_same (formulaKids_any _ _)))
   go_wp2
   go_ret
   exact ⟨ret_bool (by rw [HZ.out]), Fr.drewN (Fr.alloc (Fr.refl w) _) _⟩
theorem fla_all : ∀ n : Nat, FlaC n
 | 0 => fun op wd a b ks A c w h => absurd h (by omega)
 | n + 1 => fla_step n (fla_all n)
theorem formulaRight_any (op wd a b : Int) (ks : List Tm) (A : Option Addr) (c : Nat) (w : World) (hT : TmL w A ks) :
   Calls Tryz.prog 82 #[.agg #[.int .i64 op, .int .i64 wd, .int .i64 a, .int .i64 b, .slice A ks.length c]] w fun e w' => e = .returned (.bool (flaB (.node op wd a b ks))) ∧ Fr w w' :=
 fla_all _ op wd a b ks A c w (Nat.lt_succ_self _) hT
def plcB (D : Ds) (kind bytes cls cls2 hi lo : Int) : Bool :=
 if kind = 3 then atB D.cls cls (fun c => decide (0 ≤ hi) && decide (hi ≤ 63) && decide (0 ≤ lo) && decide (lo ≤ hi) && decide (hi - lo + 1 ≤ c.bits))
 else if hi ≠ -1 then false
 else if kind = 1 then true
 else if kind = 2 then decide (1 ≤ bytes) && decide (bytes ≤ 8)
 else if kind = 4 then atB D.cls cls (fun a => decide (a.bits = 20)) && atB D.cls cls2 (fun a => decide (a.bits = 12))
 else false
set_option maxHeartbeats 12800000 in
set_option maxRecDepth 100000 in
theorem placeRight_insn {w : World} {D : Ds} {v : Array Value} (hD : DescAt w D v) (n0 : ByteArray) (num bytes cls cls2 op wd ta tb sign width align round hi lo : Int) (A : Option Addr) (l c : Nat) :
   Calls Tryz.prog 80 #[.agg v, .agg #[.string n0, .int .i64 num, .int .i64 3, .int .i64 bytes, .int .i64 cls, .int .i64 cls2, .int .i64 op, .int .i64 wd, .int .i64 ta, .int .i64 tb, .slice A l c, .int .i64 sign, .int .i64 width, .int .i64 align, .int .i64 round, .int .i64 hi, .int .i64 lo]] w fun e w' => e = .returned (.bool (plcB D 3 bytes cls cls2 hi lo)) ∧ Fr w w' := by
 obtain ⟨s0, Fa, Ba, Ga, Ca, Ma, Ra, Ua, Xa, Ka, Na, Pa, fc, bc, gc, cc, mc, rc, uc, xc, kc, nl, nc, pc, rfl, h1, h2, h3, h4, h5, h6, h7, h8, h9⟩ := hD
 cases hp : plB cls D.cls.length with
 | false =>
   have HP := Lib.hid (fun A c w => hp ▸ classPlace_any cls A D.cls.length c w)
   have HR := Lib.hid (show plcB D 3 bytes cls cls2 hi lo = false by unfold plcB; rw [if_pos rfl, atB_no hp])
   clear hp h1 h2 h3 h4 h5 h6 h7 h8 h9
   go_enter Tryz.func80, Tryz.ntmps80
   go_wp2
   go_quiet ((go_at_call 76; refine Calls.quiet_of_same (HP.out _ _ _)))
   go_wp2
   go_ret
   exact ⟨ret_bool (by rw [HR.out]), Fr.drewN (Fr.alloc (Fr.alloc (Fr.refl w) _) _) _⟩
 | true =>
   have HP := Lib.hid (fun A c w => hp ▸ classPlace_any cls A D.cls.length c w)
   obtain ⟨k, rfl, hk⟩ := plB_ex hp
   obtain ⟨bk, ok, rfl, m0, A6, k6, c0, w1, c1, w2, c2, w3, c3, rest⟩ := h3.at hk
   rw [Nat.mul_comm 7 k] at c3
   have hki : (k : Int) < (D.cls.length : Int) := by omega
   have HR := Lib.hid (show plcB D 3 bytes (k : Int) cls2 hi lo = (decide (0 ≤ hi) && decide (hi ≤ 63) && decide (0 ≤ lo) && decide (lo ≤ hi) && decide (hi - lo + 1 ≤ D.cls[k].bits)) by unfold plcB; rw [if_pos rfl, atB_at hk])
   have hbk := lt_of_cell c3
   have z1 : bk < w.heap.size + 1 := by omega
   have z2 : bk < w.heap.size + 1 + 1 := by omega
   generalize D.cls[k].bits = y at *
   clear hp h1 h2 h3 h4 h5 h6 h7 h8 h9 rest w1 w2 w3 c0 c1 c2
   have alt : (hi < 0 ∧ decide (0 ≤ hi) = false) ∨ (0 ≤ hi ∧ 63 < hi ∧ decide (0 ≤ hi) = true ∧ decide (hi ≤ 63) = false) ∨ (0 ≤ hi ∧ hi ≤ 63 ∧ lo < 0 ∧ decide (0 ≤ hi) = true ∧ decide (hi ≤ 63) = true ∧ decide (0 ≤ lo) = false) ∨
       (0 ≤ hi ∧ hi ≤ 63 ∧ 0 ≤ lo ∧ hi < lo ∧ decide (0 ≤ hi) = true ∧ decide (hi ≤ 63) = true ∧ decide (0 ≤ lo) = true ∧ decide (lo ≤ hi) = false) ∨ (0 ≤ hi ∧ hi ≤ 63 ∧ 0 ≤ lo ∧ lo ≤ hi ∧ decide (0 ≤ hi) = true ∧ decide (hi ≤ 63) = true ∧ decide (0 ≤ lo) = true ∧ decide (lo ≤ hi) = true) := by
     simp only [decide_eq_false_iff_not, decide_eq_true_eq]; omega
   rcases alt with ⟨u1, q1⟩ | ⟨u1, u2, q1, q2⟩ | ⟨u1, u2, u3, q1, q2, q3⟩ | ⟨u1, u2, u3, u4, q1, q2, q3, q4⟩ | ⟨u1, u2, u3, u4, q1, q2, q3, q4⟩
   all_goals (go_enter Tryz.func80, Tryz.ntmps80
              go_wp2
              go_quiet ((go_at_call 76; refine Calls.quiet_of_same (HP.out _ _ _)))
              go_wp2
              go_ret
              exact ⟨bool_iff (by rw [HR.out]; first | (simp; done) | (simp; omega) | (simp [*]; done) | (simp [*]; omega)), Fr.drewN (Fr.alloc (Fr.alloc (Fr.refl w) _) _) _⟩)
set_option maxHeartbeats 12800000 in
set_option maxRecDepth 100000 in
theorem placeRight_other {w : World} {D : Ds} {v : Array Value} (hD : DescAt w D v) (n0 : ByteArray) (num kind bytes cls cls2 op wd ta tb sign width align round hi lo : Int) (A : Option Addr) (l c : Nat) (hk3 : kind ≠ 3) (hn : kind ≠ 4 ∨ hi ≠ -1) :
   Calls Tryz.prog 80 #[.agg v, .agg #[.string n0, .int .i64 num, .int .i64 kind, .int .i64 bytes, .int .i64 cls, .int .i64 cls2, .int .i64 op, .int .i64 wd, .int .i64 ta, .int .i64 tb, .slice A l c, .int .i64 sign, .int .i64 width, .int .i64 align, .int .i64 round, .int .i64 hi, .int .i64 lo]] w fun e w' => e = .returned (.bool (plcB D kind bytes cls cls2 hi lo)) ∧ Fr w w' := by
 obtain ⟨s0, Fa, Ba, Ga, Ca, Ma, Ra, Ua, Xa, Ka, Na, Pa, fc, bc, gc, cc, mc, rc, uc, xc, kc, nl, nc, pc, rfl, h1, h2, h3, h4, h5, h6, h7, h8, h9⟩ := hD
 clear h1 h2 h3 h4 h5 h6 h7 h8 h9
 have k3 : (kind == 3) = false := by simp [hk3]
 go_enter Tryz.func80, Tryz.ntmps80
 go_wp2_with fail
 all_goals first
   | (go_ret; exact ⟨bool_iff (by unfold plcB; rw [if_neg hk3]; first | (simp_all; done) | (simp_all; omega)), Fr.alloc (Fr.alloc (Fr.refl w) _) _⟩)
   | (exfalso; simp_all; done)
   | (exfalso; simp_all; omega)
set_option maxHeartbeats 12800000 in
set_option maxRecDepth 100000 in
theorem placeRight_pair {w : World} {D : Ds} {v : Array Value} (hD : DescAt w D v) (n0 : ByteArray) (num bytes cls cls2 op wd ta tb sign width align round lo : Int) (A : Option Addr) (l c : Nat) :
   Calls Tryz.prog 80 #[.agg v, .agg #[.string n0, .int .i64 num, .int .i64 4, .int .i64 bytes, .int .i64 cls, .int .i64 cls2, .int .i64 op, .int .i64 wd, .int .i64 ta, .int .i64 tb, .slice A l c, .int .i64 sign, .int .i64 width, .int .i64 align, .int .i64 round, .int .i64 (-1), .int .i64 lo]] w fun e w' => e = .returned (.bool (plcB D 4 bytes cls cls2 (-1) lo)) ∧ Fr w w' := by
 have HD := Lib.hid hD
 obtain ⟨s0, Fa, Ba, Ga, Ca, Ma, Ra, Ua, Xa, Ka, Na, Pa, fc, bc, gc, cc, mc, rc, uc, xc, kc, nl, nc, pc, rfl, h1, h2, h3, h4, h5, h6, h7, h8, h9⟩ := hD
 have HB := Lib.hid (show BlkAt ((w.alloc (.cells #[.string s0, .int .i64 D.order, .slice Fa D.files.length fc, .slice Ba D.als.length bc, .slice Ga D.nflags gc, .slice Ca D.cls.length cc, .slice Ma D.fms.length mc, .slice Ra D.rels.length rc, .slice Ua D.uses.length uc, .slice Xa D.rxs.length xc, .slice Ka D.mcs.length kc, .slice Na nl nc, .slice Pa D.regs.length pc] 33)).alloc (.cells #[.string n0, .int .i64 num, .int .i64 4, .int .i64 bytes, .int .i64 cls, .int .i64 cls2, .int .i64 op, .int .i64 wd, .int .i64 ta, .int .i64 tb, .slice A l c, .int .i64 sign, .int .i64 width, .int .i64 align, .int .i64 round, .int .i64 (-1), .int .i64 lo] 126)) w.heap.size [.string s0, .int .i64 D.order, .slice Fa D.files.length fc, .slice Ba D.als.length bc, .slice Ga D.nflags gc, .slice Ca D.cls.length cc, .slice Ma D.fms.length mc, .slice Ra D.rels.length rc, .slice Ua D.uses.length uc, .slice Xa D.rxs.length xc, .slice Ka D.mcs.length kc, .slice Na nl nc, .slice Pa D.regs.length pc] from BlkAt.fr (by have := BlkAt.alloc (w := w) (t := 33) (cs := #[.string s0, .int .i64 D.order, .slice Fa D.files.length fc, .slice Ba D.als.length bc, .slice Ga D.nflags gc, .slice Ca D.cls.length cc, .slice Ma D.fms.length mc, .slice Ra D.rels.length rc, .slice Ua D.uses.length uc, .slice Xa D.rxs.length xc, .slice Ka D.mcs.length kc, .slice Na nl nc, .slice Pa D.regs.length pc]); simpa using this) (Fr.alloc (Fr.refl _) _))
 have HC := Lib.hid (show BlkAt ((w.alloc (.cells #[.string s0, .int .i64 D.order, .slice Fa D.files.length fc, .slice Ba D.als.length bc, .slice Ga D.nflags gc, .slice Ca D.cls.length cc, .slice Ma D.fms.length mc, .slice Ra D.rels.length rc, .slice Ua D.uses.length uc, .slice Xa D.rxs.length xc, .slice Ka D.mcs.length kc, .slice Na nl nc, .slice Pa D.regs.length pc] 33)).alloc (.cells #[.string n0, .int .i64 num, .int .i64 4, .int .i64 bytes, .int .i64 cls, .int .i64 cls2, .int .i64 op, .int .i64 wd, .int .i64 ta, .int .i64 tb, .slice A l c, .int .i64 sign, .int .i64 width, .int .i64 align, .int .i64 round, .int .i64 (-1), .int .i64 lo] 126)) (w.heap.size + 1) [.string n0, .int .i64 num, .int .i64 4, .int .i64 bytes, .int .i64 cls, .int .i64 cls2, .int .i64 op, .int .i64 wd, .int .i64 ta, .int .i64 tb, .slice A l c, .int .i64 sign, .int .i64 width, .int .i64 align, .int .i64 round, .int .i64 (-1), .int .i64 lo] from (by have := BlkAt.alloc (w := (w.alloc (.cells #[.string s0, .int .i64 D.order, .slice Fa D.files.length fc, .slice Ba D.als.length bc, .slice Ga D.nflags gc, .slice Ca D.cls.length cc, .slice Ma D.fms.length mc, .slice Ra D.rels.length rc, .slice Ua D.uses.length uc, .slice Xa D.rxs.length xc, .slice Ka D.mcs.length kc, .slice Na nl nc, .slice Pa D.regs.length pc] 33))) (t := 126) (cs := #[.string n0, .int .i64 num, .int .i64 4, .int .i64 bytes, .int .i64 cls, .int .i64 cls2, .int .i64 op, .int .i64 wd, .int .i64 ta, .int .i64 tb, .slice A l c, .int .i64 sign, .int .i64 width, .int .i64 align, .int .i64 round, .int .i64 (-1), .int .i64 lo]); simpa using this))
 have HF0 := Lib.hid (show Fr w ((w.alloc (.cells #[.string s0, .int .i64 D.order, .slice Fa D.files.length fc, .slice Ba D.als.length bc, .slice Ga D.nflags gc, .slice Ca D.cls.length cc, .slice Ma D.fms.length mc, .slice Ra D.rels.length rc, .slice Ua D.uses.length uc, .slice Xa D.rxs.length xc, .slice Ka D.mcs.length kc, .slice Na nl nc, .slice Pa D.regs.length pc] 33)).alloc (.cells #[.string n0, .int .i64 num, .int .i64 4, .int .i64 bytes, .int .i64 cls, .int .i64 cls2, .int .i64 op, .int .i64 wd, .int .i64 ta, .int .i64 tb, .slice A l c, .int .i64 sign, .int .i64 width, .int .i64 align, .int .i64 round, .int .i64 (-1), .int .i64 lo] 126)) from Fr.alloc (Fr.alloc (Fr.refl w) _) _)
 have HR := Lib.hid (show plcB D 4 bytes cls cls2 (-1) lo = (atB D.cls cls (fun a => decide (a.bits = 20)) && atB D.cls cls2 (fun a => decide (a.bits = 12))) by unfold plcB; simp)
 have HA := Lib.hid (fun w1 (k : Fr w w1) => hasBits_any (HD.out.fr k) cls 20)
 have HB2 := Lib.hid (fun w1 (k : Fr w w1) => hasBits_any (HD.out.fr k) cls2 12)
 generalize atB D.cls cls (fun a => decide (a.bits = 20)) = qa at *
 generalize atB D.cls cls2 (fun a => decide (a.bits = 12)) = qb at *
 clear h1 h2 h3 h4 h5 h6 h7 h8 h9 HD
 cases qa with
 | false =>
   go_enter Tryz.func80, Tryz.ntmps80
   go_wp2_with fail
   refine (HA.out _ HF0.out).mono ?_
   rintro e w4 ⟨rfl, hf4⟩
   have HF4 := Lib.hid (HF0.out.call hf4)
   clear hf4
   go_wp2
   go_ret
   exact ⟨ret_bool (by rw [HR.out]; rfl), HF4.out⟩
 | true =>
   go_enter Tryz.func80, Tryz.ntmps80
   go_wp2_with fail
   refine (HA.out _ HF0.out).mono ?_
   rintro e w4 ⟨rfl, hf4⟩
   have HF4 := Lib.hid hf4
   clear hf4
   have a0 := HB.out.fr HF4.out 0 _ rfl; have a1 := HB.out.fr HF4.out 1 _ rfl; have a2 := HB.out.fr HF4.out 2 _ rfl; have a3 := HB.out.fr HF4.out 3 _ rfl; have a4 := HB.out.fr HF4.out 4 _ rfl; have a5 := HB.out.fr HF4.out 5 _ rfl; have a6 := HB.out.fr HF4.out 6 _ rfl; have a7 := HB.out.fr HF4.out 7 _ rfl; have a8 := HB.out.fr HF4.out 8 _ rfl; have a9 := HB.out.fr HF4.out 9 _ rfl; have a10 := HB.out.fr HF4.out 10 _ rfl; have a11 := HB.out.fr HF4.out 11 _ rfl; have a12 := HB.out.fr HF4.out 12 _ rfl; have b0 := HC.out.fr HF4.out 0 _ rfl; have b1 := HC.out.fr HF4.out 1 _ rfl; have b2 := HC.out.fr HF4.out 2 _ rfl; have b3 := HC.out.fr HF4.out 3 _ rfl; have b4 := HC.out.fr HF4.out 4 _ rfl; have b5 := HC.out.fr HF4.out 5 _ rfl; have b6 := HC.out.fr HF4.out 6 _ rfl; have b7 := HC.out.fr HF4.out 7 _ rfl; have b8 := HC.out.fr HF4.out 8 _ rfl; have b9 := HC.out.fr HF4.out 9 _ rfl; have b10 := HC.out.fr HF4.out 10 _ rfl; have b11 := HC.out.fr HF4.out 11 _ rfl; have b12 := HC.out.fr HF4.out 12 _ rfl; have b13 := HC.out.fr HF4.out 13 _ rfl; have b14 := HC.out.fr HF4.out 14 _ rfl; have b15 := HC.out.fr HF4.out 15 _ rfl; have b16 := HC.out.fr HF4.out 16 _ rfl
   go_wp2_with fail
   refine (HB2.out _ (HF0.out.call HF4.out)).mono ?_
   rintro e w5 ⟨rfl, hf5⟩
   have HF5 := Lib.hid ((HF0.out.call HF4.out).call hf5)
   clear hf5
   go_wp2
   go_ret
   exact ⟨ret_bool (by rw [HR.out]; simp), HF5.out⟩
theorem placeRight_any {w : World} {D : Ds} {v : Array Value} (hD : DescAt w D v) (n0 : ByteArray) (num kind bytes cls cls2 op wd ta tb sign width align round hi lo : Int) (A : Option Addr) (l c : Nat) :
   Calls Tryz.prog 80 #[.agg v, .agg #[.string n0, .int .i64 num, .int .i64 kind, .int .i64 bytes, .int .i64 cls, .int .i64 cls2, .int .i64 op, .int .i64 wd, .int .i64 ta, .int .i64 tb, .slice A l c, .int .i64 sign, .int .i64 width, .int .i64 align, .int .i64 round, .int .i64 hi, .int .i64 lo]] w fun e w' => e = .returned (.bool (plcB D kind bytes cls cls2 hi lo)) ∧ Fr w w' := by
 by_cases h3 : kind = 3
 · subst h3; exact placeRight_insn hD n0 num bytes cls cls2 op wd ta tb sign width align round hi lo A l c
 · by_cases h4 : kind = 4 ∧ hi = -1
   · obtain ⟨rfl, rfl⟩ := h4; exact placeRight_pair hD n0 num bytes cls cls2 op wd ta tb sign width align round lo A l c
   · exact placeRight_other hD n0 num kind bytes cls cls2 op wd ta tb sign width align round hi lo A l c h3 (by by_cases e : kind = 4; exact .inr (fun e2 => h4 ⟨e, e2⟩); exact .inl e)
def relB (D : Ds) (x : Rl) : Bool := plcB D x.kind x.bytes x.cls x.cls2 x.hi x.lo && (chkB x.sign x.width x.align x.round && (decide (x.kind = 1) || flaB x.fla))
end Go.Proofs.YtdipnhghdajplaaGreatDoor
