/- A form's effects, of the program: an effect of one kind. -/
import Derived.Test.YtdipnhghdajplaaGreatDoorP20
import Derived.Deep.RegionHeld3
import Derived.Test.YtdipnhghdajplaaGreatDoorP21
namespace Go.Proofs.YtdipnhghdajplaaGreatDoor
open Go.RowKit
set_option linter.unusedSimpArgs false
set_option linter.unusedVariables false
theorem row1c {w : World} (x : Int) (t : TypeId) (g : Nat) (hg : g = w.heap.size) : RowOf IntC 1 (w.alloc (.cells #[.int .i64 x] t)) (some ⟨g, 0, none⟩) [x] := fun _ => ⟨g, 0, rfl, fun i hi => by
 subst hg
 obtain rfl : i = 0 := by simpa using hi
 unfold IntC; simp⟩
theorem three_keepc {W wx : World} {g s : Nat} {v2 v4 u : Value} (h2 : W.cell? ⟨g, 2, none⟩ = some v2) (h4 : W.cell? ⟨g, 4, none⟩ = some v4) (k4 : W.cell? ⟨s, 4, none⟩ = some u) (h : Fr W wx) : Fr W wx ∧ wx.cell? ⟨g, 2, none⟩ = some v2 ∧ wx.cell? ⟨g, 4, none⟩ = some v4 ∧ wx.cell? ⟨s, 4, none⟩ = some u := ⟨h, h.get h2, h.get h4, h.get k4⟩
section
variable {E : Env} {Fa Ca Aa Ga Ma : Option Addr} {sb : Nat} {n0 n1 n3 n7 n8 n9 n10 n11 n12 : Value} {fc gc cc ml mc ac : Nat}
set_option maxHeartbeats 6400000 in
set_option maxRecDepth 100000 in
theorem eff32 {w : World} (S : BlkAt w sb [n0, n1, .slice Fa E.files.length fc, n3, .slice Ga E.nflags gc, .slice Ca E.classes.length cc, .slice Ma ml mc, n7, n8, n9, n10, n11, n12, .slice Aa E.args.length ac]) (hE : EnvAt E w Fa Ca Aa) (wd a b : Int) (ks : List Tm) (A : Option Addr) (c : Nat) (hT : TmL w A ks) :
   Calls Tryz.prog 79 #[.pointer (some ⟨sb, 0, none⟩), .agg #[.int .i64 32, .int .i64 wd, .int .i64 a, .int .i64 b, .slice A ks.length c]] w fun e w' => e = .returned (.bool (plB a E.nflags && havB E ks [1])) ∧ Fr w w' := by
 have HS := Lib.hid S
 have HE := Lib.hid hE
 have HT := Lib.hid hT
 have HB := Lib.hid (BlkAt.alloc (w := w) (t := 124) (cs := #[.int .i64 32, .int .i64 wd, .int .i64 a, .int .i64 b, .slice A ks.length c]))
 have HF0 := Lib.hid (Fr.alloc (Fr.refl w) (.cells #[.int .i64 32, .int .i64 wd, .int .i64 a, .int .i64 b, .slice A ks.length c] 124))
 have HV := Lib.hid (fun (w1 : World) (k : Fr w w1) (ws : List Int) (W : Option Addr) (c2 : Nat) (hW : RowOf IntC 1 w1 W ws) (hl : ws.length ≤ 2) => have_any (S.fr k) (hE.fr k) ks A c (TmL.fr k hT) ws W c2 hW hl)
 have s4 := S 4 _ rfl
 have zs := lt_of_cell s4
 clear S hE hT
 cases hp : plB a E.nflags with
 | false =>
   have HP := Lib.hid (fun A c w => hp ▸ flagPlace_any a A E.nflags c w)
   rw [Bool.false_and]
   clear hp
   go_enter Tryz.func79, Tryz.ntmps79
   go_wp2
   go_quiet ((go_at_call 112; refine Calls.quiet_of_same (HP.out _ _ _)))
   go_wp2
   go_ret
   exact ⟨rfl, Fr.drewN HF0.out _⟩
 | true =>
   have HP := Lib.hid (fun A c w => hp ▸ flagPlace_any a A E.nflags c w)
   rw [Bool.true_and]
   clear hp
   go_enter Tryz.func79, Tryz.ntmps79
   go_wp2_with fail
   have s4' := HF0.out.get s4
   have x2 := HB.out 2 _ rfl
   have x4 := HB.out 4 _ rfl
   have HX2 := Lib.hid x2
   have HX4 := Lib.hid x4
   have HS4 := Lib.hid s4'
   generalize World.alloc w _ = W at *
   have zx := lt_of_cell x2
   have zy := lt_of_cell s4'
   clear s4 zs
   go_region_held3 (fun wx => Fr W wx ∧ wx.cell? ⟨w.heap.size, 2, none⟩ = some (.int .i64 a) ∧ wx.cell? ⟨w.heap.size, 4, none⟩ = some (.slice A ks.length c) ∧ wx.cell? ⟨sb, 4, none⟩ = some (.slice Ga E.nflags gc)) ((refine three_keepc HX2.out HX4.out HS4.out ?_; first | exact Fr.refl _ | exact (Fr.refl _).drew | exact ((Fr.refl _).alloc _).drew | exact HF5.out)) (first
     | (go_at_call 112; refine (HP.out _ _ _).mono ?_; rintro e w4 ⟨rfl, rfl⟩)
     | (go_at_call 111; refine (HV.out _ ((Fr.alloc HF0.out _).drew) _ _ _ ((row1c _ _ _ rfl).fr fun _ _ _ h => h.fr (Fr.drew (Fr.refl _))) (by decide)).mono ?_; rintro e w5 ⟨rfl, hf5⟩; have HF5 := Lib.hid ((((Fr.refl W).alloc _).drew).call hf5); clear hf5))
   go_wp2
   go_ret
   exact ⟨rfl, HF0.out.call HF5.out⟩
end
end Go.Proofs.YtdipnhghdajplaaGreatDoor
namespace Go.Proofs.YtdipnhghdajplaaGreatDoor
open Go.RowKit
set_option linter.unusedSimpArgs false
set_option linter.unusedVariables false
section
variable {E : Env} {Fa Ca Aa Ga Ma : Option Addr} {sb : Nat} {n0 n1 n3 n7 n8 n9 n10 n11 n12 : Value} {fc gc cc ml mc ac : Nat}
def EffC (n : Nat) : Prop := ∀ (op wd a b : Int) (ks : List Tm) (A : Option Addr) (c : Nat) (w : World) (E : Env) (Fa Ca Aa Ga Ma : Option Addr) (sb : Nat) (n0 n1 n3 n7 n8 n9 n10 n11 n12 : Value) (fc gc cc ml mc ac : Nat),
 SizeOf.sizeOf (Tm.node op wd a b ks) < n → BlkAt w sb [n0, n1, .slice Fa E.files.length fc, n3, .slice Ga E.nflags gc, .slice Ca E.classes.length cc, .slice Ma ml mc, n7, n8, n9, n10, n11, n12, .slice Aa E.args.length ac] → EnvAt E w Fa Ca Aa → ks.length ≤ c → c ≤ maxLen → TmL w A ks →
 Calls Tryz.prog 79 #[.pointer (some ⟨sb, 0, none⟩), .agg #[.int .i64 op, .int .i64 wd, .int .i64 a, .int .i64 b, .slice A ks.length c]] w fun e w' => e = .returned (.bool (effB E (.node op wd a b ks))) ∧ Fr w w'
def RelG {α : Type} (w : World) (l : List α) (P : α → Bool) (i : Value) (wr : World) : Prop := ∃ j : Nat, j ≤ l.length ∧ i = .int .i64 (j : Int) ∧ Fr w wr ∧ (l.take j).all P = true
set_option maxHeartbeats 6400000 in
set_option maxRecDepth 100000 in
theorem allEff_of {n : Nat} (ih : EffC n) {w : World} (S : BlkAt w sb [n0, n1, .slice Fa E.files.length fc, n3, .slice Ga E.nflags gc, .slice Ca E.classes.length cc, .slice Ma ml mc, n7, n8, n9, n10, n11, n12, .slice Aa E.args.length ac]) (hE : EnvAt E w Fa Ca Aa) (l : List Tm) (A : Option Addr) (c : Nat) (hl : ∀ t ∈ l, SizeOf.sizeOf t < n) (hT : TmL w A l) (hm : l.length ≤ maxLen) :
   Calls Tryz.prog 48 #[.pointer (some ⟨sb, 0, none⟩), .slice A l.length c] w fun e w' => e = .returned (.bool (effL E l)) ∧ Fr w w' := by
 have hm : l.length ≤ 9223372036854775807 := Nat.le_trans hm (by decide)
 rw [effL_all]
 have HS := Lib.hid S
 have HE := Lib.hid hE
 have HT := Lib.hid hT
 have IH := Lib.hid ih
 have HL := Lib.hid hl
 clear S hE hT ih hl
 go_enter Tryz.func48, Tryz.ntmps48
 go_wp2
 go_loopw [9] (fun i wr => RelG w l (effB E) i wr) (fun i _ => l.length - (intOf i).toNat)
 case atStart => exact ⟨0, by omega, rfl, Fr.refl w, by simp⟩
 case round =>
   obtain ⟨j, hj, rfl, hf, hal⟩ := hrel
   have HF := Lib.hid hf
   by_cases hlt : j < l.length
   · obtain ⟨b', o', rfl, ht⟩ := (TmL.fr hf HT.out).elem j hlt
     have HX := Lib.hid (fun h : effB E l[j] = false => all_no hlt h)
     have HY := Lib.hid (fun h : effB E l[j] = true => all_next hlt hal h)
     have hsz := HL.out _ (List.getElem_mem hlt)
     rw [Nat.mul_comm 5 j] at ht
     generalize l[j] = x at *
     obtain ⟨op2, wd2, a2, b2, ks2⟩ := x
     unfold TmT at ht
     obtain ⟨A2, c2, hc2, h0, h1, h2, h3, h4, hkk⟩ := ht
     have hji : (j : Int) < (l.length : Int) := by omega
     have zb := lt_of_cell h0
     have hc := hc2.1
     have HC := Lib.hid (fun (w1 : World) (k : Fr wr w1) => IH.out op2 wd2 a2 b2 ks2 A2 c2 w1 E Fa Ca Aa Ga Ma sb n0 n1 n3 n7 n8 n9 n10 n11 n12 fc gc cc ml mc ac hsz (HS.out.fr (HF.out.call k)) (HE.out.fr (HF.out.call k)) hc2.1 hc2.2 (TmL.fr k hkk))
     generalize effB E (.node op2 wd2 a2 b2 ks2) = q at *
     clear hf hal hj hkk hsz hc2
     cases q with
     | true =>
       have H1 := Lib.hid (HY.out rfl)
       clear HX HY
       go_wp2_with (go_at_call 79; refine (HC.out _ (Fr.alloc (Fr.refl wr) _)).mono ?_; rintro e w4 ⟨rfl, hf4⟩; have HF4 := Lib.hid ((Fr.alloc HF.out _).call hf4); clear hf4)
       go_roundw
       case rel => exact ⟨j + 1, by omega, by go_num, HF4.out, H1.out⟩
       case measure => simp [intOf]; omega
     | false =>
       have H1 := Lib.hid (HX.out rfl)
       clear HX HY
       go_wp2_with (go_at_call 79; refine (HC.out _ (Fr.alloc (Fr.refl wr) _)).mono ?_; rintro e w4 ⟨rfl, hf4⟩; have HF4 := Lib.hid ((Fr.alloc HF.out _).call hf4); clear hf4)
       go_ret
       exact ⟨ret_bool (by rw [H1.out]), HF4.out⟩
   · obtain rfl : j = l.length := by omega
     have H1 := Lib.hid (all_end hal)
     clear hf hal hj
     go_wp2
     go_ret
     exact ⟨ret_bool (by rw [H1.out]), HF.out⟩
set_option maxHeartbeats 6400000 in
set_option maxRecDepth 100000 in
theorem eff37_nil {w : World} (wd a b : Int) (A : Option Addr) (c : Nat) :
   Calls Tryz.prog 79 #[.pointer (some ⟨sb, 0, none⟩), .agg #[.int .i64 37, .int .i64 wd, .int .i64 a, .int .i64 b, .slice A 0 c]] w fun e w' => e = .returned (.bool false) ∧ Fr w w' := by
 go_enter Tryz.func79, Tryz.ntmps79
 go_wp2
 go_ret
 exact ⟨rfl, Fr.alloc (Fr.refl w) _⟩
set_option maxHeartbeats 6400000 in
set_option maxRecDepth 100000 in
theorem eff37_one {n : Nat} (ih : EffC n) {w : World} (S : BlkAt w sb [n0, n1, .slice Fa E.files.length fc, n3, .slice Ga E.nflags gc, .slice Ca E.classes.length cc, .slice Ma ml mc, n7, n8, n9, n10, n11, n12, .slice Aa E.args.length ac]) (hE : EnvAt E w Fa Ca Aa) (wd a b : Int) (k : Tm) (bk ok c : Nat) (hk : TmL w (some ⟨bk, ok, none⟩) [k]) :
   Calls Tryz.prog 79 #[.pointer (some ⟨sb, 0, none⟩), .agg #[.int .i64 37, .int .i64 wd, .int .i64 a, .int .i64 b, .slice (some ⟨bk, ok, none⟩) 1 1]] w fun e w' => e = .returned (.bool (effK E [k])) ∧ Fr w w' := by
 have ek : effK E [k] = havB E [k] [1] := by unfold effK effL; simp
 rw [ek]
 clear ek
 have HB := Lib.hid (BlkAt.alloc (w := w) (t := 124) (cs := #[.int .i64 37, .int .i64 wd, .int .i64 a, .int .i64 b, .slice (some ⟨bk, ok, none⟩) 1 1]))
 have HF0 := Lib.hid (Fr.alloc (Fr.refl w) (.cells #[.int .i64 37, .int .i64 wd, .int .i64 a, .int .i64 b, .slice (some ⟨bk, ok, none⟩) 1 1] 124))
 have HV := Lib.hid (fun (w1 : World) (kf : Fr w w1) (W : Option Addr) (c2 : Nat) (hW : RowOf IntC 1 w1 W [1]) => have_any (S.fr kf) (hE.fr kf) [k] (some ⟨bk, ok, none⟩) 1 (TmL.fr kf hk) [1] W c2 hW (by decide))
 have HAL := Lib.hid (fun (w1 : World) (kf : Fr w w1) (A : Option Addr) (c : Nat) => allEff_of ih (S.fr kf) (hE.fr kf) [] A c (fun t ht => absurd ht (by simp)) (by unfold TmL; trivial) (by simp))
 clear S hE ih hk
 cases hv : havB E [k] [1] with
 | false =>
   rw [hv] at HV
   clear hv
   go_enter Tryz.func79, Tryz.ntmps79
   go_wp2_with fail
   refine (HV.out _ (Fr.alloc HF0.out _) _ _ (row1 _ _ _ (by simp))).mono ?_
   rintro e w5 ⟨rfl, hf5⟩
   have HF5 := Lib.hid (Fr.call (Fr.alloc HF0.out _) hf5)
   clear hf5
   go_wp2
   go_ret
   exact ⟨rfl, HF5.out⟩
 | true =>
   rw [hv] at HV
   clear hv
   go_enter Tryz.func79, Tryz.ntmps79
   go_wp2_with fail
   refine (HV.out _ (Fr.alloc HF0.out _) _ _ (row1 _ _ _ (by simp))).mono ?_
   rintro e w5 ⟨rfl, hf5⟩
   have HF5 := Lib.hid (Fr.call (Fr.alloc HF0.out _) hf5)
   have b4 := HB.out.fr (Fr.call (Fr.alloc (Fr.refl _) _) hf5) 4 _ rfl
   clear hf5
   go_wp2_with fail
   refine (HAL.out _ HF5.out _ _).mono ?_
   rintro e w6 ⟨rfl, hf6⟩
   have HF6 := Lib.hid (HF5.out.call hf6)
   clear hf6
   rw [show effL E [] = true by unfold effL; rfl]
   go_wp2
   go_ret
   exact ⟨rfl, HF6.out⟩
set_option maxHeartbeats 6400000 in
set_option maxRecDepth 100000 in
theorem eff37_more {n : Nat} (ih : EffC n) {w : World} (S : BlkAt w sb [n0, n1, .slice Fa E.files.length fc, n3, .slice Ga E.nflags gc, .slice Ca E.classes.length cc, .slice Ma ml mc, n7, n8, n9, n10, n11, n12, .slice Aa E.args.length ac]) (hE : EnvAt E w Fa Ca Aa) (wd a b : Int) (k : Tm) (r : List Tm) (bk ok c : Nat) (h1 : c ≠ 1) (hc : r.length + 1 ≤ c) (hcm : c ≤ maxLen) (hl : ∀ t ∈ r, SizeOf.sizeOf t < n) (hk : TmL w (some ⟨bk, ok, none⟩) [k]) (hT : TmL w (some ⟨bk, ok + 5, none⟩) r) :
   Calls Tryz.prog 79 #[.pointer (some ⟨sb, 0, none⟩), .agg #[.int .i64 37, .int .i64 wd, .int .i64 a, .int .i64 b, .slice (some ⟨bk, ok, none⟩) (r.length + 1) c]] w fun e w' => e = .returned (.bool (effK E (k :: r))) ∧ Fr w w' := by
 have ek : effK E (k :: r) = (havB E [k] [1] && effL E r) := by unfold effK; rfl
 rw [ek]
 clear ek
 have HB := Lib.hid (BlkAt.alloc (w := w) (t := 124) (cs := #[.int .i64 37, .int .i64 wd, .int .i64 a, .int .i64 b, .slice (some ⟨bk, ok, none⟩) (r.length + 1) c]))
 have HF0 := Lib.hid (Fr.alloc (Fr.refl w) (.cells #[.int .i64 37, .int .i64 wd, .int .i64 a, .int .i64 b, .slice (some ⟨bk, ok, none⟩) (r.length + 1) c] 124))
 have HV := Lib.hid (fun (w1 : World) (kf : Fr w w1) (W : Option Addr) (c2 : Nat) (hW : RowOf IntC 1 w1 W [1]) => have_any (S.fr kf) (hE.fr kf) [k] (some ⟨bk, ok, none⟩) c (TmL.fr kf hk) [1] W c2 hW (by decide))
 have HAL := Lib.hid (fun (w1 : World) (kf : Fr w w1) => allEff_of ih (S.fr kf) (hE.fr kf) r (some ⟨bk, ok + 5, none⟩) (c - 1) hl (TmL.fr kf hT) (by unfold maxLen at *; omega))
 have hc1 : (c == 1) = false := by simp [h1]
 generalize hn1 : r.length + 1 = n1 at *
 have hd : decide ((0 : Int) < (n1 : Int)) = true := by simp; omega
 have hr1 : r.length = n1 - 1 := by omega
 have hr2 : (n1 : Int) - 1 = ((n1 - 1 : Nat) : Int) := by omega
 have hle : n1 ≤ c := hc
 have h1n : 1 ≤ n1 := by omega
 rw [hr1] at HAL
 clear S hE ih hk hT hl hn1
 cases hv : havB E [k] [1] with
 | false =>
   rw [Bool.false_and]
   rw [hv] at HV
   clear hv
   go_enter Tryz.func79, Tryz.ntmps79
   go_wp2_with fail
   refine (HV.out _ (Fr.alloc HF0.out _) _ _ (row1 _ _ _ (by simp))).mono ?_
   rintro e w5 ⟨rfl, hf5⟩
   have HF5 := Lib.hid (Fr.call (Fr.alloc HF0.out _) hf5)
   clear hf5
   go_wp2
   go_ret
   exact ⟨rfl, HF5.out⟩
 | true =>
   rw [Bool.true_and]
   rw [hv] at HV
   clear hv
   go_enter Tryz.func79, Tryz.ntmps79
   go_wp2_with fail
   refine (HV.out _ (Fr.alloc HF0.out _) _ _ (row1 _ _ _ (by simp))).mono ?_
   rintro e w5 ⟨rfl, hf5⟩
   have HF5 := Lib.hid (Fr.call (Fr.alloc HF0.out _) hf5)
   have b4 := HB.out.fr (Fr.call (Fr.alloc (Fr.refl _) _) hf5) 4 _ rfl
   clear hf5
   go_wp2_with fail
   refine (HAL.out _ HF5.out).mono ?_
   rintro e w6 ⟨rfl, hf6⟩
   have HF6 := Lib.hid (HF5.out.call hf6)
   clear hf6
   go_wp2
   go_ret
   exact ⟨rfl, HF6.out⟩
theorem eff_other {w : World} (op wd a b : Int) (A : Option Addr) (l c : Nat) (h31 : op ≠ 31) (h32 : op ≠ 32) (h33 : op ≠ 33) (h34 : op ≠ 34) (h35 : op ≠ 35) (h36 : op ≠ 36) (h37 : op ≠ 37) :
   Calls Tryz.prog 79 #[.pointer (some ⟨sb, 0, none⟩), .agg #[.int .i64 op, .int .i64 wd, .int .i64 a, .int .i64 b, .slice A l c]] w fun e w' => e = .returned (.bool false) ∧ Fr w w' := by
 go_enter Tryz.func79, Tryz.ntmps79
 go_wp2
 go_ret
 exact ⟨rfl, Fr.alloc (Fr.refl w) _⟩
theorem effect_step (n : Nat) (ih : EffC n) : EffC (n + 1) := by
 intro op wd a b ks A c w E Fa Ca Aa Ga Ma sb n0 n1 n3 n7 n8 n9 n10 n11 n12 fc gc cc ml mc ac hn S hE hc hcm hT
 by_cases h31 : op = 31
 · subst h31
   rw [show effB E (.node 31 wd a b ks) = (decide (0 < regW E a b) && havB E ks [regW E a b]) by unfold effB; rfl]
   exact eff31 S hE wd a b ks A c hT
 by_cases h32 : op = 32
 · subst h32
   rw [show effB E (.node 32 wd a b ks) = (plB a E.nflags && havB E ks [1]) by unfold effB; rfl]
   exact eff32 S hE wd a b ks A c hT
 by_cases h33 : op = 33
 · subst h33
   rw [show effB E (.node 33 wd a b ks) = (memB wd && havB E ks [64, wd]) by unfold effB; rfl]
   exact eff33 S hE wd a b ks A c hT
 by_cases h34 : op = 34
 · subst h34
   rw [show effB E (.node 34 wd a b ks) = havB E ks [64] by unfold effB; rfl]
   exact eff34 S hE wd a b ks A c hT
 by_cases h35 : op = 35
 · subst h35
   rw [show effB E (.node 35 wd a b ks) = (decide (1 ≤ a) && decide (a ≤ 15) && havB E ks []) by unfold effB; rfl]
   exact eff35 S hE wd a b ks A c hT
 by_cases h36 : op = 36
 · subst h36
   rw [show effB E (.node 36 wd a b ks) = havB E ks [] by unfold effB; rfl]
   exact eff36 S hE wd a b ks A c hT
 by_cases h37 : op = 37
 · subst h37
   rw [show effB E (.node 37 wd a b ks) = effK E ks by unfold effB; rfl]
   rcases ks with _ | ⟨k, r⟩
   · rw [show effK E [] = false by unfold effK; rfl]
     exact eff37_nil wd a b A c
   · have hT0 := hT
     unfold TmL at hT0
     obtain ⟨bk, ok, rfl, hk0, hr⟩ := hT0
     have hk : TmL w (some ⟨bk, ok, none⟩) [k] := by unfold TmL; exact ⟨bk, ok, rfl, hk0, by unfold TmL; trivial⟩
     by_cases h1 : c = 1
     · subst h1
       obtain rfl : r = [] := List.eq_nil_of_length_eq_zero (by rw [List.length_cons] at hc; omega)
       exact eff37_one ih S hE wd a b k bk ok 1 hk
     · exact eff37_more ih S hE wd a b k r bk ok c h1 (by simpa using hc) hcm (fun t ht => by
         have h2 : SizeOf.sizeOf t < SizeOf.sizeOf r := List.sizeOf_lt_of_mem ht
         rw [Tm.node.sizeOf_spec, List.cons.sizeOf_spec] at hn; omega) hk hr
 rw [show effB E (.node op wd a b ks) = false by unfold effB; rw [if_neg h31, if_neg h32, if_neg h33, if_neg h34, if_neg h35, if_neg h36, if_neg h37]]
 exact eff_other op wd a b A ks.length c h31 h32 h33 h34 h35 h36 h37
theorem effect_all : ∀ n : Nat, EffC n
 | 0 => fun op wd a b ks A c w E Fa Ca Aa Ga Ma sb n0 n1 n3 n7 n8 n9 n10 n11 n12 fc gc cc ml mc ac h => absurd h (by omega)
 | n + 1 => effect_step n (effect_all n)
theorem effects_any {w : World} (S : BlkAt w sb [n0, n1, .slice Fa E.files.length fc, n3, .slice Ga E.nflags gc, .slice Ca E.classes.length cc, .slice Ma ml mc, n7, n8, n9, n10, n11, n12, .slice Aa E.args.length ac]) (hE : EnvAt E w Fa Ca Aa) (l : List Tm) (A : Option Addr) (c : Nat) (hT : TmL w A l) (hm : l.length ≤ maxLen) :
   Calls Tryz.prog 48 #[.pointer (some ⟨sb, 0, none⟩), .slice A l.length c] w fun e w' => e = .returned (.bool (effL E l)) ∧ Fr w w' :=
 allEff_of (effect_all (SizeOf.sizeOf l)) S hE l A c (fun t ht => List.sizeOf_lt_of_mem ht) hT hm
end
end Go.Proofs.YtdipnhghdajplaaGreatDoor
