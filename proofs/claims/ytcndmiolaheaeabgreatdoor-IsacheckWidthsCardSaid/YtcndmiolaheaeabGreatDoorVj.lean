/- A term's width, of the program. -/
import Derived.Test.YtcndmiolaheaeabGreatDoorVg
import Derived.Test.YtcndmiolaheaeabGreatDoorVh
import Derived.Test.YtcndmiolaheaeabGreatDoorVi
namespace Go.Proofs.YtcndmiolaheaeabGreatDoor
open Go.RowKit
set_option linter.unusedSimpArgs false
set_option linter.unusedVariables false

def tmv (op w a b : Int) (K : Option Addr) (n c : Nat) : Value := .agg #[.int .i64 op, .int .i64 w, .int .i64 a, .int .i64 b, .slice K n c]
theorem BlkAt.set {w : World} {b k : Nat} {l : List Value} {v : Value} (h : BlkAt w b l) (hk : k < l.length) : BlkAt (w.setCell ⟨b, k, none⟩ v) b (l.set k v) := by
  intro i u hu
  by_cases hi : i = k
  · subst hi
    rw [List.getElem?_set_self hk] at hu
    injection hu with hu; subst hu
    exact World.cell?_setCell_same w _ _ (h i _ (List.getElem?_eq_getElem hk))
  · rw [List.getElem?_set_ne (fun e => hi e.symm)] at hu
    rw [World.cell?_setCell_other (h := (by intro e; injection e with _ e _; exact hi e.symm : (⟨b, k, none⟩ : Addr) ≠ ⟨b, i, none⟩))]
    exact h i u hu
theorem BlkAt.setO {w : World} {b b' k : Nat} {l : List Value} {v : Value} (h : BlkAt w b l) (hb : b' ≠ b) : BlkAt (w.setCell ⟨b', k, none⟩ v) b l := by
  intro i u hu
  rw [World.cell?_setCell_other (h := (by intro e; injection e with e _ _; exact hb e : (⟨b', k, none⟩ : Addr) ≠ ⟨b, i, none⟩))]
  exact h i u hu
/-- The three widths that are kept. -/
def ar (ws : List Int) : List Value := [.int .i64 (ws.getD 0 0), .int .i64 (ws.getD 1 0), .int .i64 (ws.getD 2 0)]
theorem ar_get {ws : List Int} {j : Nat} (hj : j < 3) : (ar ws)[j]? = some (.int .i64 (ws.getD j 0)) := by
  rcases (show j = 0 ∨ j = 1 ∨ j = 2 by omega) with rfl | rfl | rfl <;> rfl
theorem ar_set {ws : List Int} {j : Nat} {v : Int} (hj : j < 3) (hl : ws.length = j) : (ar ws).set j (.int .i64 v) = ar (ws ++ [v]) := by
  rcases (show j = 0 ∨ j = 1 ∨ j = 2 by omega) with rfl | rfl | rfl
  · obtain rfl := List.length_eq_zero_iff.1 hl; rfl
  · match ws, hl with
    | [x], _ => rfl
  · match ws, hl with
    | [x, y], _ => rfl
section
variable {E : Env} {Fa Ca Aa Ga Ma : Option Addr} {sb : Nat} {n0 n1 n3 n7 n8 n9 n10 n11 n12 : Value} {fc gc cc ml mc ac : Nat}
def WidC (n : Nat) : Prop := ∀ (op wd a b : Int) (ks : List Tm) (A : Option Addr) (c : Nat) (w : World) (E : Env) (Fa Ca Aa Ga Ma : Option Addr) (sb : Nat) (n0 n1 n3 n7 n8 n9 n10 n11 n12 : Value) (fc gc cc ml mc ac : Nat),
  SizeOf.sizeOf (Tm.node op wd a b ks) < n → BlkAt w sb [n0, n1, .slice Fa E.files.length fc, n3, .slice Ga E.nflags gc, .slice Ca E.classes.length cc, .slice Ma ml mc, n7, n8, n9, n10, n11, n12, .slice Aa E.args.length ac] → EnvAt E w Fa Ca Aa → TmL w A ks →
  Calls Tryz.prog 23 #[.pointer (some ⟨sb, 0, none⟩), .agg #[.int .i64 op, .int .i64 wd, .int .i64 a, .int .i64 b, .slice A ks.length c]] w fun e w' => e = .returned (.int .i64 (widT E (.node op wd a b ks))) ∧ Fr w w'
def RelWd (E : Env) (ks : List Tm) (w : World) (cs : List Value) (i : Value) (wr : World) : Prop := ∃ j : Nat, ∃ ws, j ≤ ks.length ∧ i = .int .i64 (j : Int) ∧ Fr w wr ∧ BlkAt wr w.heap.size cs ∧ widL E (ks.take j) = some ws ∧
  BlkAt wr (w.heap.size + 1) (ar ws) ∧ (∀ k, wr.frozen? ⟨w.heap.size + 1, k, none⟩ = false)
set_option maxHeartbeats 12800000 in
set_option maxRecDepth 100000 in
theorem width_step (n : Nat) (ih : WidC n) : WidC (n + 1) := by
  intro op wd a b ks A c w E Fa Ca Aa Ga Ma sb n0 n1 n3 n7 n8 n9 n10 n11 n12 fc gc cc ml mc ac hn S hE hT
  have IH := Lib.hid ih
  have HS := Lib.hid S
  have HE := Lib.hid hE
  have HT := Lib.hid hT
  have HN := Lib.hid hn
  have hsl := lt_of_cell (S 5 _ rfl)
  clear ih S hE hT hn
  by_cases hk : (ks.length : Int) = kidsI op
  · have hk3 := kids_le (op := op)
    have HK := Lib.hid hk
    have hke : ((ks.length : Int) != kidsI op) = false := by simp [hk]
    have hl3 : ks.length ≤ 3 := by omega
    clear hk hk3
    go_enter Tryz.func23, Tryz.ntmps23
    go_wp2
    go_quiet ((go_at_call 56; refine Calls.quiet_of_same (kidsOf_any _ _)))
    go_wp2
    go_loopw [19] (fun i wr => RelWd E ks w [.int .i64 op, .int .i64 wd, .int .i64 a, .int .i64 b, .slice A ks.length c] i wr) (fun i _ => ks.length - (intOf i).toNat)
    case atStart =>
      have e1 : Array.size (World.heap (World.drewN (World.alloc w (.cells #[.int .i64 op, .int .i64 wd, .int .i64 a, .int .i64 b, .slice A ks.length c] 42)) nq)) = w.heap.size + 1 := by simp
      refine ⟨0, [], by omega, rfl, Fr.alloc (Fr.drewN (Fr.alloc (Fr.refl w) _) _) _, BlkAt.fr BlkAt.alloc (Fr.alloc (Fr.drewN (Fr.refl _) _) _), by simp [widL], e1 ▸ BlkAt.alloc, fun k => by rw [← e1]; exact World.frozen?_alloc_at _ _ _ _ rfl⟩
    case round =>
      obtain ⟨j, ws, hj, rfl, hf, hB, hws, hA, hz⟩ := hrel
      have HF := Lib.hid hf
      have HWS := Lib.hid hws
      have HB := Lib.hid hB
      have HA := Lib.hid hA
      have HZ := Lib.hid hz
      have zw := lt_of_cell (hB 0 _ rfl)
      have za := lt_of_cell (hA 0 _ rfl)
      by_cases hlt : j < ks.length
      · obtain ⟨b', o', rfl, ht⟩ := (HT.out.fr hf).elem j hlt
        rw [Nat.mul_comm 5 j] at ht
        have hm := List.getElem_mem hlt
        have HTK := Lib.hid (List.take_succ_eq_append_getElem hlt)
        generalize hx : ks[j] = x at *
        obtain ⟨op2, wd2, a2, b2, ks2⟩ := x
        unfold TmT at ht
        obtain ⟨A2, c2, hc2, h0, h1, h2, h3, h4, hkk⟩ := ht
        have hsz := List.sizeOf_lt_of_mem hm
        have hji : (j : Int) < (ks.length : Int) := by omega
        have HR := Lib.hid (fun w1 (k : Fr wr w1) => IH.out op2 wd2 a2 b2 ks2 A2 c2 w1 E Fa Ca Aa Ga Ma sb n0 n1 n3 n7 n8 n9 n10 n11 n12 fc gc cc ml mc ac (by have := HN.out; simp at this; omega) (HS.out.fr (HF.out.call k)) (HE.out.fr (HF.out.call k)) (hkk.fr k))
        generalize hv : widT E (.node op2 wd2 a2 b2 ks2) = v at *
        clear hf hB hws hA hz hkk hsz hx
        by_cases hv0 : v = 0
        · have H0 := Lib.hid (show widT E (.node op wd a b ks) = 0 by unfold widT; rw [if_pos HK.out, widL_zero hm (hv.trans hv0)])
          subst hv0
          clear hm hv
          go_wp2_with (go_at_call 23; refine (HR.out _ (Fr.alloc (Fr.refl wr) _)).mono ?_; rintro e w4 ⟨rfl, hf4⟩; have HF4 := Lib.hid hf4; clear hf4)
          go_ret
          exact ⟨ret_int H0.out.symm, (Fr.alloc HF.out _).call HF4.out⟩
        · have hvn : (v == 0) = false := by simpa using hv0
          have hln : ws.length = j := by rw [widL_len HWS.out, List.length_take]; omega
          have HNX := Lib.hid (show widL E (ks.take (j + 1)) = some (ws ++ [v]) by
            rw [HTK.out]; have := widL_snoc (.node op2 wd2 a2 b2 ks2) HWS.out (by rw [hv]; exact hv0); rwa [hv] at this)
          clear hm hv HTK
          have hj3 : (j : Int) < 3 := by omega
          have hj3n : j < 3 := by omega
          have HQ := Lib.hid (ar_get (ws := ws) hj3n)
          have HP := Lib.hid (ar_set (ws := ws) (v := v) hj3n hln)
          go_wp2_with (go_at_call 23; refine (HR.out _ (Fr.alloc (Fr.refl wr) _)).mono ?_; rintro e w4 ⟨rfl, hf4⟩; have HF4 := Lib.hid (Fr.call (Fr.alloc (Fr.refl wr) _) hf4); clear hf4; have q0 := HA.out.fr HF4.out j _ HQ.out; have r0 := (HF4.out.cells.2.1 _ j za).trans (HZ.out j))
          go_roundw
          case rel =>
            exact ⟨j + 1, ws ++ [v], by omega, by go_num, Fr.set (HF.out.call HF4.out) (by simp) _, (HB.out.fr HF4.out).setO (by omega), HNX.out, HP.out ▸ (HA.out.fr HF4.out).set (k := j) (by simpa [ar] using hj3n), fun k => by rw [World.frozen?_setCell]; exact (HF4.out.cells.2.1 _ k za).trans (HZ.out k)⟩
          case measure => simp [intOf]; omega
      · obtain rfl : j = ks.length := by omega
        have hws2 : widL E ks = some ws := by have := HWS.out; rwa [List.take_of_length_le (Nat.le_refl _)] at this
        have HS4 := Lib.hid (HS.out.fr hf)
        have HE4 := Lib.hid (HE.out.fr hf)
        have t0 := hB 0 _ rfl
        have t1 := hB 1 _ rfl
        have t2 := hB 2 _ rfl
        have t3 := hB 3 _ rfl
        have t4 := hB 4 _ rfl
        have c0 := hA 0 _ rfl
        have c1 := hA 1 _ rfl
        have c2 := hA 2 _ rfl
        clear hf hB hws hA hz
        by_cases hl0 : ks.length = 0
        · have HR := Lib.hid (show widT E (.node op wd a b ks) = leafW E op wd a b by unfold widT; rw [if_pos HK.out, hws2]; simp [hl0])
          have hop := kids_zero (op := op) (by have := HK.out; omega)
          have hlz : ((ks.length : Int) == 0) = true := by simp [hl0]
          have hge : ((ks.length : Int) < (ks.length : Int)) = False := by simp
          clear hl0 hws2
          go_wp2_with (go_at_call 57; refine (leaf_any HS4.out HE4.out op wd a b A ks.length c hop).mono ?_; rintro e w4 ⟨rfl, hf4⟩; have HF4 := Lib.hid hf4; clear hf4)
          go_ret
          exact ⟨ret_int HR.out.symm, HF.out.call HF4.out⟩
        · have HR := Lib.hid (show widT E (.node op wd a b ks) = joinW op wd a b (ws.getD 0 0) (ws.getD 1 0) (ws.getD 2 0) by unfold widT; rw [if_pos HK.out, hws2]; simp [hl0])
          have hlz : ((ks.length : Int) == 0) = false := by simp [hl0]
          have HBD := Lib.hid (fun k => (show 0 ≤ ws.getD k 0 ∧ ws.getD k 0 ≤ 128 by
            rw [List.getD_eq_getElem?_getD]
            cases hk : ws[k]? with
            | none => simp
            | some x => exact widL_bd E ks ws hws2 x (List.mem_of_getElem? hk)))
          have hb0 := HBD.out 0
          have hb1 := HBD.out 1
          clear HBD
          generalize ws.getD 0 0 = x at *
          generalize ws.getD 1 0 = y at *
          generalize ws.getD 2 0 = z at *
          have HJ := Lib.hid (joined_any op wd a b x y z A ks.length c wr hb0 hb1)
          clear hl0 hws2 hb0 hb1
          go_wp2_with (go_at_call 58; refine HJ.out.mono ?_; rintro e w4 ⟨rfl, hf4⟩; have HF4 := Lib.hid hf4; clear hf4)
          go_ret
          exact ⟨ret_int HR.out.symm, HF.out.call HF4.out⟩
  · have hke : ((ks.length : Int) != kidsI op) = true := by simp [hk]
    have HZ := Lib.hid (show widT E (.node op wd a b ks) = 0 by unfold widT; rw [if_neg hk])
    clear hk
    go_enter Tryz.func23, Tryz.ntmps23
    go_wp2
    go_quiet ((go_at_call 56; refine Calls.quiet_of_same (kidsOf_any _ _)))
    go_wp2
    go_ret
    exact ⟨ret_int HZ.out.symm, Fr.drewN (Fr.alloc (Fr.refl w) _) _⟩
theorem width_all : ∀ n : Nat, WidC n
  | 0 => fun op wd a b ks A c w E Fa Ca Aa Ga Ma sb n0 n1 n3 n7 n8 n9 n10 n11 n12 fc gc cc ml mc ac h => absurd h (by omega)
  | n + 1 => width_step n (width_all n)
/-- The program's width of a term. -/
theorem width_any {w : World} (S : BlkAt w sb [n0, n1, .slice Fa E.files.length fc, n3, .slice Ga E.nflags gc, .slice Ca E.classes.length cc, .slice Ma ml mc, n7, n8, n9, n10, n11, n12, .slice Aa E.args.length ac]) (hE : EnvAt E w Fa Ca Aa) (op wd a b : Int) (ks : List Tm) (A : Option Addr) (c : Nat) (hT : TmL w A ks) :
    Calls Tryz.prog 23 #[.pointer (some ⟨sb, 0, none⟩), .agg #[.int .i64 op, .int .i64 wd, .int .i64 a, .int .i64 b, .slice A ks.length c]] w fun e w' => e = .returned (.int .i64 (widT E (.node op wd a b ks))) ∧ Fr w w' :=
  width_all _ op wd a b ks A c w E Fa Ca Aa Ga Ma sb n0 n1 n3 n7 n8 n9 n10 n11 n12 fc gc cc ml mc ac (Nat.lt_succ_self _) S hE hT
end
end Go.Proofs.YtcndmiolaheaeabGreatDoor
