/- A term's width, of the reference: the loop over its parts. -/
import Derived.Test.YtcndmiolaheaeabGreatDoorVj
import Derived.Test.YtcndmiolaheaeabGreatDoorVl
namespace Go.Proofs.YtcndmiolaheaeabGreatDoor
open Go.RowKit
set_option linter.unusedSimpArgs false
set_option linter.unusedVariables false

def WidR (n : Nat) : Prop := ∀ (op wd a b : Int) (ks : List Tm) (A : Option Addr) (c : Nat) (w : World) (E : Env) (Fa Ca Aa Ga Ma : Option Addr) (n0 n1 n3 n7 n8 n9 n10 n11 n12 m0 m1 m3 m4 : Value) (fc gc cc ml mc ac : Nat),
  SizeOf.sizeOf (Tm.node op wd a b ks) < n → EnvAt E w Fa Ca Aa → TmL w A ks →
  Calls Tryz.prog 11 #[.agg #[n0, n1, .slice Fa E.files.length fc, n3, .slice Ga E.nflags gc, .slice Ca E.classes.length cc, .slice Ma ml mc, n7, n8, n9, n10, n11, n12], .agg #[m0, m1, .slice Aa E.args.length ac, m3, m4], .agg #[.int .i64 op, .int .i64 wd, .int .i64 a, .int .i64 b, .slice A ks.length c]] w fun e w' => e = .returned (.int .i64 (widT E (.node op wd a b ks))) ∧ Fr w w'
def RelWr (E : Env) (ks : List Tm) (w : World) (ds fs ts : List Value) (i : Value) (wr : World) : Prop := ∃ j : Nat, ∃ ws, j ≤ ks.length ∧ i = .int .i64 (j : Int) ∧ Fr w wr ∧ BlkAt wr w.heap.size ds ∧ BlkAt wr (w.heap.size + 1) fs ∧ BlkAt wr (w.heap.size + 1 + 1) ts ∧ widL E (ks.take j) = some ws ∧
  BlkAt wr (w.heap.size + 1 + 1 + 1) (ar ws) ∧ (∀ k, wr.frozen? ⟨w.heap.size + 1 + 1 + 1, k, none⟩ = false)
theorem widT_many {E : Env} {op wd a b : Int} {ks : List Tm} (h : 3 < ks.length) : widT E (.node op wd a b ks) = 0 := by
  unfold widT
  rw [if_neg (by have := kids_le (op := op); omega)]
theorem widT_off {E : Env} {op wd a b : Int} {ks : List Tm} (h : widL E ks = none) : widT E (.node op wd a b ks) = 0 := by
  unfold widT
  rw [h]; simp
set_option maxHeartbeats 128000000 in
set_option maxRecDepth 100000 in
theorem rwidth_step (n : Nat) (ih : WidR n) : WidR (n + 1) := by
  intro op wd a b ks A c w E Fa Ca Aa Ga Ma n0 n1 n3 n7 n8 n9 n10 n11 n12 m0 m1 m3 m4 fc gc cc ml mc ac hn hE hT
  have IH := Lib.hid ih
  have HE := Lib.hid hE
  have HT := Lib.hid hT
  have HN := Lib.hid hn
  clear ih hE hT hn
  by_cases hl3 : ks.length ≤ 3
  · have hge : ¬ (ks.length : Int) > 3 := by omega
    go_enter Tryz.func11, Tryz.ntmps11
    go_wp2
    go_loopw [23] (fun i wr => RelWr E ks w [n0, n1, .slice Fa E.files.length fc, n3, .slice Ga E.nflags gc, .slice Ca E.classes.length cc, .slice Ma ml mc, n7, n8, n9, n10, n11, n12] [m0, m1, .slice Aa E.args.length ac, m3, m4] [.int .i64 op, .int .i64 wd, .int .i64 a, .int .i64 b, .slice A ks.length c] i wr) (fun i _ => ks.length - (intOf i).toNat)
    case atStart =>
      refine ⟨0, [], by omega, rfl, Fr.alloc (Fr.alloc (Fr.alloc (Fr.alloc (Fr.refl w) _) _) _) _, BlkAt.fr BlkAt.alloc (Fr.alloc (Fr.alloc (Fr.alloc (Fr.refl _) _) _) _), BlkAt.fr (by have := BlkAt.alloc (w := (World.alloc w (.cells #[n0, n1, .slice Fa E.files.length fc, n3, .slice Ga E.nflags gc, .slice Ca E.classes.length cc, .slice Ma ml mc, n7, n8, n9, n10, n11, n12] 34))) (t := 48) (cs := #[m0, m1, .slice Aa E.args.length ac, m3, m4]); simpa using this) (Fr.alloc (Fr.alloc (Fr.refl _) _) _), BlkAt.fr (by have := BlkAt.alloc (w := (World.alloc (World.alloc w (.cells #[n0, n1, .slice Fa E.files.length fc, n3, .slice Ga E.nflags gc, .slice Ca E.classes.length cc, .slice Ma ml mc, n7, n8, n9, n10, n11, n12] 34)) (.cells #[m0, m1, .slice Aa E.args.length ac, m3, m4] 48))) (t := 42) (cs := #[.int .i64 op, .int .i64 wd, .int .i64 a, .int .i64 b, .slice A ks.length c]); simpa using this) (Fr.alloc (Fr.refl _) _), by simp [widL], by have := BlkAt.alloc (w := (World.alloc (World.alloc (World.alloc w (.cells #[n0, n1, .slice Fa E.files.length fc, n3, .slice Ga E.nflags gc, .slice Ca E.classes.length cc, .slice Ma ml mc, n7, n8, n9, n10, n11, n12] 34)) (.cells #[m0, m1, .slice Aa E.args.length ac, m3, m4] 48)) (.cells #[.int .i64 op, .int .i64 wd, .int .i64 a, .int .i64 b, .slice A ks.length c] 42))) (t := 73) (cs := #[.int .i64 0, .int .i64 0, .int .i64 0]); simpa [ar] using this, fun k => by refine World.frozen?_alloc_at _ _ _ _ (by simp)⟩
    case round =>
      obtain ⟨j, ws, hj, rfl, hf, hB3, hB4, hB5, hws, hA, hz⟩ := hrel
      have HF := Lib.hid hf
      have HWS := Lib.hid hws
      have HB3 := Lib.hid hB3
      have HB4 := Lib.hid hB4
      have HB5 := Lib.hid hB5
      have HA := Lib.hid hA
      have HZ := Lib.hid hz
      have z3 := lt_of_cell (hB3 0 _ rfl)
      have z4 := lt_of_cell (hB4 0 _ rfl)
      have z5 := lt_of_cell (hB5 0 _ rfl)
      have za := lt_of_cell (hA 0 _ rfl)
      by_cases hlt : j < ks.length
      · obtain ⟨b', o', rfl, ht⟩ := (HT.out.fr hf).elem j hlt
        rw [Nat.mul_comm 5 j] at ht
        have hm := List.getElem_mem hlt
        have HTK := Lib.hid (List.take_succ_eq_append_getElem hlt)
        generalize hx : ks[j] = x at *
        obtain ⟨op2, wd2, a2, b2, ks2⟩ := x
        unfold TmT at ht
        obtain ⟨A2, c2, hc2, h0, h1, h2, h3, h4, hkk⟩ := ht
        have hsz := List.sizeOf_lt_of_mem hm
        have hji : (j : Int) < (ks.length : Int) := by omega
        have HR := Lib.hid (fun w1 (k : Fr wr w1) => IH.out op2 wd2 a2 b2 ks2 A2 c2 w1 E Fa Ca Aa Ga Ma n0 n1 n3 n7 n8 n9 n10 n11 n12 m0 m1 m3 m4 fc gc cc ml mc ac (by have := HN.out; simp at this; omega) (HE.out.fr (HF.out.call k)) (hkk.fr k))
        generalize hv : widT E (.node op2 wd2 a2 b2 ks2) = v at *
        have d0 := hB3 0 _ rfl
        have d1 := hB3 1 _ rfl
        have d2 := hB3 2 _ rfl
        have d3 := hB3 3 _ rfl
        have d4 := hB3 4 _ rfl
        have d5 := hB3 5 _ rfl
        have d6 := hB3 6 _ rfl
        have d7 := hB3 7 _ rfl
        have d8 := hB3 8 _ rfl
        have d9 := hB3 9 _ rfl
        have d10 := hB3 10 _ rfl
        have d11 := hB3 11 _ rfl
        have d12 := hB3 12 _ rfl
        have f0 := hB4 0 _ rfl
        have f1 := hB4 1 _ rfl
        have f2 := hB4 2 _ rfl
        have f3 := hB4 3 _ rfl
        have f4 := hB4 4 _ rfl
        have hj3 : (j : Int) < 3 := by omega
        have hj3n : j < 3 := by omega
        have HQ := Lib.hid (ar_get (ws := ws) hj3n)
        clear hf hB3 hB4 hB5 hws hA hz hkk hsz hx
        by_cases hv0 : v = 0
        · have H0 := Lib.hid (widT_off (op := op) (wd := wd) (a := a) (b := b) (widL_zero hm (hv.trans hv0)))
          subst hv0
          clear hm hv
          go_wp2_with (go_at_call 11; refine (HR.out _ (Fr.alloc (Fr.refl wr) _)).mono ?_; rintro e w4 ⟨rfl, hf4⟩; have HF4 := Lib.hid (Fr.call (Fr.alloc (Fr.refl wr) _) hf4); clear hf4; have y0 := HA.out.fr HF4.out j _ HQ.out; have r0 := (HF4.out.cells.2.1 _ j za).trans (HZ.out j))
          go_ret
          exact ⟨ret_int H0.out.symm, Fr.set (HF.out.call HF4.out) (by simp; omega) _⟩
        · have hvn : (v == 0) = false := by simpa using hv0
          have hln : ws.length = j := by rw [widL_len HWS.out, List.length_take]; omega
          have HNX := Lib.hid (show widL E (ks.take (j + 1)) = some (ws ++ [v]) by
            rw [HTK.out]; have := widL_snoc (.node op2 wd2 a2 b2 ks2) HWS.out (by rw [hv]; exact hv0); rwa [hv] at this)
          have HP := Lib.hid (ar_set (ws := ws) (v := v) hj3n hln)
          clear hm hv HTK
          go_wp2_with (go_at_call 11; refine (HR.out _ (Fr.alloc (Fr.refl wr) _)).mono ?_; rintro e w4 ⟨rfl, hf4⟩; have HF4 := Lib.hid (Fr.call (Fr.alloc (Fr.refl wr) _) hf4); clear hf4; have y0 := HA.out.fr HF4.out j _ HQ.out; have r0 := (HF4.out.cells.2.1 _ j za).trans (HZ.out j))
          go_roundw
          case rel =>
            exact ⟨j + 1, ws ++ [v], by omega, by go_num, Fr.set (HF.out.call HF4.out) (by simp; omega) _, (HB3.out.fr HF4.out).setO (by omega), (HB4.out.fr HF4.out).setO (by omega), (HB5.out.fr HF4.out).setO (by omega), HNX.out, HP.out ▸ (HA.out.fr HF4.out).set (k := j) (by simpa [ar] using hj3n), fun k => by rw [World.frozen?_setCell]; exact (HF4.out.cells.2.1 _ k za).trans (HZ.out k)⟩
          case measure => simp [intOf]; omega
      · obtain rfl : j = ks.length := by omega
        have hws2 : widL E ks = some ws := by rwa [List.take_of_length_le (Nat.le_refl _)] at hws
        have d0 := hB3 0 _ rfl
        have d1 := hB3 1 _ rfl
        have d2 := hB3 2 _ rfl
        have d3 := hB3 3 _ rfl
        have d4 := hB3 4 _ rfl
        have d5 := hB3 5 _ rfl
        have d6 := hB3 6 _ rfl
        have d7 := hB3 7 _ rfl
        have d8 := hB3 8 _ rfl
        have d9 := hB3 9 _ rfl
        have d10 := hB3 10 _ rfl
        have d11 := hB3 11 _ rfl
        have d12 := hB3 12 _ rfl
        have f0 := hB4 0 _ rfl
        have f1 := hB4 1 _ rfl
        have f2 := hB4 2 _ rfl
        have f3 := hB4 3 _ rfl
        have f4 := hB4 4 _ rfl
        have t0 := hB5 0 _ rfl
        have t1 := hB5 1 _ rfl
        have t2 := hB5 2 _ rfl
        have t3 := hB5 3 _ rfl
        have t4 := hB5 4 _ rfl
        have c0 := hA 0 _ rfl
        have c1 := hA 1 _ rfl
        have c2 := hA 2 _ rfl
        have HBD := fun k => (show 0 ≤ ws.getD k 0 ∧ ws.getD k 0 ≤ 128 by
            rw [List.getD_eq_getElem?_getD]
            cases hk : ws[k]? with
            | none => simp
            | some x => exact widL_bd E ks ws hws2 x (List.mem_of_getElem? hk))
        have hb0 := HBD 0
        have hb1 := HBD 1
        have HRES := Lib.hid (show widT E (.node op wd a b ks) = if (ks.length : Int) = kidsI op then (if (ks.length : Int) = 0 then leafW E op wd a b else joinW op wd a b (ws.getD 0 0) (ws.getD 1 0) (ws.getD 2 0)) else 0 by unfold widT; rw [hws2]; by_cases h : ks.length = 0 <;> simp [h])
        generalize ws.getD 0 0 = x at *
        generalize ws.getD 1 0 = y at *
        generalize ws.getD 2 0 = z at *
        have hxy : IntKind.i64.wrap (x + y) = x + y := by rw [IntKind.wrap_i64]; omega
        have HB0 := Lib.hid hb0
        have HB1 := Lib.hid hb1
        clear HBD hf hB3 hB4 hB5 hws hA hz hws2 hb0 hb1 HWS HA HZ HB3 HB4 HB5
        by_cases h22 : op = 22
        · subst h22
          have hk22 : kidsI 22 = 0 := by decide
          clear HB0 HB1 IH HT HN
          by_cases hl0 : ks.length = 0
          · have hlz : ((ks.length : Int) == 0) = true := by simp [hl0]
            have HL := Lib.hid (show widT E (.node 22 wd a b ks) = leafW E 22 wd a b by rw [HRES.out, hk22]; simp [hl0])
            clear HRES
            obtain rfl := List.length_eq_zero_iff.1 hl0
            clear hl0 hlz
            simp only [List.length_nil, Int.natCast_zero] at *
            cases hwd : (decide (1 ≤ wd) && decide (wd ≤ 128)) with
            | false =>
              have HWD := Lib.hid (fun w => hwd ▸ rwide_any wd w)
              have HV := Lib.hid (show leafW E 22 wd a b = 0 by
                have : wideI wd = 0 := by unfold wideI; rw [if_neg (by simpa using hwd)]
                simp only [leafW, this]; repeat' split
                all_goals first | rfl | omega)
              clear hwd
              go_wp2_with fail
              go_quiet (fail)
              have k5 := Fr.drewN (Fr.refl wr) nq
              have HF5 := Lib.hid (HF.out.drewN nq)
              have d5' := k5.get d5
              have f2' := k5.get f2
              have t0' := k5.get t0
              have t1' := k5.get t1
              have t2' := k5.get t2
              try have a1' := k5.get a1
              try have q1' := k5.get q1
              generalize World.drewN wr nq = w5 at *
              clear k5
              go_wp2_with fail
              go_quiet ((go_at_call 24; with_reducible refine Calls.quiet_of_same (HWD.out _)))
              go_wp2
              go_ret
              exact ⟨ret_int (by rw [HL.out, HV.out]), HF5.out.drewN _⟩
            | true =>
              have HWD := Lib.hid (fun w => hwd ▸ rwide_any wd w)
              have hww : wideI wd = wd := by unfold wideI; rw [if_pos (by simpa using hwd)]
              clear hwd
              cases hx : plB a E.args.length with
              | false =>
                have HX := Lib.hid (fun w => hx ▸ rplace_any a E.args.length w)
                have HV := Lib.hid (show leafW E 22 wd a b = 0 by simp [leafW, clsO_noArg hx])
                clear hx
                go_wp2_with fail
                go_quiet (fail)
                have k5 := Fr.drewN (Fr.refl wr) nq
                have HF5 := Lib.hid (HF.out.drewN nq)
                have d5' := k5.get d5
                have f2' := k5.get f2
                have t0' := k5.get t0
                have t1' := k5.get t1
                have t2' := k5.get t2
                try have a1' := k5.get a1
                try have q1' := k5.get q1
                generalize World.drewN wr nq = w5 at *
                clear k5
                go_wp2_with fail
                go_quiet ((first | (go_at_call 24; with_reducible refine Calls.quiet_of_same (HWD.out _)) | (go_at_call 26; with_reducible refine Calls.quiet_of_same (HX.out _))))
                go_wp2
                go_ret
                exact ⟨ret_int (by rw [HL.out, HV.out]), HF5.out.drewN _⟩
              | true =>
                obtain ⟨k, rfl, hk⟩ := plB_ex hx
                obtain ⟨ag, ao, rfl, an, a0, a1⟩ := (HE.out.fr HF.out).args.at hk
                rw [Nat.mul_comm 2 k] at a0 a1
                have hki : (k : Int) < (E.args.length : Int) := by omega
                have HX := Lib.hid (fun w => hx ▸ rplace_any (k : Int) E.args.length w)
                cases hy : plB E.args[k] E.classes.length with
                | false =>
                  have HY := Lib.hid (fun w => hy ▸ rplace_any E.args[k] E.classes.length w)
                  have HV := Lib.hid (show leafW E 22 wd (k : Int) b = 0 by simp [leafW, clsO_noClass hk hy])
                  generalize E.args[k] = q at *
                  clear hx hy
                  go_wp2_with fail
                  go_quiet (fail)
                  have k5 := Fr.drewN (Fr.refl wr) nq
                  have HF5 := Lib.hid (HF.out.drewN nq)
                  have d5' := k5.get d5
                  have f2' := k5.get f2
                  have t0' := k5.get t0
                  have t1' := k5.get t1
                  have t2' := k5.get t2
                  try have a1' := k5.get a1
                  try have q1' := k5.get q1
                  generalize World.drewN wr nq = w5 at *
                  clear k5
                  go_wp2_with fail
                  go_quiet ((first | (go_at_call 24; with_reducible refine Calls.quiet_of_same (HWD.out _)) | (go_at_call 26; with_reducible refine Calls.quiet_of_same (HX.out _)) | (go_at_call 26; with_reducible refine Calls.quiet_of_same (HY.out _))))
                  go_wp2
                  go_ret
                  exact ⟨ret_int (by rw [HL.out, HV.out]), HF5.out.drewN _⟩
                | true =>
                  obtain ⟨l, e, hl⟩ := plB_ex hy
                  obtain ⟨cg, co, rfl, cn, cu, cv, cx, cy, cl, cq, q0, q1, q2, q3, q4, q5, q6⟩ := (HE.out.fr HF.out).classes.at hl
                  rw [Nat.mul_comm 7 l] at q1
                  rw [e] at a1 hy
                  have hli : (l : Int) < (E.classes.length : Int) := by omega
                  have HY := Lib.hid (fun w => hy ▸ rplace_any (l : Int) E.classes.length w)
                  have HV := Lib.hid (show leafW E 22 wd (k : Int) b = if E.classes[l].1 = 1 then 0 else wd by simp [leafW, clsO_at hk hl e, hww])
                  generalize E.classes[l] = q at *
                  obtain ⟨z1, z2⟩ := q
                  clear hx hy e q0 q2 q3 q4 q5 q6 a0
                  go_wp2_with fail
                  go_quiet (fail)
                  have k5 := Fr.drewN (Fr.refl wr) nq
                  have HF5 := Lib.hid (HF.out.drewN nq)
                  have d5' := k5.get d5
                  have f2' := k5.get f2
                  have t0' := k5.get t0
                  have t1' := k5.get t1
                  have t2' := k5.get t2
                  try have a1' := k5.get a1
                  try have q1' := k5.get q1
                  generalize World.drewN wr nq = w5 at *
                  clear k5
                  go_wp2_with fail
                  go_quiet ((first | (go_at_call 24; with_reducible refine Calls.quiet_of_same (HWD.out _)) | (go_at_call 26; with_reducible refine Calls.quiet_of_same (HX.out _)) | (go_at_call 26; with_reducible refine Calls.quiet_of_same (HY.out _))))
                  go_wp2
                  all_goals (go_ret; exact ⟨ret_int (by rw [HL.out, HV.out]; simp_all), HF5.out.drewN _⟩)
          · have hlz : ((ks.length : Int) == 0) = false := by simp [hl0]
            have HV := Lib.hid (show widT E (.node 22 wd a b ks) = 0 by rw [HRES.out, hk22, if_neg (by omega)])
            clear HRES hl0
            go_wp2_with fail
            go_quiet (fail)
            go_wp2_with fail
            go_quiet (fail)
            go_wp2
            go_ret
            exact ⟨ret_int (by rw [HV.out]), (HF.out.drewN _).drewN _⟩
        · have h22b : (op == 22) = false := by simpa using h22
          have HREG := Lib.hid (fun w1 (k : Fr wr w1) => rreg_any (n0 := n0) (n1 := n1) (n3 := n3) (n7 := n7) (n8 := n8) (n9 := n9) (n10 := n10) (n11 := n11) (n12 := n12) (m0 := m0) (m1 := m1) (m3 := m3) (m4 := m4) (fc := fc) (gc := gc) (cc := cc) (ml := ml) (mc := mc) (ac := ac) (Ga := Ga) (Ma := Ma) (HE.out.fr (HF.out.call k)) op wd a b A ks.length c)
          go_wp2_with fail
          go_quiet (fail)
          go_wp2_with (first
            | (go_at_call 25; refine (HREG.out _ (Fr.drewN (Fr.refl wr) _)).mono ?_; rintro e w4 ⟨rfl, hf4⟩; have HF4 := Lib.hid hf4; clear hf4)
            | (go_at_call 24; refine (rwide_any _ _).mono ?_; rintro e w4 ⟨rfl, rfl⟩)
            | (go_at_call 27; refine (rmemory_any _ _).mono ?_; rintro e w4 ⟨rfl, rfl⟩)
            | (go_at_call 26; refine (rplace_any _ _ _).mono ?_; rintro e w4 ⟨rfl, rfl⟩))
          all_goals (go_ret; refine ⟨ret_eq ?_, by first | exact (HF.out.drewN _).call HF4.out | exact HF.out.drewN _⟩)
          all_goals (try clear HF4)
          all_goals (clear HREG; have h1 := HB0.out; have h2 := HB1.out; have h3 := HRES.out; clear HB0 HB1 HRES)
          all_goals (clear d0 d1 d2 d3 d4 d5 d6 d7 d8 d9 d10 d11 d12 f0 f1 f2 f3 f4 t0 t1 t2 t3 t4 c0 c1 c2 hxy IH HE HT HN HF z3 z4 z5 za hj hlt)
          all_goals (have HM0 := Lib.hid (show 0 ≤ (ks.length : Int) from Int.natCast_nonneg _); have hme : ks = [] ↔ (ks.length : Int) = 0 := by simp
                     generalize (ks.length : Int) = m at *; generalize widT E (.node op wd a b ks) = t at *; clear hge)
          all_goals first
            | (simp_all [kidsI, leafW, joinW]; done)
            | (simp_all [kidsI, leafW, joinW, wideI, sharedI, plB, memB, wrap64]; done)
            | (simp_all [kidsI, leafW, joinW, wideI, sharedI, plB, memB, wrap64]; omega)
            | (simp_all [kidsI, leafW, joinW, wideI]; split <;> omega)
            | (have hk : kidsI op = -1 := by
                 clear h3 hme h1 h2 HM0 hl3
                 simp only [beq_eq_false_iff_ne, ne_eq] at *
                 unfold kidsI
                 repeat' split
                 all_goals omega
               have hm0 := HM0.out
               rw [hk, if_neg (by omega)] at h3
               subst h3
               first | rfl | (simp; done) | (simp_all; done))
  · have HZ := Lib.hid (widT_many (E := E) (op := op) (wd := wd) (a := a) (b := b) (ks := ks) (by omega))
    have hge : (ks.length : Int) > 3 := by omega
    go_enter Tryz.func11, Tryz.ntmps11
    go_wp2
    go_ret
    exact ⟨ret_int HZ.out.symm, Fr.alloc (Fr.alloc (Fr.alloc (Fr.refl w) _) _) _⟩
theorem rwidth_all : ∀ n : Nat, WidR n
  | 0 => fun op wd a b ks A c w E Fa Ca Aa Ga Ma n0 n1 n3 n7 n8 n9 n10 n11 n12 m0 m1 m3 m4 fc gc cc ml mc ac h => absurd h (by omega)
  | n + 1 => rwidth_step n (rwidth_all n)
end Go.Proofs.YtcndmiolaheaeabGreatDoor
