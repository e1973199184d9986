/- MemRuns answers true. -/
import Derived.Test.YtelfokoibmpdlaaJc
import Derived.Test.YtelfokoibmpdlaaJg
import Derived.Test.YtelfokoibmpdlaaJj
import Derived.Test.YtelfokoibmpdlaaJk
import Derived.Test.YtelfokoibmpdlaaJl
import Derived.Test.YtelfokoibmpdlaaJm
import Derived.Test.YtelfokoibmpdlaaMn
import Derived.Deep.RegionHeld3
namespace Go.Proofs.Ytelfokoibmpdlaa
open Go.RowKit
set_option linter.unusedSimpArgs false
set_option linter.unusedVariables false

theorem ck_err {l : List Rg} {z z' : Int} (hz : z ≠ 0) (h : z = chkI l ∨ chkI l = 0 ∧ z = 72 ∧ ∃ l' : List Rg, l'.Perm (l.filter neB) ∧ l'.Pairwise (fun a b => a.pl ≤ b.pl) ∧ OvP l') (hc : CkP l z') : z' = z := by
  rcases h with h | ⟨h0, h72, l', hp, hs, ho⟩
  · rcases hc with ⟨q, e⟩ | ⟨q, _, _⟩ | ⟨q, _, _⟩
    · rw [e, h]
    · rw [q] at h; exact absurd h hz
    · rw [q] at h; exact absurd h hz
  · rcases hc with ⟨q, e⟩ | ⟨q, _, e⟩ | ⟨q, k, e⟩
    · exact absurd h0 q
    · rw [e, h72]
    · exact absurd k (ov_ap hp hs ho)
theorem ck_ok {l l' : List Rg} {z' : Int} (h0 : chkI l = 0) (hp : l'.Perm (l.filter neB)) (hg : Good l') (hc : CkP l z') : z' = 0 := by
  rcases hc with ⟨q, e⟩ | ⟨q, k, e⟩ | ⟨q, k, e⟩
  · exact absurd h0 q
  · exact absurd ((ap_filter l).2 ((ap_perm hp).1 (good_ap hg))) k
  · exact e
/-- A row whose bytes may be turned. -/
def Turn (M : Lo) (l : List Rg) (wr : World) : Prop := ∀ (i : Nat) (hi : i < l.length) (k : Nat), k < (l[i]).bs.length → ∃ u : Int, wr.cell? ⟨M.G i, k, none⟩ = some (.int .u8 u) ∧ wr.frozen? ⟨M.G i, k, none⟩ = false
theorem Turn.set {M : Lo} {l : List Rg} {wr : World} (h : Turn M l wr) (p : Addr) {u : Int} (hu : wr.cell? p = some (.int .u8 u)) (v : Int) : Turn M l (wr.setCell p (.int .u8 v)) := fun i hi k hk => by
  obtain ⟨x, h1, h2⟩ := h i hi k hk
  by_cases e : p = ⟨M.G i, k, none⟩
  · subst e
    exact ⟨v, World.cell?_setCell_same _ _ _ h1, by simpa using h2⟩
  · exact ⟨x, by rw [World.cell?_setCell_other _ _ _ _ e]; exact h1, by simpa using h2⟩
theorem sto_no {lw lp : List Rg} {a v c : Nat} {n : Int} {A : Option Addr} {w w' : World} {e : Ending} (hh : hldB lp a n 2 = false) (h : StoP lw lp a n v A c w e w') : e = .returned (.tuple #[.slice A lw.length c, .bool false]) := by
  rcases h with ⟨_, h⟩ | ⟨h, _⟩
  · exact h
  · rw [hh] at h; cases h
theorem sto_yes {lw lp : List Rg} {a v c : Nat} {n : Int} {A : Option Addr} {w w' : World} {e : Ending} (hh : hldB lp a n 2 = true) (h : StoP lw lp a n v A c w e w') : ∃ M : Lo, e = .returned (.tuple #[.slice M.A lw.length M.cr, .bool true]) ∧ MRows w' w.heap.size M (upd lw a (bytesN n.toNat v)) := by
  rcases h with ⟨h, _⟩ | ⟨_, h⟩
  · rw [hh] at h; cases h
  · exact h
theorem box_keep {wr wx : World} {x0 x1 x2 x3 : Value} {t : TypeId} (h : Fr (wr.alloc (.cells #[x0, x1, x2, x3] t)) wx) : Fr wr wx ∧ wx.cell? ⟨wr.heap.size, 1, none⟩ = some x1 ∧ wx.cell? ⟨wr.heap.size, 2, none⟩ = some x2 :=
  ⟨(Fr.alloc (Fr.refl wr) _).call h, h.get (by simp), h.get (by simp)⟩
def RelFo (M' : Lo) (l : List Rg) (w9 : World) (z : Value) (wr : World) : Prop := ∃ k : Nat, z = .int .i64 (k : Int) ∧ k ≤ l.length ∧ Turn M' l wr ∧ Kp (GS M' l.length) w9 wr
def RelFi (M' : Lo) (l : List Rg) (n : Nat) (w9 : World) (z : Value) (wr : World) : Prop := ∃ k : Nat, z = .int .i64 (k : Int) ∧ k ≤ n ∧ Turn M' l wr ∧ Kp (GS M' l.length) w9 wr
set_option maxHeartbeats 12800000 in
set_option maxRecDepth 100000 in
theorem runs_walk (A : Option Addr) (c : Nat) (l0 : List Rg) (B : Option Addr) (d : Nat) (ops : List Op4) (w : World) (hA : RowOf RgAt 3 w A l0) (hB : RowOf OpC 4 w B ops) (hol : ops.length ≤ maxLen) (hlen : l0.length * 40 ≤ 140737488351232) (hby : ∀ r ∈ l0, r.bs.length ≤ 140737488351232) :
    Calls Try.prog 4 #[.slice A l0.length c, .slice B ops.length d] w fun e w' => e = .returned (.bool true) ∧ Fr w w' := by
  have HA := Lib.hid hA
  have HB := Lib.hid hB
  have hlm : l0.length ≤ maxLen := by unfold maxLen; omega
  have HCP := Lib.hid (fun (w1 : World) (k : Fr w w1) => copyW_any A l0 c w1 (HA.out.fr fun _ _ _ h => h.fr k) hlen hby)
  have HCK := Lib.hid (fun (w1 : World) (k : Fr w w1) => rcheck_any A l0 c w1 (HA.out.fr fun _ _ _ h => h.fr k) hlm hby)
  have HNW := Lib.hid (fun (A' : Option Addr) (c' : Nat) (w1 : World) (h : RowOf RgAt 3 w1 A' l0) => new_any A' l0 c' w1 h hlm hby)
  have HSA := Lib.hid (fun (A' B' : Option Addr) (c' d' : Nat) (w1 : World) (h1 : RowOf RgAt 3 w1 A' l0) (h2 : RowOf RgAt 3 w1 B' l0) => rsame_any A' B' c' d' l0 w1 hlm h1 h2)
  have HNUM := Lib.hid (num_of hA)
  unfold maxLen at hol
  clear hA hB hlen hby hlm
  go_enter Try.func4, Try.ntmps4
  go_wp2_with (go_at_call 7; refine (alive7 _).mono ?_; rintro e w1 ⟨rfl, hf⟩; have HF1 := Lib.hid hf; clear hf)
  refine (HCP.out _ HF1.out).mono ?_
  rintro e w2 ⟨M0, rfl, hm0, hf2⟩
  have HF2 := Lib.hid (HF1.out.call hf2)
  have HROW0 := Lib.hid (hm0.row HNUM.out)
  clear hm0 hf2
  go_wp2_with fail
  refine (HNW.out M0.A M0.cr _ HROW0.out).mono ?_
  rintro e w3 ⟨hnew, hf3⟩
  have HF3 := Lib.hid hf3
  rcases hnew with ⟨z, hz, rfl, hzz⟩ | ⟨M, lp, rfl, ⟨hc0, hnil⟩, hperm, hg, hl64, hm, hbm, hbr, hbg⟩
  · clear hf3
    go_wp2_with fail
    refine (HCK.out _ (HF2.out.call HF3.out)).mono ?_
    rintro e w4 ⟨z', rfl, hck, hf4⟩
    obtain rfl := ck_err hz hzz hck
    have HF4 := Lib.hid (HF3.out.call hf4)
    have hzb : (z' != 0) = true := by simpa using hz
    clear hck hzz hf4
    go_wp2_with (go_at_call 11; refine (HSA.out _ _ _ _ _ (HROW0.out.fr fun _ _ _ h => h.fr HF4.out) (HA.out.fr fun _ _ _ h => h.fr (HF2.out.call HF4.out))).mono ?_; rintro e w5 ⟨rfl, hf5⟩; have HF5 := Lib.hid hf5; clear hf5)
    go_ret
    exact ⟨rfl, (HF2.out.call HF4.out).call HF5.out⟩
  · have hsm0 := chk_ok hc0
    have HM3 := Lib.hid hm
    have HG := Lib.hid hg
    have HP := Lib.hid hperm
    have HBG := Lib.hid hbg
    have HNIL := Lib.hid hnil
    have HC0 := Lib.hid hc0
    have HS0 := Lib.hid hsm0
    clear hf3 hm hg hperm hbg hnil hc0 hsm0 hbr hbm
    go_wp2_with fail
    refine (HCK.out _ (HF2.out.call HF3.out)).mono ?_
    rintro e w4 ⟨z', rfl, hck, hf4⟩
    obtain rfl := ck_ok HC0.out HP.out HG.out hck
    have HF4 := Lib.hid (HF3.out.call hf4)
    have HF34 := Lib.hid hf4
    clear hck hf4
    go_wp2_with (go_at_call 11; refine (HSA.out _ _ _ _ _ (HROW0.out.fr fun _ _ _ h => h.fr HF4.out) (HA.out.fr fun _ _ _ h => h.fr (HF2.out.call HF4.out))).mono ?_; rintro e w5 ⟨rfl, hf5⟩; have HF5 := Lib.hid hf5; clear hf5)
    refine (HCP.out _ ((HF2.out.call HF4.out).call HF5.out)).mono ?_
    rintro e w6 ⟨Mw, rfl, hmw, hf6⟩
    have hRS : RunS w2 w5.heap.size M lp.length Mw l0 lp w6 := ⟨hmw, ⟨HG.out, HP.out⟩, ((HM3.out.fr HF34.out).fr HF5.out).fr hf6, rfl, fun i hi => by
      have h1 := HM3.out.ltg hi ((HG.out.ok _ (List.getElem_mem hi)).some)
      have h2 := HF34.out.size
      have h3 := HF5.out.size
      omega, HS0.out.1, hl64, HS0.out.2.1, HNUM.out, HBG.out, (HF4.out.call HF5.out).call hf6, hf6.size⟩
    have HRS := Lib.hid hRS
    clear hmw hf6 hRS
    go_wp2_with fail
    go_loopw [9, 55] (fun y z wr => RelMR ops w2 w5.heap.size M lp.length y z wr) (fun _ z _ => ops.length - (intOf z).toNat)
    case atStart => exact ⟨0, Mw, l0, lp, rfl, by omega, rfl, HRS.out⟩
    case round =>
      clear HRS HF1 HF3 HF4 HF34 HF5 HM3
      obtain ⟨k, Mw, lw, lq, rfl, hk, rfl, hR⟩ := hrel
      have HR := Lib.hid hR
      have HFW := Lib.hid (HF2.out.call hR.fr)
      by_cases hlt : k < ops.length
      · obtain ⟨b, o, rfl, hx⟩ := (HB.out.fr (fun _ _ _ h => h.fr HFW.out)).at hlt
        rw [Nat.mul_comm 4 k] at hx
        obtain ⟨o0, o1, o2, o3, oa, ov, on⟩ := hx
        have hki : (k : Int) < (ops.length : Int) := by omega
        have zb := lt_of_cell o0
        generalize ops[k] = op at *
        obtain ⟨kd, a, n, v⟩ := op
        simp only at o0 o1 o2 o3 oa ov on
        by_cases k0 : kd = 0
        · subst k0
          have HL := Lib.hid (fun (W : World) (hW : Fr wr W) => load_any hR.good (hR.mem.fr hW) hR.p64 a oa n)
          have HL2 := Lib.hid (fun (W : World) (hW : Fr wr W) => rload_any hR.lnk Mw.A Mw.cr W (hR.to hW).row hR.l64 hR.sm a oa n)
          clear hR
          go_wp2_with (first
            | (go_at_call 12; refine (HL.out _ (Fr.alloc (Fr.refl _) _)).mono ?_; rintro e w7 ⟨rfl, hf7⟩; have HF7 := Lib.hid ((Fr.alloc (Fr.refl wr) _).call hf7); have p1 := hf7.get (b := wr.heap.size) (o := 1) (v := .int .u64 (a : Int)) (by simp); have p2 := hf7.get (b := wr.heap.size) (o := 2) (v := .int .i64 n) (by simp); clear hf7)
            | (go_at_call 13; refine (HL2.out _ HF7.out).mono ?_; rintro e w8 ⟨rfl, hf8⟩; have HF8 := Lib.hid (HF7.out.call hf8); clear hf8))
          go_roundw
          case rel => exact ⟨k + 1, Mw, lw, lq, rfl, by omega, rfl, HR.out.to HF8.out⟩
          case measure => simp [intOf]; omega
        · by_cases k1 : kd = 1
          · subst k1
            have HS := Lib.hid (fun (W : World) (hW : Fr wr W) => rstore_any hR.lnk Mw.A Mw.cr W (hR.to hW).row hR.l64 hR.sm a oa n v ov)
            have HS2 := Lib.hid (fun (W : World) (hW : Fr wr W) => store_any hR.good (hR.mem.fr hW) hR.p64 a oa n v ov)
            clear hR
            cases hh : hldB lq a n 2 with
            | false =>
              rw [hh] at HS2
              go_wp2_with (first
                | (go_at_call 14; refine (HS.out _ (Fr.alloc (Fr.refl _) _)).mono ?_; rintro e w7 ⟨hsp, hf7⟩; obtain rfl := sto_no hh hsp; have HF7 := Lib.hid ((Fr.alloc (Fr.refl wr) _).call hf7); have p1 := hf7.get (b := wr.heap.size) (o := 1) (v := .int .u64 (a : Int)) (by simp); have p2 := hf7.get (b := wr.heap.size) (o := 2) (v := .int .i64 n) (by simp); have p3 := hf7.get (b := wr.heap.size) (o := 3) (v := .int .u64 (v : Int)) (by simp); clear hf7 hsp)
                | (go_at_call 15; refine (HS2.out _ HF7.out).mono ?_; rintro e w8 ⟨rfl, _, hf8, _⟩; have HF8 := Lib.hid (HF7.out.call (hf8 (by first | exact rfl | exact trivial))); clear hf8))
              go_roundw
              case rel => exact ⟨k + 1, Mw, lw, lq, rfl, by omega, rfl, HR.out.to HF8.out⟩
              case measure => simp [intOf]; omega
            | true =>
              rw [hh] at HS2
              go_wp2_with (first
                | (go_at_call 14; refine (HS.out _ (Fr.alloc (Fr.refl _) _)).mono ?_; rintro e w7 ⟨hsp, hf7⟩; obtain ⟨Mx, rfl, hm7⟩ := sto_yes hh hsp; have HM7 := Lib.hid hm7; have HF7 := Lib.hid ((Fr.alloc (Fr.refl wr) _).call hf7); have p1 := hf7.get (b := wr.heap.size) (o := 1) (v := .int .u64 (a : Int)) (by simp); have p2 := hf7.get (b := wr.heap.size) (o := 2) (v := .int .i64 n) (by simp); have p3 := hf7.get (b := wr.heap.size) (o := 3) (v := .int .u64 (v : Int)) (by simp); clear hf7 hsp hm7)
                | (go_at_call 15; refine (HS2.out _ HF7.out).mono ?_; rintro e w8 ⟨rfl, hk8, _, hm8⟩; have HK8 := Lib.hid hk8; have HM8 := Lib.hid hm8; clear hk8 hm8))
              go_roundw
              case rel =>
                have hm8 := HM8.out
                simp only [if_true] at hm8
                exact ⟨k + 1, Mx, upd lw a (bytesN n.toNat v), upd lq a (bytesN n.toNat v), rfl, by omega, by rw [upd_len], HR.out.put (by have := HR.out.zle; simp; omega) HM7.out HF7.out hm8 HK8.out⟩
              case measure => simp [intOf]; omega
          · by_cases k3 : kd = 3
            · subst k3
              have HH := Lib.hid (fun (W : World) (hW : Fr wr W) (q : Int) (ex : Ext W) => holds_any hR.good (hR.mem.fr (hW.call ex.fr)) hR.p64 a oa n q)
              have HH2 := Lib.hid (fun (W : World) (hW : Fr wr W) (q : Int) (ex : Ext W) => rholds_any hR.lnk Mw.A Mw.cr ex.world (hR.to (hW.call ex.fr)).row hR.l64 hR.sm a oa n q)
              clear hR
              go_wp2_with fail
              have p1 := fun ex : Ext (wr.alloc (.cells #[.int .i64 3, .int .u64 (a : Int), .int .i64 n, .int .u64 (v : Int)] 34)) => ex.get (b := wr.heap.size) (o := 1) (v := .int .u64 (a : Int)) (by simp)
              have p2 := fun ex : Ext (wr.alloc (.cells #[.int .i64 3, .int .u64 (a : Int), .int .i64 n, .int .u64 (v : Int)] 34)) => ex.get (b := wr.heap.size) (o := 2) (v := .int .i64 n) (by simp)
              refine wp_region_ext (by kernel_rfl) (by kernel_rfl) ?_
              repeat (go_big_quiet_step (first
                | (go_at_call 16; exact ext_of (HH.out _ (Fr.alloc (Fr.refl _) _) _ _))
                | (go_at_call 17; exact ext_of (HH2.out _ (Fr.alloc (Fr.refl _) _) _ _))))
              refine wpQuiet_nil ?_
              intro w4 hw4
              obtain ⟨y4, hy4⟩ := hw4
              have hb4 : Fr wr w4 := by rw [hy4]; exact (Fr.alloc (Fr.refl wr) _).call y4.fr
              have HB4 := Lib.hid hb4
              clear hy4 y4 hb4 p1 p2
              go_wp2
              go_roundw
              case rel => exact ⟨k + 1, Mw, lw, lq, rfl, by omega, rfl, HR.out.to HB4.out⟩
              case measure => simp [intOf]; omega
            · have HFT := Lib.hid (fun (W : World) (hW : Fr wr W) => fetch_any hR.good (hR.mem.fr hW) hR.p64 a oa n on)
              have HFT2 := Lib.hid (fun (W : World) (hW : Fr wr W) => rfetch_any hR.lnk Mw.A Mw.cr W (hR.to hW).row hR.l64 hR.sm a oa n)
              generalize runB (cel lq 1) a (min n 15).toNat = T at HFT HFT2
              clear hR
              go_wp2_with fail
              go_region_held3 (fun wx => Fr wr wx ∧ wx.cell? ⟨wr.heap.size, 1, none⟩ = some (.int .u64 (a : Int)) ∧ wx.cell? ⟨wr.heap.size, 2, none⟩ = some (.int .i64 n)) ((refine box_keep (x0 := .int .i64 kd) (x3 := .int .u64 (v : Int)) (t := 34) ?_; first | exact Fr.refl _ | exact (Fr.refl _).drew | exact HF7.out | exact HF8.out)) (first
                  | (go_at_call 19; refine (HFT.out _ (by first | exact Fr.alloc (Fr.refl _) _ | exact (Fr.alloc (Fr.refl _) _).drew)).mono ?_; rintro e w7 ⟨v7, rfl, ho7, hf7⟩; obtain ⟨⟨s7, c7⟩, rfl, _, _, hr7, _⟩ := own_rd ho7; have HR7 := Lib.hid hr7; have HF7 := Lib.hid (show Fr (wr.alloc (.cells #[.int .i64 kd, .int .u64 (a : Int), .int .i64 n, .int .u64 (v : Int)] 34)) w7 from by first | exact hf7 | exact (Fr.refl _).drew.call hf7); clear hf7 ho7 hr7)
                  | (go_at_call 20; refine (HFT2.out _ ((Fr.alloc (Fr.refl _) _).call HF7.out)).mono ?_; rintro e w8 ⟨v8, rfl, ho8, hf8⟩; obtain ⟨⟨s8, c8⟩, rfl, _, _, hr8, _⟩ := own_rd ho8; have HR8 := Lib.hid hr8; have HR78 := Lib.hid (HR7.out.fr hf8); have HF8 := Lib.hid (HF7.out.call hf8); clear hf8 ho8 hr8)
                  | (go_at_call 18; refine (same2_any _ _ _ _ T _ HR78.out HR8.out).mono ?_; rintro e w9 ⟨rfl, rfl⟩))
              go_wp2
              go_roundw
              case rel => exact ⟨k + 1, Mw, lw, lq, rfl, by omega, rfl, HR.out.to ((Fr.alloc (Fr.refl _) _).call HF8.out)⟩
              case measure => simp [intOf]; omega
      · obtain rfl : k = ops.length := by omega
        have HRG := Lib.hid (fun (W : World) (hW : Fr wr W) => regions_any hR.good (hR.mem.fr hW) hR.p64 hR.psm HNIL.out)
        have HSO := Lib.hid (fun (W : World) (hW : Fr wr W) => rsorted_any Mw.A lw Mw.cr W (hR.to hW).row hR.l64)
        have hlq : lq.length ≤ maxLen := by have := hR.p64; unfold maxLen; omega
        have HSL := Lib.hid (fun (A' B' : Option Addr) (c' d' : Nat) (w1 : World) (h1 : RowOf RgAt 3 w1 A' lq) (h2 : RowOf RgAt 3 w1 B' lq) => rsame_any A' B' c' d' lq w1 hlq h1 h2)
        have HEQ := Lib.hid (fun (l' : List Rg) (hp : l'.Perm (lw.filter neB)) (hs : l'.Pairwise fun a b => a.pl ≤ b.pl) => sort_eq l' lq (hp.trans hR.lnk.perm.symm) hs (good_lt hR.good))
        have HNQ := Lib.hid (good_num hR.good)
        have hq64 := hR.p64
        have HFR := Lib.hid hR.fr
        have HQS := Lib.hid hR.psm
        clear hR hlq
        go_wp2_with fail
        refine (HRG.out _ (Fr.refl _)).mono ?_
        rintro e w7 ⟨M', rfl, hm7, hf7⟩
        have HM7 := Lib.hid hm7
        have HF7 := Lib.hid hf7
        clear hm7 hf7
        go_wp2_with fail
        refine (HSO.out _ HF7.out).mono ?_
        rintro e w8 ⟨A', c', l', rfl, hrow8, hp8, hs8, hf8⟩
        obtain rfl := HEQ.out l' hp8 hs8
        have HROW8 := Lib.hid hrow8
        have HF8 := Lib.hid hf8
        clear hrow8 hp8 hs8 hf8
        go_wp2_with fail
        refine (HSL.out _ _ _ _ _ ((HM7.out.fr HF8.out).row HNQ.out) HROW8.out).mono ?_
        rintro e w9 ⟨rfl, hf9⟩
        have HF9 := Lib.hid (HF8.out.call hf9)
        clear hf9 HROW8
        go_wp2_with fail
        refine (HSA.out _ _ _ _ _ (HROW0.out.fr fun _ _ _ h => h.fr ((HFR.out.call HF7.out).call HF9.out)) (HA.out.fr fun _ _ _ h => h.fr ((HFW.out.call HF7.out).call HF9.out))).mono ?_
        rintro e w10 ⟨rfl, hf10⟩
        have HF10 := Lib.hid (HF9.out.call hf10)
        have HM10 := Lib.hid (HM7.out.fr HF10.out)
        clear hf10 HF8 HF9
        go_wp2_with fail
        go_loopw [164] (fun z wr2 => RelFo M' l' w10 z wr2) (fun z _ => l'.length - (intOf z).toNat)
        case atStart => exact ⟨0, rfl, by omega, fun i hi k hk => by
          have h := HM10.out.bytes i hi k _ (List.getElem?_eq_getElem hk)
          exact ⟨_, h.1, h.2⟩, Kp.refl _ _⟩
        case round =>
          obtain ⟨k, rfl, hk, hT, hK⟩ := hrel
          have HT := Lib.hid hT
          have HK := Lib.hid hK
          by_cases hlt : k < l'.length
          · have hki : (k : Int) < (l'.length : Int) := by omega
            have nb : ¬ GS M' l'.length M'.br := fun ⟨i, hi, e⟩ => HM10.out.apr i hi e.symm
            have HR2 := Lib.hid (fun (W : World) (hW : Kp (GS M' l'.length) w10 W) => hW.get nb (HM10.out.row2 k hlt))
            have r2 := HR2.out _ hK
            have hAd := HM10.out.addr (by omega)
            have hsz := HQS.out _ (List.getElem_mem hlt)
            have HTK := Lib.hid (fun (W : World) (h : Turn M' l' W) (j : Nat) (hj : j < (l'[k]).bs.length) => h k hlt j hj)
            have HGK := Lib.hid (show GS M' l'.length (M'.G k) from ⟨k, hlt, rfl⟩)
            generalize (l'[k]).bs.length = nn at *
            generalize hgk : M'.G k = gk at *
            clear hT hK hgk nb
            rw [hAd]
            go_wp2_with fail
            go_loopw [173] (fun z wr2 => RelFi M' l' nn w10 z wr2) (fun z _ => nn - (intOf z).toNat)
            case atStart => exact ⟨0, rfl, by omega, HT.out, HK.out⟩
            case round =>
              clear HT HK r2
              obtain ⟨j, rfl, hj, hT, hK⟩ := hrel
              have HT := Lib.hid hT
              have HK := Lib.hid hK
              have r2 := HR2.out _ hK
              by_cases hjn : j < nn
              · have hji : (j : Int) < (nn : Int) := by omega
                obtain ⟨u, cu, fu⟩ := HTK.out _ hT j hjn
                have hts := fun v => hT.set ⟨gk, j, none⟩ cu v
                have HTS := Lib.hid hts
                have zg := lt_of_cell cu
                clear hT hK hts
                go_wp2
                go_roundw
                case rel => exact ⟨j + 1, rfl, by omega, HTS.out _, HK.out.set (.inl HGK.out) _⟩
                case measure => simp [intOf]; omega
              · obtain rfl : j = nn := by omega
                clear hT hK r2
                go_wp2
                go_roundw
                case rel => exact ⟨k + 1, rfl, by omega, HT.out, HK.out⟩
                case measure => simp [intOf]; omega
          · obtain rfl : k = l'.length := by omega
            have hend := ((Kp.of (HF7.out.call HF10.out)).call hK).to fun x ⟨i, hi, e⟩ => by rw [e]; exact (HM7.out.newg i hi).1
            have HEND := Lib.hid hend
            clear hT hK hend
            go_wp2_with fail
            refine (HRG.out _ HEND.out).mono ?_
            rintro e w11 ⟨M2, rfl, hm11, hf11⟩
            have HM11 := Lib.hid hm11
            have HF11 := Lib.hid (HEND.out.call hf11)
            clear hm11 hf11
            go_wp2_with fail
            refine (HSO.out _ HF11.out).mono ?_
            rintro e w12 ⟨A2, c2, l2, rfl, hrow12, hp12, hs12, hf12⟩
            obtain rfl := HEQ.out l2 hp12 hs12
            have HROW12 := Lib.hid hrow12
            have HF12 := Lib.hid hf12
            clear hrow12 hp12 hs12 hf12
            go_wp2_with fail
            refine (HSL.out _ _ _ _ _ ((HM11.out.fr HF12.out).row HNQ.out) HROW12.out).mono ?_
            rintro e w13 ⟨rfl, hf13⟩
            have HF13 := Lib.hid (HF12.out.call hf13)
            clear hf13
            go_wp2
            go_ret
            exact ⟨rfl, (HFW.out.call HF11.out).call HF13.out⟩
end Go.Proofs.Ytelfokoibmpdlaa
