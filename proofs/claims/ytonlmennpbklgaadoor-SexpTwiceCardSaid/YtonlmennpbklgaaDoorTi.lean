/- allSound answers true for trees that are sound. -/
import Derived.Test.YtonlmennpbklgaaDoorTh
import Derived.Test.YtonlmennpbklgaaDoorPf
import Derived.Deep.AppendLies
import Derived.Deep.DeepCutAuto
namespace Go.Proofs.YtonlmennpbklgaaDoor
open Go.RowKit
set_option linter.unusedSimpArgs false
set_option linter.unusedVariables false

theorem infoSl2 : (Tryd.prog.info? 23).map (fun i => (i.zero, i.size, i.bytes)) = some (some (.slice none 0 0), 1, 24) := by kernel_rfl
theorem blkq (X : World) (n : Nat) (h : X.heap.size = n) (cs : Array Value) (t : TypeId) : (X.alloc (.cells cs t)).heap[n]? = some (.cells cs t (0, 0)) := by
  subst h; exact heap_alloc_new X _
/-- Lists that are still to be looked at. -/
structure Wl where
  l : List T
  A : Option Addr
  c : Nat
def Wl.v (x : Wl) : Value := .slice x.A x.l.length x.c
def Wl.fine (W0 : World) (F : Nat → Prop) (x : Wl) : Prop := RdL W0 F x.A x.l ∧ soL x.l ∧ smL 300000 x.l
def meas : List Wl → Nat
  | [] => 0
  | x :: r => cntL x.l + 1 + meas r
theorem meas_app : ∀ a b : List Wl, meas (a ++ b) = meas a + meas b
  | [], b => by simp [meas]
  | x :: r, b => by simp [meas, meas_app r b]; omega
theorem len_meas : ∀ a : List Wl, a.length ≤ meas a
  | [] => by simp
  | x :: r => by have := len_meas r; simp [meas]; omega
theorem own_form {w : World} {base n : Nat} {e : TypeId} {v : Value} {xs : List Value} (h : w.ownsRow base e 1 v n xs) (hn : 0 < n) : ∃ g c, v = hd g n c := by
  rcases h.2 with ⟨_, h0⟩ | ⟨g, cap, cur, hv, _⟩
  · omega
  · exact ⟨g, cap, hv⟩
/-- The worklist in memory. -/
structure WlR (W0 wr : World) (F : Nat → Prop) (base g c : Nat) (ws : List Wl) : Prop where
  row : wr.ownsRow base 23 1 (hd g ws.length c) ws.length (ws.map Wl.v)
  fine : ∀ x ∈ ws, Wl.fine W0 F x
  fr : Fr W0 wr
  low : W0.heap.size ≤ base
def RelA (W0 : World) (F : Nat → Prop) (base M : Nat) (v : Value) (wr : World) : Prop := ∃ (g c : Nat) (ws : List Wl), v = hd g ws.length c ∧ WlR W0 wr F base g c ws ∧ meas ws ≤ M
def RelB (W0 : World) (F : Nat → Prop) (base M : Nat) (l : List T) (v iv : Value) (wr : World) : Prop := ∃ (g c j : Nat) (ws : List Wl), j ≤ l.length ∧ iv = .int .i64 (j : Int) ∧ v = hd g ws.length c ∧ WlR W0 wr F base g c ws ∧ meas ws + cntL (l.drop j) + 1 ≤ M
theorem WlR.old {W0 wr w' : World} {F : Nat → Prop} {base g c : Nat} {ws : List Wl} (h : WlR W0 wr F base g c ws) (k : Fr wr w') : WlR W0 w' F base g c ws :=
  ⟨own_heap h.row (k.block g (own_cap h.row).2.2), h.fine, h.fr.call k, h.low⟩
theorem WlR.pop {W0 wr : World} {F : Nat → Prop} {base g c : Nat} {ws : List Wl} {x : Wl} (h : WlR W0 wr F base g c (ws ++ [x])) : WlR W0 wr F base g c ws ∧ wr.cell? ⟨g, ws.length, none⟩ = some x.v ∧ ws.length + 1 ≤ c := by
  have hr := h.row
  have hc := (own_cap hr).1
  simp only [List.length_append, List.length_singleton, List.map_append, List.map_cons, List.map_nil] at hr hc
  refine ⟨⟨own_front hr (by simp) (by omega), fun y hy => h.fine y (by simp [hy]), h.fr, h.low⟩, ?_, hc⟩
  rw [World.ownsRow.cellAt hr ws.length (by omega), List.getElem?_append_right (by simp)]
  simp
theorem WlR.push {W0 wr w7 : World} {F : Nat → Prop} {base g c g' c' : Nat} {ws : List Wl} {x : Wl} (h : WlR W0 wr F base g c ws) (hx : Wl.fine W0 F x) (hrow : w7.ownsRow base 23 1 (hd g' (ws.length + 1) c') (ws.length + 1) (ws.map Wl.v ++ [x.v])) (hf : Fr W0 w7) : WlR W0 w7 F base g' c' (ws ++ [x]) :=
  ⟨by simpa using hrow, fun y hy => by
    rcases List.mem_append.1 hy with hy | hy
    · exact h.fine y hy
    · simp at hy; subst hy; exact hx, hf, h.low⟩
set_option maxHeartbeats 6400000 in
set_option maxRecDepth 100000 in
theorem allsound_true (l : List T) (A : Option Addr) (c : Nat) (F : Nat → Prop) (w : World) (hso : soL l) (hsm : smL 300000 l) (hcn : cntL l ≤ 65536) (hr : RdL w F A l) (hF : ∀ b, F b → b < w.heap.size) :
    Calls Tryd.prog 20 #[.slice A l.length c] w fun e w' => e = .returned (.bool true) ∧ Fr w w' := by
  have HF := Lib.hid hF
  have HS0 := Lib.hid (show WlR w (w.alloc (.cells #[.slice A l.length c] 23)) F w.heap.size w.heap.size 1 [⟨l, A, c⟩] from
    ⟨⟨rfl, .inr ⟨w.heap.size, 1, #[.slice A l.length c], rfl, Nat.le_refl _, heap_alloc_new w _, Nat.le_refl _, by unfold maxLen; omega, rfl, rfl⟩⟩, fun x hx => by simp at hx; subst hx; exact ⟨hr, hso, hsm⟩, (Fr.refl w).alloc _, Nat.le_refl _⟩)
  have hln := len_le_cnt l
  have HM := Lib.hid (show cntL l + 1 ≤ 65537 from by omega)
  clear hso hsm hr hF hcn hln
  go_enter Tryd.func20, Tryd.ntmps20
  go_wp2
  go_loopg [3] (cntL l + 1) (fun g v wr => RelA w F w.heap.size g v wr ∧ g ≤ 65537)
  case atStart => exact ⟨⟨w.heap.size, 1, [⟨l, A, c⟩], rfl, HS0.out, by simp [meas]⟩, HM.out⟩
  case round =>
    obtain ⟨⟨g, c', ws, rfl, hW, hms⟩, hgk⟩ := hrel
    rcases List.eq_nil_or_concat ws with rfl | ⟨ws, x, rfl⟩
    · have HFr := Lib.hid hW.fr
      clear hW hms
      go_wp2
      go_ret
      exact ⟨rfl, HFr.out⟩
    · rw [List.concat_eq_append] at *
      rw [show (ws ++ [x]).length = ws.length + 1 by simp]
      obtain ⟨hW1, hc1, hcap⟩ := hW.pop
      have hfx := hW.fine x (by simp)
      rw [meas_app] at hms
      simp only [meas] at hms
      have hlm := len_meas ws
      have HW1 := Lib.hid hW1
      have HFX := Lib.hid hfx
      have hlx := len_le_cnt x.l
      obtain ⟨lx, Ax, cx⟩ := x
      unfold Wl.v at hc1
      simp only at hc1 hms hlx
      have hwl : (ws.length : Int) ≤ 65537 := by omega
      have hxl : (lx.length : Int) ≤ 65537 := by omega
      have hcp : (ws.length : Int) + 1 ≤ (c' : Int) := by omega
      have hgs : g < wr.heap.size := lt_of_cell hc1
      have HMS := Lib.hid hms
      have HGK := Lib.hid hgk
      clear hW hW1 hfx hms hgk hlm
      generalize gk = gM at *
      go_wp2
      go_loopg [3, 25] lx.length (fun gi v iv wx => RelB w F w.heap.size gM lx v iv wx ∧ gi = lx.length - (intOf iv).toNat)
      case atStart => exact ⟨⟨g, c', 0, ws, Nat.zero_le _, rfl, rfl, HW1.out, by have := HMS.out; simp; omega⟩, by simp [intOf]⟩
      case round =>
        obtain ⟨⟨g2, c2, j, ws2, hj, rfl, rfl, hW2, hm2⟩, hgi⟩ := hrel
        have hjb : (j : Int) ≤ 65537 := by omega
        have HGI := Lib.hid (show gk = lx.length - j from by simpa [intOf] using hgi)
        clear hgi
        have HW2 := Lib.hid hW2
        have HM2 := Lib.hid hm2
        have hl2 := len_meas ws2
        have hwl2 : ws2.length ≤ 65537 := by have := HGK.out; omega
        have hg2 : g2 < wr.heap.size := (own_cap hW2.row).2.2
        have hfr2 := hW2.fr
        clear hW2 hm2 hl2
        by_cases hlt : j < lx.length
        · obtain ⟨b, o, rfl, hbF, ht⟩ := HFX.out.1.elem j hlt
          have HSo := Lib.hid (soL_at hlt HFX.out.2.1)
          have HSm := Lib.hid (smL_at hlt HFX.out.2.2)
          have HCD := Lib.hid (show cntL (lx.drop j) = cntT lx[j] + cntL (lx.drop (j + 1)) from by rw [List.drop_eq_getElem_cons hlt]; simp [cntL])
          generalize lx[j] = x at *
          obtain ⟨kd, s, n, kk⟩ := x
          unfold RdT at ht
          obtain ⟨A2, c3, hc3, h0, h1, h2, h3, hkk⟩ := ht
          rw [Nat.mul_comm 4 j] at h0 h1 h2 h3
          have a0 := hfr2.get h0
          have a1 := hfr2.get h1
          have a2 := hfr2.get h2
          have a3 := hfr2.get h3
          have HKK := Lib.hid (show Wl.fine w F ⟨kk, A2, c3⟩ ∨ kk = [] from by
            have hso := HSo.out
            have hsm := HSm.out
            unfold soT at hso
            unfold smT at hsm
            rcases hso with ⟨_, _, _, h⟩ | ⟨_, _, _, h⟩ | ⟨_, _, _, h⟩ | ⟨_, _, _, h⟩
            · exact .inr h
            · exact .inr h
            · exact .inr h
            · exact .inl ⟨hkk, h, hsm.2⟩)
          have lb := lt_of_cell a0
          have hs3 : s.size ≤ 300000 := by have := HSm.out; unfold smT at this; exact this.1
          have HT := Lib.hid (sound_true kd n s kk A2 c3 (wr.alloc (.cells #[.int .i64 kd, .string s, .int .i64 n, .slice A2 kk.length c3] 38)) HSo.out hs3)
          have HFA := Lib.hid (show Fr wr (wr.alloc (.cells #[.int .i64 kd, .string s, .int .i64 n, .slice A2 kk.length c3] 38)) from (Fr.refl wr).alloc _)
          have HBX := Lib.hid (Bk.new wr 38 #[.int .i64 kd, .string s, .int .i64 n, .slice A2 kk.length c3])
          have HCT := Lib.hid (show cntT (.node kd s n kk) = 1 + cntL kk from by simp [cntT])
          clear hkk h0 h1 h2 h3 hfr2
          by_cases hk0 : kk.length = 0
          · have dk : decide (0 < kk.length) = false := by rw [decide_eq_false_iff_not]; omega
            have HK0 := Lib.hid hk0
            clear hk0
            go_wp2_with fail
            refine (HT.out).mono ?_
            rintro e w5 ⟨rfl, hf5⟩
            have HF5 := Lib.hid (HFA.out.call hf5)
            obtain ⟨r0, r1, r2, r3, _, _, _, _⟩ := (HBX.out.fr hf5).four
            clear hf5
            go_wp2
            go_roundg (lx.length - (j + 1))
            case measure => have := HGI.out; omega
            case rel => exact ⟨⟨g2, c2, j + 1, ws2, by omega, by go_num, rfl, HW2.out.old HF5.out, by have := HM2.out; have := HCD.out; have := HCT.out; omega⟩, by simp [intOf] <;> omega⟩
          · have dk : 0 < kk.length := by omega
            have HKF := Lib.hid (show Wl.fine w F ⟨kk, A2, c3⟩ from HKK.out.elim id (fun e => absurd (congrArg List.length e) hk0))
            obtain ⟨i0, hi0, hz0, hz1, hz2⟩ := info_parts infoSl2
            clear hk0
            go_wp2_with fail
            refine (HT.out).mono ?_
            rintro e w5 ⟨rfl, hf5⟩
            have HF5 := Lib.hid (HFA.out.call hf5)
            obtain ⟨r0, r1, r2, r3, _, _, _, _⟩ := (HBX.out.fr hf5).four
            have HO5 := Lib.hid (own_heap HW2.out.row (HF5.out.block g2 hg2))
            clear hf5
            go_wp2_with (at_builtin; refine wpList_append_lies _ rfl (.tmp 36) (.tmp 39) 39 rfl w.heap.size 23 i0 _ 1 24 Tryd.underlying39 hi0 hz0 hz1 hz2 rfl (by omega) (hd g2 ws2.length c2) ws2.length _ rfl (HO5.out.alloc _) ⟨w5.heap.size, 0, none⟩ 1 1 [.slice A2 kk.length c3] rfl rfl (World.news_of_block (blkq _ _ (by simp) #[.slice A2 kk.length c3] 23)) (by simp [Value.oneCell']) (by omega) (by unfold maxLen; omega) (by omega) (by have := HW2.out.fr.size; have := HF5.out.size; simp; omega) (w5.heap.size + 1) (by simp) ?_; intro gg cap w7 ho7 hg7 hat7 hlt7; have HO7 := Lib.hid ho7; have HG7 := Lib.hid hg7; clear ho7 hg7 hat7)
            go_roundg (lx.length - (j + 1))
            case measure => have := HGI.out; omega
            case rel =>
              refine ⟨⟨gg, cap, j + 1, ws2 ++ [⟨kk, A2, c3⟩], by omega, by go_num, by simp, HW2.out.push (x := ⟨kk, A2, c3⟩) HKF.out HO7.out ?_, ?_⟩, by simp [intOf] <;> omega⟩
              · refine Below.grown (HW2.out.fr.call (HF5.out.alloc _)) HG7.out (by have := HW2.out.fr.size; have := HF5.out.size; simp; omega) (fun q hq => ?_)
                have e' : some g2 = some q := hq
                injection e' with e'
                have := (own_cap HW2.out.row).2.1
                have := HW2.out.low
                omega
              · rw [meas_app]; simp only [meas]; have := HM2.out; have := HCD.out; have := HCT.out; omega
        · obtain rfl : j = lx.length := by omega
          have hm3 := HM2.out
          rw [List.drop_length] at hm3
          simp only [cntL] at hm3
          have HM3 := Lib.hid hm3
          clear hm3
          go_wp2
          go_roundg (gM - 1)
          case measure => have := HM3.out; omega
          case rel => exact ⟨⟨g2, c2, ws2, rfl, HW2.out, by have := HM3.out; omega⟩, by have := HGK.out; omega⟩
end Go.Proofs.YtonlmennpbklgaaDoor
