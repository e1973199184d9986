/- allSound answers whether all trees are sound. The printer's trees and lists, whatever their number and depth. -/
import Derived.Test.YtonlmennpbklgaaDoorUd
import Derived.Test.YtonlmennpbklgaaDoorPf
import Derived.Deep.AppendLies
import Derived.Deep.DeepCutAuto
namespace Go.Proofs.YtonlmennpbklgaaDoor
open Go.RowKit
set_option linter.unusedSimpArgs false
set_option linter.unusedVariables false

theorem infoSq : (Tryd.prog.info? 23).map (fun i => (i.zero, i.size, i.bytes)) = some (some (.slice none 0 0), 1, 24) := by kernel_rfl
theorem blkr (X : World) (n : Nat) (h : X.heap.size = n) (cs : Array Value) (t : TypeId) : (X.alloc (.cells cs t)).heap[n]? = some (.cells cs t (0, 0)) := by
  subst h; exact heap_alloc_new X _
/-- Lists that are still to be looked at. -/
structure Wq where
  l : List T
  A : Option Addr
  c : Nat
def Wq.v (x : Wq) : Value := .slice x.A x.l.length x.c
def Wq.fine (W0 : World) (F : Nat → Prop) (x : Wq) : Prop := RdL W0 F x.A x.l ∧ smL 1100000 x.l
def measq : List Wq → Nat
  | [] => 0
  | x :: r => cntL x.l + 1 + measq r
theorem measq_app : ∀ a b : List Wq, measq (a ++ b) = measq a + measq b
  | [], b => by simp [measq]
  | x :: r, b => by simp [measq, measq_app r b]; omega
theorem len_measq : ∀ a : List Wq, a.length ≤ measq a
  | [] => by simp
  | x :: r => by have := len_measq r; simp [measq]; omega
theorem own_formq {w : World} {base n : Nat} {e : TypeId} {v : Value} {xs : List Value} (h : w.ownsRow base e 1 v n xs) (hn : 0 < n) : ∃ g c, v = hd g n c := by
  rcases h.2 with ⟨_, h0⟩ | ⟨g, cap, cur, hv, _⟩
  · omega
  · exact ⟨g, cap, hv⟩
/-- The worklist in memory. -/
structure WqR (W0 wr : World) (F : Nat → Prop) (base g c : Nat) (ws : List Wq) : Prop where
  row : wr.ownsRow base 23 1 (hd g ws.length c) ws.length (ws.map Wq.v)
  fine : ∀ x ∈ ws, Wq.fine W0 F x
  fr : Fr W0 wr
  low : W0.heap.size ≤ base
def RelQa (l0 : List T) (W0 : World) (F : Nat → Prop) (base M : Nat) (v : Value) (wr : World) : Prop := ∃ (g c : Nat) (ws : List Wq), v = hd g ws.length c ∧ WqR W0 wr F base g c ws ∧ measq ws ≤ M ∧ (soL l0 ↔ ∀ x ∈ ws, soL x.l)
def RelQb (l0 : List T) (W0 : World) (F : Nat → Prop) (base M : Nat) (l : List T) (v iv : Value) (wr : World) : Prop := ∃ (g c j : Nat) (ws : List Wq), j ≤ l.length ∧ iv = .int .i64 (j : Int) ∧ v = hd g ws.length c ∧ WqR W0 wr F base g c ws ∧ measq ws + cntL (l.drop j) + 1 ≤ M ∧ (soL l0 ↔ (∀ x ∈ ws, soL x.l) ∧ soL (l.drop j))
theorem WqR.old {W0 wr w' : World} {F : Nat → Prop} {base g c : Nat} {ws : List Wq} (h : WqR W0 wr F base g c ws) (k : Fr wr w') : WqR W0 w' F base g c ws :=
  ⟨own_heap h.row (k.block g (own_cap h.row).2.2), h.fine, h.fr.call k, h.low⟩
theorem WqR.pop {W0 wr : World} {F : Nat → Prop} {base g c : Nat} {ws : List Wq} {x : Wq} (h : WqR W0 wr F base g c (ws ++ [x])) : WqR W0 wr F base g c ws ∧ wr.cell? ⟨g, ws.length, none⟩ = some x.v ∧ ws.length + 1 ≤ c := by
  have hr := h.row
  have hc := (own_cap hr).1
  simp only [List.length_append, List.length_singleton, List.map_append, List.map_cons, List.map_nil] at hr hc
  refine ⟨⟨own_front hr (by simp) (by omega), fun y hy => h.fine y (by simp [hy]), h.fr, h.low⟩, ?_, hc⟩
  rw [World.ownsRow.cellAt hr ws.length (by omega), List.getElem?_append_right (by simp)]
  simp
theorem WqR.push {W0 wr w7 : World} {F : Nat → Prop} {base g c g' c' : Nat} {ws : List Wq} {x : Wq} (h : WqR W0 wr F base g c ws) (hx : Wq.fine W0 F x) (hrow : w7.ownsRow base 23 1 (hd g' (ws.length + 1) c') (ws.length + 1) (ws.map Wq.v ++ [x.v])) (hf : Fr W0 w7) : WqR W0 w7 F base g' c' (ws ++ [x]) :=
  ⟨by simpa using hrow, fun y hy => by
    rcases List.mem_append.1 hy with hy | hy
    · exact h.fine y hy
    · simp at hy; subst hy; exact hx, hf, h.low⟩
theorem soL_drop {l : List T} {j : Nat} (h : j < l.length) : soL (l.drop j) ↔ soT l[j] ∧ soL (l.drop (j + 1)) := by
  rw [List.drop_eq_getElem_cons h]
  conv => lhs; unfold soL
set_option maxHeartbeats 6400000 in
set_option maxRecDepth 100000 in
theorem allsound_any (l : List T) (A : Option Addr) (c : Nat) (F : Nat → Prop) (w : World) (hsm : smL 1100000 l) (hcn : cntL l ≤ 1100000) (hr : RdL w F A l) (hF : ∀ b, F b → b < w.heap.size) :
    Calls Tryd.prog 20 #[.slice A l.length c] w fun e w' => Ans (soL l) w e w' := by
  have HF := Lib.hid hF
  have HS0 := Lib.hid (show WqR w (w.alloc (.cells #[.slice A l.length c] 23)) F w.heap.size w.heap.size 1 [⟨l, A, c⟩] from
    ⟨⟨rfl, .inr ⟨w.heap.size, 1, #[.slice A l.length c], rfl, Nat.le_refl _, heap_alloc_new w _, Nat.le_refl _, by unfold maxLen; omega, rfl, rfl⟩⟩, fun x hx => by simp at hx; subst hx; exact ⟨hr, hsm⟩, (Fr.refl w).alloc _, Nat.le_refl _⟩)
  have hln := len_le_cnt l
  have HM := Lib.hid (show cntL l + 1 ≤ 1100001 from by omega)
  clear hsm hr hF hcn hln
  go_enter Tryd.func20, Tryd.ntmps20
  go_wp2
  go_loopg [3] (cntL l + 1) (fun g v wr => RelQa l w F w.heap.size g v wr ∧ g ≤ 1100001)
  case atStart => exact ⟨⟨w.heap.size, 1, [⟨l, A, c⟩], rfl, HS0.out, by simp [measq], by simp⟩, HM.out⟩
  case round =>
    obtain ⟨⟨g, c', ws, rfl, hW, hms, hso⟩, hgk⟩ := hrel
    rcases List.eq_nil_or_concat ws with rfl | ⟨ws, x, rfl⟩
    · have R := Lib.hid (show Ans (soL l) w (.returned (.bool true)) wr from ⟨true, rfl, by rw [hso]; simp, hW.fr⟩)
      clear hW hms hso
      go_wp2
      go_ret
      exact R.out
    · rw [List.concat_eq_append] at *
      rw [show (ws ++ [x]).length = ws.length + 1 by simp]
      obtain ⟨hW1, hc1, hcap⟩ := hW.pop
      have hfx := hW.fine x (by simp)
      rw [measq_app] at hms
      simp only [measq] at hms
      have hlm := len_measq ws
      have HW1 := Lib.hid hW1
      have HFX := Lib.hid hfx
      have HSO := Lib.hid (show soL l ↔ (∀ x ∈ ws, soL x.l) ∧ soL (x.l.drop 0) from by
        rw [hso, List.drop_zero]
        constructor
        · intro h; exact ⟨fun y hy => h y (by simp [hy]), h x (by simp)⟩
        · rintro ⟨h1, h2⟩ y hy
          rcases List.mem_append.1 hy with hy | hy
          · exact h1 y hy
          · simp at hy; subst hy; exact h2)
      have hlx := len_le_cnt x.l
      obtain ⟨lx, Ax, cx⟩ := x
      unfold Wq.v at hc1
      simp only at hc1 hms hlx
      have hwl : (ws.length : Int) ≤ 1100001 := by omega
      have hxl : (lx.length : Int) ≤ 1100001 := by omega
      have hcp : (ws.length : Int) + 1 ≤ (c' : Int) := by omega
      have hgs : g < wr.heap.size := lt_of_cell hc1
      have HMS := Lib.hid hms
      have HGK := Lib.hid hgk
      clear hW hW1 hfx hms hgk hlm hso
      generalize gk = gM at *
      go_wp2
      go_loopg [3, 25] lx.length (fun gi v iv wx => RelQb l w F w.heap.size gM lx v iv wx ∧ gi = lx.length - (intOf iv).toNat)
      case atStart => exact ⟨⟨g, c', 0, ws, Nat.zero_le _, rfl, rfl, HW1.out, by have := HMS.out; simp; omega, HSO.out⟩, by simp [intOf]⟩
      case round =>
        obtain ⟨⟨g2, c2, j, ws2, hj, rfl, rfl, hW2, hm2, hso2⟩, hgi⟩ := hrel
        have hjb : (j : Int) ≤ 1100001 := by omega
        have HGI := Lib.hid (show gk = lx.length - j from by simpa [intOf] using hgi)
        clear hgi
        have HW2 := Lib.hid hW2
        have HM2 := Lib.hid hm2
        have HS2 := Lib.hid hso2
        have hl2 := len_measq ws2
        have hwl2 : ws2.length ≤ 1100001 := by have := HGK.out; omega
        have hg2 : g2 < wr.heap.size := (own_cap hW2.row).2.2
        have hfr2 := hW2.fr
        clear hW2 hm2 hl2 hso2 HSO
        by_cases hlt : j < lx.length
        · obtain ⟨b, o, rfl, hbF, ht⟩ := HFX.out.1.elem j hlt
          have HSm := Lib.hid (smL_at hlt HFX.out.2)
          have HCD := Lib.hid (show cntL (lx.drop j) = cntT lx[j] + cntL (lx.drop (j + 1)) from by rw [List.drop_eq_getElem_cons hlt]; simp [cntL])
          have HSD := Lib.hid (soL_drop hlt)
          generalize lx[j] = x at *
          obtain ⟨kd, s, n, kk⟩ := x
          unfold RdT at ht
          obtain ⟨A2, c3, hc3, h0, h1, h2, h3, hkk⟩ := ht
          rw [Nat.mul_comm 4 j] at h0 h1 h2 h3
          have a0 := hfr2.get h0
          have a1 := hfr2.get h1
          have a2 := hfr2.get h2
          have a3 := hfr2.get h3
          have HKF := Lib.hid (show Wq.fine w F ⟨kk, A2, c3⟩ from ⟨hkk, by have hsm := HSm.out; unfold smT at hsm; exact hsm.2⟩)
          have lb := lt_of_cell a0
          have hs3 : s.size ≤ 1100000 := by have := HSm.out; unfold smT at this; exact this.1
          have HCT := Lib.hid (show cntT (.node kd s n kk) = 1 + cntL kk from by simp [cntT])
          have hkl : kk.length ≤ 1100000 := by have h1 := HM2.out; have h2 := HCD.out; have h3 := HCT.out; have h4 := HGK.out; have h5 := len_le_cnt kk; omega
          have HT := Lib.hid (sound_any kd n s kk.length A2 c3 (wr.alloc (.cells #[.int .i64 kd, .string s, .int .i64 n, .slice A2 kk.length c3] 38)) hs3 hkl)
          have HFA := Lib.hid (show Fr wr (wr.alloc (.cells #[.int .i64 kd, .string s, .int .i64 n, .slice A2 kk.length c3] 38)) from (Fr.refl wr).alloc _)
          have HBX := Lib.hid (Bk.new wr 38 #[.int .i64 kd, .string s, .int .i64 n, .slice A2 kk.length c3])
          have HTI := Lib.hid (soT_iff (k := kd) (n := n) (s := s) (ks := kk))
          clear hkk h0 h1 h2 h3 hfr2
          by_cases hk0 : kk.length = 0
          · have dk : decide (0 < kk.length) = false := by rw [decide_eq_false_iff_not]; omega
            have HK0 := Lib.hid (show soL kk from by rw [len_nil.1 hk0]; unfold soL; trivial)
            clear hk0
            go_wp2_with fail
            refine (HT.out).mono ?_
            rintro e w5 ⟨bb, rfl, hb, hf5⟩
            have HF5 := Lib.hid (HFA.out.call hf5)
            have HB5 := Lib.hid hb
            obtain ⟨r0, r1, r2, r3, _, _, _, _⟩ := (HBX.out.fr hf5).four
            clear hf5 hb
            cases bb with
            | true =>
              have HN := Lib.hid (show soL l ↔ (∀ x ∈ ws2, soL x.l) ∧ soL (lx.drop (j + 1)) from by
                rw [HS2.out, HSD.out, HTI.out]
                have h1 := HB5.out.1 rfl
                exact ⟨fun h => ⟨h.1, h.2.2⟩, fun h => ⟨h.1, ⟨h1, HK0.out⟩, h.2⟩⟩)
              go_wp2
              go_roundg (lx.length - (j + 1))
              case measure => have := HGI.out; omega
              case rel => exact ⟨⟨g2, c2, j + 1, ws2, by omega, by go_num, rfl, HW2.out.old HF5.out, by have := HM2.out; have := HCD.out; have := HCT.out; omega, HN.out⟩, by simp [intOf] <;> omega⟩
            | false =>
              have R := Lib.hid (show Ans (soL l) w (.returned (.bool false)) w5 from ⟨false, rfl, by
                have h1 := HB5.out
                simp only [Bool.false_eq_true, false_iff] at h1 ⊢
                rw [HS2.out, HSD.out, HTI.out]
                exact fun h => h1 h.2.1.1, HW2.out.fr.call HF5.out⟩)
              go_wp2
              go_ret
              exact R.out
          · have dk : 0 < kk.length := by omega
            obtain ⟨i0, hi0, hz0, hz1, hz2⟩ := info_parts infoSq
            clear hk0
            go_wp2_with fail
            refine (HT.out).mono ?_
            rintro e w5 ⟨bb, rfl, hb, hf5⟩
            have HF5 := Lib.hid (HFA.out.call hf5)
            have HB5 := Lib.hid hb
            obtain ⟨r0, r1, r2, r3, _, _, _, _⟩ := (HBX.out.fr hf5).four
            have HO5 := Lib.hid (own_heap HW2.out.row (HF5.out.block g2 hg2))
            clear hf5 hb
            cases bb with
            | false =>
              have R := Lib.hid (show Ans (soL l) w (.returned (.bool false)) w5 from ⟨false, rfl, by
                have h1 := HB5.out
                simp only [Bool.false_eq_true, false_iff] at h1 ⊢
                rw [HS2.out, HSD.out, HTI.out]
                exact fun h => h1 h.2.1.1, HW2.out.fr.call HF5.out⟩)
              go_wp2
              go_ret
              exact R.out
            | true =>
              have HN := Lib.hid (show soL l ↔ (∀ x ∈ ws2 ++ [⟨kk, A2, c3⟩], soL x.l) ∧ soL (lx.drop (j + 1)) from by
                rw [HS2.out, HSD.out, HTI.out]
                have h1 := HB5.out.1 rfl
                constructor
                · rintro ⟨h2, ⟨_, h3⟩, h4⟩
                  refine ⟨fun y hy => ?_, h4⟩
                  rcases List.mem_append.1 hy with hy | hy
                  · exact h2 y hy
                  · simp at hy; subst hy; exact h3
                · rintro ⟨h2, h3⟩
                  exact ⟨fun y hy => h2 y (by simp [hy]), ⟨h1, h2 ⟨kk, A2, c3⟩ (by simp)⟩, h3⟩)
              go_wp2_with (at_builtin; refine wpList_append_lies _ rfl (.tmp 36) (.tmp 39) 39 rfl w.heap.size 23 i0 _ 1 24 Tryd.underlying39 hi0 hz0 hz1 hz2 rfl (by omega) (hd g2 ws2.length c2) ws2.length _ rfl (HO5.out.alloc _) ⟨w5.heap.size, 0, none⟩ 1 1 [.slice A2 kk.length c3] rfl rfl (World.news_of_block (blkr _ _ (by simp) #[.slice A2 kk.length c3] 23)) (by simp [Value.oneCell']) (by omega) (by unfold maxLen; omega) (by omega) (by have := HW2.out.fr.size; have := HF5.out.size; simp; omega) (w5.heap.size + 1) (by simp) ?_; intro gg cap w7 ho7 hg7 hat7 hlt7; have HO7 := Lib.hid ho7; have HG7 := Lib.hid hg7; clear ho7 hg7 hat7)
              go_roundg (lx.length - (j + 1))
              case measure => have := HGI.out; omega
              case rel =>
                refine ⟨⟨gg, cap, j + 1, ws2 ++ [⟨kk, A2, c3⟩], by omega, by go_num, by simp, HW2.out.push (x := ⟨kk, A2, c3⟩) HKF.out HO7.out ?_, ?_, HN.out⟩, by simp [intOf] <;> omega⟩
                · refine Below.grown (HW2.out.fr.call (HF5.out.alloc _)) HG7.out (by have := HW2.out.fr.size; have := HF5.out.size; simp; omega) (fun q hq => ?_)
                  have e' : some g2 = some q := hq
                  injection e' with e'
                  have := (own_cap HW2.out.row).2.1
                  have := HW2.out.low
                  omega
                · rw [measq_app]; simp only [measq]; have := HM2.out; have := HCD.out; have := HCT.out; omega
        · obtain rfl : j = lx.length := by omega
          have hm3 := HM2.out
          rw [List.drop_length] at hm3
          simp only [cntL] at hm3
          have HM3 := Lib.hid hm3
          have HN := Lib.hid (show soL l ↔ ∀ x ∈ ws2, soL x.l from by
            rw [HS2.out, List.drop_length]
            exact ⟨fun h => h.1, fun h => ⟨h, by unfold soL; trivial⟩⟩)
          clear hm3
          go_wp2
          go_roundg (gM - 1)
          case measure => have := HM3.out; omega
          case rel => exact ⟨⟨g2, c2, ws2, rfl, HW2.out, by have := HM3.out; omega, HN.out⟩, by have := HGK.out; omega⟩
end Go.Proofs.YtonlmennpbklgaaDoor
namespace Go.Proofs.YtonlmennpbklgaaDoor
open Go.RowKit
set_option linter.unusedSimpArgs false
set_option linter.unusedVariables false

/-- What a put leaves: the text with it (and so many trees), or no, just where it must. -/
def PutG (p : Nat) (bs xs : List UInt8) (k : Nat) (ok : Prop) (w : World) (e : Ending) (w' : World) : Prop :=
  (ok ∧ bs.length + xs.length ≤ 262144 ∧ e = .returned (.bool true) ∧ Pn w' p (bs ++ xs) k ∧ Old p w w') ∨ (¬ (ok ∧ bs.length + xs.length ≤ 262144) ∧ e = .returned (.bool false) ∧ Old p w w')
theorem PutG.of {p k : Nat} {bs xs : List UInt8} {ok : Prop} {w w' : World} {e : Ending} (h : PutP p bs xs k w e w') (hk : ok) : PutG p bs xs k ok w e w' := by
  rcases h with ⟨h1, h2, h3, h4⟩ | ⟨h1, h2, h3⟩
  · exact .inl ⟨hk, h1, h2, h3, h4⟩
  · exact .inr ⟨fun h => by omega, h2, h3⟩
def PTreeG (p N : Nat) : Prop := ∀ (W0 w : World) (F : Nat → Prop) (kd n : Int) (s : ByteArray) (ks : List T) (A : Option Addr) (c d k : Nat) (bs : List UInt8), cntT (.node kd s n ks) ≤ N → cntT (.node kd s n ks) ≤ 1100000 → Pw W0 w p → Pn w p bs k → soT (.node kd s n ks) → smT 1100000 (.node kd s n ks) → RdL W0 F A ks → (∀ b, F b → b < W0.heap.size) →
  k ≤ 65536 → d ≤ 32 → bs.length ≤ 262144 →
  Calls Tryd.prog 21 #[.pointer (some ⟨p, 0, none⟩), tva kd s n A ks.length c, .int .i64 (d : Int)] w fun e w' => PutG p bs (prT (.node kd s n ks)) (k + cntT (.node kd s n ks)) (k + cntT (.node kd s n ks) ≤ 65536 ∧ d + depL [.node kd s n ks] ≤ 32) w e w'
def PListG (p N : Nat) : Prop := ∀ (W0 w : World) (F : Nat → Prop) (ks : List T) (A : Option Addr) (c d k : Nat) (bs : List UInt8), cntL ks ≤ N → cntL ks ≤ 1100000 → Pw W0 w p → Pn w p bs k → soL ks → smL 1100000 ks → RdL W0 F A ks → (∀ b, F b → b < W0.heap.size) →
  k ≤ 65536 → d ≤ 33 → bs.length ≤ 262144 →
  Calls Tryd.prog 34 #[.pointer (some ⟨p, 0, none⟩), .slice A ks.length c, .int .i64 (d : Int)] w fun e w' => PutG p bs (40 :: (prK ks ++ [41])) (k + cntL ks) (k + cntL ks ≤ 65536 ∧ d + depL ks ≤ 32) w e w'
set_option maxHeartbeats 3200000 in
set_option maxRecDepth 100000 in
theorem ptree_full (p : Nat) (w : World) (kd n : Int) (s : ByteArray) (A : Option Addr) (m c : Nat) (d : Nat) (bs : List UInt8) (hp : Pn w p bs 65536) :
    Calls Tryd.prog 21 #[.pointer (some ⟨p, 0, none⟩), tva kd s n A m c, .int .i64 (d : Int)] w fun e w' => e = .returned (.bool false) ∧ Old p w w' := by
  obtain ⟨hb1, hold⟩ := boxed hp #[.int .i64 kd, .string s, .int .i64 n, .slice A m c]
  have HO := Lib.hid hold
  obtain ⟨c2, f2, lp⟩ := hp.cells
  clear hb1 hold hp
  go_enter Tryd.func21, Tryd.ntmps21
  go_wp2
  go_ret
  exact ⟨rfl, HO.out⟩
set_option maxHeartbeats 3200000 in
set_option maxRecDepth 100000 in
theorem ptree_listg (p N : Nat) (ih : PListG p N) (W0 w : World) (F : Nat → Prop) (ks : List T) (A : Option Addr) (c d k : Nat) (bs : List UInt8) (hN : cntL ks ≤ N) (hN2 : cntL ks ≤ 1100000) (hw : Pw W0 w p) (hp : Pn w p bs k) (hso : soL ks) (hsm : smL 1100000 ks) (hr : RdL W0 F A ks) (hF : ∀ b, F b → b < W0.heap.size)
    (hk : k + 1 ≤ 65536) (hd : d ≤ 32) (hl : bs.length ≤ 262144) :
    Calls Tryd.prog 21 #[.pointer (some ⟨p, 0, none⟩), tva 4 ⟨#[]⟩ 0 A ks.length c, .int .i64 (d : Int)] w fun e w' => PutG p bs (40 :: (prK ks ++ [41])) (k + (1 + cntL ks)) (k + (1 + cntL ks) ≤ 65536 ∧ d + (depL ks + 1) ≤ 32) w e w' := by
  obtain ⟨hb1, hold⟩ := boxed hp #[.int .i64 4, .string ⟨#[]⟩, .int .i64 0, .slice A ks.length c]
  have hh := ih W0 _ F ks A c (d + 1) (k + 1) bs hN hN2 (hw.next hold) hb1 hso hsm hr hF hk (by omega) hl
  rw [show ((d + 1 : Nat) : Int) = (d : Int) + 1 by omega] at hh
  have HP := Lib.hid hh
  have HO := Lib.hid hold
  obtain ⟨c2, f2, lp⟩ := hp.cells
  have dk : decide ((65536 : Int) < (k : Int) + 1) = false := by rw [decide_eq_false_iff_not]; omega
  have hk2 : (k : Int) ≤ 70000 := by omega
  have hd2 : (d : Int) ≤ 40 := by omega
  have HK := Lib.hid (show k + 1 + cntL ks = k + (1 + cntL ks) from by omega)
  clear hb1 hold hp hk hh ih hw hd hso hsm hr hF
  go_enter Tryd.func21, Tryd.ntmps21
  go_wp2_with fail
  refine (HP.out).mono ?_
  rintro e w1 (⟨g0, g1, rfl, g3, g4⟩ | ⟨g1, rfl, g4⟩)
  · have R := Lib.hid (show PutG p bs (40 :: (prK ks ++ [41])) (k + (1 + cntL ks)) (k + (1 + cntL ks) ≤ 65536 ∧ d + (depL ks + 1) ≤ 32) w (.returned (.bool true)) w1 from .inl ⟨⟨by omega, by omega⟩, g1, rfl, HK.out ▸ g3, HO.out.trans g4⟩)
    clear g0 g1 g3 g4
    go_wp2
    go_ret
    exact R.out
  · have R := Lib.hid (show PutG p bs (40 :: (prK ks ++ [41])) (k + (1 + cntL ks)) (k + (1 + cntL ks) ≤ 65536 ∧ d + (depL ks + 1) ≤ 32) w (.returned (.bool false)) w1 from .inr ⟨fun h => g1 ⟨⟨by omega, by omega⟩, h.2⟩, rfl, HO.out.trans g4⟩)
    clear g1 g4
    go_wp2
    go_ret
    exact R.out
theorem ptree_ofg (p N : Nat) (ih : PListG p N) : PTreeG p (N + 1) := by
  intro W0 w F kd n s ks A c d k bs hN hN2 hw hp hso hsm hr hF hk hd hl
  by_cases hf : k + 1 ≤ 65536
  · have hso' := hso
    unfold soT at hso'
    unfold smT at hsm
    rcases hso' with ⟨rfl, _, rfl, rfl⟩ | ⟨rfl, rfl, hn, rfl⟩ | ⟨rfl, _, rfl, rfl⟩ | ⟨rfl, rfl, rfl, hks⟩
    · have h1 : cntT (.node 1 s 0 []) = 1 := by simp [cntT, cntL]
      have h2 : prT (.node 1 s 0 []) = s.data.toList := by unfold prT; rw [if_pos rfl]
      have h3 : depL [.node 1 s 0 []] = 0 := by simp [depL]
      rw [h1, h2, h3]
      exact (ptree_word p w s A 0 c d k bs hp hsm.1 hf hl).mono fun e w' h => PutG.of h ⟨hf, by omega⟩
    · have h1 : cntT (.node 2 ⟨#[]⟩ n []) = 1 := by simp [cntT, cntL]
      have h2 : prT (.node 2 ⟨#[]⟩ n []) = Lib.itoa n := by unfold prT; rw [if_neg (by decide), if_pos rfl]
      have h3 : depL [.node 2 ⟨#[]⟩ n []] = 0 := by simp [depL]
      rw [h1, h2, h3]
      exact (ptree_num p W0 w n A 0 c d k bs hw hp hn hf hl).mono fun e w' h => PutG.of h ⟨hf, by omega⟩
    · have h1 : cntT (.node 3 s 0 []) = 1 := by simp [cntT, cntL]
      have h2 : prT (.node 3 s 0 []) = 34 :: (s.data.toList ++ [34]) := by unfold prT; rw [if_neg (by decide), if_neg (by decide), if_pos rfl]
      have h3 : depL [.node 3 s 0 []] = 0 := by simp [depL]
      rw [h1, h2, h3]
      exact (ptree_text p w s A 0 c d k bs hp hsm.1 hf hl).mono fun e w' h => PutG.of h ⟨hf, by omega⟩
    · have h1 : cntT (.node 4 ⟨#[]⟩ 0 ks) = 1 + cntL ks := by simp [cntT]
      have h3 : depL [.node 4 ⟨#[]⟩ 0 ks] = depL ks + 1 := by simp [depL]
      rw [h1, prT_list, h3]
      rw [h1] at hN hN2
      exact ptree_listg p N ih W0 w F ks A c d k bs (by omega) (by omega) hw hp hks hsm.2 hr hF hf hd hl
  · obtain rfl : k = 65536 := by omega
    refine (ptree_full p w kd n s A ks.length c d bs hp).mono fun e w' h => .inr ⟨fun h => ?_, h.1, h.2⟩
    have h1 := h.1.1
    have : 1 ≤ cntT (.node kd s n ks) := by simp [cntT]
    omega
theorem depL_step (ks : List T) (j : Nat) (h : j < ks.length) : depL (ks.take (j + 1)) = max (depL (ks.take j)) (depL [ks[j]]) := by
  rw [List.take_succ_eq_append_getElem h]
  generalize ks[j] = x
  obtain ⟨kd, s, n, kk⟩ := x
  rw [depL_snoc]
  simp [depL]
theorem depL_app : ∀ l m : List T, depL (l ++ m) = max (depL l) (depL m)
  | [], m => by simp [depL]
  | .node k s n ks :: r, m => by simp only [List.cons_append, depL, depL_app r m]; omega
theorem depL_most (ks : List T) (j : Nat) : depL (ks.take j) ≤ depL ks := by
  conv => rhs; rw [← List.take_append_drop j ks]
  rw [depL_app]; omega
/-- All is within its bound. -/
def Within (bs : List UInt8) (k d : Nat) (ks : List T) (j : Nat) : Prop := k + cntL (ks.take j) ≤ 65536 ∧ d + depL (ks.take j) ≤ 32 ∧ (bs ++ 40 :: prK (ks.take j)).length ≤ 262144
/-- The end of a round: the tree is printed. -/
def RelLg (p : Nat) (w : World) (bs : List UInt8) (k d : Nat) (ks : List T) (i : Value) (wr : World) : Prop :=
  ∃ j : Nat, j ≤ ks.length ∧ i = .int .i64 (j : Int) ∧ Pn wr p (bs ++ 40 :: prK (ks.take j)) (k + cntL (ks.take j)) ∧ Old p w wr ∧ Within bs k d ks j
theorem put_falseg {p k k' d : Nat} {bs : List UInt8} {ks : List T} {w w' : World} (j : Nat) (h : j < ks.length) (hb : ¬ Within bs k d ks (j + 1)) (ho : Old p w w') : PutG p bs (40 :: (prK ks ++ [41])) k' (k + cntL ks ≤ 65536 ∧ d + depL ks ≤ 32) w (.returned (.bool false)) w' := by
  obtain ⟨Z, e⟩ := prK_more ks j h
  refine .inr ⟨fun hh => hb ?_, rfl, ho⟩
  have h1 := cntL_most ks (j + 1)
  have h2 := depL_most ks (j + 1)
  have h3 := hh.2
  rw [e] at h3
  refine ⟨by omega, by omega, ?_⟩
  simp at h3 ⊢; omega
theorem within_step {k d j : Nat} {bs : List UInt8} {ks : List T} (h : j < ks.length) (hj : Within bs k d ks j) : Within bs k d ks (j + 1) ↔ ((k + cntL (ks.take j) + cntT ks[j] ≤ 65536 ∧ d + depL [ks[j]] ≤ 32) ∧ (bs ++ 40 :: prK (ks.take j) ++ (if j = 0 then [] else [32])).length + (prT ks[j]).length ≤ 262144) := by
  obtain ⟨h1, h2, h3⟩ := hj
  unfold Within
  rw [cntL_step ks j h, depL_step ks j h, prK_step ks j h]
  constructor
  · rintro ⟨a, b, c⟩
    refine ⟨⟨by omega, by omega⟩, ?_⟩
    simp at c ⊢; omega
  · rintro ⟨⟨a, b⟩, c⟩
    refine ⟨by omega, by omega, ?_⟩
    simp at c ⊢; omega
set_option maxHeartbeats 6400000 in
set_option maxRecDepth 100000 in
theorem plist_ofg (p N : Nat) (ih : PTreeG p N) : PListG p N := by
  intro W0 w F ks A c d k bs hN hN2 hw hp hso hsm hr hF hk hd hl
  have HQ := Lib.hid (put_any p k bs ⟨#[40]⟩ w hp hl (by decide))
  have HZ := Lib.hid (fun w' bs' k' (h : Pn w' p bs' k') (h2 : bs'.length ≤ 262144) => put_any p k' bs' ⟨#[32]⟩ w' h h2 (by decide))
  have HY := Lib.hid (fun w' bs' k' (h : Pn w' p bs' k') (h2 : bs'.length ≤ 262144) => put_any p k' bs' ⟨#[41]⟩ w' h h2 (by decide))
  have HI := Lib.hid ih
  have HW := Lib.hid hw
  have HSO := Lib.hid hso
  have HSM := Lib.hid hsm
  have HR := Lib.hid hr
  have HF := Lib.hid hF
  have hln := len_le_cnt ks
  have hks : (ks.length : Int) ≤ 1100000 := by omega
  clear ih hw hp hso hsm hr hF
  by_cases hdd : d = 33
  · subst hdd
    have R := Lib.hid (show PutG p bs (40 :: (prK ks ++ [41])) (k + cntL ks) (k + cntL ks ≤ 65536 ∧ 33 + depL ks ≤ 32) w (.returned (.bool false)) w from .inr ⟨fun h => by omega, rfl, Old.refl _ _⟩)
    go_enter Tryd.func34, Tryd.ntmps34
    go_wp2_with fail
    go_ret
    exact R.out
  have hd2 : (d : Int) ≤ 32 := by omega
  have dd : decide ((32 : Int) < (d : Int)) = false := by rw [decide_eq_false_iff_not]; omega
  go_enter Tryd.func34, Tryd.ntmps34
  go_wp2_with fail
  refine (HQ.out).mono ?_
  rintro e w1 (⟨g1, rfl, g3, g4⟩ | ⟨g1, rfl, g4⟩)
  · have HP1 := Lib.hid g3
    have HO1 := Lib.hid g4
    have HL1 := Lib.hid g1
    clear g1 g3 g4
    go_wp2_with fail
    go_loopw [18] (fun i wr => RelLg p w bs k d ks i wr) (fun i _ => ks.length - (intOf i).toNat)
    case atStart => exact ⟨0, Nat.zero_le _, rfl, by simpa [prK, cntL] using HP1.out, HO1.out, by have := HL1.out; simp [prK] at this; exact ⟨by simp [cntL]; omega, by simp [depL]; omega, by simp [prK]; omega⟩⟩
    case round =>
      obtain ⟨j, hj, rfl, hpn, hold, hlen⟩ := hrel
      have HP := Lib.hid hpn
      have HO := Lib.hid hold
      have HL := Lib.hid hlen
      have HWr := Lib.hid (HW.out.next hold)
      obtain ⟨_, _, lp⟩ := hpn.cells
      clear hpn hold hlen
      by_cases hlt : j < ks.length
      · obtain ⟨b, o, rfl, hbF, ht⟩ := HR.out.elem j hlt
        have HST := Lib.hid (prK_step ks j hlt)
        have HCT := Lib.hid (cntL_step ks j hlt)
        have HWI := Lib.hid (within_step hlt HL.out)
        have HSo := Lib.hid (soL_at hlt HSO.out)
        have HSm := Lib.hid (smL_at hlt HSM.out)
        have hct := cnt_get ks j hlt
        have HPF := Lib.hid (fun w' (h : ¬ Within bs k d ks (j + 1)) (ho : Old p w w') => put_falseg (k' := k + cntL ks) j hlt h ho)
        generalize ks[j] = x at *
        obtain ⟨kd, s, n, kk⟩ := x
        unfold RdT at ht
        obtain ⟨A2, c2, hc2, h0, h1, h2, h3, hkk⟩ := ht
        rw [Nat.mul_comm 4 j] at h0 h1 h2 h3
        have a0 := HWr.out.fr.get h0
        have a1 := HWr.out.fr.get h1
        have a2 := HWr.out.fr.get h2
        have a3 := HWr.out.fr.get h3
        have HKK := Lib.hid hkk
        have lb := lt_of_cell a0
        have hfa : Fr wr (wr.alloc (.cells #[.int .i64 kd, .string s, .int .i64 n, .slice A2 kk.length c2] 38)) := (Fr.refl wr).alloc _
        have HFA := Lib.hid hfa
        have HBX := Lib.hid (Bk.new wr 38 #[.int .i64 kd, .string s, .int .i64 n, .slice A2 kk.length c2])
        have hjs : (j : Int) ≤ 1100000 := by omega
        clear hfa hkk h0 h1 h2 h3
        by_cases hj0 : j = 0
        · subst hj0
          simp only [Nat.zero_mul, Nat.add_zero] at a0 a1 a2 a3
          have hh := HI.out W0 _ F kd n s kk A2 c2 d _ _ (by omega) (by omega) (HWr.out.next (Old.fr HFA.out)) (HP.out.fr HFA.out) HSo.out HSm.out HKK.out HF.out HL.out.1 (by omega) HL.out.2.2
          have HT := Lib.hid hh
          clear hh
          go_wp2_with fail
          refine (HT.out).mono ?_
          rintro e w5 (⟨g0, g1, rfl, g3, g4⟩ | ⟨g1, rfl, g4⟩)
          · have R := Lib.hid (show RelLg p w bs k d ks (.int .i64 (((0 + 1 : Nat)) : Int)) w5 from ⟨0 + 1, by omega, rfl, by
              have e := HST.out
              simp only [if_true, List.nil_append] at e
              rw [e, HCT.out]
              simpa [Nat.add_assoc] using g3, (HO.out.trans (Old.fr HFA.out)).trans g4, HWI.out.2 ⟨g0, by simpa using g1⟩⟩)
            clear g0 g1 g3 g4
            go_wp2
            go_roundw
            case rel => exact R.out
            case measure => simp [intOf]; omega
          · have R := Lib.hid (HPF.out w5 (fun h => g1 (by have := HWI.out.1 h; simpa using this)) ((HO.out.trans (Old.fr HFA.out)).trans g4))
            clear g1 g4
            go_wp2
            go_ret
            exact R.out
        · have dj : (0 : Int) < (j : Int) := by omega
          have HS := Lib.hid (HZ.out _ _ _ (HP.out.fr HFA.out) HL.out.2.2)
          have HJ0 := Lib.hid hj0
          clear hj0
          go_wp2_with fail
          refine (HS.out).mono ?_
          rintro e w4 (⟨g1, rfl, g3, g4⟩ | ⟨g1, rfl, g4⟩)
          · have hbx : Bk w4 wr.heap.size 38 #[.int .i64 kd, .string s, .int .i64 n, .slice A2 kk.length c2] := by
              have hb := HBX.out
              unfold Bk at hb ⊢
              rw [g4.kp wr.heap.size (by simp) (by omega) (fun cs' z e => by rw [hb] at e; injection e with e; injection e with _ e; cases e)]
              exact hb
            obtain ⟨r0, r1, r2, r3, _, _, _, _⟩ := hbx.four
            have hh := HI.out W0 w4 F kd n s kk A2 c2 d _ _ (by omega) (by omega) ((HWr.out.next (Old.fr HFA.out)).next g4) g3 HSo.out HSm.out HKK.out HF.out HL.out.1 (by omega) (by simp at g1 ⊢; omega)
            have HT := Lib.hid hh
            have HO4 := Lib.hid ((HO.out.trans (Old.fr HFA.out)).trans g4)
            clear hh g1 g3 g4 hbx
            go_wp2_with fail
            refine (HT.out).mono ?_
            rintro e w5 (⟨g0, g1, rfl, g3, g4⟩ | ⟨g1, rfl, g4⟩)
            · have R := Lib.hid (show RelLg p w bs k d ks (.int .i64 ((j : Int) + 1)) w5 from ⟨j + 1, by omega, by go_num, by
                have e := HST.out
                rw [if_neg HJ0.out] at e
                rw [e, HCT.out]
                simpa [Nat.add_assoc] using g3, HO4.out.trans g4, HWI.out.2 ⟨g0, by rw [if_neg HJ0.out]; simpa using g1⟩⟩)
              clear g0 g1 g3 g4
              go_wp2
              go_roundw
              case rel => exact R.out
              case measure => simp [intOf]; omega
            · have R := Lib.hid (HPF.out w5 (fun h => g1 (by have := HWI.out.1 h; rw [if_neg HJ0.out] at this; simpa using this)) (HO4.out.trans g4))
              clear g1 g4
              go_wp2
              go_ret
              exact R.out
          · have R := Lib.hid (HPF.out w4 (fun h => by have := (HWI.out.1 h).2; rw [if_neg HJ0.out] at this; simp at this g1; omega) ((HO.out.trans (Old.fr HFA.out)).trans g4))
            clear g1 g4
            go_wp2
            go_ret
            exact R.out
      · obtain rfl : j = ks.length := by omega
        have hL := HL.out
        have HE := Lib.hid (HY.out _ _ _ HP.out hL.2.2)
        unfold Within at hL
        rw [List.take_of_length_le (Nat.le_refl _)] at HE hL
        have HL2 := Lib.hid hL
        clear hlt hL
        go_wp2_with fail
        refine (HE.out).mono ?_
        rintro e w5 (⟨g1, rfl, g3, g4⟩ | ⟨g1, rfl, g4⟩)
        · have R := Lib.hid (show PutG p bs (40 :: (prK ks ++ [41])) (k + cntL ks) (k + cntL ks ≤ 65536 ∧ d + depL ks ≤ 32) w (.returned (.bool true)) w5 from .inl ⟨⟨HL2.out.1, HL2.out.2.1⟩, by simp at g1 ⊢; omega, rfl, by simpa using g3, HO.out.trans g4⟩)
          clear g1 g3 g4
          go_wp2
          go_ret
          exact R.out
        · have R := Lib.hid (show PutG p bs (40 :: (prK ks ++ [41])) (k + cntL ks) (k + cntL ks ≤ 65536 ∧ d + depL ks ≤ 32) w (.returned (.bool false)) w5 from .inr ⟨fun h => by have := h.2; simp at g1 this; omega, rfl, HO.out.trans g4⟩)
          clear g1 g4
          go_wp2
          go_ret
          exact R.out
  · have R := Lib.hid (show PutG p bs (40 :: (prK ks ++ [41])) (k + cntL ks) (k + cntL ks ≤ 65536 ∧ d + depL ks ≤ 32) w (.returned (.bool false)) w1 from .inr ⟨fun h => by have := h.2; simp at g1 this; omega, rfl, g4⟩)
    clear g1 g4
    go_wp2
    go_ret
    exact R.out
theorem ptree_allg (p : Nat) : ∀ N, PTreeG p N
  | 0 => fun W0 w F kd n s ks A c d k bs hN => absurd hN (by simp [cntT])
  | N + 1 => ptree_ofg p N (plist_ofg p N (ptree_allg p N))
end Go.Proofs.YtonlmennpbklgaaDoor
