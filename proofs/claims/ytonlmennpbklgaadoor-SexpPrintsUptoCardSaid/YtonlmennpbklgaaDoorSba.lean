/- The document's Same: are two rows of trees the same trees? -/
import Derived.Test.YtonlmennpbklgaaDoorSr
import Derived.Test.YtonlmennpbklgaaDoorRows
import Derived.Deep.QuietTactic
import Derived.BigQuiet
namespace Go.Proofs.YtonlmennpbklgaaDoor
open Go.RowKit
set_option linter.unusedSimpArgs false
set_option linter.unusedVariables false

mutual
/-- How many trees there are, with those within. -/
def cntL : List T → Nat
  | [] => 0
  | t :: r => cntT t + cntL r
def cntT : T → Nat
  | .node _ _ _ ks => 1 + cntL ks
end
mutual
def sameL : List T → List T → Bool
  | [], [] => true
  | a :: r, b :: r' => sameT a b && sameL r r'
  | _, _ => false
def sameT : T → T → Bool
  | .node k s n ks, .node k' s' n' ks' => decide (k = k') && (decide (s = s') && (decide (n = n') && sameL ks ks'))
end
theorem len_le_cnt : ∀ l : List T, l.length ≤ cntL l
  | [] => by simp
  | .node k s n ks :: r => by have := len_le_cnt r; simp [cntL, cntT]; omega
theorem cnt_get : ∀ (l : List T) (i : Nat) (h : i < l.length), cntT l[i] ≤ cntL l
  | t :: r, 0, _ => by simp [cntL]
  | t :: r, i + 1, h => by have := cnt_get r i (by simpa using h); simp [cntL]; omega
theorem sameL_length : ∀ {l m : List T}, sameL l m = true → l.length = m.length
  | [], [], _ => rfl
  | a :: r, b :: r', h => by unfold sameL at h; simp at h; simp [sameL_length h.2]
theorem sameL_false : ∀ {l m : List T}, l.length ≠ m.length → sameL l m = false := fun {l m} h => by
  cases e : sameL l m with
  | false => rfl
  | true => exact absurd (sameL_length e) h
theorem sameL_snoc : ∀ {l m : List T} (a b : T), l.length = m.length → sameL (l ++ [a]) (m ++ [b]) = (sameL l m && sameT a b)
  | [], [], a, b, _ => by simp [sameL]
  | x :: r, y :: r', a, b, h => by simp [sameL, sameL_snoc a b (by simpa using h : r.length = r'.length), Bool.and_assoc]
theorem sameL_cut : ∀ {l m : List T} (i : Nat) (h : i < l.length) (h' : i < m.length), sameT l[i] m[i] = false → sameL l m = false
  | a :: r, b :: r', 0, _, _, e => by unfold sameL; simp at e; simp [e]
  | a :: r, b :: r', i + 1, h, h', e => by unfold sameL; simp at e h h'; simp [sameL_cut i h h' e]
mutual
theorem sameL_refl : ∀ l : List T, sameL l l = true
  | [] => by simp [sameL]
  | t :: r => by simp [sameL, sameT_refl t, sameL_refl r]
theorem sameT_refl : ∀ t : T, sameT t t = true
  | .node k s n ks => by simp [sameT, sameL_refl ks]
end

theorem str_ne {s s' : ByteArray} (h : s ≠ s') : (s.toList == s'.toList) = false := by
  simp only [beq_eq_false_iff_ne, ne_eq, ByteArray.toList_eq]
  intro e
  apply h
  cases s; cases s'
  congr
  exact Array.toList_inj.1 e

/-- A world that keeps all of W's memory. -/
structure Ext (W : World) where
  world : World
  fr : Fr W world
instance Ext.inst (W : World) : Nonempty (Ext W) := ⟨⟨W, Fr.refl W⟩⟩
theorem wp_region_ext {P : Program} {id : Nat} {Q : Exit → Act → World → Prop} {a : Act} {w : World} {l : List Oper} (hm : P.follows .mixedOrders = true) (hB : Region.lexB .any l.toArray = true)
    (h : wpQuiet P l.toArray (fun w' => ∃ x : Ext w, w' = x.world) (fun a' => ∀ w', (∃ x : Ext w, w' = x.world) → Q .normal a' w') l a) : (Code.region id l.toArray true).wp P Q a w :=
  wp_region_quiet (C := fun w' => ∃ x : Ext w, w' = x.world) hm hB ⟨⟨_, Fr.drew (Fr.refl w)⟩, rfl⟩ (by simpa using h)
theorem ext_of {P : Program} {f : FuncId} {args : Array Value} {W : World} {x : Ext W} {v : Value}
    (h : Calls P f args x.world fun e w' => e = .returned v ∧ Fr x.world w') : Calls P f args x.world fun e w'' => e = .returned v ∧ ∃ y : Ext W, w'' = y.world :=
  h.mono fun _ _ ⟨he, hf⟩ => ⟨he, ⟨⟨_, Fr.call x.fr hf⟩, rfl⟩⟩
theorem Ext.get {W : World} (x : Ext W) {b o : Nat} {v : Value} (h : W.cell? ⟨b, o, none⟩ = some v) : x.world.cell? ⟨b, o, none⟩ = some v := x.fr.get h

/-- A row lies where it lay, in every world that keeps the old memory. -/
theorem RdL.old {w w' : World} {F : Nat → Prop} (h : Fr w w') (hF : ∀ b, F b → b < w.heap.size) {l : List T} {A : Option Addr} (hr : RdL w F A l) : RdL w' F A l :=
  hr.mono (fun _ h => h) fun b hb => h.block b (hF b hb)
def SameC (n : Nat) : Prop := ∀ (l m : List T) (A B : Option Addr) (c d : Nat) (F G : Nat → Prop) (w : World), cntL l < n → cntL l ≤ 4611686018427387904 → cntL m ≤ 4611686018427387904 → (∀ b, F b → b < w.heap.size) → (∀ b, G b → b < w.heap.size) →
  RdL w F A l → RdL w G B m → Calls Tryd.prog 9 #[.slice A l.length c, .slice B m.length d] w fun e w' => e = .returned (.bool (sameL l m)) ∧ Fr w w'
def RelSa (l m : List T) (w : World) (i : Value) (wr : World) : Prop := ∃ j : Nat, j ≤ l.length ∧ i = .int .i64 (j : Int) ∧ Fr w wr ∧ sameL (l.take j) (m.take j) = true
set_option maxHeartbeats 3200000 in
set_option maxRecDepth 10000 in
theorem same_step (n : Nat) (ih : SameC n) : SameC (n + 1) := by
  intro l m A B c d F G w hn hl hm hF hG ha hb
  have IH := Lib.hid ih
  have HA := Lib.hid ha
  have HB := Lib.hid hb
  have HF := Lib.hid hF
  have HG := Lib.hid hG
  have hll := len_le_cnt l
  have hlm := len_le_cnt m
  clear ih ha hb hF hG
  by_cases hlen : l.length = m.length
  · go_enter Tryd.func9, Tryd.ntmps9
    go_wp2
    go_loopw [5, 13] (fun u i wr => RelSa l m w i wr) (fun _ i _ => m.length - (intOf i).toNat)
    case atStart => exact ⟨0, by omega, rfl, Fr.refl w, by simp [sameL]⟩
    case round =>
      obtain ⟨j, hj, rfl, hf, hs⟩ := hrel
      have HW := Lib.hid hf
      have HS := Lib.hid hs
      clear hf hs
      by_cases hlt : j < m.length
      · obtain ⟨b, o, rfl, hbF, ht⟩ := (HA.out.old HW.out HF.out).elem j (by omega)
        obtain ⟨b', o', rfl, hbG, ht'⟩ := (HB.out.old HW.out HG.out).elem j hlt
        have hjl : j < l.length := by omega
        have HC := Lib.hid (fun h : sameT l[j] m[j] = false => sameL_cut (l := l) (m := m) j hjl hlt h)
        have HN := Lib.hid (sameL_snoc (l := l.take j) (m := m.take j) l[j] m[j] (by simp; omega))
        have hcn := cnt_get l j (by omega)
        have hcm := cnt_get m j (by omega)
        generalize hx : l[j] = x at *
        generalize hy : m[j] = y at *
        obtain ⟨k, s, nn, ks⟩ := x
        obtain ⟨k', s', nn', ks'⟩ := y
        rw [Nat.mul_comm 4 j] at ht ht'
        unfold RdT at ht ht'
        obtain ⟨A2, c2, hc2, h0, h1, h2, h3, hk⟩ := ht
        obtain ⟨B2, d2, hd2, g0, g1, g2, g3, hk'⟩ := ht'
        have a0 := fun ex : Ext wr => ex.get h0
        have a1 := fun ex : Ext wr => ex.get h1
        have a2 := fun ex : Ext wr => ex.get h2
        have a3 := fun ex : Ext wr => ex.get h3
        have b0 := fun ex : Ext wr => ex.get g0
        have b1 := fun ex : Ext wr => ex.get g1
        have b2 := fun ex : Ext wr => ex.get g2
        have b3 := fun ex : Ext wr => ex.get g3
        have HK := Lib.hid hk
        have HK' := Lib.hid hk'
        clear hk hk' h0 h1 h2 h3 g0 g1 g2 g3
        go_wp2_with fail
        by_cases ek : k = k'
        · subst ek
          by_cases es : s = s'
          · subst es
            by_cases en : nn = nn'
            · subst en
              have HT := Lib.hid (show sameT (.node k s nn ks) (.node k s nn ks') = sameL ks ks' by simp [sameT])
              have HR := Lib.hid (fun ex : Ext wr => IH.out ks ks' A2 B2 c2 d2 F G ex.world (by simp [cntT] at hcn; omega) (by simp [cntT] at hcn; omega) (by simp [cntT] at hcm; omega) (fun b h => Nat.lt_of_lt_of_le (HF.out b h) (HW.out.call ex.fr).size) (fun b h => Nat.lt_of_lt_of_le (HG.out b h) (HW.out.call ex.fr).size)
                (HK.out.mono (fun _ h => h) fun b h => ex.fr.block b (Nat.lt_of_lt_of_le (HF.out b h) HW.out.size)) (HK'.out.mono (fun _ h => h) fun b h => ex.fr.block b (Nat.lt_of_lt_of_le (HG.out b h) HW.out.size)))
              cases hsm : sameL ks ks' with
              | true =>
                have HR' := Lib.hid (show ∀ ex : Ext wr, Calls Tryd.prog 9 #[.slice A2 ks.length c2, .slice B2 ks'.length d2] ex.world (fun e w' => e = .returned (.bool true) ∧ Fr ex.world w') from fun ex => hsm ▸ HR.out ex)
                refine wp_region_ext (by kernel_rfl) (by kernel_rfl) ?_
                repeat (go_big_quiet_step ((go_at_call 9; exact ext_of (HR'.out _))))
                refine wpQuiet_nil ?_
                intro w4 hw4
                obtain ⟨y4, hy4⟩ := hw4
                have hb4 : Fr wr w4 := by rw [hy4]; exact y4.fr
                clear hy4 y4
                go_wp2
                go_roundw
                case rel => exact ⟨j + 1, by omega, rfl, HW.out.call hb4, by
                  rw [List.take_succ_eq_append_getElem hjl, List.take_succ_eq_append_getElem hlt, hx, hy, HN.out, HS.out, HT.out, hsm]; rfl⟩
                case measure => simp [intOf]; omega
              | false =>
                have HR' := Lib.hid (show ∀ ex : Ext wr, Calls Tryd.prog 9 #[.slice A2 ks.length c2, .slice B2 ks'.length d2] ex.world (fun e w' => e = .returned (.bool false) ∧ Fr ex.world w') from fun ex => hsm ▸ HR.out ex)
                refine wp_region_ext (by kernel_rfl) (by kernel_rfl) ?_
                repeat (go_big_quiet_step ((go_at_call 9; exact ext_of (HR'.out _))))
                refine wpQuiet_nil ?_
                intro w4 hw4
                obtain ⟨y4, hy4⟩ := hw4
                have hb4 : Fr wr w4 := by rw [hy4]; exact y4.fr
                clear hy4 y4
                go_wp2
                go_ret
                exact ⟨ret_bool (HC.out (by rw [HT.out, hsm])).symm, HW.out.call hb4⟩
            · have HY : (nn != nn') = true := by simp [en]
              refine wp_region_ext (by kernel_rfl) (by kernel_rfl) ?_
              repeat (go_big_quiet_step (fail))
              refine wpQuiet_nil ?_
              intro w4 hw4
              obtain ⟨y4, hy4⟩ := hw4
              have hb4 : Fr wr w4 := by rw [hy4]; exact y4.fr
              clear hy4 y4
              go_wp2
              go_ret
              exact ⟨ret_bool (HC.out (by simp [sameT, en])).symm, HW.out.call hb4⟩
          · have HY := str_ne es
            refine wp_region_ext (by kernel_rfl) (by kernel_rfl) ?_
            repeat (go_big_quiet_step (fail))
            refine wpQuiet_nil ?_
            intro w4 hw4
            obtain ⟨y4, hy4⟩ := hw4
            have hb4 : Fr wr w4 := by rw [hy4]; exact y4.fr
            clear hy4 y4
            go_wp2
            go_ret
            exact ⟨ret_bool (HC.out (by simp [sameT, es])).symm, HW.out.call hb4⟩
        · have HY : (k != k') = true := by simp [ek]
          refine wp_region_ext (by kernel_rfl) (by kernel_rfl) ?_
          repeat (go_big_quiet_step (fail))
          refine wpQuiet_nil ?_
          intro w4 hw4
          obtain ⟨y4, hy4⟩ := hw4
          have hb4 : Fr wr w4 := by rw [hy4]; exact y4.fr
          clear hy4 y4
          go_wp2
          go_ret
          exact ⟨ret_bool (HC.out (by simp [sameT, ek])).symm, HW.out.call hb4⟩
      · obtain rfl : j = l.length := by omega
        have HS' := Lib.hid (show true = sameL l m by have := HS.out; rw [List.take_of_length_le (by omega), List.take_of_length_le (by omega)] at this; exact this.symm)
        go_wp2
        go_ret
        exact ⟨ret_bool HS'.out, HW.out⟩
  · have HE := Lib.hid (sameL_false hlen)
    go_enter Tryd.func9, Tryd.ntmps9
    go_wp2
    go_ret
    exact ⟨ret_bool HE.out.symm, Fr.refl w⟩
theorem same_all : ∀ n : Nat, SameC n
  | 0 => fun l m A B c d F G w h => absurd h (by omega)
  | n + 1 => same_step n (same_all n)
/-- Same answers whether two rows of trees are the same trees. -/
theorem same_any (l m : List T) (A B : Option Addr) (c d : Nat) (F G : Nat → Prop) (w : World) (hl : cntL l ≤ 4611686018427387904) (hm : cntL m ≤ 4611686018427387904) (hF : ∀ b, F b → b < w.heap.size) (hG : ∀ b, G b → b < w.heap.size)
    (ha : RdL w F A l) (hb : RdL w G B m) : Calls Tryd.prog 9 #[.slice A l.length c, .slice B m.length d] w fun e w' => e = .returned (.bool (sameL l m)) ∧ Fr w w' :=
  same_all (cntL l + 1) l m A B c d F G w (by omega) hl hm hF hG ha hb
end Go.Proofs.YtonlmennpbklgaaDoor
