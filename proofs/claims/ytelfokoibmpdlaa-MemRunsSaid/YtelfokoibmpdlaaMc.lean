/- Where the first region lies that ends above an address. -/
import Derived.Test.YtelfokoibmpdlaaMb
import Derived.Deep.QuietTactic
import Derived.BigQuiet
import Derived.Deep.LoopGhost
import Derived.LoopTactic
namespace Go.Proofs.Ytelfokoibmpdlaa
open Go.RowKit
set_option linter.unusedSimpArgs false
set_option linter.unusedVariables false

/-- A world that keeps all of W's memory. -/
structure Ext (W : World) where
  world : World
  fr : Fr W world
instance Ext.inst (W : World) : Nonempty (Ext W) := ⟨⟨W, Fr.refl W⟩⟩
theorem wp_region_ext {P : Program} {id : Nat} {Q : Exit → Act → World → Prop} {a : Act} {w : World} {l : List Oper} (hm : P.follows .mixedOrders = true) (hB : Region.lexB .any l.toArray = true)
    (h : wpQuiet P l.toArray (fun w' => ∃ x : Ext w, w' = x.world) (fun a' => ∀ w', (∃ x : Ext w, w' = x.world) → Q .normal a' w') l a) : (Code.region id l.toArray true).wp P Q a w :=
  wp_region_quiet (C := fun w' => ∃ x : Ext w, w' = x.world) hm hB ⟨⟨_, Fr.drew (Fr.refl w)⟩, rfl⟩ (by simpa using h)
theorem ext_of {P : Program} {f : FuncId} {args : Array Value} {W : World} {x : Ext W} {v : Value}
    (h : Calls P f args x.world fun e w' => e = .returned v ∧ Fr x.world w') : Calls P f args x.world fun e w'' => e = .returned v ∧ ∃ y : Ext W, w'' = y.world :=
  h.mono fun _ _ ⟨he, hf⟩ => ⟨he, ⟨⟨_, Fr.call x.fr hf⟩, rfl⟩⟩
theorem Ext.get {W : World} (x : Ext W) {b o : Nat} {v : Value} (h : W.cell? ⟨b, o, none⟩ = some v) : x.world.cell? ⟨b, o, none⟩ = some v := x.fr.get h

set_option maxHeartbeats 1600000 in
theorem last_any (pl : Nat) (pm : Int) (A : Option Addr) (n c : Nat) (h0 : 0 < n) (h1 : pl + n ≤ 18446744073709551616) (hn : n ≤ 9223372036854775807) (w : World) :
    Calls Try.prog 39 #[.agg #[.int .u64 (pl : Int), .int .i64 pm, .slice A n c]] w fun e w' => e = .returned (.int .u64 ((pl + n - 1 : Nat) : Int)) ∧ Fr w w' := by
  go_enter Try.func39, Try.ntmps39
  go_wp2
  go_ret
  exact ⟨ret_int (by omega), Fr.alloc (Fr.refl w) _⟩
set_option maxHeartbeats 3200000 in
set_option maxRecDepth 100000 in
/-- The test of the search: does a region end above the address? -/
theorem above_any {w : World} {M : Lo} {l : List Rg} (hg : Good l) (hm : MemAt w M l) (i : Nat) (hi : i < l.length) (a b5 b6 : Nat) (ha : a < 18446744073709551616)
    (c5 : w.cell? ⟨b5, 0, none⟩ = some (.pointer (some ⟨M.bm, 0, none⟩))) (c6 : w.cell? ⟨b6, 0, none⟩ = some (.int .u64 (a : Int))) :
    Calls Try.prog 43 #[.int .i64 (i : Int), .pointer (some ⟨b5, 0, none⟩), .pointer (some ⟨b6, 0, none⟩)] w fun e w' => e = .returned (.bool (decide (a < (l[i]).top))) ∧ Fr w w' := by
  have hr := hg.ok _ (List.getElem_mem hi)
  have r0 := hm.row0 i hi
  have r1 := hm.row1 i hi
  have r2 := hm.row2 i hi
  have hc := hm.caps i hi
  have hA := hm.addr (by omega)
  have hroot := hm.root
  rw [hA] at hroot
  have hx : (l[i]).top = (l[i]).pl + (l[i]).bs.length := rfl
  have ht := hr.top
  have hs := hr.some
  rw [hx] at ht ⊢
  have HL := Lib.hid (fun w1 => last_any (l[i]).pl (l[i]).pm (some ⟨M.G i, 0, none⟩) (l[i]).bs.length (M.C i) hs ht (Nat.le_trans (Nat.le_trans hc.1 hc.2) (by decide)) w1)
  generalize (l[i]).pl = pl at *
  generalize (l[i]).pm = pm at *
  generalize (l[i]).bs.length = n at *
  have hdec : decide (a ≤ pl + n - 1) = decide (a < pl + n) := by
    by_cases q : a < pl + n
    · rw [decide_eq_true q, decide_eq_true]; omega
    · rw [decide_eq_false q, decide_eq_false]; omega
  have hil : (i : Int) < (l.length : Int) := by omega
  clear hm hg hA hr hx hc
  have d5 := fun ex : Ext w => ex.get c5
  have d6 := fun ex : Ext w => ex.get c6
  have d0 := fun ex : Ext w => ex.get r0
  have d1 := fun ex : Ext w => ex.get r1
  have d2 := fun ex : Ext w => ex.get r2
  have dr := fun ex : Ext w => ex.get hroot
  have HR := Lib.hid (fun ex : Ext w => HL.out ex.world)
  clear c5 c6 r0 r1 r2 hroot
  go_enter Try.func43, Try.ntmps43
  go_wp2_with fail
  refine wp_region_ext (by kernel_rfl) (by kernel_rfl) ?_
  repeat (go_big_quiet_step ((go_at_call 39; exact ext_of (HR.out _))))
  refine wpQuiet_nil ?_
  intro w4 hw4
  obtain ⟨y4, hy4⟩ := hw4
  have hb4 : Fr w w4 := by rw [hy4]; exact y4.fr
  clear hy4 y4
  go_wp2
  go_ret
  exact ⟨ret_bool (by first | rfl | exact hdec), hb4⟩
/-- The first region that ends above an address. -/
def FirstAt (l : List Rg) (a k : Nat) : Prop := k ≤ l.length ∧ (∀ (t : Nat) (h : t < l.length), t < k → (l[t]).top ≤ a) ∧ (∀ (t : Nat) (h : t < l.length), k ≤ t → a < (l[t]).top)
def RelS (l : List Rg) (a : Nat) (w : World) (x y : Value) (wr : World) : Prop := ∃ i j : Nat, x = .int .i64 (i : Int) ∧ y = .int .i64 (j : Int) ∧ i ≤ j ∧ j ≤ l.length ∧ Fr w wr ∧
  (∀ (t : Nat) (h : t < l.length), t < i → (l[t]).top ≤ a) ∧ (∀ (t : Nat) (h : t < l.length), j ≤ t → a < (l[t]).top)
theorem rise_top {l : List Rg} (hg : Good l) {t u : Nat} (ht : t < l.length) (hu : u < l.length) (h : t ≤ u) : (l[t]).top ≤ (l[u]).top := by
  rcases Nat.lt_or_ge t u with h1 | h1
  · have h2 := List.pairwise_iff_getElem.1 hg.rise t u ht hu h1
    have h3 : (l[u]).top = (l[u]).pl + (l[u]).bs.length := rfl
    omega
  · obtain rfl : t = u := by omega
    exact Nat.le_refl _
set_option maxHeartbeats 3200000 in
set_option maxRecDepth 100000 in
theorem search_any {w : World} {M : Lo} {l : List Rg} (hg : Good l) (hm : MemAt w M l) (hl : l.length ≤ 64) (a b5 b6 : Nat) (ha : a < 18446744073709551616)
    (c5 : w.cell? ⟨b5, 0, none⟩ = some (.pointer (some ⟨M.bm, 0, none⟩))) (c6 : w.cell? ⟨b6, 0, none⟩ = some (.int .u64 (a : Int))) :
    Calls Try.prog 42 #[.int .i64 (l.length : Int), .func (.func 43) #[] #[.pointer (some ⟨b5, 0, none⟩), .pointer (some ⟨b6, 0, none⟩)]] w fun e w' => ∃ k : Nat, e = .returned (.int .i64 (k : Int)) ∧ FirstAt l a k ∧ Fr w w' := by
  have HC := Lib.hid (fun (w1 : World) (k : Fr w w1) (i : Nat) (hi : i < l.length) => above_any hg (hm.fr k) i hi a b5 b6 ha (k.get c5) (k.get c6))
  have HT := Lib.hid (fun (t u : Nat) (ht : t < l.length) (hu : u < l.length) (h : t ≤ u) => rise_top hg ht hu h)
  clear hg hm c5 c6
  go_enter Try.func42, Try.ntmps42
  go_wp2
  go_loopw [5, 6] (fun x y wr => RelS l a w x y wr) (fun x y _ => (intOf y).toNat - (intOf x).toNat)
  case atStart => exact ⟨0, l.length, rfl, rfl, by omega, by omega, Fr.refl w, fun t h h0 => by omega, fun t h h0 => by omega⟩
  case round =>
    obtain ⟨i, j, rfl, rfl, hij, hjl, hf, h1, h2⟩ := hrel
    have HF := Lib.hid hf
    have H1 := Lib.hid h1
    have H2 := Lib.hid h2
    clear hf h1 h2
    by_cases hlt : i < j
    · obtain ⟨q, hq, hq1, hq2⟩ : ∃ q : Nat, ((i : Int) + (j : Int)) / 2 = (q : Int) ∧ i ≤ q ∧ q < j := ⟨(i + j) / 2, by omega, by omega, by omega⟩
      have hh : q < l.length := by omega
      have HCC := Lib.hid (HC.out wr HF.out q hh)
      by_cases ht : a < (l[q]).top
      · rw [decide_eq_true ht] at HCC
        have H2' := Lib.hid (fun (t : Nat) (h : t < l.length) (h0 : q ≤ t) => Nat.lt_of_lt_of_le ht (HT.out q t hh h h0))
        clear H2 ht
        go_wp2_with (go_at_call 43; refine HCC.out.mono ?_; rintro e w2 ⟨rfl, hf2⟩; have HF2 := Lib.hid hf2; clear hf2)
        go_roundw
        case rel => exact ⟨i, q, rfl, rfl, by omega, by omega, HF.out.call HF2.out, H1.out, H2'.out⟩
        case measure => simp [intOf]; omega
      · rw [decide_eq_false ht] at HCC
        have H1' := Lib.hid (fun (t : Nat) (h : t < l.length) (h0 : t < q + 1) => Nat.le_trans (HT.out t q h hh (by omega)) (Nat.le_of_not_lt ht))
        clear H1 ht
        go_wp2_with (go_at_call 43; refine HCC.out.mono ?_; rintro e w2 ⟨rfl, hf2⟩; have HF2 := Lib.hid hf2; clear hf2)
        go_roundw
        case rel => exact ⟨q + 1, j, rfl, rfl, by omega, by omega, HF.out.call HF2.out, H1'.out, H2.out⟩
        case measure => simp [intOf]; omega
    · obtain rfl : i = j := by omega
      go_wp2
      go_ret
      exact ⟨i, rfl, ⟨hjl, H1.out, H2.out⟩, HF.out⟩
end Go.Proofs.Ytelfokoibmpdlaa
