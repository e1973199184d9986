/- Holds: do bytes lie in regions with permissions? -/
import Derived.Test.YtelfokoibmpdlaaMd
namespace Go.Proofs.Ytelfokoibmpdlaa
open Go.RowKit
set_option linter.unusedSimpArgs false
set_option linter.unusedVariables false

theorem bool_iff {a b : Bool} (h : a = true ↔ b = true) : Ending.returned (.bool a) = .returned (.bool b) := by
  cases a <;> cases b <;> simp_all
theorem isPerm_any (q : Int) (w : World) : Calls Try.prog 31 #[.int .i64 q] w fun e w' => e = .returned (.bool (decide (0 ≤ q) && decide (q ≤ 7))) ∧ w = w' := by
  go_enter Try.func31, Try.ntmps31
  go_wp2
  all_goals (go_ret; exact ⟨bool_iff (by simp; try omega), rfl⟩)
theorem hold1_any (A : Option Addr) (m c b : Nat) (s : Int) (w : World) (cb : w.cell? ⟨b, 0, none⟩ = some (.int .i64 s)) (fb : w.frozen? ⟨b, 0, none⟩ = false) (h0 : 0 ≤ s) (h1 : s ≤ 100) (h2 : m ≤ 100) :
    Calls Try.prog 32 #[.slice A m c, .pointer (some ⟨b, 0, none⟩)] w fun e w' => e = .returned (.tuple #[]) ∧ w' = w.setCell ⟨b, 0, none⟩ (.int .i64 (s + (m : Int))) := by
  go_enter Try.func32, Try.ntmps32
  go_wp2
  go_end0
  exact ⟨rfl, rfl⟩
/-- Do n bytes from a on lie in regions that have all of q? -/
def hldB (l : List Rg) (a : Nat) (n q : Int) : Bool := decide (1 ≤ n) && decide (n ≤ 8) && (decide (0 ≤ q) && decide (q ≤ 7)) && decide (((got (from_ l a) a n.toNat q).length : Int) = n)
theorem enters_my {P : Program} {f : FuncId} {fn : Func} {c : Code} (h : P.funcs[f]? = some fn) (hn : fn.name ≠ "runtime.NumGoroutine") (hb : fn.body = some c) : ∀ args w, (callFunc f args).run P w = .ok (.enter f args) w := fun args w => by
  simp [callFunc, h, hn, hb]
set_option maxHeartbeats 3200000 in
set_option maxRecDepth 100000 in
theorem holds_any {w : World} {M : Lo} {l : List Rg} (hg : Good l) (hm : MemAt w M l) (hl : l.length ≤ 64) (a : Nat) (ha : a < 18446744073709551616) (n q : Int) :
    Calls Try.prog 16 #[.pointer (some ⟨M.bm, 0, none⟩), .int .u64 (a : Int), .int .i64 n, .int .i64 q] w fun e w' => e = .returned (.bool (hldB l a n q)) ∧ Fr w w' := by
  have HPM := Lib.hid (isPerm_any q)
  by_cases hn1 : 1 ≤ n
  · by_cases hn8 : n ≤ 8
    · by_cases hq : 0 ≤ q ∧ q ≤ 7
      · obtain ⟨hq0, hq7⟩ := hq
        have eg : ∀ args w, (callFunc 32 args).run Try.prog w = .ok (.enter 32 args) w := enters_my Try.func32 (by decide +kernel) rfl
        have hpb : (decide (0 ≤ q) && decide (q ≤ 7)) = true := by simp [hq0, hq7]
        rw [hpb] at HPM
        have hW : Fr w (w.alloc (.cells #[.int .i64 0] 3)) := Fr.alloc (Fr.refl w) _
        have hltr := fun h0 : 0 < l.length => hm.ltr h0
        have hltm := hm.ltm
        have HP := Lib.hid (pieces_any hg (hm.fr hW) hl a ha n q (by omega) (by omega) hq0 hq7 32 #[.pointer (some ⟨w.heap.size, 0, none⟩)] eg (fun b => b = w.heap.size)
          (fun b hb => by subst hb; exact ⟨by simp, by omega, fun h0 => by have := hltr h0; omega⟩)
          (fun k W => W.cell? ⟨w.heap.size, 0, none⟩ = some (.int .i64 (k : Int)) ∧ W.frozen? ⟨w.heap.size, 0, none⟩ = false)
          ⟨by simp, by simp⟩
          (fun k w1 w2 _ ⟨h1, h2⟩ hk => by
            have hn : ¬ (w.heap.size = (w.alloc (.cells #[.int .i64 0] 3)).heap.size ∨ w.heap.size = (w.alloc (.cells #[.int .i64 0] 3)).heap.size + 1) := by
              have e : (w.alloc (.cells #[.int .i64 0] 3)).heap.size = w.heap.size + 1 := by simp
              omega
            exact ⟨hk.get hn h1, hk.free hn h1 h2⟩)
          (fun k i off m c w1 hi hk ⟨h1, h2⟩ _ hm0 _ hkm _ _ _ => (hold1_any _ m c _ k w1 h1 h2 (by omega) (by omega) (by omega)).mono fun e w2 ⟨he, hw⟩ => by
            subst hw
            exact ⟨he, ⟨by rw [World.cell?_setCell_same _ _ _ h1]; simp, by simpa using h2⟩, Kp.set (S := fun b => b = w.heap.size) (Kp.refl _ _) (.inl rfl) _⟩))
        have HD := Lib.hid (show hldB l a n q = decide (((got (from_ l a) a n.toNat q).length : Int) = n) by simp [hldB, hn1, hn8, hq0, hq7])
        generalize (got (from_ l a) a n.toNat q).length = T at HP HD
        clear hm hg hW
        go_enter Try.func16, Try.ntmps16
        go_wp2_with (first
          | (go_at_call 31; refine (HPM.out _).mono ?_; rintro e w1 ⟨rfl, rfl⟩)
          | (go_at_call 27; refine HP.out.mono ?_; rintro e w2 ⟨rfl, ⟨c1, c2⟩, hk⟩; have HK := Lib.hid hk; clear hk))
        go_ret
        exact ⟨ret_bool HD.out.symm, ((Kp.of (Fr.alloc (Fr.refl w) _)).call HK.out).to fun x hx => by omega⟩
      · have hpb : (decide (0 ≤ q) && decide (q ≤ 7)) = false := by simp; omega
        rw [hpb] at HPM
        have HD := Lib.hid (show hldB l a n q = false by simp [hldB, hpb])
        clear hm hg hq hpb
        go_enter Try.func16, Try.ntmps16
        go_wp2_with (go_at_call 31; refine (HPM.out _).mono ?_; rintro e w1 ⟨rfl, rfl⟩)
        go_ret
        exact ⟨ret_bool HD.out.symm, Fr.refl _⟩
    · have HD := Lib.hid (show hldB l a n q = false by simp [hldB, hn8])
      clear hm hg
      go_enter Try.func16, Try.ntmps16
      go_wp2
      go_ret
      exact ⟨ret_bool HD.out.symm, Fr.refl _⟩
  · have HD := Lib.hid (show hldB l a n q = false by simp [hldB, hn1])
    clear hm hg
    go_enter Try.func16, Try.ntmps16
    go_wp2
    go_ret
    exact ⟨ret_bool HD.out.symm, Fr.refl _⟩
end Go.Proofs.Ytelfokoibmpdlaa
