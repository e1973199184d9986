/- SexpWrapped answers true: the walk. -/
import Derived.Test.YtbadjmggakbcdaaDoorSbe
import Derived.Test.YtbadjmggakbcdaaDoorSac
namespace Go.Proofs.YtbadjmggakbcdaaDoor
open Go.RowKit

/-- Parse, for whatever text. -/
def P1 (s : ByteArray) (w : World) (e : Ending) (w' : World) : Prop :=
  Fr w w' ∧ ((∃ (a : Nat) (er : Int), e = .returned (.tuple #[.slice none 0 0, .int .i64 (a : Int), .int .i64 er]) ∧ (er == 0) = false ∧ (er != 0) = true ∧ (s.size ≤ 262144 → run s.data.toList 0 [[]] 0 = .err a er)) ∨
    (∃ (l : List T) (A : Option Addr) (c : Nat), e = .returned (.tuple #[.slice A l.length c, .int .i64 0, .int .i64 0]) ∧ l.length ≤ c ∧ RdL w' (New w w') A l ∧ run s.data.toList 0 [[]] 0 = .ok l ∧ cntL l ≤ 65536))
theorem parse_one (s : ByteArray) (hs : s.size ≤ maxLen) (w : World) (hw5 : 5 < w.heap.size) (hla : Laid w) : Calls Tryd.prog 11 #[.string s] w fun e w' => P1 s w e w' := by
  by_cases h : s.size ≤ 262144
  · refine (parse_ps s w h hw5 hla).mono ?_
    rintro e w' ⟨hf, ⟨a, er, he, hr⟩ | ⟨l, A, c, he, hlc, hrd, hr⟩⟩
    · refine ⟨hf, .inl ⟨a, er, he, ?_⟩⟩
      rcases run_err hr with rfl | rfl <;> exact ⟨rfl, rfl, fun _ => hr⟩
    · exact ⟨hf, .inr ⟨l, A, c, he, hlc, hrd, hr, run_cnt hr⟩⟩
  · refine (parse_long s w (by omega) hs).mono ?_
    rintro e w' ⟨he, hf⟩
    exact ⟨hf, .inl ⟨0, 33, he, rfl, rfl, fun h' => absurd h' h⟩⟩
theorem New.lt {w w' : World} (b : Nat) (h : New w w' b) : b < w'.heap.size := h.2
theorem wrap_text (s : ByteArray) : (⟨#[40]⟩ ++ s ++ ⟨#[10, 41]⟩ : ByteArray).data.toList = 40 :: (s.data.toList ++ [10, 41]) := by
  simp [ByteArray.data_append]
theorem wrap_size (s : ByteArray) : (⟨#[40]⟩ ++ s ++ ⟨#[10, 41]⟩ : ByteArray).size = s.size + 3 := by
  rw [ByteArray.size_append, ByteArray.size_append]
  show 1 + s.size + 2 = s.size + 3
  omega
theorem wrapped_parse (s tx : ByteArray) (l : List T) (h1 : tx.size = s.size + 3) (h2 : tx.data.toList = 40 :: (s.data.toList ++ [10, 41])) (hs : s.size ≤ 262000) (hr : run s.data.toList 0 [[]] 0 = .ok l) (hc : cntL l < 65536) (hd : depL l < 32) (w : World) (hw5 : 5 < w.heap.size) (hla : Laid w) :
    Calls Tryd.prog 11 #[.string tx] w fun e w' => ∃ b o c A2 c2, e = .returned (.tuple #[.slice (some ⟨b, o, none⟩) 1 c, .int .i64 0, .int .i64 0]) ∧ 1 ≤ c ∧ w'.cell? ⟨b, o, none⟩ = some (.int .i64 4) ∧ w'.cell? ⟨b, o + 3, none⟩ = some (.slice A2 l.length c2) ∧ RdL w' (New w w') A2 l ∧ Fr w w' := by
  have hwr := run_wrapped hr hc hd
  rw [← h2] at hwr
  refine (parse_ps tx w (by omega) hw5 hla).mono ?_
  rintro e w' ⟨hf, ⟨a, er, _, hrn⟩ | ⟨m, B, c, rfl, hmc, hmr, hmrun⟩⟩
  · rw [hwr] at hrn; cases hrn
  · rw [hwr] at hmrun
    injection hmrun with hmrun
    subst hmrun
    obtain ⟨b, o, rfl, _, ht⟩ := hmr.elem 0 (by simp)
    simp only [List.getElem_cons_zero, Nat.mul_zero, Nat.add_zero] at ht
    unfold RdT at ht
    obtain ⟨A2, c2, _, g0, _, _, g3, hk⟩ := ht
    exact ⟨b, o, c, A2, c2, rfl, hmc, g0, g3, hk, hf⟩
set_option maxHeartbeats 1600000 in
set_option maxRecDepth 100000 in
theorem wrapped_walk (s : ByteArray) (hs : s.size ≤ maxLen) (w : World) (hw5 : 5 < w.heap.size) (hla : Laid w) :
    Calls Tryd.prog 8 #[.string s] w fun e w' => e = .returned (.bool true) ∧ Fr w w' := by
  have HA := Lib.hid (alive_any w hw5 hla)
  have HW := Lib.hid hw5
  have HL := Lib.hid hla
  clear hw5 hla
  go_enter Tryd.func8, Tryd.ntmps8
  go_wp2_with (go_at_call 9; refine (HA.out).mono ?_; rintro e w1 ⟨rfl, hf⟩; have HF := Lib.hid hf; clear hf)
  refine (parse_one s hs w1 (by have := HW.out; have := HF.out.size; omega) (HL.out.wr (p := w.heap.size) (Wr.of HF.out) (by have := HW.out; omega))).mono ?_
  rintro e w2 ⟨hf, ⟨a, er, rfl, he1, he2, _⟩ | ⟨l, A, c, rfl, hlc, hrd, hrun, hcnt⟩⟩
  · have HF2 := Lib.hid (HF.out.call hf)
    clear hf
    go_wp2_with fail
    go_ret
    exact ⟨rfl, HF2.out⟩
  · have HF2 := Lib.hid (HF.out.call hf)
    have HR := Lib.hid hrd
    have HU := Lib.hid hrun
    clear hf hrd hrun
    by_cases h1 : 262000 < s.size
    · have h1' : decide ((262000 : Int) < (s.size : Int)) = true := by simp; omega
      go_wp2_with fail
      go_ret
      exact ⟨rfl, HF2.out⟩
    · have h1' : decide ((262000 : Int) < (s.size : Int)) = false := by simp; omega
      have HC := Lib.hid (count_any l A c (New w1 w2) w2 (by omega) (fun b h => h.2) HR.out)
      by_cases h2 : 65536 ≤ cntL l
      · have h2' : decide ((65536 : Int) ≤ (cntL l : Int)) = true := by simp; omega
        go_wp2_with (go_at_call 16; refine (HC.out).mono ?_; rintro e w3 ⟨rfl, hf⟩; have HF3 := Lib.hid (HF2.out.call hf); clear hf)
        go_ret
        exact ⟨rfl, HF3.out⟩
      · have h2' : decide ((65536 : Int) ≤ (cntL l : Int)) = false := by simp; omega
        have HD := Lib.hid (fun w3 (hf : Fr w2 w3) => deep_any l A c (New w1 w2) w3 (by omega) (fun b h => Nat.lt_of_lt_of_le h.2 hf.size) (HR.out.old hf (fun b h => h.2)))
        by_cases h3 : 32 ≤ depL l
        · have h3' : decide ((32 : Int) ≤ (depL l : Int)) = true := by simp; omega
          go_wp2_with first
            | (go_at_call 16; refine (HC.out).mono ?_; rintro e w3 ⟨rfl, hf⟩; have HF3 := Lib.hid hf; clear hf)
            | (go_at_call 17; refine (HD.out _ HF3.out).mono ?_; rintro e w4 ⟨rfl, hf⟩; have HF4 := Lib.hid (HF3.out.call hf); clear hf)
          go_ret
          exact ⟨rfl, HF2.out.call HF4.out⟩
        · have h3' : decide ((32 : Int) ≤ (depL l : Int)) = false := by simp; omega
          go_wp2_with first
            | (go_at_call 16; refine (HC.out).mono ?_; rintro e w3 ⟨rfl, hf⟩; have HF3 := Lib.hid hf; clear hf)
            | (go_at_call 17; refine (HD.out _ HF3.out).mono ?_; rintro e w4 ⟨rfl, hf⟩; have HF4 := Lib.hid (HF3.out.call hf); clear hf)
          have w45 : 5 < w4.heap.size := by have := HW.out; have := (HF2.out.call HF4.out).size; omega
          have l4 : Laid w4 := HL.out.wr (p := w.heap.size) (Wr.of (HF2.out.call HF4.out)) (by have := HW.out; omega)
          refine Calls.mono (wrapped_parse s _ l (by exact wrap_size s) (by exact wrap_text s) (by omega) HU.out (by omega) (by omega) w4 w45 l4) ?_
          rintro e w5 ⟨b, o, c5, A2, c2, rfl, hc5, g0, g3, hk, hf⟩
          have HF5 := Lib.hid (HF4.out.call hf)
          have HS := Lib.hid (same_any l l A2 A c2 c (New w4 w5) (New w1 w2) w5 (by omega) (by omega) (fun b h => h.2) (fun b h => Nat.lt_of_lt_of_le h.2 HF5.out.size) hk (HR.out.old HF5.out (fun b h => h.2)))
          rw [sameL_refl] at HS
          clear hf hk w45 l4
          go_wp2_with (go_at_call 12; refine (HS.out).mono ?_; rintro e w6 ⟨rfl, hf⟩; have HF6 := Lib.hid (HF5.out.call hf); clear hf)
          go_ret
          exact ⟨rfl, HF2.out.call HF6.out⟩
end Go.Proofs.YtbadjmggakbcdaaDoor
