/- SexpPrints answers true: the walk. -/
import Derived.Test.YtonlmennpbklgaaDoorUk
import Derived.Test.YtonlmennpbklgaaDoorSbo
namespace Go.Proofs.YtonlmennpbklgaaDoor
open Go.RowKit
set_option linter.unusedSimpArgs false
set_option linter.unusedVariables false

/-- A text that reads as l is parsed to l. -/
theorem parse_asp (tx : ByteArray) (l : List T) (h1 : tx.size ≤ 262144) (hr : run tx.data.toList 0 [[]] 0 = .ok l) (w : World) (hw5 : 5 < w.heap.size) (hla : Laid w) :
    Calls Tryd.prog 8 #[.string tx] w fun e w' => ∃ A c, e = .returned (.tuple #[.slice A l.length c, .int .i64 0, .int .i64 0]) ∧ RdL w' (New w w') A l ∧ Fr w w' := by
  refine (parse_ps tx w h1 hw5 hla).mono ?_
  rintro e w' ⟨hf, ⟨a, er, _, hrn⟩ | ⟨m, B, c, rfl, _, hmr, hmrun⟩⟩
  · rw [hr] at hrn; cases hrn
  · rw [hr] at hmrun
    injection hmrun with hmrun
    subst hmrun
    exact ⟨B, c, rfl, hmr, hf⟩
/-- What both printers answer. -/
def BothP (l : List T) (s : ByteArray) (er : Int) : Prop := ∀ (w : World) (e : Ending) (w' : World), PrG l w e w' → e = .returned (.tuple #[.string s, .int .i64 er]) ∧ Fr w w'
theorem both_of (l : List T) : (∃ er : Int, (er = 31 ∨ er = 33) ∧ BothP l ⟨#[]⟩ er) ∨ (soL l ∧ InP l l.length ∧ BothP l ⟨(prL l).toArray⟩ 0) := by
  by_cases hso : soL l
  · by_cases hin : InP l l.length
    · refine .inr ⟨hso, hin, fun w e w' h => ?_⟩
      rcases h with ⟨h1, _⟩ | ⟨_, _, h3, h4⟩ | ⟨_, h2, _⟩
      · exact absurd hso h1
      · exact ⟨h3, h4⟩
      · exact absurd hin h2
    · refine .inl ⟨33, .inr rfl, fun w e w' h => ?_⟩
      rcases h with ⟨h1, _⟩ | ⟨_, h2, _⟩ | ⟨_, _, h3, h4⟩
      · exact absurd hso h1
      · exact absurd h2 hin
      · exact ⟨h3, h4⟩
  · refine .inl ⟨31, .inl rfl, fun w e w' h => ?_⟩
    rcases h with ⟨_, h3, h4⟩ | ⟨h1, _⟩ | ⟨h1, _⟩
    · exact ⟨h3, h4⟩
    · exact absurd h1 hso
    · exact absurd h1 hso
set_option maxHeartbeats 6400000 in
set_option maxRecDepth 100000 in
theorem prints_walk (l : List T) (A : Option Addr) (c : Nat) (F : Nat → Prop) (w : World) (hsm : smL 1100000 l) (hcn : cntL l ≤ 1100000) (hr : RdL w F A l) (hF : ∀ b, F b → b < w.heap.size) (hw5 : 5 < w.heap.size) (hla : Laid w) :
    Calls Tryd.prog 4 #[.slice A l.length c] w fun e w' => e = .returned (.bool true) ∧ Fr w w' := by
  have HA := Lib.hid (alive_any w hw5 hla)
  have HW := Lib.hid hw5
  have HL := Lib.hid (show ∀ w', Fr w w' → Laid w' from fun w' k => hla.wr (p := w.heap.size) (Wr.of k) hw5)
  have HF := Lib.hid hF
  have HR := Lib.hid (fun (w' : World) (k : Fr w w') => hr.old k hF)
  have HC := Lib.hid (fun (w' : World) (k : Fr w w') => copy_any2 l A c F w' hcn (hr.old k hF) (fun b h => Nat.lt_of_lt_of_le (hF b h) k.size))
  have HQ := Lib.hid (fun (w' : World) (k : Fr w w') => refprint_all l A c F w' hsm hcn (hr.old k hF) (fun b h => Nat.lt_of_lt_of_le (hF b h) k.size))
  have HP := Lib.hid (fun (w' : World) (k : Fr w w') (B : Option Addr) (d : Nat) (G : Nat → Prop) (h : RdL w' G B l) (hG : ∀ b, G b → b < w'.heap.size) => print_all l B d G w' hsm hcn h hG (by have := HW.out; have := k.size; omega) (HL.out w' k))
  clear hw5 hla hr hF hsm
  go_enter Tryd.func4, Tryd.ntmps4
  go_wp2_with (go_at_call 6; refine (HA.out).mono ?_; rintro e w1 ⟨rfl, hf⟩; have HF1 := Lib.hid hf; clear hf)
  refine (HC.out w1 HF1.out).mono ?_
  rintro e w2 ⟨B, d, rfl, hbd, hrd, hf⟩
  have HF2 := Lib.hid (HF1.out.call hf)
  have HRB := Lib.hid hrd
  clear hf hrd
  rcases both_of l with ⟨er, her, hb⟩ | ⟨hso, hin, hb⟩
  · have HB := Lib.hid hb
    have e0 : (er == 0) = false := by rcases her with rfl | rfl <;> rfl
    have e1 : (er != 0) = true := by rcases her with rfl | rfl <;> rfl
    clear hb her
    go_wp2_with fail
    refine (HQ.out w2 HF2.out).mono ?_
    rintro e w3 h
    obtain ⟨rfl, hf⟩ := HB.out _ _ _ h
    have HF3 := Lib.hid (HF2.out.call hf)
    have HRB3 := Lib.hid (HRB.out.old hf (fun b h => h.2))
    have HN3 := Lib.hid (show ∀ b, New w1 w2 b → b < w3.heap.size from fun b h => Nat.lt_of_lt_of_le h.2 hf.size)
    clear h hf
    go_wp2_with fail
    refine (HP.out w3 HF3.out B d _ HRB3.out HN3.out).mono ?_
    rintro e w4 h
    obtain ⟨rfl, hf⟩ := HB.out _ _ _ h
    have HF4 := Lib.hid (HF3.out.call hf)
    have HS := Lib.hid (same_any l l B A d c (New w1 w2) F w4 (by omega) (by omega) (fun b h => Nat.lt_of_lt_of_le (HN3.out b h) hf.size) (fun b h => Nat.lt_of_lt_of_le (HF.out b h) HF4.out.size) (HRB3.out.old hf HN3.out) (HR.out w4 HF4.out))
    rw [sameL_refl] at HS
    clear h hf
    go_wp2_with (go_at_call 9; refine (HS.out).mono ?_; rintro e w5 ⟨rfl, hf⟩; have HF5 := Lib.hid (HF4.out.call hf); clear hf)
    go_ret
    exact ⟨rfl, HF5.out⟩
  · have HB := Lib.hid hb
    have hi := hin
    unfold InP at hi
    rw [List.take_of_length_le (Nat.le_refl _)] at hi
    have HI := Lib.hid hi
    have HSO := Lib.hid hso
    obtain ⟨tx, htx⟩ : ∃ tx : ByteArray, (⟨(prL l).toArray⟩ : ByteArray) = tx := ⟨_, rfl⟩
    have HTX := Lib.hid (show tx.data.toList = prL l from by rw [← htx])
    have htz : tx.size ≤ 262144 := by rw [← htx]; exact big_size hi.2.2
    rw [htx] at HB
    clear hb hi hin hso htx
    go_wp2_with fail
    refine (HQ.out w2 HF2.out).mono ?_
    rintro e w3 h
    obtain ⟨rfl, hf⟩ := HB.out _ _ _ h
    have HF3 := Lib.hid (HF2.out.call hf)
    have HRB3 := Lib.hid (HRB.out.old hf (fun b h => h.2))
    have HN3 := Lib.hid (show ∀ b, New w1 w2 b → b < w3.heap.size from fun b h => Nat.lt_of_lt_of_le h.2 hf.size)
    clear h hf
    go_wp2_with fail
    refine (HP.out w3 HF3.out B d _ HRB3.out HN3.out).mono ?_
    rintro e w4 h
    obtain ⟨rfl, hf⟩ := HB.out _ _ _ h
    have HF4 := Lib.hid (HF3.out.call hf)
    have HS := Lib.hid (same_any l l B A d c (New w1 w2) F w4 (by omega) (by omega) (fun b h => Nat.lt_of_lt_of_le (HN3.out b h) hf.size) (fun b h => Nat.lt_of_lt_of_le (HF.out b h) HF4.out.size) (HRB3.out.old hf HN3.out) (HR.out w4 HF4.out))
    rw [sameL_refl] at HS
    clear h hf
    go_wp2_with (go_at_call 9; refine (HS.out).mono ?_; rintro e w5 ⟨rfl, hf⟩; have HF5 := Lib.hid (HF4.out.call hf); clear hf)
    refine (parse_asp tx l htz (by rw [HTX.out]; exact run_printed l HSO.out HI.out.1 HI.out.2.1) w5 (by have := HW.out; have := HF5.out.size; omega) (HL.out w5 HF5.out)).mono ?_
    rintro e w6 ⟨Z, cz, rfl, hz, hf⟩
    have HF6 := Lib.hid (HF5.out.call hf)
    have HS6 := Lib.hid (same_any l l Z A cz c (New w5 w6) F w6 (by omega) (by omega) (fun b h => h.2) (fun b h => Nat.lt_of_lt_of_le (HF.out b h) HF6.out.size) hz (HR.out w6 HF6.out))
    rw [sameL_refl] at HS6
    clear hz hf
    go_wp2_with (go_at_call 9; refine (HS6.out).mono ?_; rintro e w7 ⟨rfl, hf⟩; have HF7 := Lib.hid (HF6.out.call hf); clear hf)
    go_ret
    exact ⟨ret_bool (by simp), HF7.out⟩
end Go.Proofs.YtonlmennpbklgaaDoor
