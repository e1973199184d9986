/- SexpTwice answers true: the walk. -/
import Derived.Test.YtonlmennpbklgaaDoorTk
import Derived.Test.YtonlmennpbklgaaDoorSbi
import Derived.Test.YtonlmennpbklgaaDoorSbo
namespace Go.Proofs.YtonlmennpbklgaaDoor
open Go.RowKit
set_option linter.unusedSimpArgs false
set_option linter.unusedVariables false

theorem leaf_small {c : UInt8} {r : List UInt8} {k n : Int} {s : ByteArray} {ks : List T} {m : Nat} (h : leaf c r = .inr (.node k s n ks, m)) : s.size ≤ r.length + 1 ∧ ks = [] := by
  unfold leaf at h
  split at h
  · split at h
    · injection h with h; injection h with h _; injection h with _ h2 _ h4
      subst h2 h4
      exact ⟨by show (List.toArray _).size ≤ _; simp; omega, rfl⟩
    · cases h
    · cases h
  · split at h
    · split at h
      · split at h
        · injection h with h; injection h with h _; injection h with _ h2 _ h4
          subst h2 h4
          exact ⟨Nat.zero_le _, rfl⟩
        · cases h
      · injection h with h; injection h with h _; injection h with _ h2 _ h4
        subst h2 h4
        exact ⟨by show (List.toArray _).size ≤ _; simp; omega, rfl⟩
    · cases h
theorem smL_snoc {m : Nat} : ∀ (l : List T) (t : T), smL m l → smT m t → smL m (l ++ [t])
  | [], t, _, h => by simp only [List.nil_append]; unfold smL; exact ⟨h, by unfold smL; trivial⟩
  | x :: r, t, hl, h => by
    unfold smL at hl
    simp only [List.cons_append]
    unfold smL
    exact ⟨hl.1, smL_snoc r t hl.2 h⟩
theorem go_small (M : Nat) (L : List UInt8) (l : List T) (hL : L.length ≤ M) : ∀ (f i : Nat) (st : List (List T)) (k : Nat), go f L i st k = .ok l → (∀ x ∈ st, smL M x) → smL M l := by
  intro f
  induction f with
  | zero => intro i st k h; cases h
  | succ f ih =>
    intro i st k h hs
    unfold go at h
    generalize i + skN false (L.drop i) = j at *
    cases hd : L.drop j with
    | nil =>
      rw [hd] at h
      rcases st with _ | ⟨a, _ | ⟨b, rest⟩⟩
      · cases h
      · injection h with h; subst h; exact hs a (by simp)
      · cases h
    | cons c r =>
      have hrl : r.length + 1 ≤ M := by have := congrArg List.length hd; simp at this; omega
      rw [hd] at h
      simp only at h
      split at h
      · rcases st with _ | ⟨a, _ | ⟨b, rest⟩⟩
        · cases h
        · cases h
        · refine ih _ _ _ h ?_
          intro x hx
          rcases List.mem_cons.1 hx with rfl | hx
          · exact smL_snoc b _ (hs b (by simp)) (by unfold smT; exact ⟨Nat.zero_le _, hs a (by simp)⟩)
          · exact hs x (by simp [hx])
      · split at h
        · split at h
          · cases h
          · refine ih _ _ _ h ?_
            intro x hx
            rcases List.mem_cons.1 hx with rfl | hx
            · unfold smL; trivial
            · exact hs x hx
        · split at h
          · cases h
          · next t n hlf =>
            split at h
            · cases h
            · rcases st with _ | ⟨a, rest⟩
              · cases h
              · refine ih _ _ _ h ?_
                intro x hx
                rcases List.mem_cons.1 hx with rfl | hx
                · obtain ⟨kd, sd, nd, ks⟩ := t
                  obtain ⟨h1, rfl⟩ := leaf_small hlf
                  exact smL_snoc a _ (hs a (by simp)) (by unfold smT; exact ⟨by omega, by unfold smL; trivial⟩)
                · exact hs x (by simp [hx])
theorem run_small {L : List UInt8} {l : List T} (hL : L.length ≤ 300000) (h : run L 0 [[]] 0 = .ok l) : smL 300000 l := go_small 300000 L l hL _ 0 [[]] 0 h (by intro x hx; simp at hx; subst hx; unfold smL; trivial)
/-- A text that reads as l is parsed to l. -/
theorem parse_as (tx : ByteArray) (l : List T) (h1 : tx.size ≤ 262144) (hr : run tx.data.toList 0 [[]] 0 = .ok l) (w : World) (hw5 : 5 < w.heap.size) (hla : Laid w) :
    Calls Tryd.prog 8 #[.string tx] w fun e w' => ∃ A c, e = .returned (.tuple #[.slice A l.length c, .int .i64 0, .int .i64 0]) ∧ RdL w' (New w w') A l ∧ Fr w w' := by
  refine (parse_ps tx w h1 hw5 hla).mono ?_
  rintro e w' ⟨hf, ⟨a, er, _, hrn⟩ | ⟨m, B, c, rfl, _, hmr, hmrun⟩⟩
  · rw [hr] at hrn; cases hrn
  · rw [hr] at hmrun
    injection hmrun with hmrun
    subst hmrun
    exact ⟨B, c, rfl, hmr, hf⟩
def preT : List UInt8 := [59, 32, 114, 101, 109, 97, 114, 107, 32, 40, 10, 32, 10]
def postT : List UInt8 := [32, 59, 32, 34]
theorem pre_skip (X : List UInt8) : skN false (preT ++ X) = preT.length + skN false X := by
  have h : skN false (preT ++ X) = skN false X + 13 := rfl
  rw [h]; simp [preT]; omega
theorem dress_text (s : ByteArray) : (⟨#[59, 32, 114, 101, 109, 97, 114, 107, 32, 40, 10, 32, 10]⟩ ++ s ++ ⟨#[32, 59, 32, 34]⟩ : ByteArray).data.toList = preT ++ (s.data.toList ++ postT) := by
  simp [ByteArray.data_append, preT, postT]
theorem dress_size (s : ByteArray) : (⟨#[59, 32, 114, 101, 109, 97, 114, 107, 32, 40, 10, 32, 10]⟩ ++ s ++ ⟨#[32, 59, 32, 34]⟩ : ByteArray).size = s.size + 17 := by
  rw [ByteArray.size_append, ByteArray.size_append]
  show 13 + s.size + 4 = s.size + 17
  omega
theorem dressed_parse (s tx : ByteArray) (l : List T) (h1 : tx.size = s.size + 17) (h2 : tx.data.toList = preT ++ (s.data.toList ++ postT)) (hs : s.size ≤ 262000) (hp : s.data.toList = prL l) (L : List UInt8) (hr : run L 0 [[]] 0 = .ok l) (hd : depL l ≤ 32) (w : World) (hw5 : 5 < w.heap.size) (hla : Laid w) :
    Calls Tryd.prog 8 #[.string tx] w fun e w' => ∃ A c, e = .returned (.tuple #[.slice A l.length c, .int .i64 0, .int .i64 0]) ∧ RdL w' (New w w') A l ∧ Fr w w' :=
  parse_as tx l (by omega) (by rw [h2, hp]; exact run_again hr (pre_skip _) rfl hd) w hw5 hla
set_option maxHeartbeats 6400000 in
set_option maxRecDepth 100000 in
theorem twice_walk (s : ByteArray) (hs : s.size ≤ maxLen) (w : World) (hw5 : 5 < w.heap.size) (hla : Laid w) :
    Calls Tryd.prog 5 #[.string s] w fun e w' => e = .returned (.bool true) ∧ Fr w w' := by
  have HA := Lib.hid (alive_any w hw5 hla)
  have HW := Lib.hid hw5
  have HL := Lib.hid (show ∀ w', Fr w w' → Laid w' from fun w' k => hla.wr (p := w.heap.size) (Wr.of k) hw5)
  have HP := Lib.hid (fun (w' : World) (k : Fr w w') => parse_one s hs w' (by have := HW.out; have := k.size; omega) (HL.out w' k))
  clear hw5 hla
  go_enter Tryd.func5, Tryd.ntmps5
  go_wp2_with (go_at_call 6; refine (HA.out).mono ?_; rintro e w1 ⟨rfl, hf⟩; have HF := Lib.hid hf; clear hf)
  by_cases hsz : s.size ≤ 262144
  · refine (parse_ps s w1 hsz (by have := HW.out; have := HF.out.size; omega) (HL.out w1 HF.out)).mono ?_
    rintro e w2 ⟨hf, ⟨a, er, rfl, hr⟩ | ⟨l, A, c, rfl, hlc, hrd, hrun⟩⟩
    · have HF2 := Lib.hid (HF.out.call hf)
      have he : (er != 0) = true := by rcases run_err hr with rfl | rfl <;> rfl
      clear hf hr
      go_wp2_with fail
      go_ret
      exact ⟨ret_bool (by simp), HF2.out⟩
    · have HF2 := Lib.hid (HF.out.call hf)
      have HRD := Lib.hid hrd
      have HRU := Lib.hid hrun
      have HCN := Lib.hid (run_cnt hrun)
      have HDP := Lib.hid (run_dep hrun)
      have hpr := print_any l A c (New w1 w2) w2 (run_sound hrun) (run_small (by simp; omega) hrun) (run_cnt hrun) (run_dep hrun) hrd (fun b h => h.2) (by have := HW.out; have := HF2.out.size; omega) (HL.out w2 HF2.out)
      obtain ⟨tx, htx⟩ : ∃ tx : ByteArray, (⟨(prL l).toArray⟩ : ByteArray) = tx := ⟨_, rfl⟩
      have HTX := Lib.hid (show tx.data.toList = prL l from by rw [← htx])
      have HTS := Lib.hid (show tx.size = (prL l).length from by rw [← htx]; show (List.toArray _).size = _; simp)
      unfold PrP at hpr
      rw [htx] at hpr
      have HPR := Lib.hid hpr
      clear hf hrd hrun hpr htx
      go_wp2_with fail
      refine (HPR.out).mono ?_
      rintro e w3 (⟨hle, rfl, hf⟩ | ⟨hlt, rfl, hf⟩)
      · have HF3 := Lib.hid (HF2.out.call hf)
        have H23 := Lib.hid hf
        have htz : tx.size ≤ 262144 := by have := HTS.out; omega
        have HR3 := Lib.hid (parse_as tx l htz (by rw [HTX.out]; exact run_printed l (run_sound HRU.out) HCN.out HDP.out) w3 (by have := HW.out; have := HF3.out.size; omega) (HL.out w3 HF3.out))
        clear hle hf
        go_wp2_with fail
        refine (HR3.out).mono ?_
        rintro e w4 ⟨B, d, rfl, hrd4, hf⟩
        have HF4 := Lib.hid (HF3.out.call hf)
        have H24 := Lib.hid (H23.out.call hf)
        have HS := Lib.hid (same_any l l A B c d (New w1 w2) (New w3 w4) w4 (by have := HCN.out; omega) (by have := HCN.out; omega) (fun b h => Nat.lt_of_lt_of_le h.2 (H23.out.call hf).size) (fun b h => h.2) (HRD.out.old (H23.out.call hf) (fun b h => h.2)) hrd4)
        rw [sameL_refl] at HS
        clear hf hrd4
        by_cases hbig : 262000 < tx.size
        · have d1 : decide ((262000 : Int) < (tx.size : Int)) = true := by rw [decide_eq_true_eq]; omega
          go_wp2_with (go_at_call 9; refine (HS.out).mono ?_; rintro e w5 ⟨rfl, hf⟩; have HF5 := Lib.hid (HF4.out.call hf); clear hf)
          go_ret
          exact ⟨rfl, HF5.out⟩
        · have d1 : decide ((262000 : Int) < (tx.size : Int)) = false := by rw [decide_eq_false_iff_not]; omega
          go_wp2_with (go_at_call 9; refine (HS.out).mono ?_; rintro e w5 ⟨rfl, hf⟩; have HF5 := Lib.hid (HF4.out.call hf); have H25 := Lib.hid (H24.out.call hf); clear hf)
          have w55 : 5 < w5.heap.size := by have := HW.out; have := HF5.out.size; omega
          refine Calls.mono (dressed_parse tx _ l (by exact dress_size tx) (by exact dress_text tx) (by omega) HTX.out _ HRU.out HDP.out w5 w55 (HL.out w5 HF5.out)) ?_
          rintro e w6 ⟨C, f, rfl, hrd6, hf⟩
          have HF6 := Lib.hid (HF5.out.call hf)
          have HS6 := Lib.hid (same_any l l A C c f (New w1 w2) (New w5 w6) w6 (by have := HCN.out; omega) (by have := HCN.out; omega) (fun b h => Nat.lt_of_lt_of_le h.2 (H25.out.call hf).size) (fun b h => h.2) (HRD.out.old (H25.out.call hf) (fun b h => h.2)) hrd6)
          rw [sameL_refl] at HS6
          clear hf hrd6 w55
          go_wp2_with (go_at_call 9; refine (HS6.out).mono ?_; rintro e w7 ⟨rfl, hf⟩; have HF7 := Lib.hid (HF6.out.call hf); clear hf)
          go_ret
          exact ⟨ret_bool (by simp), HF7.out⟩
      · have HF3 := Lib.hid (HF2.out.call hf)
        clear hlt hf
        go_wp2_with fail
        go_ret
        exact ⟨ret_bool (by simp), HF3.out⟩
  · refine (parse_long s w1 (by omega) hs).mono ?_
    rintro e w2 ⟨rfl, hf⟩
    have HF2 := Lib.hid (HF.out.call hf)
    clear hf
    go_wp2_with fail
    go_ret
    exact ⟨ret_bool (by simp), HF2.out⟩
end Go.Proofs.YtonlmennpbklgaaDoor
