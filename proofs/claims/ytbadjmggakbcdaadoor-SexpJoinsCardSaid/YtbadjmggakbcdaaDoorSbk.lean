/- SexpJoins answers true: the walk. -/
import Derived.Test.YtbadjmggakbcdaaDoorSbj
namespace Go.Proofs.YtbadjmggakbcdaaDoor
open Go.RowKit

theorem join_text (a b : ByteArray) : (a ++ ⟨#[10]⟩ ++ b : ByteArray).data.toList = a.data.toList ++ 10 :: b.data.toList := by
  simp [ByteArray.data_append]
theorem join_size (a b : ByteArray) : (a ++ ⟨#[10]⟩ ++ b : ByteArray).size = a.size + b.size + 1 := by
  rw [ByteArray.size_append, ByteArray.size_append]
  show a.size + 1 + b.size = a.size + b.size + 1
  omega
theorem joined_parse (a b tx : ByteArray) (x y : List T) (h1 : tx.size = a.size + b.size + 1) (h2 : tx.data.toList = a.data.toList ++ 10 :: b.data.toList) (hs : a.size + b.size < 262144) (hx : run a.data.toList 0 [[]] 0 = .ok x) (hy : run b.data.toList 0 [[]] 0 = .ok y) (hc : cntL x + cntL y ≤ 65536) (w : World) (hw5 : 5 < w.heap.size) (hla : Laid w) :
    Calls Tryd.prog 11 #[.string tx] w fun e w' => ∃ A c, e = .returned (.tuple #[.slice A (x ++ y).length c, .int .i64 0, .int .i64 0]) ∧ RdL w' (New w w') A (x ++ y) ∧ Fr w w' := by
  have hwr := run_joined hx hy hc
  rw [← h2] at hwr
  refine (parse_ps tx w (by omega) hw5 hla).mono ?_
  rintro e w' ⟨hf, ⟨a, er, _, hrn⟩ | ⟨m, B, c, rfl, hmc, hmr, hmrun⟩⟩
  · rw [hwr] at hrn; cases hrn
  · rw [hwr] at hmrun
    injection hmrun with hmrun
    subst hmrun
    exact ⟨B, c, rfl, hmr, hf⟩
theorem cntL_app : ∀ l m : List T, cntL (l ++ m) = cntL l + cntL m
  | [], m => by simp [cntL]
  | x :: r, m => by simp [cntL, cntL_app r m]; omega
theorem wpList_append_trees {w : World} {ops : Array Oper} {rest : List Oper} {o : Oper} {a : Act} {Q : Exit → Act → World → Prop} (hw : Region.wanted o (yielded ops a.tmps) = true) (s x : Operand)
    (ho : o.op = .call { callee := .builtin .append, args := #[s, x], argTypes := #[23, 23] }) (base : Nat) (F : Nat → Prop) (v : Value) (l m : List T) (A : Option Addr) (c : Nat) (hs : a.eval s = v) (hx : a.eval x = .slice A m.length c)
    (hown : Otr w base F v l) (hr : RdL w F A m) (hF : ∀ b, F b → b < base) (hb : base ≤ w.heap.size) (h1 : l.length ≤ 65536) (h2 : m.length ≤ 65536)
    (h : ∀ v' w', Hid (Otr w' base F v' (l ++ m)) → Hid (∀ W, Fr W w → W.heap.size ≤ base → Fr W w') → Hid (base ≤ w'.heap.size) → wpList Tryd.prog ops Q rest (a.put o.dst v') w') : wpList Tryd.prog ops Q (o :: rest) a w := by
  refine wpList_step fun K hK => ?_
  rw [if_pos hw]
  obtain ⟨v', w', hrun, ho', hfr, hb'⟩ := run_append_trees w base o.type F v l m A c hown hr hF hb h1 h2
  unfold Oper.wp execOp
  simp only [ho, resolve, invoke, builtin, Sem.run_bind, Sem.run_pure, Result.andThen_ok, List.map_toArray, List.map_cons, List.map_nil, hs, hx, hrun]
  exact hK _ _ (h v' w' (Lib.hid ho') (Lib.hid hfr) (Lib.hid hb'))
theorem Otr.new (w : World) (F : Nat → Prop) : Otr (w.alloc (.cells #[] 40)) w.heap.size F (.slice (some ⟨w.heap.size, 0, none⟩) 0 0) [] :=
  ⟨[], ⟨rfl, .inr ⟨w.heap.size, 0, #[], rfl, Nat.le_refl _, heap_alloc_new w _, Nat.le_refl _, Nat.zero_le _, rfl, rfl⟩⟩, by unfold Fits; rfl⟩
theorem Otr.form {w : World} {base : Nat} {F : Nat → Prop} {v : Value} {l : List T} (h : Otr w base F v l) : ∃ A c, v = .slice A l.length c ∧ RdL w (fun b => F b ∨ base ≤ b ∧ b < w.heap.size) A l := by
  obtain ⟨vs, ho, hf⟩ := h
  have ho0 := ho
  rcases ho.2 with ⟨hv, hn⟩ | ⟨g, cap, cur, hv, hb, hg, hnc, _⟩
  · have hl : l = [] := List.eq_nil_of_length_eq_zero hn
    subst hv hl
    exact ⟨none, 0, rfl, by unfold RdL; trivial⟩
  · subst hv
    have hlt := World.ownsRow.lt ho0 g rfl
    refine ⟨_, cap, rfl, RdL.of_fits (.inr hlt) (hf.mono (fun b hb => .inl hb) (fun _ _ => rfl)) fun i u hu => ?_⟩
    have h := ho0.cells (g := g) rfl i u hu
    rw [Nat.zero_add]
    rw [show (⟨g, i, none⟩ : Addr) = (⟨g, 0, none⟩ : Addr).add i by unfold Addr.add; by_cases h0 : i = 0 <;> simp [h0]]
    exact h
set_option maxHeartbeats 1600000 in
set_option maxRecDepth 100000 in
theorem joins_walk (a b : ByteArray) (ha : a.size ≤ maxLen) (hb : b.size ≤ maxLen) (w : World) (hw5 : 5 < w.heap.size) (hla : Laid w) :
    Calls Tryd.prog 7 #[.string a, .string b] w fun e w' => e = .returned (.bool true) ∧ Fr w w' := by
  have HA := Lib.hid (alive_any w hw5 hla)
  have HW := Lib.hid hw5
  have HL := Lib.hid hla
  have HP := Lib.hid (fun (s : ByteArray) (h : s.size ≤ maxLen) (w' : World) (k : Fr w w') => parse_one s h w' (by have := HW.out; have := k.size; omega) (HL.out.wr (p := w.heap.size) (Wr.of k) (by have := HW.out; omega)))
  clear hw5 hla
  go_enter Tryd.func7, Tryd.ntmps7
  go_wp2_with (go_at_call 9; refine (HA.out).mono ?_; rintro e w1 ⟨rfl, hf⟩; have HF := Lib.hid hf; clear hf)
  refine (HP.out a ha w1 HF.out).mono ?_
  rintro e w2 ⟨hf, ⟨at1, er, rfl, he1, he2, _⟩ | ⟨x, A, c, rfl, hlc, hrd, hrun, hcnt⟩⟩
  · have HF2 := Lib.hid (HF.out.call hf)
    clear hf
    go_wp2_with fail
    refine (HP.out b hb w2 HF2.out).mono ?_
    rintro e w3 ⟨hf, ⟨at2, er2, rfl, _, _, _⟩ | ⟨y, B, d, rfl, _, _, _, _⟩⟩
    all_goals
      have HF3 := Lib.hid (HF2.out.call hf)
      clear hf
      go_wp2_with fail
      go_ret
      exact ⟨rfl, HF3.out⟩
  · have HF2 := Lib.hid (HF.out.call hf)
    have HR := Lib.hid hrd
    have HU := Lib.hid hrun
    clear hf hrd hrun
    go_wp2_with fail
    refine (HP.out b hb w2 HF2.out).mono ?_
    rintro e w3 ⟨hf, ⟨at2, er2, rfl, he1, he2, _⟩ | ⟨y, B, d, rfl, hld, hrd2, hrun2, hcnt2⟩⟩
    · have HF3 := Lib.hid (HF2.out.call hf)
      clear hf
      go_wp2_with fail
      go_ret
      exact ⟨rfl, HF3.out⟩
    · have H23 := Lib.hid hf
      have HF3 := Lib.hid (HF2.out.call hf)
      have HR2 := Lib.hid hrd2
      have HU2 := Lib.hid hrun2
      clear hf hrd2 hrun2
      by_cases h1 : 262144 ≤ a.size
      · have h1' : decide ((262144 : Int) ≤ (a.size : Int)) = true := by simp; omega
        go_wp2_with fail
        go_ret
        exact ⟨rfl, HF3.out⟩
      · have h1' : decide ((262144 : Int) ≤ (a.size : Int)) = false := by simp; omega
        by_cases h2 : 262144 ≤ a.size + b.size
        · have h2' : decide ((262144 : Int) - (a.size : Int) ≤ (b.size : Int)) = true := by simp; omega
          go_wp2_with fail
          go_ret
          exact ⟨rfl, HF3.out⟩
        · have h2' : decide ((262144 : Int) - (a.size : Int) ≤ (b.size : Int)) = false := by simp; omega
          have HC := Lib.hid (count_any x A c (New w1 w2) w3 (by omega) (fun b h => Nat.lt_of_lt_of_le h.2 H23.out.size) (HR.out.old H23.out (fun b h => h.2)))
          have HD := Lib.hid (fun w4 (hf : Fr w3 w4) => count_any y B d (New w2 w3) w4 (by omega) (fun b h => Nat.lt_of_lt_of_le h.2 hf.size) (HR2.out.old hf (fun b h => h.2)))
          by_cases h3 : 65536 < cntL x + cntL y
          · have h3' : decide ((65536 : Int) < (cntL x : Int) + (cntL y : Int)) = true := by simp; omega
            go_wp2_with fail
            refine (HC.out).mono ?_
            rintro e w4 ⟨rfl, hf⟩
            have HF4 := Lib.hid hf
            clear hf
            go_wp2_with fail
            refine (HD.out _ HF4.out).mono ?_
            rintro e w5 ⟨rfl, hf⟩
            have HF5 := Lib.hid (HF4.out.call hf)
            clear hf
            go_wp2_with fail
            go_ret
            exact ⟨rfl, HF3.out.call HF5.out⟩
          · have h3' : decide ((65536 : Int) < (cntL x : Int) + (cntL y : Int)) = false := by simp; omega
            go_wp2_with fail
            refine (HC.out).mono ?_
            rintro e w4 ⟨rfl, hf⟩
            have HF4 := Lib.hid hf
            clear hf
            go_wp2_with fail
            refine (HD.out _ HF4.out).mono ?_
            rintro e w5 ⟨rfl, hf⟩
            have HF5 := Lib.hid (HF4.out.call hf)
            clear hf
            go_wp2_with fail
            have w55 : 5 < w5.heap.size := by have := HW.out; have := (HF3.out.call HF5.out).size; omega
            have l5 : Laid w5 := HL.out.wr (p := w.heap.size) (Wr.of (HF3.out.call HF5.out)) (by have := HW.out; omega)
            refine Calls.mono (joined_parse a b _ x y (by exact join_size a b) (by exact join_text a b) (by omega) HU.out HU2.out (by omega) w5 w55 l5) ?_
            rintro e w6 ⟨Z, c6, rfl, hz, hf⟩
            have HZ := Lib.hid hz
            have HF6 := Lib.hid (HF5.out.call hf)
            clear hf hz w55 l5
            have FX := Lib.hid (HR.out.old (H23.out.call HF6.out) (fun b h => h.2))
            have FY := Lib.hid (HR2.out.old HF6.out (fun b h => h.2))
            have lx := len_le_cnt x
            have ly := len_le_cnt y
            have n2 := Lib.hid (show ∀ b, New w1 w2 b ∨ New w2 w3 b → b < w6.heap.size from fun b h => h.elim (fun h => Nat.lt_of_lt_of_le h.2 (H23.out.call HF6.out).size) (fun h => Nat.lt_of_lt_of_le h.2 HF6.out.size))
            have FX2 := Lib.hid (FX.out.mono (F' := fun b => New w1 w2 b ∨ New w2 w3 b) (fun b h => .inl h) (fun _ _ => rfl))
            have FY2 := Lib.hid (FY.out.mono (F' := fun b => New w1 w2 b ∨ New w2 w3 b) (fun b h => .inr h) (fun _ _ => rfl))
            go_wp2_with (first
              | (at_builtin
                 refine wpList_append_trees (by kernel_rfl) (.tmp 68) (.tmp 69) rfl w6.heap.size (fun b => New w1 w2 b ∨ New w2 w3 b) _ [] x A c rfl rfl (Otr.new w6 _) (FX2.out.old ((Fr.refl w6).alloc _) n2.out) n2.out (by simp) (by simp) (by omega) ?_
                 intro v7 w7 HO7 HG7 HB7)
              | (at_builtin
                 refine wpList_append_trees (by kernel_rfl) (.tmp 70) (.tmp 71) rfl w6.heap.size (fun b => New w1 w2 b ∨ New w2 w3 b) v7 ([] ++ x) y B d rfl rfl HO7.out (FY2.out.old (HG7.out w6 ((Fr.refl w6).alloc _) (Nat.le_refl _)) n2.out) n2.out HB7.out (by simp; omega) (by omega) ?_
                 intro v8 w8 HO8 HG8 HB8
                 obtain ⟨A8, c8, hv8, hr8⟩ := HO8.out.form
                 subst hv8
                 have HF8 := Lib.hid (HG8.out w6 (HG7.out w6 ((Fr.refl w6).alloc _) (Nat.le_refl _)) (Nat.le_refl _))
                 have HS := Lib.hid (same_any (x ++ y) (x ++ y) Z A8 c6 c8 (New w5 w6) _ w8 (by rw [cntL_app]; omega) (by rw [cntL_app]; omega) (fun b h => Nat.lt_of_lt_of_le h.2 HF8.out.size) (fun b h => h.elim (fun h => Nat.lt_of_lt_of_le (n2.out b h) HF8.out.size) (fun h => h.2)) (HZ.out.old HF8.out (fun b h => h.2)) hr8)
                 rw [sameL_refl] at HS
                 clear hr8)
              | (go_at_call 12; refine (show Calls Tryd.prog 12 _ _ _ by simpa using HS.out).mono ?_; rintro e w9 ⟨rfl, hf⟩; have HF9 := Lib.hid (HF8.out.call hf); clear hf))
            go_ret
            exact ⟨rfl, (HF3.out.call HF6.out).call HF9.out⟩
end Go.Proofs.YtbadjmggakbcdaaDoor
