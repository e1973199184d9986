/- ExprSums answers true, given what the program's calls answer. -/
import Derived.Test.YtbnaakognnkhdaaGreatDoorNh
namespace Go.Proofs.YtbnaakognnkhdaaGreatDoor
open Go.RowKit
set_option linter.unusedSimpArgs false
set_option linter.unusedVariables false

theorem wpHead_three {P : Program} {ops : Array Oper} {Q : Exit → Act → World → Prop} {md : Region.Mode} {S : World → Prop} {n i j l : Nat} {oi oj ol : Oper} {L : Array Bool → Act → World → Prop} {f : Nat} {listed : Array Bool} {a : Act} {w : World} (hi : ops[i]? = some oi) (hj : ops[j]? = some oj) (hl : ops[l]? = some ol)
    (hr : Region.ready md ops listed = [i, j, l]) (hin : i < n) (hjn : j < n) (hln : l < n) (hg : oi.guard = none) (hgj : oj.guard = none) (hgl : ol.guard = none)
    (h1 : ∀ K : Act → World → Prop, (∀ a' w', S w' → wpHead P md ops Q S n L f (listed.setIfInBounds i true) a' w' → K a' w') → oi.wp P a w K Q)
    (h2 : ∀ K : Act → World → Prop, (∀ a' w', S w' → wpHead P md ops Q S n L f (listed.setIfInBounds j true) a' w' → K a' w') → oj.wp P a w K Q)
    (h3 : ∀ K : Act → World → Prop, (∀ a' w', S w' → wpHead P md ops Q S n L f (listed.setIfInBounds l true) a' w' → K a' w') → ol.wp P a w K Q) : wpHead P md ops Q S n L (f + 1) listed a w := by
  refine ⟨by rw [hr]; simp, fun k hk => ?_⟩
  rw [hr] at hk
  simp only [List.mem_cons, List.not_mem_nil, or_false] at hk
  rcases hk with rfl | rfl | rfl
  · refine ⟨hin, ?_⟩
    unfold wpOp
    simp only [hi, Region.wanted, hg, if_true]
    exact .inl (h1 _ fun _ _ h1 h2 => ⟨h1, h2⟩)
  · refine ⟨hjn, ?_⟩
    unfold wpOp
    simp only [hj, Region.wanted, hgj, if_true]
    exact .inl (h2 _ fun _ _ h1 h2 => ⟨h1, h2⟩)
  · refine ⟨hln, ?_⟩
    unfold wpOp
    simp only [hl, Region.wanted, hgl, if_true]
    exact .inl (h3 _ fun _ _ h1 h2 => ⟨h1, h2⟩)
theorem same_at1 {a : Ln} {F G : Nat → Prop} {w : World} {u v : Value} (hs : a.Sm) (h : a.At F w u) (k : a.At G w v) : Calls Tryz.prog 10 #[u, v] w fun e w' => e = .returned (.bool true) ∧ Fr w w' :=
  (same_at hs hs h k).mono fun e w' ⟨h1, h2⟩ => ⟨by rw [h1, eqL_refl], h2⟩
def Reg3 (w : World) (a b : Ln) (p : Nat) (s7 s8 : Value) (wx : World) : Prop := ∃ q7 q8 F, s7 = .pointer (some ⟨q7, 0, none⟩) ∧ s8 = .pointer (some ⟨q8, 0, none⟩) ∧ Bxs w wx F [(q8, b), (q7, a), (p + 1, b), (p, a)]
theorem Bxs.start (w : World) : Bxs w w (fun g => g < w.heap.size) [] := ⟨Fr.refl w, (fun x h => by cases h), (fun x h => by cases h), (fun x h => by cases h), fun _ h => h⟩
theorem blk_keep {w w' : World} {q : Nat} {l : List Value} (h : BlkC w q l) (hk : w'.heap[q]? = w.heap[q]?) : BlkC w' q l := fun i v hv => by
  have := h i v hv
  rw [← this]
  simp only [World.cell?, hk]
set_option maxHeartbeats 6400000 in
set_option maxRecDepth 100000 in
theorem sums_walk (HAL : AliveC) (HAD : AddC) (HTI : TimesC) (a b : Ln) (n : Int) (u v : Value) (w : World) (ha : a.Sm) (hb : b.Sm) (hn : I64 n) (hu : a.At (fun g => g < w.heap.size) w u) (hv : b.At (fun g => g < w.heap.size) w v) :
    Calls Tryz.prog 3 #[u, v, .int .i64 n] w fun e w' => e = .returned (.bool true) ∧ Fr w w' := by
  obtain ⟨A3, B3, c3, d3, rfl, _, _, _⟩ := id hu
  obtain ⟨A4, B4, c4, d4, rfl, _, _, _⟩ := id hv
  obtain ⟨p, hp⟩ : ∃ p, w.heap.size = p := ⟨_, rfl⟩
  have HBX := Lib.hid ((Bxs.start w).add (t := 25) hu)
  have hv1 := hv.fr ((Fr.refl w).alloc (.cells #[.slice A3 a.ss.length c3, .slice B3 a.ts.length d3, .int .i64 a.off] 25))
  replace HBX := Lib.hid (HBX.out.add (t := 25) hv1)
  have e1 : (w.alloc (.cells #[.slice A3 a.ss.length c3, .slice B3 a.ts.length d3, .int .i64 a.off] 25)).heap.size = p + 1 := by simp [hp]
  have HP := Lib.hid hp
  obtain ⟨F0, hF0⟩ : ∃ F0 : Nat → Prop, F0 = fun g => g < w.heap.size := ⟨_, rfl⟩
  rw [← hF0] at HBX hu hv1
  have HF0 := Lib.hid (show ∀ g, F0 g → g < p by rw [hF0, hp]; exact fun _ h => h)
  clear hF0
  rw [e1, hp] at HBX
  clear e1 hv1 hu hv
  go_enter Tryz.func3, Tryz.ntmps3
  go_wp2_with (go_at_call 6; refine (HAL _).mono ?_; rintro e w1 ⟨rfl, hf1⟩; replace HBX := Lib.hid (HBX.out.call hf1); clear hf1)
  clear hp
  go_cut [7, 8] from 15 to 18 (fun s7 s8 wx => Reg3 w a b p s7 s8 wx)
  case first =>
    refine wp_region_noPanic ?_
    have hp2 : p + 1 < w1.heap.size := (HBX.out.lo (p + 1, b) (by simp)).2
    have HB3 := Lib.hid (HBX.out.box (p, a) (by simp))
    have HB4 := Lib.hid (HBX.out.box (p + 1, b) (by simp))
    obtain ⟨A3, B3, c3, d3, hc3, ha3⟩ := HB3.out
    obtain ⟨A4, B4, c4, d4, hc4, ha4⟩ := HB4.out
    refine wp_region_head (n := 6) (S := fun wx => BlkC wx p [.slice A3 a.ss.length c3, .slice B3 a.ts.length d3, .int .i64 a.off] ∧ BlkC wx (p + 1) [.slice A4 b.ss.length c4, .slice B4 b.ts.length d4, .int .i64 b.off]) (by kernel_rfl) (by decide) ?_
    have HSF := Lib.hid (fun (wx : World) (k : Fr w1 wx) => (⟨hc3.fr k, hc4.fr k⟩ : BlkC wx p [.slice A3 a.ss.length c3, .slice B3 a.ts.length d3, .int .i64 a.off] ∧ BlkC wx (p + 1) [.slice A4 b.ss.length c4, .slice B4 b.ts.length d4, .int .i64 b.off]))
    have HA3 := Lib.hid ha3
    have HA4 := Lib.hid ha4
    have HK0 := Lib.hid (show Fr w1 w1.drew from Fr.drew (Fr.refl w1))
    have hz0 := HK0.out.size
    have HX0 := Lib.hid (HBX.out.call HK0.out)
    have HD := HSF.out _ HK0.out
    clear hc3 hc4 ha3 ha4 HB3 HB4 HBX
    generalize World.drew w1 = v0 at *
    simp only [List.size_toArray, List.length_cons, List.length_nil, Nat.reduceAdd]
    refine wpHead_take (i := 0) (v := ?_) rfl (by kernel_rfl) (fun _ _ _ h => h) (Or.inl ⟨by rfl, ?hy0⟩) HD ?rest0
    case hy0 => (intro w' hw'; have g0 := hw'.1 0 _ rfl; have g1 := hw'.1 1 _ rfl; have g2 := hw'.1 2 _ rfl; go_simp) <;> (try with_reducible rfl)
    (try simp only [Act.put, List.getElem_toArray, List.getElem_cons_zero, List.getElem_cons_succ, List.setIfInBounds_toArray, List.set_cons_zero, List.set_cons_succ])
    refine wpHead_take (i := 2) (v := ?_) rfl (by kernel_rfl) (fun _ _ _ h => h) (Or.inl ⟨by rfl, ?hy2⟩) HD ?rest2
    case hy2 => (intro w' hw'; have g0 := hw'.2 0 _ rfl; have g1 := hw'.2 1 _ rfl; have g2 := hw'.2 2 _ rfl; go_simp) <;> (try with_reducible rfl)
    (try simp only [Act.put, List.getElem_toArray, List.getElem_cons_zero, List.getElem_cons_succ, List.setIfInBounds_toArray, List.set_cons_zero, List.set_cons_succ])
    clear HD
    refine wpHead_three (i := 1) (j := 4) (l := 5) rfl rfl rfl (by kernel_rfl) (by decide) (by decide) (by decide) rfl rfl rfl (fun K hK => ?_) (fun K hK => ?_) (fun K hK => ?_)
    · skip
      go_simp
      refine (copy_at ha (HA3.out.fr HK0.out)).mono ?_
      rintro e v1 ⟨_, rfl, hat, hf⟩
      obtain ⟨A5, B5, c5, d5, rfl, _, _, _⟩ := id hat
      have HK1 := Lib.hid (HK0.out.call hf)
      have hz1 := hf.size
      have HX1 := Lib.hid (HX0.out.also hf)
      have HR5 := Lib.hid hat
      clear hat
      (try go_wp2_with fail)
      refine hK _ _ (HSF.out _ HK1.out) ?_
      clear hK K hf
      (try simp only [Act.put, List.getElem_toArray, List.getElem_cons_zero, List.getElem_cons_succ, List.setIfInBounds_toArray, List.set_cons_zero, List.set_cons_succ])
      refine wpHead_three (i := 3) (j := 4) (l := 5) rfl rfl rfl (by kernel_rfl) (by decide) (by decide) (by decide) rfl rfl rfl (fun K hK => ?_) (fun K hK => ?_) (fun K hK => ?_)
      · skip
        go_simp
        refine (copy_at hb (HA4.out.fr HK1.out)).mono ?_
        rintro e v2 ⟨_, rfl, hat, hf⟩
        obtain ⟨A6, B6, c6, d6, rfl, _, _, _⟩ := id hat
        have HK2 := Lib.hid (HK1.out.call hf)
        have hz2 := hf.size
        have HX2 := Lib.hid (HX1.out.also hf)
        replace HR5 := Lib.hid (HR5.out.fr hf)
        have HR6 := Lib.hid hat
        clear hat
        (try go_wp2_with fail)
        refine hK _ _ (HSF.out _ HK2.out) ?_
        clear hK K hf
        (try simp only [Act.put, List.getElem_toArray, List.getElem_cons_zero, List.getElem_cons_succ, List.setIfInBounds_toArray, List.set_cons_zero, List.set_cons_succ])
        refine wpHead_two (i := 4) (j := 5) rfl rfl (by kernel_rfl) (by decide) (by decide) rfl rfl (fun K hK => ?_) (fun K hK => ?_)
        · skip
          try go_simp
          have kf := (Fr.refl v2).alloc (.cells #[.slice none 0 0, .slice none 0 0, .int .i64 0] 25)
          have HK3 := Lib.hid (HK2.out.call kf)
          have hz3 : v2.heap.size + 1 = (v2.alloc (.cells #[.slice none 0 0, .slice none 0 0, .int .i64 0] 25)).heap.size := by simp
          have HX3 := Lib.hid (HX2.out.call kf)
          have HZ7 := Lib.hid (BlkC.alloc (w := v2) (t := 25) (cs := #[.slice none 0 0, .slice none 0 0, .int .i64 0]))
          have HY7 := Lib.hid (show (v2.alloc (.cells #[.slice none 0 0, .slice none 0 0, .int .i64 0] 25)).frozen? ⟨v2.heap.size, 0, none⟩ = false ∧ (v2.alloc (.cells #[.slice none 0 0, .slice none 0 0, .int .i64 0] 25)).frozen? ⟨v2.heap.size, 1, none⟩ = false ∧ (v2.alloc (.cells #[.slice none 0 0, .slice none 0 0, .int .i64 0] 25)).frozen? ⟨v2.heap.size, 2, none⟩ = false from ⟨World.frozen?_alloc_at _ _ _ _ rfl, World.frozen?_alloc_at _ _ _ _ rfl, World.frozen?_alloc_at _ _ _ _ rfl⟩)
          replace HR5 := Lib.hid (HR5.out.fr kf)
          replace HR6 := Lib.hid (HR6.out.fr kf)
          refine hK _ _ (HSF.out _ HK3.out) ?_
          clear hK K kf
          generalize World.alloc v2 (.cells #[.slice none 0 0, .slice none 0 0, .int .i64 0] 25) = v3 at *
          obtain ⟨g7, hgz7⟩ : ∃ g, v2.heap.size = g := ⟨_, rfl⟩
          rw [hgz7] at HZ7 HY7 ⊢
          (try simp only [Act.put, List.getElem_toArray, List.getElem_cons_zero, List.getElem_cons_succ, List.setIfInBounds_toArray, List.set_cons_zero, List.set_cons_succ])
          refine wpHead_lone (i := 5) rfl (by kernel_rfl) (by decide) rfl (fun K hK => ?_)
          try go_simp
          have kf := (Fr.refl v3).alloc (.cells #[.slice none 0 0, .slice none 0 0, .int .i64 0] 25)
          have HK4 := Lib.hid (HK3.out.call kf)
          have hz4 : v3.heap.size + 1 = (v3.alloc (.cells #[.slice none 0 0, .slice none 0 0, .int .i64 0] 25)).heap.size := by simp
          have HX4 := Lib.hid (HX3.out.call kf)
          have HZ8 := Lib.hid (BlkC.alloc (w := v3) (t := 25) (cs := #[.slice none 0 0, .slice none 0 0, .int .i64 0]))
          have HY8 := Lib.hid (show (v3.alloc (.cells #[.slice none 0 0, .slice none 0 0, .int .i64 0] 25)).frozen? ⟨v3.heap.size, 0, none⟩ = false ∧ (v3.alloc (.cells #[.slice none 0 0, .slice none 0 0, .int .i64 0] 25)).frozen? ⟨v3.heap.size, 1, none⟩ = false ∧ (v3.alloc (.cells #[.slice none 0 0, .slice none 0 0, .int .i64 0] 25)).frozen? ⟨v3.heap.size, 2, none⟩ = false from ⟨World.frozen?_alloc_at _ _ _ _ rfl, World.frozen?_alloc_at _ _ _ _ rfl, World.frozen?_alloc_at _ _ _ _ rfl⟩)
          replace HY7 := Lib.hid (show _ ∧ _ ∧ _ from ⟨kf.free (HZ7.out 0 _ rfl) HY7.out.1, kf.free (HZ7.out 1 _ rfl) HY7.out.2.1, kf.free (HZ7.out 2 _ rfl) HY7.out.2.2⟩)
          replace HZ7 := Lib.hid (HZ7.out.fr kf)
          replace HR5 := Lib.hid (HR5.out.fr kf)
          replace HR6 := Lib.hid (HR6.out.fr kf)
          refine hK _ _ (HSF.out _ HK4.out) ?_
          clear hK K kf
          generalize World.alloc v3 (.cells #[.slice none 0 0, .slice none 0 0, .int .i64 0] 25) = v4 at *
          obtain ⟨g8, hgz8⟩ : ∃ g, v3.heap.size = g := ⟨_, rfl⟩
          rw [hgz8] at HZ8 HY8 ⊢
          (try simp only [Act.put, List.getElem_toArray, List.getElem_cons_zero, List.getElem_cons_succ, List.setIfInBounds_toArray, List.set_cons_zero, List.set_cons_succ])
          refine wpHead_done (by kernel_rfl) ?_
          simp only [List.drop_succ_cons, List.drop_zero]
          obtain ⟨z70, z71, z72⟩ := HZ7.out.three
          obtain ⟨y70, y71, y72⟩ := HY7.out
          have zl7 := lt_of_cell z70
          obtain ⟨z80, z81, z82⟩ := HZ8.out.three
          obtain ⟨y80, y81, y82⟩ := HY8.out
          have zl8 := lt_of_cell z80
          (try simp only [Act.put, List.getElem_toArray, List.getElem_cons_zero, List.getElem_cons_succ, List.setIfInBounds_toArray, List.set_cons_zero, List.set_cons_succ])
          have hpw := HP.out
          have hw := HX0.out.fr.size
          have R5 := HR5.out.mono (G := Also (Also F0 v0 v1) v1 v2) (fun g h => .inl h)
          have R6 := HR6.out.mono (G := Also (Also F0 v0 v1) v1 v2) (fun g h => h.elim (fun h => .inl (.inl h)) .inr)
          have hfar : ∀ g, p + 2 ≤ g → (g = g7 ∨ g = g8) → ¬ Also (Also F0 v0 v1) v1 v2 g := by
            rintro g h1 h2 ((h | h) | h)
            · have := HF0.out g h; omega
            · have := h.1; have := h.2; omega
            · have := h.1; have := h.2; omega
          have P7 := HX4.out.put (q := g7) R5 (by omega) HZ7.out (hfar g7 (by omega) (.inl rfl)) (by intro x hx; simp only [List.mem_cons, List.not_mem_nil, or_false] at hx; rcases hx with rfl | rfl <;> (show _ ≠ _; simp; omega))
          have P8 := P7.put (q := g8) (R6.keep fun g hg => set3_heap _ _ _ _ _ g (fun e => hfar g7 (by omega) (.inl rfl) (e ▸ hg))) (by omega) (blk_keep HZ8.out (set3_heap _ _ _ _ _ _ (by omega))) (hfar g8 (by omega) (.inr rfl)) (by intro x hx; simp only [List.mem_cons, List.not_mem_nil, or_false] at hx; rcases hx with rfl | rfl | rfl <;> (show _ ≠ _; simp; omega))
          have HP8 := Lib.hid P8
          clear P7 P8 R5 R6 hfar hpw hw
          go_wp2_with fail
          refine NoPanic.normal ?_
          go_wp2_with fail
          go_meet
          exact ⟨g7, g8, _, rfl, rfl, HP8.out⟩
        · skip
          try go_simp
          have kf := (Fr.refl v2).alloc (.cells #[.slice none 0 0, .slice none 0 0, .int .i64 0] 25)
          have HK3 := Lib.hid (HK2.out.call kf)
          have hz3 : v2.heap.size + 1 = (v2.alloc (.cells #[.slice none 0 0, .slice none 0 0, .int .i64 0] 25)).heap.size := by simp
          have HX3 := Lib.hid (HX2.out.call kf)
          have HZ8 := Lib.hid (BlkC.alloc (w := v2) (t := 25) (cs := #[.slice none 0 0, .slice none 0 0, .int .i64 0]))
          have HY8 := Lib.hid (show (v2.alloc (.cells #[.slice none 0 0, .slice none 0 0, .int .i64 0] 25)).frozen? ⟨v2.heap.size, 0, none⟩ = false ∧ (v2.alloc (.cells #[.slice none 0 0, .slice none 0 0, .int .i64 0] 25)).frozen? ⟨v2.heap.size, 1, none⟩ = false ∧ (v2.alloc (.cells #[.slice none 0 0, .slice none 0 0, .int .i64 0] 25)).frozen? ⟨v2.heap.size, 2, none⟩ = false from ⟨World.frozen?_alloc_at _ _ _ _ rfl, World.frozen?_alloc_at _ _ _ _ rfl, World.frozen?_alloc_at _ _ _ _ rfl⟩)
          replace HR5 := Lib.hid (HR5.out.fr kf)
          replace HR6 := Lib.hid (HR6.out.fr kf)
          refine hK _ _ (HSF.out _ HK3.out) ?_
          clear hK K kf
          generalize World.alloc v2 (.cells #[.slice none 0 0, .slice none 0 0, .int .i64 0] 25) = v3 at *
          obtain ⟨g8, hgz8⟩ : ∃ g, v2.heap.size = g := ⟨_, rfl⟩
          rw [hgz8] at HZ8 HY8 ⊢
          (try simp only [Act.put, List.getElem_toArray, List.getElem_cons_zero, List.getElem_cons_succ, List.setIfInBounds_toArray, List.set_cons_zero, List.set_cons_succ])
          refine wpHead_lone (i := 4) rfl (by kernel_rfl) (by decide) rfl (fun K hK => ?_)
          try go_simp
          have kf := (Fr.refl v3).alloc (.cells #[.slice none 0 0, .slice none 0 0, .int .i64 0] 25)
          have HK4 := Lib.hid (HK3.out.call kf)
          have hz4 : v3.heap.size + 1 = (v3.alloc (.cells #[.slice none 0 0, .slice none 0 0, .int .i64 0] 25)).heap.size := by simp
          have HX4 := Lib.hid (HX3.out.call kf)
          have HZ7 := Lib.hid (BlkC.alloc (w := v3) (t := 25) (cs := #[.slice none 0 0, .slice none 0 0, .int .i64 0]))
          have HY7 := Lib.hid (show (v3.alloc (.cells #[.slice none 0 0, .slice none 0 0, .int .i64 0] 25)).frozen? ⟨v3.heap.size, 0, none⟩ = false ∧ (v3.alloc (.cells #[.slice none 0 0, .slice none 0 0, .int .i64 0] 25)).frozen? ⟨v3.heap.size, 1, none⟩ = false ∧ (v3.alloc (.cells #[.slice none 0 0, .slice none 0 0, .int .i64 0] 25)).frozen? ⟨v3.heap.size, 2, none⟩ = false from ⟨World.frozen?_alloc_at _ _ _ _ rfl, World.frozen?_alloc_at _ _ _ _ rfl, World.frozen?_alloc_at _ _ _ _ rfl⟩)
          replace HY8 := Lib.hid (show _ ∧ _ ∧ _ from ⟨kf.free (HZ8.out 0 _ rfl) HY8.out.1, kf.free (HZ8.out 1 _ rfl) HY8.out.2.1, kf.free (HZ8.out 2 _ rfl) HY8.out.2.2⟩)
          replace HZ8 := Lib.hid (HZ8.out.fr kf)
          replace HR5 := Lib.hid (HR5.out.fr kf)
          replace HR6 := Lib.hid (HR6.out.fr kf)
          refine hK _ _ (HSF.out _ HK4.out) ?_
          clear hK K kf
          generalize World.alloc v3 (.cells #[.slice none 0 0, .slice none 0 0, .int .i64 0] 25) = v4 at *
          obtain ⟨g7, hgz7⟩ : ∃ g, v3.heap.size = g := ⟨_, rfl⟩
          rw [hgz7] at HZ7 HY7 ⊢
          (try simp only [Act.put, List.getElem_toArray, List.getElem_cons_zero, List.getElem_cons_succ, List.setIfInBounds_toArray, List.set_cons_zero, List.set_cons_succ])
          refine wpHead_done (by kernel_rfl) ?_
          simp only [List.drop_succ_cons, List.drop_zero]
          obtain ⟨z70, z71, z72⟩ := HZ7.out.three
          obtain ⟨y70, y71, y72⟩ := HY7.out
          have zl7 := lt_of_cell z70
          obtain ⟨z80, z81, z82⟩ := HZ8.out.three
          obtain ⟨y80, y81, y82⟩ := HY8.out
          have zl8 := lt_of_cell z80
          (try simp only [Act.put, List.getElem_toArray, List.getElem_cons_zero, List.getElem_cons_succ, List.setIfInBounds_toArray, List.set_cons_zero, List.set_cons_succ])
          have hpw := HP.out
          have hw := HX0.out.fr.size
          have R5 := HR5.out.mono (G := Also (Also F0 v0 v1) v1 v2) (fun g h => .inl h)
          have R6 := HR6.out.mono (G := Also (Also F0 v0 v1) v1 v2) (fun g h => h.elim (fun h => .inl (.inl h)) .inr)
          have hfar : ∀ g, p + 2 ≤ g → (g = g7 ∨ g = g8) → ¬ Also (Also F0 v0 v1) v1 v2 g := by
            rintro g h1 h2 ((h | h) | h)
            · have := HF0.out g h; omega
            · have := h.1; have := h.2; omega
            · have := h.1; have := h.2; omega
          have P7 := HX4.out.put (q := g7) R5 (by omega) HZ7.out (hfar g7 (by omega) (.inl rfl)) (by intro x hx; simp only [List.mem_cons, List.not_mem_nil, or_false] at hx; rcases hx with rfl | rfl <;> (show _ ≠ _; simp; omega))
          have P8 := P7.put (q := g8) (R6.keep fun g hg => set3_heap _ _ _ _ _ g (fun e => hfar g7 (by omega) (.inl rfl) (e ▸ hg))) (by omega) (blk_keep HZ8.out (set3_heap _ _ _ _ _ _ (by omega))) (hfar g8 (by omega) (.inr rfl)) (by intro x hx; simp only [List.mem_cons, List.not_mem_nil, or_false] at hx; rcases hx with rfl | rfl | rfl <;> (show _ ≠ _; simp; omega))
          have HP8 := Lib.hid P8
          clear P7 P8 R5 R6 hfar hpw hw
          go_wp2_with fail
          refine NoPanic.normal ?_
          go_wp2_with fail
          go_meet
          exact ⟨g7, g8, _, rfl, rfl, HP8.out⟩
      · skip
        try go_simp
        have kf := (Fr.refl v1).alloc (.cells #[.slice none 0 0, .slice none 0 0, .int .i64 0] 25)
        have HK2 := Lib.hid (HK1.out.call kf)
        have hz2 : v1.heap.size + 1 = (v1.alloc (.cells #[.slice none 0 0, .slice none 0 0, .int .i64 0] 25)).heap.size := by simp
        have HX2 := Lib.hid (HX1.out.call kf)
        have HZ7 := Lib.hid (BlkC.alloc (w := v1) (t := 25) (cs := #[.slice none 0 0, .slice none 0 0, .int .i64 0]))
        have HY7 := Lib.hid (show (v1.alloc (.cells #[.slice none 0 0, .slice none 0 0, .int .i64 0] 25)).frozen? ⟨v1.heap.size, 0, none⟩ = false ∧ (v1.alloc (.cells #[.slice none 0 0, .slice none 0 0, .int .i64 0] 25)).frozen? ⟨v1.heap.size, 1, none⟩ = false ∧ (v1.alloc (.cells #[.slice none 0 0, .slice none 0 0, .int .i64 0] 25)).frozen? ⟨v1.heap.size, 2, none⟩ = false from ⟨World.frozen?_alloc_at _ _ _ _ rfl, World.frozen?_alloc_at _ _ _ _ rfl, World.frozen?_alloc_at _ _ _ _ rfl⟩)
        replace HR5 := Lib.hid (HR5.out.fr kf)
        refine hK _ _ (HSF.out _ HK2.out) ?_
        clear hK K kf
        generalize World.alloc v1 (.cells #[.slice none 0 0, .slice none 0 0, .int .i64 0] 25) = v2 at *
        obtain ⟨g7, hgz7⟩ : ∃ g, v1.heap.size = g := ⟨_, rfl⟩
        rw [hgz7] at HZ7 HY7 ⊢
        (try simp only [Act.put, List.getElem_toArray, List.getElem_cons_zero, List.getElem_cons_succ, List.setIfInBounds_toArray, List.set_cons_zero, List.set_cons_succ])
        refine wpHead_two (i := 3) (j := 5) rfl rfl (by kernel_rfl) (by decide) (by decide) rfl rfl (fun K hK => ?_) (fun K hK => ?_)
        · skip
          go_simp
          refine (copy_at hb (HA4.out.fr HK2.out)).mono ?_
          rintro e v3 ⟨_, rfl, hat, hf⟩
          obtain ⟨A6, B6, c6, d6, rfl, _, _, _⟩ := id hat
          have HK3 := Lib.hid (HK2.out.call hf)
          have hz3 := hf.size
          have HX3 := Lib.hid (HX2.out.also hf)
          replace HY7 := Lib.hid (show _ ∧ _ ∧ _ from ⟨hf.free (HZ7.out 0 _ rfl) HY7.out.1, hf.free (HZ7.out 1 _ rfl) HY7.out.2.1, hf.free (HZ7.out 2 _ rfl) HY7.out.2.2⟩)
          replace HZ7 := Lib.hid (HZ7.out.fr hf)
          replace HR5 := Lib.hid (HR5.out.fr hf)
          have HR6 := Lib.hid hat
          clear hat
          (try go_wp2_with fail)
          refine hK _ _ (HSF.out _ HK3.out) ?_
          clear hK K hf
          (try simp only [Act.put, List.getElem_toArray, List.getElem_cons_zero, List.getElem_cons_succ, List.setIfInBounds_toArray, List.set_cons_zero, List.set_cons_succ])
          refine wpHead_lone (i := 5) rfl (by kernel_rfl) (by decide) rfl (fun K hK => ?_)
          try go_simp
          have kf := (Fr.refl v3).alloc (.cells #[.slice none 0 0, .slice none 0 0, .int .i64 0] 25)
          have HK4 := Lib.hid (HK3.out.call kf)
          have hz4 : v3.heap.size + 1 = (v3.alloc (.cells #[.slice none 0 0, .slice none 0 0, .int .i64 0] 25)).heap.size := by simp
          have HX4 := Lib.hid (HX3.out.call kf)
          have HZ8 := Lib.hid (BlkC.alloc (w := v3) (t := 25) (cs := #[.slice none 0 0, .slice none 0 0, .int .i64 0]))
          have HY8 := Lib.hid (show (v3.alloc (.cells #[.slice none 0 0, .slice none 0 0, .int .i64 0] 25)).frozen? ⟨v3.heap.size, 0, none⟩ = false ∧ (v3.alloc (.cells #[.slice none 0 0, .slice none 0 0, .int .i64 0] 25)).frozen? ⟨v3.heap.size, 1, none⟩ = false ∧ (v3.alloc (.cells #[.slice none 0 0, .slice none 0 0, .int .i64 0] 25)).frozen? ⟨v3.heap.size, 2, none⟩ = false from ⟨World.frozen?_alloc_at _ _ _ _ rfl, World.frozen?_alloc_at _ _ _ _ rfl, World.frozen?_alloc_at _ _ _ _ rfl⟩)
          replace HY7 := Lib.hid (show _ ∧ _ ∧ _ from ⟨kf.free (HZ7.out 0 _ rfl) HY7.out.1, kf.free (HZ7.out 1 _ rfl) HY7.out.2.1, kf.free (HZ7.out 2 _ rfl) HY7.out.2.2⟩)
          replace HZ7 := Lib.hid (HZ7.out.fr kf)
          replace HR5 := Lib.hid (HR5.out.fr kf)
          replace HR6 := Lib.hid (HR6.out.fr kf)
          refine hK _ _ (HSF.out _ HK4.out) ?_
          clear hK K kf
          generalize World.alloc v3 (.cells #[.slice none 0 0, .slice none 0 0, .int .i64 0] 25) = v4 at *
          obtain ⟨g8, hgz8⟩ : ∃ g, v3.heap.size = g := ⟨_, rfl⟩
          rw [hgz8] at HZ8 HY8 ⊢
          (try simp only [Act.put, List.getElem_toArray, List.getElem_cons_zero, List.getElem_cons_succ, List.setIfInBounds_toArray, List.set_cons_zero, List.set_cons_succ])
          refine wpHead_done (by kernel_rfl) ?_
          simp only [List.drop_succ_cons, List.drop_zero]
          obtain ⟨z70, z71, z72⟩ := HZ7.out.three
          obtain ⟨y70, y71, y72⟩ := HY7.out
          have zl7 := lt_of_cell z70
          obtain ⟨z80, z81, z82⟩ := HZ8.out.three
          obtain ⟨y80, y81, y82⟩ := HY8.out
          have zl8 := lt_of_cell z80
          (try simp only [Act.put, List.getElem_toArray, List.getElem_cons_zero, List.getElem_cons_succ, List.setIfInBounds_toArray, List.set_cons_zero, List.set_cons_succ])
          have hpw := HP.out
          have hw := HX0.out.fr.size
          have R5 := HR5.out.mono (G := Also (Also F0 v0 v1) v2 v3) (fun g h => .inl h)
          have R6 := HR6.out.mono (G := Also (Also F0 v0 v1) v2 v3) (fun g h => h.elim (fun h => .inl (.inl h)) .inr)
          have hfar : ∀ g, p + 2 ≤ g → (g = g7 ∨ g = g8) → ¬ Also (Also F0 v0 v1) v2 v3 g := by
            rintro g h1 h2 ((h | h) | h)
            · have := HF0.out g h; omega
            · have := h.1; have := h.2; omega
            · have := h.1; have := h.2; omega
          have P7 := HX4.out.put (q := g7) R5 (by omega) HZ7.out (hfar g7 (by omega) (.inl rfl)) (by intro x hx; simp only [List.mem_cons, List.not_mem_nil, or_false] at hx; rcases hx with rfl | rfl <;> (show _ ≠ _; simp; omega))
          have P8 := P7.put (q := g8) (R6.keep fun g hg => set3_heap _ _ _ _ _ g (fun e => hfar g7 (by omega) (.inl rfl) (e ▸ hg))) (by omega) (blk_keep HZ8.out (set3_heap _ _ _ _ _ _ (by omega))) (hfar g8 (by omega) (.inr rfl)) (by intro x hx; simp only [List.mem_cons, List.not_mem_nil, or_false] at hx; rcases hx with rfl | rfl | rfl <;> (show _ ≠ _; simp; omega))
          have HP8 := Lib.hid P8
          clear P7 P8 R5 R6 hfar hpw hw
          go_wp2_with fail
          refine NoPanic.normal ?_
          go_wp2_with fail
          go_meet
          exact ⟨g7, g8, _, rfl, rfl, HP8.out⟩
        · skip
          try go_simp
          have kf := (Fr.refl v2).alloc (.cells #[.slice none 0 0, .slice none 0 0, .int .i64 0] 25)
          have HK3 := Lib.hid (HK2.out.call kf)
          have hz3 : v2.heap.size + 1 = (v2.alloc (.cells #[.slice none 0 0, .slice none 0 0, .int .i64 0] 25)).heap.size := by simp
          have HX3 := Lib.hid (HX2.out.call kf)
          have HZ8 := Lib.hid (BlkC.alloc (w := v2) (t := 25) (cs := #[.slice none 0 0, .slice none 0 0, .int .i64 0]))
          have HY8 := Lib.hid (show (v2.alloc (.cells #[.slice none 0 0, .slice none 0 0, .int .i64 0] 25)).frozen? ⟨v2.heap.size, 0, none⟩ = false ∧ (v2.alloc (.cells #[.slice none 0 0, .slice none 0 0, .int .i64 0] 25)).frozen? ⟨v2.heap.size, 1, none⟩ = false ∧ (v2.alloc (.cells #[.slice none 0 0, .slice none 0 0, .int .i64 0] 25)).frozen? ⟨v2.heap.size, 2, none⟩ = false from ⟨World.frozen?_alloc_at _ _ _ _ rfl, World.frozen?_alloc_at _ _ _ _ rfl, World.frozen?_alloc_at _ _ _ _ rfl⟩)
          replace HY7 := Lib.hid (show _ ∧ _ ∧ _ from ⟨kf.free (HZ7.out 0 _ rfl) HY7.out.1, kf.free (HZ7.out 1 _ rfl) HY7.out.2.1, kf.free (HZ7.out 2 _ rfl) HY7.out.2.2⟩)
          replace HZ7 := Lib.hid (HZ7.out.fr kf)
          replace HR5 := Lib.hid (HR5.out.fr kf)
          refine hK _ _ (HSF.out _ HK3.out) ?_
          clear hK K kf
          generalize World.alloc v2 (.cells #[.slice none 0 0, .slice none 0 0, .int .i64 0] 25) = v3 at *
          obtain ⟨g8, hgz8⟩ : ∃ g, v2.heap.size = g := ⟨_, rfl⟩
          rw [hgz8] at HZ8 HY8 ⊢
          (try simp only [Act.put, List.getElem_toArray, List.getElem_cons_zero, List.getElem_cons_succ, List.setIfInBounds_toArray, List.set_cons_zero, List.set_cons_succ])
          refine wpHead_lone (i := 3) rfl (by kernel_rfl) (by decide) rfl (fun K hK => ?_)
          go_simp
          refine (copy_at hb (HA4.out.fr HK3.out)).mono ?_
          rintro e v4 ⟨_, rfl, hat, hf⟩
          obtain ⟨A6, B6, c6, d6, rfl, _, _, _⟩ := id hat
          have HK4 := Lib.hid (HK3.out.call hf)
          have hz4 := hf.size
          have HX4 := Lib.hid (HX3.out.also hf)
          replace HY7 := Lib.hid (show _ ∧ _ ∧ _ from ⟨hf.free (HZ7.out 0 _ rfl) HY7.out.1, hf.free (HZ7.out 1 _ rfl) HY7.out.2.1, hf.free (HZ7.out 2 _ rfl) HY7.out.2.2⟩)
          replace HZ7 := Lib.hid (HZ7.out.fr hf)
          replace HY8 := Lib.hid (show _ ∧ _ ∧ _ from ⟨hf.free (HZ8.out 0 _ rfl) HY8.out.1, hf.free (HZ8.out 1 _ rfl) HY8.out.2.1, hf.free (HZ8.out 2 _ rfl) HY8.out.2.2⟩)
          replace HZ8 := Lib.hid (HZ8.out.fr hf)
          replace HR5 := Lib.hid (HR5.out.fr hf)
          have HR6 := Lib.hid hat
          clear hat
          (try go_wp2_with fail)
          refine hK _ _ (HSF.out _ HK4.out) ?_
          clear hK K hf
          (try simp only [Act.put, List.getElem_toArray, List.getElem_cons_zero, List.getElem_cons_succ, List.setIfInBounds_toArray, List.set_cons_zero, List.set_cons_succ])
          refine wpHead_done (by kernel_rfl) ?_
          simp only [List.drop_succ_cons, List.drop_zero]
          obtain ⟨z70, z71, z72⟩ := HZ7.out.three
          obtain ⟨y70, y71, y72⟩ := HY7.out
          have zl7 := lt_of_cell z70
          obtain ⟨z80, z81, z82⟩ := HZ8.out.three
          obtain ⟨y80, y81, y82⟩ := HY8.out
          have zl8 := lt_of_cell z80
          (try simp only [Act.put, List.getElem_toArray, List.getElem_cons_zero, List.getElem_cons_succ, List.setIfInBounds_toArray, List.set_cons_zero, List.set_cons_succ])
          have hpw := HP.out
          have hw := HX0.out.fr.size
          have R5 := HR5.out.mono (G := Also (Also F0 v0 v1) v3 v4) (fun g h => .inl h)
          have R6 := HR6.out.mono (G := Also (Also F0 v0 v1) v3 v4) (fun g h => h.elim (fun h => .inl (.inl h)) .inr)
          have hfar : ∀ g, p + 2 ≤ g → (g = g7 ∨ g = g8) → ¬ Also (Also F0 v0 v1) v3 v4 g := by
            rintro g h1 h2 ((h | h) | h)
            · have := HF0.out g h; omega
            · have := h.1; have := h.2; omega
            · have := h.1; have := h.2; omega
          have P7 := HX4.out.put (q := g7) R5 (by omega) HZ7.out (hfar g7 (by omega) (.inl rfl)) (by intro x hx; simp only [List.mem_cons, List.not_mem_nil, or_false] at hx; rcases hx with rfl | rfl <;> (show _ ≠ _; simp; omega))
          have P8 := P7.put (q := g8) (R6.keep fun g hg => set3_heap _ _ _ _ _ g (fun e => hfar g7 (by omega) (.inl rfl) (e ▸ hg))) (by omega) (blk_keep HZ8.out (set3_heap _ _ _ _ _ _ (by omega))) (hfar g8 (by omega) (.inr rfl)) (by intro x hx; simp only [List.mem_cons, List.not_mem_nil, or_false] at hx; rcases hx with rfl | rfl | rfl <;> (show _ ≠ _; simp; omega))
          have HP8 := Lib.hid P8
          clear P7 P8 R5 R6 hfar hpw hw
          go_wp2_with fail
          refine NoPanic.normal ?_
          go_wp2_with fail
          go_meet
          exact ⟨g7, g8, _, rfl, rfl, HP8.out⟩
      · skip
        try go_simp
        have kf := (Fr.refl v1).alloc (.cells #[.slice none 0 0, .slice none 0 0, .int .i64 0] 25)
        have HK2 := Lib.hid (HK1.out.call kf)
        have hz2 : v1.heap.size + 1 = (v1.alloc (.cells #[.slice none 0 0, .slice none 0 0, .int .i64 0] 25)).heap.size := by simp
        have HX2 := Lib.hid (HX1.out.call kf)
        have HZ8 := Lib.hid (BlkC.alloc (w := v1) (t := 25) (cs := #[.slice none 0 0, .slice none 0 0, .int .i64 0]))
        have HY8 := Lib.hid (show (v1.alloc (.cells #[.slice none 0 0, .slice none 0 0, .int .i64 0] 25)).frozen? ⟨v1.heap.size, 0, none⟩ = false ∧ (v1.alloc (.cells #[.slice none 0 0, .slice none 0 0, .int .i64 0] 25)).frozen? ⟨v1.heap.size, 1, none⟩ = false ∧ (v1.alloc (.cells #[.slice none 0 0, .slice none 0 0, .int .i64 0] 25)).frozen? ⟨v1.heap.size, 2, none⟩ = false from ⟨World.frozen?_alloc_at _ _ _ _ rfl, World.frozen?_alloc_at _ _ _ _ rfl, World.frozen?_alloc_at _ _ _ _ rfl⟩)
        replace HR5 := Lib.hid (HR5.out.fr kf)
        refine hK _ _ (HSF.out _ HK2.out) ?_
        clear hK K kf
        generalize World.alloc v1 (.cells #[.slice none 0 0, .slice none 0 0, .int .i64 0] 25) = v2 at *
        obtain ⟨g8, hgz8⟩ : ∃ g, v1.heap.size = g := ⟨_, rfl⟩
        rw [hgz8] at HZ8 HY8 ⊢
        (try simp only [Act.put, List.getElem_toArray, List.getElem_cons_zero, List.getElem_cons_succ, List.setIfInBounds_toArray, List.set_cons_zero, List.set_cons_succ])
        refine wpHead_two (i := 3) (j := 4) rfl rfl (by kernel_rfl) (by decide) (by decide) rfl rfl (fun K hK => ?_) (fun K hK => ?_)
        · skip
          go_simp
          refine (copy_at hb (HA4.out.fr HK2.out)).mono ?_
          rintro e v3 ⟨_, rfl, hat, hf⟩
          obtain ⟨A6, B6, c6, d6, rfl, _, _, _⟩ := id hat
          have HK3 := Lib.hid (HK2.out.call hf)
          have hz3 := hf.size
          have HX3 := Lib.hid (HX2.out.also hf)
          replace HY8 := Lib.hid (show _ ∧ _ ∧ _ from ⟨hf.free (HZ8.out 0 _ rfl) HY8.out.1, hf.free (HZ8.out 1 _ rfl) HY8.out.2.1, hf.free (HZ8.out 2 _ rfl) HY8.out.2.2⟩)
          replace HZ8 := Lib.hid (HZ8.out.fr hf)
          replace HR5 := Lib.hid (HR5.out.fr hf)
          have HR6 := Lib.hid hat
          clear hat
          (try go_wp2_with fail)
          refine hK _ _ (HSF.out _ HK3.out) ?_
          clear hK K hf
          (try simp only [Act.put, List.getElem_toArray, List.getElem_cons_zero, List.getElem_cons_succ, List.setIfInBounds_toArray, List.set_cons_zero, List.set_cons_succ])
          refine wpHead_lone (i := 4) rfl (by kernel_rfl) (by decide) rfl (fun K hK => ?_)
          try go_simp
          have kf := (Fr.refl v3).alloc (.cells #[.slice none 0 0, .slice none 0 0, .int .i64 0] 25)
          have HK4 := Lib.hid (HK3.out.call kf)
          have hz4 : v3.heap.size + 1 = (v3.alloc (.cells #[.slice none 0 0, .slice none 0 0, .int .i64 0] 25)).heap.size := by simp
          have HX4 := Lib.hid (HX3.out.call kf)
          have HZ7 := Lib.hid (BlkC.alloc (w := v3) (t := 25) (cs := #[.slice none 0 0, .slice none 0 0, .int .i64 0]))
          have HY7 := Lib.hid (show (v3.alloc (.cells #[.slice none 0 0, .slice none 0 0, .int .i64 0] 25)).frozen? ⟨v3.heap.size, 0, none⟩ = false ∧ (v3.alloc (.cells #[.slice none 0 0, .slice none 0 0, .int .i64 0] 25)).frozen? ⟨v3.heap.size, 1, none⟩ = false ∧ (v3.alloc (.cells #[.slice none 0 0, .slice none 0 0, .int .i64 0] 25)).frozen? ⟨v3.heap.size, 2, none⟩ = false from ⟨World.frozen?_alloc_at _ _ _ _ rfl, World.frozen?_alloc_at _ _ _ _ rfl, World.frozen?_alloc_at _ _ _ _ rfl⟩)
          replace HY8 := Lib.hid (show _ ∧ _ ∧ _ from ⟨kf.free (HZ8.out 0 _ rfl) HY8.out.1, kf.free (HZ8.out 1 _ rfl) HY8.out.2.1, kf.free (HZ8.out 2 _ rfl) HY8.out.2.2⟩)
          replace HZ8 := Lib.hid (HZ8.out.fr kf)
          replace HR5 := Lib.hid (HR5.out.fr kf)
          replace HR6 := Lib.hid (HR6.out.fr kf)
          refine hK _ _ (HSF.out _ HK4.out) ?_
          clear hK K kf
          generalize World.alloc v3 (.cells #[.slice none 0 0, .slice none 0 0, .int .i64 0] 25) = v4 at *
          obtain ⟨g7, hgz7⟩ : ∃ g, v3.heap.size = g := ⟨_, rfl⟩
          rw [hgz7] at HZ7 HY7 ⊢
          (try simp only [Act.put, List.getElem_toArray, List.getElem_cons_zero, List.getElem_cons_succ, List.setIfInBounds_toArray, List.set_cons_zero, List.set_cons_succ])
          refine wpHead_done (by kernel_rfl) ?_
          simp only [List.drop_succ_cons, List.drop_zero]
          obtain ⟨z70, z71, z72⟩ := HZ7.out.three
          obtain ⟨y70, y71, y72⟩ := HY7.out
          have zl7 := lt_of_cell z70
          obtain ⟨z80, z81, z82⟩ := HZ8.out.three
          obtain ⟨y80, y81, y82⟩ := HY8.out
          have zl8 := lt_of_cell z80
          (try simp only [Act.put, List.getElem_toArray, List.getElem_cons_zero, List.getElem_cons_succ, List.setIfInBounds_toArray, List.set_cons_zero, List.set_cons_succ])
          have hpw := HP.out
          have hw := HX0.out.fr.size
          have R5 := HR5.out.mono (G := Also (Also F0 v0 v1) v2 v3) (fun g h => .inl h)
          have R6 := HR6.out.mono (G := Also (Also F0 v0 v1) v2 v3) (fun g h => h.elim (fun h => .inl (.inl h)) .inr)
          have hfar : ∀ g, p + 2 ≤ g → (g = g7 ∨ g = g8) → ¬ Also (Also F0 v0 v1) v2 v3 g := by
            rintro g h1 h2 ((h | h) | h)
            · have := HF0.out g h; omega
            · have := h.1; have := h.2; omega
            · have := h.1; have := h.2; omega
          have P7 := HX4.out.put (q := g7) R5 (by omega) HZ7.out (hfar g7 (by omega) (.inl rfl)) (by intro x hx; simp only [List.mem_cons, List.not_mem_nil, or_false] at hx; rcases hx with rfl | rfl <;> (show _ ≠ _; simp; omega))
          have P8 := P7.put (q := g8) (R6.keep fun g hg => set3_heap _ _ _ _ _ g (fun e => hfar g7 (by omega) (.inl rfl) (e ▸ hg))) (by omega) (blk_keep HZ8.out (set3_heap _ _ _ _ _ _ (by omega))) (hfar g8 (by omega) (.inr rfl)) (by intro x hx; simp only [List.mem_cons, List.not_mem_nil, or_false] at hx; rcases hx with rfl | rfl | rfl <;> (show _ ≠ _; simp; omega))
          have HP8 := Lib.hid P8
          clear P7 P8 R5 R6 hfar hpw hw
          go_wp2_with fail
          refine NoPanic.normal ?_
          go_wp2_with fail
          go_meet
          exact ⟨g7, g8, _, rfl, rfl, HP8.out⟩
        · skip
          try go_simp
          have kf := (Fr.refl v2).alloc (.cells #[.slice none 0 0, .slice none 0 0, .int .i64 0] 25)
          have HK3 := Lib.hid (HK2.out.call kf)
          have hz3 : v2.heap.size + 1 = (v2.alloc (.cells #[.slice none 0 0, .slice none 0 0, .int .i64 0] 25)).heap.size := by simp
          have HX3 := Lib.hid (HX2.out.call kf)
          have HZ7 := Lib.hid (BlkC.alloc (w := v2) (t := 25) (cs := #[.slice none 0 0, .slice none 0 0, .int .i64 0]))
          have HY7 := Lib.hid (show (v2.alloc (.cells #[.slice none 0 0, .slice none 0 0, .int .i64 0] 25)).frozen? ⟨v2.heap.size, 0, none⟩ = false ∧ (v2.alloc (.cells #[.slice none 0 0, .slice none 0 0, .int .i64 0] 25)).frozen? ⟨v2.heap.size, 1, none⟩ = false ∧ (v2.alloc (.cells #[.slice none 0 0, .slice none 0 0, .int .i64 0] 25)).frozen? ⟨v2.heap.size, 2, none⟩ = false from ⟨World.frozen?_alloc_at _ _ _ _ rfl, World.frozen?_alloc_at _ _ _ _ rfl, World.frozen?_alloc_at _ _ _ _ rfl⟩)
          replace HY8 := Lib.hid (show _ ∧ _ ∧ _ from ⟨kf.free (HZ8.out 0 _ rfl) HY8.out.1, kf.free (HZ8.out 1 _ rfl) HY8.out.2.1, kf.free (HZ8.out 2 _ rfl) HY8.out.2.2⟩)
          replace HZ8 := Lib.hid (HZ8.out.fr kf)
          replace HR5 := Lib.hid (HR5.out.fr kf)
          refine hK _ _ (HSF.out _ HK3.out) ?_
          clear hK K kf
          generalize World.alloc v2 (.cells #[.slice none 0 0, .slice none 0 0, .int .i64 0] 25) = v3 at *
          obtain ⟨g7, hgz7⟩ : ∃ g, v2.heap.size = g := ⟨_, rfl⟩
          rw [hgz7] at HZ7 HY7 ⊢
          (try simp only [Act.put, List.getElem_toArray, List.getElem_cons_zero, List.getElem_cons_succ, List.setIfInBounds_toArray, List.set_cons_zero, List.set_cons_succ])
          refine wpHead_lone (i := 3) rfl (by kernel_rfl) (by decide) rfl (fun K hK => ?_)
          go_simp
          refine (copy_at hb (HA4.out.fr HK3.out)).mono ?_
          rintro e v4 ⟨_, rfl, hat, hf⟩
          obtain ⟨A6, B6, c6, d6, rfl, _, _, _⟩ := id hat
          have HK4 := Lib.hid (HK3.out.call hf)
          have hz4 := hf.size
          have HX4 := Lib.hid (HX3.out.also hf)
          replace HY7 := Lib.hid (show _ ∧ _ ∧ _ from ⟨hf.free (HZ7.out 0 _ rfl) HY7.out.1, hf.free (HZ7.out 1 _ rfl) HY7.out.2.1, hf.free (HZ7.out 2 _ rfl) HY7.out.2.2⟩)
          replace HZ7 := Lib.hid (HZ7.out.fr hf)
          replace HY8 := Lib.hid (show _ ∧ _ ∧ _ from ⟨hf.free (HZ8.out 0 _ rfl) HY8.out.1, hf.free (HZ8.out 1 _ rfl) HY8.out.2.1, hf.free (HZ8.out 2 _ rfl) HY8.out.2.2⟩)
          replace HZ8 := Lib.hid (HZ8.out.fr hf)
          replace HR5 := Lib.hid (HR5.out.fr hf)
          have HR6 := Lib.hid hat
          clear hat
          (try go_wp2_with fail)
          refine hK _ _ (HSF.out _ HK4.out) ?_
          clear hK K hf
          (try simp only [Act.put, List.getElem_toArray, List.getElem_cons_zero, List.getElem_cons_succ, List.setIfInBounds_toArray, List.set_cons_zero, List.set_cons_succ])
          refine wpHead_done (by kernel_rfl) ?_
          simp only [List.drop_succ_cons, List.drop_zero]
          obtain ⟨z70, z71, z72⟩ := HZ7.out.three
          obtain ⟨y70, y71, y72⟩ := HY7.out
          have zl7 := lt_of_cell z70
          obtain ⟨z80, z81, z82⟩ := HZ8.out.three
          obtain ⟨y80, y81, y82⟩ := HY8.out
          have zl8 := lt_of_cell z80
          (try simp only [Act.put, List.getElem_toArray, List.getElem_cons_zero, List.getElem_cons_succ, List.setIfInBounds_toArray, List.set_cons_zero, List.set_cons_succ])
          have hpw := HP.out
          have hw := HX0.out.fr.size
          have R5 := HR5.out.mono (G := Also (Also F0 v0 v1) v3 v4) (fun g h => .inl h)
          have R6 := HR6.out.mono (G := Also (Also F0 v0 v1) v3 v4) (fun g h => h.elim (fun h => .inl (.inl h)) .inr)
          have hfar : ∀ g, p + 2 ≤ g → (g = g7 ∨ g = g8) → ¬ Also (Also F0 v0 v1) v3 v4 g := by
            rintro g h1 h2 ((h | h) | h)
            · have := HF0.out g h; omega
            · have := h.1; have := h.2; omega
            · have := h.1; have := h.2; omega
          have P7 := HX4.out.put (q := g7) R5 (by omega) HZ7.out (hfar g7 (by omega) (.inl rfl)) (by intro x hx; simp only [List.mem_cons, List.not_mem_nil, or_false] at hx; rcases hx with rfl | rfl <;> (show _ ≠ _; simp; omega))
          have P8 := P7.put (q := g8) (R6.keep fun g hg => set3_heap _ _ _ _ _ g (fun e => hfar g7 (by omega) (.inl rfl) (e ▸ hg))) (by omega) (blk_keep HZ8.out (set3_heap _ _ _ _ _ _ (by omega))) (hfar g8 (by omega) (.inr rfl)) (by intro x hx; simp only [List.mem_cons, List.not_mem_nil, or_false] at hx; rcases hx with rfl | rfl | rfl <;> (show _ ≠ _; simp; omega))
          have HP8 := Lib.hid P8
          clear P7 P8 R5 R6 hfar hpw hw
          go_wp2_with fail
          refine NoPanic.normal ?_
          go_wp2_with fail
          go_meet
          exact ⟨g7, g8, _, rfl, rfl, HP8.out⟩
    · skip
      try go_simp
      have kf := (Fr.refl v0).alloc (.cells #[.slice none 0 0, .slice none 0 0, .int .i64 0] 25)
      have HK1 := Lib.hid (HK0.out.call kf)
      have hz1 : v0.heap.size + 1 = (v0.alloc (.cells #[.slice none 0 0, .slice none 0 0, .int .i64 0] 25)).heap.size := by simp
      have HX1 := Lib.hid (HX0.out.call kf)
      have HZ7 := Lib.hid (BlkC.alloc (w := v0) (t := 25) (cs := #[.slice none 0 0, .slice none 0 0, .int .i64 0]))
      have HY7 := Lib.hid (show (v0.alloc (.cells #[.slice none 0 0, .slice none 0 0, .int .i64 0] 25)).frozen? ⟨v0.heap.size, 0, none⟩ = false ∧ (v0.alloc (.cells #[.slice none 0 0, .slice none 0 0, .int .i64 0] 25)).frozen? ⟨v0.heap.size, 1, none⟩ = false ∧ (v0.alloc (.cells #[.slice none 0 0, .slice none 0 0, .int .i64 0] 25)).frozen? ⟨v0.heap.size, 2, none⟩ = false from ⟨World.frozen?_alloc_at _ _ _ _ rfl, World.frozen?_alloc_at _ _ _ _ rfl, World.frozen?_alloc_at _ _ _ _ rfl⟩)
      refine hK _ _ (HSF.out _ HK1.out) ?_
      clear hK K kf
      generalize World.alloc v0 (.cells #[.slice none 0 0, .slice none 0 0, .int .i64 0] 25) = v1 at *
      obtain ⟨g7, hgz7⟩ : ∃ g, v0.heap.size = g := ⟨_, rfl⟩
      rw [hgz7] at HZ7 HY7 ⊢
      (try simp only [Act.put, List.getElem_toArray, List.getElem_cons_zero, List.getElem_cons_succ, List.setIfInBounds_toArray, List.set_cons_zero, List.set_cons_succ])
      refine wpHead_two (i := 1) (j := 5) rfl rfl (by kernel_rfl) (by decide) (by decide) rfl rfl (fun K hK => ?_) (fun K hK => ?_)
      · skip
        go_simp
        refine (copy_at ha (HA3.out.fr HK1.out)).mono ?_
        rintro e v2 ⟨_, rfl, hat, hf⟩
        obtain ⟨A5, B5, c5, d5, rfl, _, _, _⟩ := id hat
        have HK2 := Lib.hid (HK1.out.call hf)
        have hz2 := hf.size
        have HX2 := Lib.hid (HX1.out.also hf)
        replace HY7 := Lib.hid (show _ ∧ _ ∧ _ from ⟨hf.free (HZ7.out 0 _ rfl) HY7.out.1, hf.free (HZ7.out 1 _ rfl) HY7.out.2.1, hf.free (HZ7.out 2 _ rfl) HY7.out.2.2⟩)
        replace HZ7 := Lib.hid (HZ7.out.fr hf)
        have HR5 := Lib.hid hat
        clear hat
        (try go_wp2_with fail)
        refine hK _ _ (HSF.out _ HK2.out) ?_
        clear hK K hf
        (try simp only [Act.put, List.getElem_toArray, List.getElem_cons_zero, List.getElem_cons_succ, List.setIfInBounds_toArray, List.set_cons_zero, List.set_cons_succ])
        refine wpHead_two (i := 3) (j := 5) rfl rfl (by kernel_rfl) (by decide) (by decide) rfl rfl (fun K hK => ?_) (fun K hK => ?_)
        · skip
          go_simp
          refine (copy_at hb (HA4.out.fr HK2.out)).mono ?_
          rintro e v3 ⟨_, rfl, hat, hf⟩
          obtain ⟨A6, B6, c6, d6, rfl, _, _, _⟩ := id hat
          have HK3 := Lib.hid (HK2.out.call hf)
          have hz3 := hf.size
          have HX3 := Lib.hid (HX2.out.also hf)
          replace HY7 := Lib.hid (show _ ∧ _ ∧ _ from ⟨hf.free (HZ7.out 0 _ rfl) HY7.out.1, hf.free (HZ7.out 1 _ rfl) HY7.out.2.1, hf.free (HZ7.out 2 _ rfl) HY7.out.2.2⟩)
          replace HZ7 := Lib.hid (HZ7.out.fr hf)
          replace HR5 := Lib.hid (HR5.out.fr hf)
          have HR6 := Lib.hid hat
          clear hat
          (try go_wp2_with fail)
          refine hK _ _ (HSF.out _ HK3.out) ?_
          clear hK K hf
          (try simp only [Act.put, List.getElem_toArray, List.getElem_cons_zero, List.getElem_cons_succ, List.setIfInBounds_toArray, List.set_cons_zero, List.set_cons_succ])
          refine wpHead_lone (i := 5) rfl (by kernel_rfl) (by decide) rfl (fun K hK => ?_)
          try go_simp
          have kf := (Fr.refl v3).alloc (.cells #[.slice none 0 0, .slice none 0 0, .int .i64 0] 25)
          have HK4 := Lib.hid (HK3.out.call kf)
          have hz4 : v3.heap.size + 1 = (v3.alloc (.cells #[.slice none 0 0, .slice none 0 0, .int .i64 0] 25)).heap.size := by simp
          have HX4 := Lib.hid (HX3.out.call kf)
          have HZ8 := Lib.hid (BlkC.alloc (w := v3) (t := 25) (cs := #[.slice none 0 0, .slice none 0 0, .int .i64 0]))
          have HY8 := Lib.hid (show (v3.alloc (.cells #[.slice none 0 0, .slice none 0 0, .int .i64 0] 25)).frozen? ⟨v3.heap.size, 0, none⟩ = false ∧ (v3.alloc (.cells #[.slice none 0 0, .slice none 0 0, .int .i64 0] 25)).frozen? ⟨v3.heap.size, 1, none⟩ = false ∧ (v3.alloc (.cells #[.slice none 0 0, .slice none 0 0, .int .i64 0] 25)).frozen? ⟨v3.heap.size, 2, none⟩ = false from ⟨World.frozen?_alloc_at _ _ _ _ rfl, World.frozen?_alloc_at _ _ _ _ rfl, World.frozen?_alloc_at _ _ _ _ rfl⟩)
          replace HY7 := Lib.hid (show _ ∧ _ ∧ _ from ⟨kf.free (HZ7.out 0 _ rfl) HY7.out.1, kf.free (HZ7.out 1 _ rfl) HY7.out.2.1, kf.free (HZ7.out 2 _ rfl) HY7.out.2.2⟩)
          replace HZ7 := Lib.hid (HZ7.out.fr kf)
          replace HR5 := Lib.hid (HR5.out.fr kf)
          replace HR6 := Lib.hid (HR6.out.fr kf)
          refine hK _ _ (HSF.out _ HK4.out) ?_
          clear hK K kf
          generalize World.alloc v3 (.cells #[.slice none 0 0, .slice none 0 0, .int .i64 0] 25) = v4 at *
          obtain ⟨g8, hgz8⟩ : ∃ g, v3.heap.size = g := ⟨_, rfl⟩
          rw [hgz8] at HZ8 HY8 ⊢
          (try simp only [Act.put, List.getElem_toArray, List.getElem_cons_zero, List.getElem_cons_succ, List.setIfInBounds_toArray, List.set_cons_zero, List.set_cons_succ])
          refine wpHead_done (by kernel_rfl) ?_
          simp only [List.drop_succ_cons, List.drop_zero]
          obtain ⟨z70, z71, z72⟩ := HZ7.out.three
          obtain ⟨y70, y71, y72⟩ := HY7.out
          have zl7 := lt_of_cell z70
          obtain ⟨z80, z81, z82⟩ := HZ8.out.three
          obtain ⟨y80, y81, y82⟩ := HY8.out
          have zl8 := lt_of_cell z80
          (try simp only [Act.put, List.getElem_toArray, List.getElem_cons_zero, List.getElem_cons_succ, List.setIfInBounds_toArray, List.set_cons_zero, List.set_cons_succ])
          have hpw := HP.out
          have hw := HX0.out.fr.size
          have R5 := HR5.out.mono (G := Also (Also F0 v1 v2) v2 v3) (fun g h => .inl h)
          have R6 := HR6.out.mono (G := Also (Also F0 v1 v2) v2 v3) (fun g h => h.elim (fun h => .inl (.inl h)) .inr)
          have hfar : ∀ g, p + 2 ≤ g → (g = g7 ∨ g = g8) → ¬ Also (Also F0 v1 v2) v2 v3 g := by
            rintro g h1 h2 ((h | h) | h)
            · have := HF0.out g h; omega
            · have := h.1; have := h.2; omega
            · have := h.1; have := h.2; omega
          have P7 := HX4.out.put (q := g7) R5 (by omega) HZ7.out (hfar g7 (by omega) (.inl rfl)) (by intro x hx; simp only [List.mem_cons, List.not_mem_nil, or_false] at hx; rcases hx with rfl | rfl <;> (show _ ≠ _; simp; omega))
          have P8 := P7.put (q := g8) (R6.keep fun g hg => set3_heap _ _ _ _ _ g (fun e => hfar g7 (by omega) (.inl rfl) (e ▸ hg))) (by omega) (blk_keep HZ8.out (set3_heap _ _ _ _ _ _ (by omega))) (hfar g8 (by omega) (.inr rfl)) (by intro x hx; simp only [List.mem_cons, List.not_mem_nil, or_false] at hx; rcases hx with rfl | rfl | rfl <;> (show _ ≠ _; simp; omega))
          have HP8 := Lib.hid P8
          clear P7 P8 R5 R6 hfar hpw hw
          go_wp2_with fail
          refine NoPanic.normal ?_
          go_wp2_with fail
          go_meet
          exact ⟨g7, g8, _, rfl, rfl, HP8.out⟩
        · skip
          try go_simp
          have kf := (Fr.refl v2).alloc (.cells #[.slice none 0 0, .slice none 0 0, .int .i64 0] 25)
          have HK3 := Lib.hid (HK2.out.call kf)
          have hz3 : v2.heap.size + 1 = (v2.alloc (.cells #[.slice none 0 0, .slice none 0 0, .int .i64 0] 25)).heap.size := by simp
          have HX3 := Lib.hid (HX2.out.call kf)
          have HZ8 := Lib.hid (BlkC.alloc (w := v2) (t := 25) (cs := #[.slice none 0 0, .slice none 0 0, .int .i64 0]))
          have HY8 := Lib.hid (show (v2.alloc (.cells #[.slice none 0 0, .slice none 0 0, .int .i64 0] 25)).frozen? ⟨v2.heap.size, 0, none⟩ = false ∧ (v2.alloc (.cells #[.slice none 0 0, .slice none 0 0, .int .i64 0] 25)).frozen? ⟨v2.heap.size, 1, none⟩ = false ∧ (v2.alloc (.cells #[.slice none 0 0, .slice none 0 0, .int .i64 0] 25)).frozen? ⟨v2.heap.size, 2, none⟩ = false from ⟨World.frozen?_alloc_at _ _ _ _ rfl, World.frozen?_alloc_at _ _ _ _ rfl, World.frozen?_alloc_at _ _ _ _ rfl⟩)
          replace HY7 := Lib.hid (show _ ∧ _ ∧ _ from ⟨kf.free (HZ7.out 0 _ rfl) HY7.out.1, kf.free (HZ7.out 1 _ rfl) HY7.out.2.1, kf.free (HZ7.out 2 _ rfl) HY7.out.2.2⟩)
          replace HZ7 := Lib.hid (HZ7.out.fr kf)
          replace HR5 := Lib.hid (HR5.out.fr kf)
          refine hK _ _ (HSF.out _ HK3.out) ?_
          clear hK K kf
          generalize World.alloc v2 (.cells #[.slice none 0 0, .slice none 0 0, .int .i64 0] 25) = v3 at *
          obtain ⟨g8, hgz8⟩ : ∃ g, v2.heap.size = g := ⟨_, rfl⟩
          rw [hgz8] at HZ8 HY8 ⊢
          (try simp only [Act.put, List.getElem_toArray, List.getElem_cons_zero, List.getElem_cons_succ, List.setIfInBounds_toArray, List.set_cons_zero, List.set_cons_succ])
          refine wpHead_lone (i := 3) rfl (by kernel_rfl) (by decide) rfl (fun K hK => ?_)
          go_simp
          refine (copy_at hb (HA4.out.fr HK3.out)).mono ?_
          rintro e v4 ⟨_, rfl, hat, hf⟩
          obtain ⟨A6, B6, c6, d6, rfl, _, _, _⟩ := id hat
          have HK4 := Lib.hid (HK3.out.call hf)
          have hz4 := hf.size
          have HX4 := Lib.hid (HX3.out.also hf)
          replace HY7 := Lib.hid (show _ ∧ _ ∧ _ from ⟨hf.free (HZ7.out 0 _ rfl) HY7.out.1, hf.free (HZ7.out 1 _ rfl) HY7.out.2.1, hf.free (HZ7.out 2 _ rfl) HY7.out.2.2⟩)
          replace HZ7 := Lib.hid (HZ7.out.fr hf)
          replace HY8 := Lib.hid (show _ ∧ _ ∧ _ from ⟨hf.free (HZ8.out 0 _ rfl) HY8.out.1, hf.free (HZ8.out 1 _ rfl) HY8.out.2.1, hf.free (HZ8.out 2 _ rfl) HY8.out.2.2⟩)
          replace HZ8 := Lib.hid (HZ8.out.fr hf)
          replace HR5 := Lib.hid (HR5.out.fr hf)
          have HR6 := Lib.hid hat
          clear hat
          (try go_wp2_with fail)
          refine hK _ _ (HSF.out _ HK4.out) ?_
          clear hK K hf
          (try simp only [Act.put, List.getElem_toArray, List.getElem_cons_zero, List.getElem_cons_succ, List.setIfInBounds_toArray, List.set_cons_zero, List.set_cons_succ])
          refine wpHead_done (by kernel_rfl) ?_
          simp only [List.drop_succ_cons, List.drop_zero]
          obtain ⟨z70, z71, z72⟩ := HZ7.out.three
          obtain ⟨y70, y71, y72⟩ := HY7.out
          have zl7 := lt_of_cell z70
          obtain ⟨z80, z81, z82⟩ := HZ8.out.three
          obtain ⟨y80, y81, y82⟩ := HY8.out
          have zl8 := lt_of_cell z80
          (try simp only [Act.put, List.getElem_toArray, List.getElem_cons_zero, List.getElem_cons_succ, List.setIfInBounds_toArray, List.set_cons_zero, List.set_cons_succ])
          have hpw := HP.out
          have hw := HX0.out.fr.size
          have R5 := HR5.out.mono (G := Also (Also F0 v1 v2) v3 v4) (fun g h => .inl h)
          have R6 := HR6.out.mono (G := Also (Also F0 v1 v2) v3 v4) (fun g h => h.elim (fun h => .inl (.inl h)) .inr)
          have hfar : ∀ g, p + 2 ≤ g → (g = g7 ∨ g = g8) → ¬ Also (Also F0 v1 v2) v3 v4 g := by
            rintro g h1 h2 ((h | h) | h)
            · have := HF0.out g h; omega
            · have := h.1; have := h.2; omega
            · have := h.1; have := h.2; omega
          have P7 := HX4.out.put (q := g7) R5 (by omega) HZ7.out (hfar g7 (by omega) (.inl rfl)) (by intro x hx; simp only [List.mem_cons, List.not_mem_nil, or_false] at hx; rcases hx with rfl | rfl <;> (show _ ≠ _; simp; omega))
          have P8 := P7.put (q := g8) (R6.keep fun g hg => set3_heap _ _ _ _ _ g (fun e => hfar g7 (by omega) (.inl rfl) (e ▸ hg))) (by omega) (blk_keep HZ8.out (set3_heap _ _ _ _ _ _ (by omega))) (hfar g8 (by omega) (.inr rfl)) (by intro x hx; simp only [List.mem_cons, List.not_mem_nil, or_false] at hx; rcases hx with rfl | rfl | rfl <;> (show _ ≠ _; simp; omega))
          have HP8 := Lib.hid P8
          clear P7 P8 R5 R6 hfar hpw hw
          go_wp2_with fail
          refine NoPanic.normal ?_
          go_wp2_with fail
          go_meet
          exact ⟨g7, g8, _, rfl, rfl, HP8.out⟩
      · skip
        try go_simp
        have kf := (Fr.refl v1).alloc (.cells #[.slice none 0 0, .slice none 0 0, .int .i64 0] 25)
        have HK2 := Lib.hid (HK1.out.call kf)
        have hz2 : v1.heap.size + 1 = (v1.alloc (.cells #[.slice none 0 0, .slice none 0 0, .int .i64 0] 25)).heap.size := by simp
        have HX2 := Lib.hid (HX1.out.call kf)
        have HZ8 := Lib.hid (BlkC.alloc (w := v1) (t := 25) (cs := #[.slice none 0 0, .slice none 0 0, .int .i64 0]))
        have HY8 := Lib.hid (show (v1.alloc (.cells #[.slice none 0 0, .slice none 0 0, .int .i64 0] 25)).frozen? ⟨v1.heap.size, 0, none⟩ = false ∧ (v1.alloc (.cells #[.slice none 0 0, .slice none 0 0, .int .i64 0] 25)).frozen? ⟨v1.heap.size, 1, none⟩ = false ∧ (v1.alloc (.cells #[.slice none 0 0, .slice none 0 0, .int .i64 0] 25)).frozen? ⟨v1.heap.size, 2, none⟩ = false from ⟨World.frozen?_alloc_at _ _ _ _ rfl, World.frozen?_alloc_at _ _ _ _ rfl, World.frozen?_alloc_at _ _ _ _ rfl⟩)
        replace HY7 := Lib.hid (show _ ∧ _ ∧ _ from ⟨kf.free (HZ7.out 0 _ rfl) HY7.out.1, kf.free (HZ7.out 1 _ rfl) HY7.out.2.1, kf.free (HZ7.out 2 _ rfl) HY7.out.2.2⟩)
        replace HZ7 := Lib.hid (HZ7.out.fr kf)
        refine hK _ _ (HSF.out _ HK2.out) ?_
        clear hK K kf
        generalize World.alloc v1 (.cells #[.slice none 0 0, .slice none 0 0, .int .i64 0] 25) = v2 at *
        obtain ⟨g8, hgz8⟩ : ∃ g, v1.heap.size = g := ⟨_, rfl⟩
        rw [hgz8] at HZ8 HY8 ⊢
        (try simp only [Act.put, List.getElem_toArray, List.getElem_cons_zero, List.getElem_cons_succ, List.setIfInBounds_toArray, List.set_cons_zero, List.set_cons_succ])
        refine wpHead_lone (i := 1) rfl (by kernel_rfl) (by decide) rfl (fun K hK => ?_)
        go_simp
        refine (copy_at ha (HA3.out.fr HK2.out)).mono ?_
        rintro e v3 ⟨_, rfl, hat, hf⟩
        obtain ⟨A5, B5, c5, d5, rfl, _, _, _⟩ := id hat
        have HK3 := Lib.hid (HK2.out.call hf)
        have hz3 := hf.size
        have HX3 := Lib.hid (HX2.out.also hf)
        replace HY7 := Lib.hid (show _ ∧ _ ∧ _ from ⟨hf.free (HZ7.out 0 _ rfl) HY7.out.1, hf.free (HZ7.out 1 _ rfl) HY7.out.2.1, hf.free (HZ7.out 2 _ rfl) HY7.out.2.2⟩)
        replace HZ7 := Lib.hid (HZ7.out.fr hf)
        replace HY8 := Lib.hid (show _ ∧ _ ∧ _ from ⟨hf.free (HZ8.out 0 _ rfl) HY8.out.1, hf.free (HZ8.out 1 _ rfl) HY8.out.2.1, hf.free (HZ8.out 2 _ rfl) HY8.out.2.2⟩)
        replace HZ8 := Lib.hid (HZ8.out.fr hf)
        have HR5 := Lib.hid hat
        clear hat
        (try go_wp2_with fail)
        refine hK _ _ (HSF.out _ HK3.out) ?_
        clear hK K hf
        (try simp only [Act.put, List.getElem_toArray, List.getElem_cons_zero, List.getElem_cons_succ, List.setIfInBounds_toArray, List.set_cons_zero, List.set_cons_succ])
        refine wpHead_lone (i := 3) rfl (by kernel_rfl) (by decide) rfl (fun K hK => ?_)
        go_simp
        refine (copy_at hb (HA4.out.fr HK3.out)).mono ?_
        rintro e v4 ⟨_, rfl, hat, hf⟩
        obtain ⟨A6, B6, c6, d6, rfl, _, _, _⟩ := id hat
        have HK4 := Lib.hid (HK3.out.call hf)
        have hz4 := hf.size
        have HX4 := Lib.hid (HX3.out.also hf)
        replace HY7 := Lib.hid (show _ ∧ _ ∧ _ from ⟨hf.free (HZ7.out 0 _ rfl) HY7.out.1, hf.free (HZ7.out 1 _ rfl) HY7.out.2.1, hf.free (HZ7.out 2 _ rfl) HY7.out.2.2⟩)
        replace HZ7 := Lib.hid (HZ7.out.fr hf)
        replace HY8 := Lib.hid (show _ ∧ _ ∧ _ from ⟨hf.free (HZ8.out 0 _ rfl) HY8.out.1, hf.free (HZ8.out 1 _ rfl) HY8.out.2.1, hf.free (HZ8.out 2 _ rfl) HY8.out.2.2⟩)
        replace HZ8 := Lib.hid (HZ8.out.fr hf)
        replace HR5 := Lib.hid (HR5.out.fr hf)
        have HR6 := Lib.hid hat
        clear hat
        (try go_wp2_with fail)
        refine hK _ _ (HSF.out _ HK4.out) ?_
        clear hK K hf
        (try simp only [Act.put, List.getElem_toArray, List.getElem_cons_zero, List.getElem_cons_succ, List.setIfInBounds_toArray, List.set_cons_zero, List.set_cons_succ])
        refine wpHead_done (by kernel_rfl) ?_
        simp only [List.drop_succ_cons, List.drop_zero]
        obtain ⟨z70, z71, z72⟩ := HZ7.out.three
        obtain ⟨y70, y71, y72⟩ := HY7.out
        have zl7 := lt_of_cell z70
        obtain ⟨z80, z81, z82⟩ := HZ8.out.three
        obtain ⟨y80, y81, y82⟩ := HY8.out
        have zl8 := lt_of_cell z80
        (try simp only [Act.put, List.getElem_toArray, List.getElem_cons_zero, List.getElem_cons_succ, List.setIfInBounds_toArray, List.set_cons_zero, List.set_cons_succ])
        have hpw := HP.out
        have hw := HX0.out.fr.size
        have R5 := HR5.out.mono (G := Also (Also F0 v2 v3) v3 v4) (fun g h => .inl h)
        have R6 := HR6.out.mono (G := Also (Also F0 v2 v3) v3 v4) (fun g h => h.elim (fun h => .inl (.inl h)) .inr)
        have hfar : ∀ g, p + 2 ≤ g → (g = g7 ∨ g = g8) → ¬ Also (Also F0 v2 v3) v3 v4 g := by
          rintro g h1 h2 ((h | h) | h)
          · have := HF0.out g h; omega
          · have := h.1; have := h.2; omega
          · have := h.1; have := h.2; omega
        have P7 := HX4.out.put (q := g7) R5 (by omega) HZ7.out (hfar g7 (by omega) (.inl rfl)) (by intro x hx; simp only [List.mem_cons, List.not_mem_nil, or_false] at hx; rcases hx with rfl | rfl <;> (show _ ≠ _; simp; omega))
        have P8 := P7.put (q := g8) (R6.keep fun g hg => set3_heap _ _ _ _ _ g (fun e => hfar g7 (by omega) (.inl rfl) (e ▸ hg))) (by omega) (blk_keep HZ8.out (set3_heap _ _ _ _ _ _ (by omega))) (hfar g8 (by omega) (.inr rfl)) (by intro x hx; simp only [List.mem_cons, List.not_mem_nil, or_false] at hx; rcases hx with rfl | rfl | rfl <;> (show _ ≠ _; simp; omega))
        have HP8 := Lib.hid P8
        clear P7 P8 R5 R6 hfar hpw hw
        go_wp2_with fail
        refine NoPanic.normal ?_
        go_wp2_with fail
        go_meet
        exact ⟨g7, g8, _, rfl, rfl, HP8.out⟩
    · skip
      try go_simp
      have kf := (Fr.refl v0).alloc (.cells #[.slice none 0 0, .slice none 0 0, .int .i64 0] 25)
      have HK1 := Lib.hid (HK0.out.call kf)
      have hz1 : v0.heap.size + 1 = (v0.alloc (.cells #[.slice none 0 0, .slice none 0 0, .int .i64 0] 25)).heap.size := by simp
      have HX1 := Lib.hid (HX0.out.call kf)
      have HZ8 := Lib.hid (BlkC.alloc (w := v0) (t := 25) (cs := #[.slice none 0 0, .slice none 0 0, .int .i64 0]))
      have HY8 := Lib.hid (show (v0.alloc (.cells #[.slice none 0 0, .slice none 0 0, .int .i64 0] 25)).frozen? ⟨v0.heap.size, 0, none⟩ = false ∧ (v0.alloc (.cells #[.slice none 0 0, .slice none 0 0, .int .i64 0] 25)).frozen? ⟨v0.heap.size, 1, none⟩ = false ∧ (v0.alloc (.cells #[.slice none 0 0, .slice none 0 0, .int .i64 0] 25)).frozen? ⟨v0.heap.size, 2, none⟩ = false from ⟨World.frozen?_alloc_at _ _ _ _ rfl, World.frozen?_alloc_at _ _ _ _ rfl, World.frozen?_alloc_at _ _ _ _ rfl⟩)
      refine hK _ _ (HSF.out _ HK1.out) ?_
      clear hK K kf
      generalize World.alloc v0 (.cells #[.slice none 0 0, .slice none 0 0, .int .i64 0] 25) = v1 at *
      obtain ⟨g8, hgz8⟩ : ∃ g, v0.heap.size = g := ⟨_, rfl⟩
      rw [hgz8] at HZ8 HY8 ⊢
      (try simp only [Act.put, List.getElem_toArray, List.getElem_cons_zero, List.getElem_cons_succ, List.setIfInBounds_toArray, List.set_cons_zero, List.set_cons_succ])
      refine wpHead_two (i := 1) (j := 4) rfl rfl (by kernel_rfl) (by decide) (by decide) rfl rfl (fun K hK => ?_) (fun K hK => ?_)
      · skip
        go_simp
        refine (copy_at ha (HA3.out.fr HK1.out)).mono ?_
        rintro e v2 ⟨_, rfl, hat, hf⟩
        obtain ⟨A5, B5, c5, d5, rfl, _, _, _⟩ := id hat
        have HK2 := Lib.hid (HK1.out.call hf)
        have hz2 := hf.size
        have HX2 := Lib.hid (HX1.out.also hf)
        replace HY8 := Lib.hid (show _ ∧ _ ∧ _ from ⟨hf.free (HZ8.out 0 _ rfl) HY8.out.1, hf.free (HZ8.out 1 _ rfl) HY8.out.2.1, hf.free (HZ8.out 2 _ rfl) HY8.out.2.2⟩)
        replace HZ8 := Lib.hid (HZ8.out.fr hf)
        have HR5 := Lib.hid hat
        clear hat
        (try go_wp2_with fail)
        refine hK _ _ (HSF.out _ HK2.out) ?_
        clear hK K hf
        (try simp only [Act.put, List.getElem_toArray, List.getElem_cons_zero, List.getElem_cons_succ, List.setIfInBounds_toArray, List.set_cons_zero, List.set_cons_succ])
        refine wpHead_two (i := 3) (j := 4) rfl rfl (by kernel_rfl) (by decide) (by decide) rfl rfl (fun K hK => ?_) (fun K hK => ?_)
        · skip
          go_simp
          refine (copy_at hb (HA4.out.fr HK2.out)).mono ?_
          rintro e v3 ⟨_, rfl, hat, hf⟩
          obtain ⟨A6, B6, c6, d6, rfl, _, _, _⟩ := id hat
          have HK3 := Lib.hid (HK2.out.call hf)
          have hz3 := hf.size
          have HX3 := Lib.hid (HX2.out.also hf)
          replace HY8 := Lib.hid (show _ ∧ _ ∧ _ from ⟨hf.free (HZ8.out 0 _ rfl) HY8.out.1, hf.free (HZ8.out 1 _ rfl) HY8.out.2.1, hf.free (HZ8.out 2 _ rfl) HY8.out.2.2⟩)
          replace HZ8 := Lib.hid (HZ8.out.fr hf)
          replace HR5 := Lib.hid (HR5.out.fr hf)
          have HR6 := Lib.hid hat
          clear hat
          (try go_wp2_with fail)
          refine hK _ _ (HSF.out _ HK3.out) ?_
          clear hK K hf
          (try simp only [Act.put, List.getElem_toArray, List.getElem_cons_zero, List.getElem_cons_succ, List.setIfInBounds_toArray, List.set_cons_zero, List.set_cons_succ])
          refine wpHead_lone (i := 4) rfl (by kernel_rfl) (by decide) rfl (fun K hK => ?_)
          try go_simp
          have kf := (Fr.refl v3).alloc (.cells #[.slice none 0 0, .slice none 0 0, .int .i64 0] 25)
          have HK4 := Lib.hid (HK3.out.call kf)
          have hz4 : v3.heap.size + 1 = (v3.alloc (.cells #[.slice none 0 0, .slice none 0 0, .int .i64 0] 25)).heap.size := by simp
          have HX4 := Lib.hid (HX3.out.call kf)
          have HZ7 := Lib.hid (BlkC.alloc (w := v3) (t := 25) (cs := #[.slice none 0 0, .slice none 0 0, .int .i64 0]))
          have HY7 := Lib.hid (show (v3.alloc (.cells #[.slice none 0 0, .slice none 0 0, .int .i64 0] 25)).frozen? ⟨v3.heap.size, 0, none⟩ = false ∧ (v3.alloc (.cells #[.slice none 0 0, .slice none 0 0, .int .i64 0] 25)).frozen? ⟨v3.heap.size, 1, none⟩ = false ∧ (v3.alloc (.cells #[.slice none 0 0, .slice none 0 0, .int .i64 0] 25)).frozen? ⟨v3.heap.size, 2, none⟩ = false from ⟨World.frozen?_alloc_at _ _ _ _ rfl, World.frozen?_alloc_at _ _ _ _ rfl, World.frozen?_alloc_at _ _ _ _ rfl⟩)
          replace HY8 := Lib.hid (show _ ∧ _ ∧ _ from ⟨kf.free (HZ8.out 0 _ rfl) HY8.out.1, kf.free (HZ8.out 1 _ rfl) HY8.out.2.1, kf.free (HZ8.out 2 _ rfl) HY8.out.2.2⟩)
          replace HZ8 := Lib.hid (HZ8.out.fr kf)
          replace HR5 := Lib.hid (HR5.out.fr kf)
          replace HR6 := Lib.hid (HR6.out.fr kf)
          refine hK _ _ (HSF.out _ HK4.out) ?_
          clear hK K kf
          generalize World.alloc v3 (.cells #[.slice none 0 0, .slice none 0 0, .int .i64 0] 25) = v4 at *
          obtain ⟨g7, hgz7⟩ : ∃ g, v3.heap.size = g := ⟨_, rfl⟩
          rw [hgz7] at HZ7 HY7 ⊢
          (try simp only [Act.put, List.getElem_toArray, List.getElem_cons_zero, List.getElem_cons_succ, List.setIfInBounds_toArray, List.set_cons_zero, List.set_cons_succ])
          refine wpHead_done (by kernel_rfl) ?_
          simp only [List.drop_succ_cons, List.drop_zero]
          obtain ⟨z70, z71, z72⟩ := HZ7.out.three
          obtain ⟨y70, y71, y72⟩ := HY7.out
          have zl7 := lt_of_cell z70
          obtain ⟨z80, z81, z82⟩ := HZ8.out.three
          obtain ⟨y80, y81, y82⟩ := HY8.out
          have zl8 := lt_of_cell z80
          (try simp only [Act.put, List.getElem_toArray, List.getElem_cons_zero, List.getElem_cons_succ, List.setIfInBounds_toArray, List.set_cons_zero, List.set_cons_succ])
          have hpw := HP.out
          have hw := HX0.out.fr.size
          have R5 := HR5.out.mono (G := Also (Also F0 v1 v2) v2 v3) (fun g h => .inl h)
          have R6 := HR6.out.mono (G := Also (Also F0 v1 v2) v2 v3) (fun g h => h.elim (fun h => .inl (.inl h)) .inr)
          have hfar : ∀ g, p + 2 ≤ g → (g = g7 ∨ g = g8) → ¬ Also (Also F0 v1 v2) v2 v3 g := by
            rintro g h1 h2 ((h | h) | h)
            · have := HF0.out g h; omega
            · have := h.1; have := h.2; omega
            · have := h.1; have := h.2; omega
          have P7 := HX4.out.put (q := g7) R5 (by omega) HZ7.out (hfar g7 (by omega) (.inl rfl)) (by intro x hx; simp only [List.mem_cons, List.not_mem_nil, or_false] at hx; rcases hx with rfl | rfl <;> (show _ ≠ _; simp; omega))
          have P8 := P7.put (q := g8) (R6.keep fun g hg => set3_heap _ _ _ _ _ g (fun e => hfar g7 (by omega) (.inl rfl) (e ▸ hg))) (by omega) (blk_keep HZ8.out (set3_heap _ _ _ _ _ _ (by omega))) (hfar g8 (by omega) (.inr rfl)) (by intro x hx; simp only [List.mem_cons, List.not_mem_nil, or_false] at hx; rcases hx with rfl | rfl | rfl <;> (show _ ≠ _; simp; omega))
          have HP8 := Lib.hid P8
          clear P7 P8 R5 R6 hfar hpw hw
          go_wp2_with fail
          refine NoPanic.normal ?_
          go_wp2_with fail
          go_meet
          exact ⟨g7, g8, _, rfl, rfl, HP8.out⟩
        · skip
          try go_simp
          have kf := (Fr.refl v2).alloc (.cells #[.slice none 0 0, .slice none 0 0, .int .i64 0] 25)
          have HK3 := Lib.hid (HK2.out.call kf)
          have hz3 : v2.heap.size + 1 = (v2.alloc (.cells #[.slice none 0 0, .slice none 0 0, .int .i64 0] 25)).heap.size := by simp
          have HX3 := Lib.hid (HX2.out.call kf)
          have HZ7 := Lib.hid (BlkC.alloc (w := v2) (t := 25) (cs := #[.slice none 0 0, .slice none 0 0, .int .i64 0]))
          have HY7 := Lib.hid (show (v2.alloc (.cells #[.slice none 0 0, .slice none 0 0, .int .i64 0] 25)).frozen? ⟨v2.heap.size, 0, none⟩ = false ∧ (v2.alloc (.cells #[.slice none 0 0, .slice none 0 0, .int .i64 0] 25)).frozen? ⟨v2.heap.size, 1, none⟩ = false ∧ (v2.alloc (.cells #[.slice none 0 0, .slice none 0 0, .int .i64 0] 25)).frozen? ⟨v2.heap.size, 2, none⟩ = false from ⟨World.frozen?_alloc_at _ _ _ _ rfl, World.frozen?_alloc_at _ _ _ _ rfl, World.frozen?_alloc_at _ _ _ _ rfl⟩)
          replace HY8 := Lib.hid (show _ ∧ _ ∧ _ from ⟨kf.free (HZ8.out 0 _ rfl) HY8.out.1, kf.free (HZ8.out 1 _ rfl) HY8.out.2.1, kf.free (HZ8.out 2 _ rfl) HY8.out.2.2⟩)
          replace HZ8 := Lib.hid (HZ8.out.fr kf)
          replace HR5 := Lib.hid (HR5.out.fr kf)
          refine hK _ _ (HSF.out _ HK3.out) ?_
          clear hK K kf
          generalize World.alloc v2 (.cells #[.slice none 0 0, .slice none 0 0, .int .i64 0] 25) = v3 at *
          obtain ⟨g7, hgz7⟩ : ∃ g, v2.heap.size = g := ⟨_, rfl⟩
          rw [hgz7] at HZ7 HY7 ⊢
          (try simp only [Act.put, List.getElem_toArray, List.getElem_cons_zero, List.getElem_cons_succ, List.setIfInBounds_toArray, List.set_cons_zero, List.set_cons_succ])
          refine wpHead_lone (i := 3) rfl (by kernel_rfl) (by decide) rfl (fun K hK => ?_)
          go_simp
          refine (copy_at hb (HA4.out.fr HK3.out)).mono ?_
          rintro e v4 ⟨_, rfl, hat, hf⟩
          obtain ⟨A6, B6, c6, d6, rfl, _, _, _⟩ := id hat
          have HK4 := Lib.hid (HK3.out.call hf)
          have hz4 := hf.size
          have HX4 := Lib.hid (HX3.out.also hf)
          replace HY7 := Lib.hid (show _ ∧ _ ∧ _ from ⟨hf.free (HZ7.out 0 _ rfl) HY7.out.1, hf.free (HZ7.out 1 _ rfl) HY7.out.2.1, hf.free (HZ7.out 2 _ rfl) HY7.out.2.2⟩)
          replace HZ7 := Lib.hid (HZ7.out.fr hf)
          replace HY8 := Lib.hid (show _ ∧ _ ∧ _ from ⟨hf.free (HZ8.out 0 _ rfl) HY8.out.1, hf.free (HZ8.out 1 _ rfl) HY8.out.2.1, hf.free (HZ8.out 2 _ rfl) HY8.out.2.2⟩)
          replace HZ8 := Lib.hid (HZ8.out.fr hf)
          replace HR5 := Lib.hid (HR5.out.fr hf)
          have HR6 := Lib.hid hat
          clear hat
          (try go_wp2_with fail)
          refine hK _ _ (HSF.out _ HK4.out) ?_
          clear hK K hf
          (try simp only [Act.put, List.getElem_toArray, List.getElem_cons_zero, List.getElem_cons_succ, List.setIfInBounds_toArray, List.set_cons_zero, List.set_cons_succ])
          refine wpHead_done (by kernel_rfl) ?_
          simp only [List.drop_succ_cons, List.drop_zero]
          obtain ⟨z70, z71, z72⟩ := HZ7.out.three
          obtain ⟨y70, y71, y72⟩ := HY7.out
          have zl7 := lt_of_cell z70
          obtain ⟨z80, z81, z82⟩ := HZ8.out.three
          obtain ⟨y80, y81, y82⟩ := HY8.out
          have zl8 := lt_of_cell z80
          (try simp only [Act.put, List.getElem_toArray, List.getElem_cons_zero, List.getElem_cons_succ, List.setIfInBounds_toArray, List.set_cons_zero, List.set_cons_succ])
          have hpw := HP.out
          have hw := HX0.out.fr.size
          have R5 := HR5.out.mono (G := Also (Also F0 v1 v2) v3 v4) (fun g h => .inl h)
          have R6 := HR6.out.mono (G := Also (Also F0 v1 v2) v3 v4) (fun g h => h.elim (fun h => .inl (.inl h)) .inr)
          have hfar : ∀ g, p + 2 ≤ g → (g = g7 ∨ g = g8) → ¬ Also (Also F0 v1 v2) v3 v4 g := by
            rintro g h1 h2 ((h | h) | h)
            · have := HF0.out g h; omega
            · have := h.1; have := h.2; omega
            · have := h.1; have := h.2; omega
          have P7 := HX4.out.put (q := g7) R5 (by omega) HZ7.out (hfar g7 (by omega) (.inl rfl)) (by intro x hx; simp only [List.mem_cons, List.not_mem_nil, or_false] at hx; rcases hx with rfl | rfl <;> (show _ ≠ _; simp; omega))
          have P8 := P7.put (q := g8) (R6.keep fun g hg => set3_heap _ _ _ _ _ g (fun e => hfar g7 (by omega) (.inl rfl) (e ▸ hg))) (by omega) (blk_keep HZ8.out (set3_heap _ _ _ _ _ _ (by omega))) (hfar g8 (by omega) (.inr rfl)) (by intro x hx; simp only [List.mem_cons, List.not_mem_nil, or_false] at hx; rcases hx with rfl | rfl | rfl <;> (show _ ≠ _; simp; omega))
          have HP8 := Lib.hid P8
          clear P7 P8 R5 R6 hfar hpw hw
          go_wp2_with fail
          refine NoPanic.normal ?_
          go_wp2_with fail
          go_meet
          exact ⟨g7, g8, _, rfl, rfl, HP8.out⟩
      · skip
        try go_simp
        have kf := (Fr.refl v1).alloc (.cells #[.slice none 0 0, .slice none 0 0, .int .i64 0] 25)
        have HK2 := Lib.hid (HK1.out.call kf)
        have hz2 : v1.heap.size + 1 = (v1.alloc (.cells #[.slice none 0 0, .slice none 0 0, .int .i64 0] 25)).heap.size := by simp
        have HX2 := Lib.hid (HX1.out.call kf)
        have HZ7 := Lib.hid (BlkC.alloc (w := v1) (t := 25) (cs := #[.slice none 0 0, .slice none 0 0, .int .i64 0]))
        have HY7 := Lib.hid (show (v1.alloc (.cells #[.slice none 0 0, .slice none 0 0, .int .i64 0] 25)).frozen? ⟨v1.heap.size, 0, none⟩ = false ∧ (v1.alloc (.cells #[.slice none 0 0, .slice none 0 0, .int .i64 0] 25)).frozen? ⟨v1.heap.size, 1, none⟩ = false ∧ (v1.alloc (.cells #[.slice none 0 0, .slice none 0 0, .int .i64 0] 25)).frozen? ⟨v1.heap.size, 2, none⟩ = false from ⟨World.frozen?_alloc_at _ _ _ _ rfl, World.frozen?_alloc_at _ _ _ _ rfl, World.frozen?_alloc_at _ _ _ _ rfl⟩)
        replace HY8 := Lib.hid (show _ ∧ _ ∧ _ from ⟨kf.free (HZ8.out 0 _ rfl) HY8.out.1, kf.free (HZ8.out 1 _ rfl) HY8.out.2.1, kf.free (HZ8.out 2 _ rfl) HY8.out.2.2⟩)
        replace HZ8 := Lib.hid (HZ8.out.fr kf)
        refine hK _ _ (HSF.out _ HK2.out) ?_
        clear hK K kf
        generalize World.alloc v1 (.cells #[.slice none 0 0, .slice none 0 0, .int .i64 0] 25) = v2 at *
        obtain ⟨g7, hgz7⟩ : ∃ g, v1.heap.size = g := ⟨_, rfl⟩
        rw [hgz7] at HZ7 HY7 ⊢
        (try simp only [Act.put, List.getElem_toArray, List.getElem_cons_zero, List.getElem_cons_succ, List.setIfInBounds_toArray, List.set_cons_zero, List.set_cons_succ])
        refine wpHead_lone (i := 1) rfl (by kernel_rfl) (by decide) rfl (fun K hK => ?_)
        go_simp
        refine (copy_at ha (HA3.out.fr HK2.out)).mono ?_
        rintro e v3 ⟨_, rfl, hat, hf⟩
        obtain ⟨A5, B5, c5, d5, rfl, _, _, _⟩ := id hat
        have HK3 := Lib.hid (HK2.out.call hf)
        have hz3 := hf.size
        have HX3 := Lib.hid (HX2.out.also hf)
        replace HY7 := Lib.hid (show _ ∧ _ ∧ _ from ⟨hf.free (HZ7.out 0 _ rfl) HY7.out.1, hf.free (HZ7.out 1 _ rfl) HY7.out.2.1, hf.free (HZ7.out 2 _ rfl) HY7.out.2.2⟩)
        replace HZ7 := Lib.hid (HZ7.out.fr hf)
        replace HY8 := Lib.hid (show _ ∧ _ ∧ _ from ⟨hf.free (HZ8.out 0 _ rfl) HY8.out.1, hf.free (HZ8.out 1 _ rfl) HY8.out.2.1, hf.free (HZ8.out 2 _ rfl) HY8.out.2.2⟩)
        replace HZ8 := Lib.hid (HZ8.out.fr hf)
        have HR5 := Lib.hid hat
        clear hat
        (try go_wp2_with fail)
        refine hK _ _ (HSF.out _ HK3.out) ?_
        clear hK K hf
        (try simp only [Act.put, List.getElem_toArray, List.getElem_cons_zero, List.getElem_cons_succ, List.setIfInBounds_toArray, List.set_cons_zero, List.set_cons_succ])
        refine wpHead_lone (i := 3) rfl (by kernel_rfl) (by decide) rfl (fun K hK => ?_)
        go_simp
        refine (copy_at hb (HA4.out.fr HK3.out)).mono ?_
        rintro e v4 ⟨_, rfl, hat, hf⟩
        obtain ⟨A6, B6, c6, d6, rfl, _, _, _⟩ := id hat
        have HK4 := Lib.hid (HK3.out.call hf)
        have hz4 := hf.size
        have HX4 := Lib.hid (HX3.out.also hf)
        replace HY7 := Lib.hid (show _ ∧ _ ∧ _ from ⟨hf.free (HZ7.out 0 _ rfl) HY7.out.1, hf.free (HZ7.out 1 _ rfl) HY7.out.2.1, hf.free (HZ7.out 2 _ rfl) HY7.out.2.2⟩)
        replace HZ7 := Lib.hid (HZ7.out.fr hf)
        replace HY8 := Lib.hid (show _ ∧ _ ∧ _ from ⟨hf.free (HZ8.out 0 _ rfl) HY8.out.1, hf.free (HZ8.out 1 _ rfl) HY8.out.2.1, hf.free (HZ8.out 2 _ rfl) HY8.out.2.2⟩)
        replace HZ8 := Lib.hid (HZ8.out.fr hf)
        replace HR5 := Lib.hid (HR5.out.fr hf)
        have HR6 := Lib.hid hat
        clear hat
        (try go_wp2_with fail)
        refine hK _ _ (HSF.out _ HK4.out) ?_
        clear hK K hf
        (try simp only [Act.put, List.getElem_toArray, List.getElem_cons_zero, List.getElem_cons_succ, List.setIfInBounds_toArray, List.set_cons_zero, List.set_cons_succ])
        refine wpHead_done (by kernel_rfl) ?_
        simp only [List.drop_succ_cons, List.drop_zero]
        obtain ⟨z70, z71, z72⟩ := HZ7.out.three
        obtain ⟨y70, y71, y72⟩ := HY7.out
        have zl7 := lt_of_cell z70
        obtain ⟨z80, z81, z82⟩ := HZ8.out.three
        obtain ⟨y80, y81, y82⟩ := HY8.out
        have zl8 := lt_of_cell z80
        (try simp only [Act.put, List.getElem_toArray, List.getElem_cons_zero, List.getElem_cons_succ, List.setIfInBounds_toArray, List.set_cons_zero, List.set_cons_succ])
        have hpw := HP.out
        have hw := HX0.out.fr.size
        have R5 := HR5.out.mono (G := Also (Also F0 v2 v3) v3 v4) (fun g h => .inl h)
        have R6 := HR6.out.mono (G := Also (Also F0 v2 v3) v3 v4) (fun g h => h.elim (fun h => .inl (.inl h)) .inr)
        have hfar : ∀ g, p + 2 ≤ g → (g = g7 ∨ g = g8) → ¬ Also (Also F0 v2 v3) v3 v4 g := by
          rintro g h1 h2 ((h | h) | h)
          · have := HF0.out g h; omega
          · have := h.1; have := h.2; omega
          · have := h.1; have := h.2; omega
        have P7 := HX4.out.put (q := g7) R5 (by omega) HZ7.out (hfar g7 (by omega) (.inl rfl)) (by intro x hx; simp only [List.mem_cons, List.not_mem_nil, or_false] at hx; rcases hx with rfl | rfl <;> (show _ ≠ _; simp; omega))
        have P8 := P7.put (q := g8) (R6.keep fun g hg => set3_heap _ _ _ _ _ g (fun e => hfar g7 (by omega) (.inl rfl) (e ▸ hg))) (by omega) (blk_keep HZ8.out (set3_heap _ _ _ _ _ _ (by omega))) (hfar g8 (by omega) (.inr rfl)) (by intro x hx; simp only [List.mem_cons, List.not_mem_nil, or_false] at hx; rcases hx with rfl | rfl | rfl <;> (show _ ≠ _; simp; omega))
        have HP8 := Lib.hid P8
        clear P7 P8 R5 R6 hfar hpw hw
        go_wp2_with fail
        refine NoPanic.normal ?_
        go_wp2_with fail
        go_meet
        exact ⟨g7, g8, _, rfl, rfl, HP8.out⟩
  case rest =>
    clear HBX
    cases hna : a.norm with
    | false =>
      have hADD : addL a b = (zeroL, 121) := by unfold addL; rw [hna]; simp
      have hTI : timesL a n = zeroL := by unfold timesL; rw [hna]; simp
      obtain ⟨q7, q8, F, rfl, rfl, hbx⟩ := hcut
      have HK := Lib.hid hbx.fr
      obtain ⟨A3, B3, c3, d3, hb3, ha3⟩ := hbx.box (p, a) (by simp)
      have HB3 := Lib.hid (show BlkC wc (p) [.slice A3 a.ss.length c3, .slice B3 a.ts.length d3, .int .i64 a.off] from hb3); have HA3 := Lib.hid ha3; clear hb3 ha3
      obtain ⟨A4, B4, c4, d4, hb4, ha4⟩ := hbx.box (p + 1, b) (by simp)
      have HB4 := Lib.hid (show BlkC wc (p + 1) [.slice A4 b.ss.length c4, .slice B4 b.ts.length d4, .int .i64 b.off] from hb4); have HA4 := Lib.hid ha4; clear hb4 ha4
      obtain ⟨A7, B7, c7, d7, hb7, ha7⟩ := hbx.box (q7, a) (by simp)
      have HB7 := Lib.hid (show BlkC wc (q7) [.slice A7 a.ss.length c7, .slice B7 a.ts.length d7, .int .i64 a.off] from hb7); have HA7 := Lib.hid ha7; clear hb7 ha7
      obtain ⟨A8, B8, c8, d8, hb8, ha8⟩ := hbx.box (q8, b) (by simp)
      have HB8 := Lib.hid (show BlkC wc (q8) [.slice A8 b.ss.length c8, .slice B8 b.ts.length d8, .int .i64 b.off] from hb8); have HA8 := Lib.hid ha8; clear hb8 ha8
      clear hbx
      obtain ⟨x30, x31, x32⟩ := HB3.out.three
      have z3 := lt_of_cell x30
      obtain ⟨x40, x41, x42⟩ := HB4.out.three
      have z4 := lt_of_cell x40
      obtain ⟨x70, x71, x72⟩ := HB7.out.three
      have z7 := lt_of_cell x70
      obtain ⟨x80, x81, x82⟩ := HB8.out.three
      have z8 := lt_of_cell x80
      have HQ := Lib.hid (HAD a b F _ _ wc ha hb HA7.out HA8.out)
      rw [hADD] at HQ
      go_wp2_with fail
      refine (HQ.out).mono ?_
      rintro e y1 ⟨x, rfl, hx, hf⟩
      clear x30 x31 x32 z3
      clear x40 x41 x42 z4
      clear x70 x71 x72 z7
      clear x80 x81 x82 z8
      replace HB3 := Lib.hid (HB3.out.fr hf)
      replace HA3 := Lib.hid (HA3.out.fr hf)
      replace HB4 := Lib.hid (HB4.out.fr hf)
      replace HA4 := Lib.hid (HA4.out.fr hf)
      replace HB7 := Lib.hid (HB7.out.fr hf)
      replace HA7 := Lib.hid (HA7.out.fr hf)
      replace HB8 := Lib.hid (HB8.out.fr hf)
      replace HA8 := Lib.hid (HA8.out.fr hf)
      replace HK := Lib.hid (HK.out.call hf)
      obtain ⟨x30, x31, x32⟩ := HB3.out.three
      have z3 := lt_of_cell x30
      obtain ⟨x40, x41, x42⟩ := HB4.out.three
      have z4 := lt_of_cell x40
      obtain ⟨x70, x71, x72⟩ := HB7.out.three
      have z7 := lt_of_cell x70
      obtain ⟨x80, x81, x82⟩ := HB8.out.three
      have z8 := lt_of_cell x80
      clear hf
      clear HQ
      obtain ⟨A9, B9, c9, d9, rfl, _, _, _⟩ := id hx
      have HA9 := Lib.hid hx; clear hx
      have kf := (Fr.refl y1).alloc (.cells #[.slice A9 zeroL.ss.length c9, .slice B9 zeroL.ts.length d9, .int .i64 zeroL.off] 25)
      have HB9 := Lib.hid (BlkC.alloc (w := y1) (t := 25) (cs := #[.slice A9 zeroL.ss.length c9, .slice B9 zeroL.ts.length d9, .int .i64 zeroL.off]))
      replace HB3 := Lib.hid (HB3.out.fr kf)
      replace HA3 := Lib.hid (HA3.out.fr kf)
      replace HB4 := Lib.hid (HB4.out.fr kf)
      replace HA4 := Lib.hid (HA4.out.fr kf)
      replace HB7 := Lib.hid (HB7.out.fr kf)
      replace HA7 := Lib.hid (HA7.out.fr kf)
      replace HB8 := Lib.hid (HB8.out.fr kf)
      replace HA8 := Lib.hid (HA8.out.fr kf)
      replace HK := Lib.hid (HK.out.call kf)
      replace HA9 := Lib.hid (HA9.out.fr kf)
      go_wp2_with fail
      clear kf
      clear x30 x31 x32 z3
      clear x40 x41 x42 z4
      clear x70 x71 x72 z7
      clear x80 x81 x82 z8
      generalize World.alloc y1 (.cells #[.slice A9 zeroL.ss.length c9, .slice B9 zeroL.ts.length d9, .int .i64 zeroL.off] 25) = y2 at *
      obtain ⟨q9, hq9⟩ : ∃ q, y1.heap.size = q := ⟨_, rfl⟩
      (try rw [hq9] at HB9); (try simp only [hq9]); clear hq9
      obtain ⟨x30, x31, x32⟩ := HB3.out.three
      have z3 := lt_of_cell x30
      obtain ⟨x40, x41, x42⟩ := HB4.out.three
      have z4 := lt_of_cell x40
      obtain ⟨x70, x71, x72⟩ := HB7.out.three
      have z7 := lt_of_cell x70
      obtain ⟨x80, x81, x82⟩ := HB8.out.three
      have z8 := lt_of_cell x80
      obtain ⟨x90, x91, x92⟩ := HB9.out.three
      have z9 := lt_of_cell x90
      have HQ := Lib.hid (HTI a n F _ y2 ha hn HA7.out)
      rw [hTI] at HQ
      refine (HQ.out).mono ?_
      rintro e y3 ⟨x, rfl, hx, hf⟩
      clear x30 x31 x32 z3
      clear x40 x41 x42 z4
      clear x70 x71 x72 z7
      clear x80 x81 x82 z8
      clear x90 x91 x92 z9
      replace HB3 := Lib.hid (HB3.out.fr hf)
      replace HA3 := Lib.hid (HA3.out.fr hf)
      replace HB4 := Lib.hid (HB4.out.fr hf)
      replace HA4 := Lib.hid (HA4.out.fr hf)
      replace HB7 := Lib.hid (HB7.out.fr hf)
      replace HA7 := Lib.hid (HA7.out.fr hf)
      replace HB8 := Lib.hid (HB8.out.fr hf)
      replace HA8 := Lib.hid (HA8.out.fr hf)
      replace HB9 := Lib.hid (HB9.out.fr hf)
      replace HA9 := Lib.hid (HA9.out.fr hf)
      replace HK := Lib.hid (HK.out.call hf)
      obtain ⟨x30, x31, x32⟩ := HB3.out.three
      have z3 := lt_of_cell x30
      obtain ⟨x40, x41, x42⟩ := HB4.out.three
      have z4 := lt_of_cell x40
      obtain ⟨x70, x71, x72⟩ := HB7.out.three
      have z7 := lt_of_cell x70
      obtain ⟨x80, x81, x82⟩ := HB8.out.three
      have z8 := lt_of_cell x80
      obtain ⟨x90, x91, x92⟩ := HB9.out.three
      have z9 := lt_of_cell x90
      clear hf
      clear HQ
      obtain ⟨A11, B11, c11, d11, rfl, _, _, _⟩ := id hx
      have HA11 := Lib.hid hx; clear hx
      have kf := (Fr.refl y3).alloc (.cells #[.slice A11 zeroL.ss.length c11, .slice B11 zeroL.ts.length d11, .int .i64 zeroL.off] 25)
      have HB11 := Lib.hid (BlkC.alloc (w := y3) (t := 25) (cs := #[.slice A11 zeroL.ss.length c11, .slice B11 zeroL.ts.length d11, .int .i64 zeroL.off]))
      replace HB3 := Lib.hid (HB3.out.fr kf)
      replace HA3 := Lib.hid (HA3.out.fr kf)
      replace HB4 := Lib.hid (HB4.out.fr kf)
      replace HA4 := Lib.hid (HA4.out.fr kf)
      replace HB7 := Lib.hid (HB7.out.fr kf)
      replace HA7 := Lib.hid (HA7.out.fr kf)
      replace HB8 := Lib.hid (HB8.out.fr kf)
      replace HA8 := Lib.hid (HA8.out.fr kf)
      replace HB9 := Lib.hid (HB9.out.fr kf)
      replace HA9 := Lib.hid (HA9.out.fr kf)
      replace HK := Lib.hid (HK.out.call kf)
      replace HA11 := Lib.hid (HA11.out.fr kf)
      go_wp2_with fail
      clear kf
      clear x30 x31 x32 z3
      clear x40 x41 x42 z4
      clear x70 x71 x72 z7
      clear x80 x81 x82 z8
      clear x90 x91 x92 z9
      generalize World.alloc y3 (.cells #[.slice A11 zeroL.ss.length c11, .slice B11 zeroL.ts.length d11, .int .i64 zeroL.off] 25) = y4 at *
      obtain ⟨q11, hq11⟩ : ∃ q, y3.heap.size = q := ⟨_, rfl⟩
      (try rw [hq11] at HB11); (try simp only [hq11]); clear hq11
      obtain ⟨x30, x31, x32⟩ := HB3.out.three
      have z3 := lt_of_cell x30
      obtain ⟨x40, x41, x42⟩ := HB4.out.three
      have z4 := lt_of_cell x40
      obtain ⟨x70, x71, x72⟩ := HB7.out.three
      have z7 := lt_of_cell x70
      obtain ⟨x80, x81, x82⟩ := HB8.out.three
      have z8 := lt_of_cell x80
      obtain ⟨x90, x91, x92⟩ := HB9.out.three
      have z9 := lt_of_cell x90
      obtain ⟨x110, x111, x112⟩ := HB11.out.three
      have z11 := lt_of_cell x110
      refine (same_at1 ha HA7.out HA3.out).mono ?_
      rintro e y5 ⟨rfl, hf⟩
      clear x30 x31 x32 z3
      clear x40 x41 x42 z4
      clear x70 x71 x72 z7
      clear x80 x81 x82 z8
      clear x90 x91 x92 z9
      clear x110 x111 x112 z11
      replace HB3 := Lib.hid (HB3.out.fr hf)
      replace HA3 := Lib.hid (HA3.out.fr hf)
      replace HB4 := Lib.hid (HB4.out.fr hf)
      replace HA4 := Lib.hid (HA4.out.fr hf)
      replace HB7 := Lib.hid (HB7.out.fr hf)
      replace HA7 := Lib.hid (HA7.out.fr hf)
      replace HB8 := Lib.hid (HB8.out.fr hf)
      replace HA8 := Lib.hid (HA8.out.fr hf)
      replace HB9 := Lib.hid (HB9.out.fr hf)
      replace HA9 := Lib.hid (HA9.out.fr hf)
      replace HB11 := Lib.hid (HB11.out.fr hf)
      replace HA11 := Lib.hid (HA11.out.fr hf)
      replace HK := Lib.hid (HK.out.call hf)
      obtain ⟨x30, x31, x32⟩ := HB3.out.three
      have z3 := lt_of_cell x30
      obtain ⟨x40, x41, x42⟩ := HB4.out.three
      have z4 := lt_of_cell x40
      obtain ⟨x70, x71, x72⟩ := HB7.out.three
      have z7 := lt_of_cell x70
      obtain ⟨x80, x81, x82⟩ := HB8.out.three
      have z8 := lt_of_cell x80
      obtain ⟨x90, x91, x92⟩ := HB9.out.three
      have z9 := lt_of_cell x90
      obtain ⟨x110, x111, x112⟩ := HB11.out.three
      have z11 := lt_of_cell x110
      clear hf
      go_wp2_with fail
      refine (same_at1 hb HA8.out HA4.out).mono ?_
      rintro e y6 ⟨rfl, hf⟩
      clear x30 x31 x32 z3
      clear x40 x41 x42 z4
      clear x70 x71 x72 z7
      clear x80 x81 x82 z8
      clear x90 x91 x92 z9
      clear x110 x111 x112 z11
      replace HB3 := Lib.hid (HB3.out.fr hf)
      replace HA3 := Lib.hid (HA3.out.fr hf)
      replace HB4 := Lib.hid (HB4.out.fr hf)
      replace HA4 := Lib.hid (HA4.out.fr hf)
      replace HB7 := Lib.hid (HB7.out.fr hf)
      replace HA7 := Lib.hid (HA7.out.fr hf)
      replace HB8 := Lib.hid (HB8.out.fr hf)
      replace HA8 := Lib.hid (HA8.out.fr hf)
      replace HB9 := Lib.hid (HB9.out.fr hf)
      replace HA9 := Lib.hid (HA9.out.fr hf)
      replace HB11 := Lib.hid (HB11.out.fr hf)
      replace HA11 := Lib.hid (HA11.out.fr hf)
      replace HK := Lib.hid (HK.out.call hf)
      obtain ⟨x30, x31, x32⟩ := HB3.out.three
      have z3 := lt_of_cell x30
      obtain ⟨x40, x41, x42⟩ := HB4.out.three
      have z4 := lt_of_cell x40
      obtain ⟨x70, x71, x72⟩ := HB7.out.three
      have z7 := lt_of_cell x70
      obtain ⟨x80, x81, x82⟩ := HB8.out.three
      have z8 := lt_of_cell x80
      obtain ⟨x90, x91, x92⟩ := HB9.out.three
      have z9 := lt_of_cell x90
      obtain ⟨x110, x111, x112⟩ := HB11.out.three
      have z11 := lt_of_cell x110
      clear hf
      have HQ := Lib.hid (normal_at ha HA3.out)
      rw [hna] at HQ
      go_wp2_with fail
      refine (HQ.out).mono ?_
      rintro e y7 ⟨rfl, hf⟩
      clear x30 x31 x32 z3
      clear x40 x41 x42 z4
      clear x70 x71 x72 z7
      clear x80 x81 x82 z8
      clear x90 x91 x92 z9
      clear x110 x111 x112 z11
      replace HB3 := Lib.hid (HB3.out.fr hf)
      replace HA3 := Lib.hid (HA3.out.fr hf)
      replace HB4 := Lib.hid (HB4.out.fr hf)
      replace HA4 := Lib.hid (HA4.out.fr hf)
      replace HB7 := Lib.hid (HB7.out.fr hf)
      replace HA7 := Lib.hid (HA7.out.fr hf)
      replace HB8 := Lib.hid (HB8.out.fr hf)
      replace HA8 := Lib.hid (HA8.out.fr hf)
      replace HB9 := Lib.hid (HB9.out.fr hf)
      replace HA9 := Lib.hid (HA9.out.fr hf)
      replace HB11 := Lib.hid (HB11.out.fr hf)
      replace HA11 := Lib.hid (HA11.out.fr hf)
      replace HK := Lib.hid (HK.out.call hf)
      obtain ⟨x30, x31, x32⟩ := HB3.out.three
      have z3 := lt_of_cell x30
      obtain ⟨x40, x41, x42⟩ := HB4.out.three
      have z4 := lt_of_cell x40
      obtain ⟨x70, x71, x72⟩ := HB7.out.three
      have z7 := lt_of_cell x70
      obtain ⟨x80, x81, x82⟩ := HB8.out.three
      have z8 := lt_of_cell x80
      obtain ⟨x90, x91, x92⟩ := HB9.out.three
      have z9 := lt_of_cell x90
      obtain ⟨x110, x111, x112⟩ := HB11.out.three
      have z11 := lt_of_cell x110
      clear hf
      clear HQ
      go_wp2_with fail
      refine (same_at1 zero_sm HA9.out (zero_at F _)).mono ?_
      rintro e y8 ⟨rfl, hf⟩
      clear x30 x31 x32 z3
      clear x40 x41 x42 z4
      clear x70 x71 x72 z7
      clear x80 x81 x82 z8
      clear x90 x91 x92 z9
      clear x110 x111 x112 z11
      replace HB3 := Lib.hid (HB3.out.fr hf)
      replace HA3 := Lib.hid (HA3.out.fr hf)
      replace HB4 := Lib.hid (HB4.out.fr hf)
      replace HA4 := Lib.hid (HA4.out.fr hf)
      replace HB7 := Lib.hid (HB7.out.fr hf)
      replace HA7 := Lib.hid (HA7.out.fr hf)
      replace HB8 := Lib.hid (HB8.out.fr hf)
      replace HA8 := Lib.hid (HA8.out.fr hf)
      replace HB9 := Lib.hid (HB9.out.fr hf)
      replace HA9 := Lib.hid (HA9.out.fr hf)
      replace HB11 := Lib.hid (HB11.out.fr hf)
      replace HA11 := Lib.hid (HA11.out.fr hf)
      replace HK := Lib.hid (HK.out.call hf)
      obtain ⟨x30, x31, x32⟩ := HB3.out.three
      have z3 := lt_of_cell x30
      obtain ⟨x40, x41, x42⟩ := HB4.out.three
      have z4 := lt_of_cell x40
      obtain ⟨x70, x71, x72⟩ := HB7.out.three
      have z7 := lt_of_cell x70
      obtain ⟨x80, x81, x82⟩ := HB8.out.three
      have z8 := lt_of_cell x80
      obtain ⟨x90, x91, x92⟩ := HB9.out.three
      have z9 := lt_of_cell x90
      obtain ⟨x110, x111, x112⟩ := HB11.out.three
      have z11 := lt_of_cell x110
      clear hf
      go_wp2_with fail
      refine (same_at1 zero_sm HA11.out (zero_at F _)).mono ?_
      rintro e y9 ⟨rfl, hf⟩
      clear x30 x31 x32 z3
      clear x40 x41 x42 z4
      clear x70 x71 x72 z7
      clear x80 x81 x82 z8
      clear x90 x91 x92 z9
      clear x110 x111 x112 z11
      replace HB3 := Lib.hid (HB3.out.fr hf)
      replace HA3 := Lib.hid (HA3.out.fr hf)
      replace HB4 := Lib.hid (HB4.out.fr hf)
      replace HA4 := Lib.hid (HA4.out.fr hf)
      replace HB7 := Lib.hid (HB7.out.fr hf)
      replace HA7 := Lib.hid (HA7.out.fr hf)
      replace HB8 := Lib.hid (HB8.out.fr hf)
      replace HA8 := Lib.hid (HA8.out.fr hf)
      replace HB9 := Lib.hid (HB9.out.fr hf)
      replace HA9 := Lib.hid (HA9.out.fr hf)
      replace HB11 := Lib.hid (HB11.out.fr hf)
      replace HA11 := Lib.hid (HA11.out.fr hf)
      replace HK := Lib.hid (HK.out.call hf)
      obtain ⟨x30, x31, x32⟩ := HB3.out.three
      have z3 := lt_of_cell x30
      obtain ⟨x40, x41, x42⟩ := HB4.out.three
      have z4 := lt_of_cell x40
      obtain ⟨x70, x71, x72⟩ := HB7.out.three
      have z7 := lt_of_cell x70
      obtain ⟨x80, x81, x82⟩ := HB8.out.three
      have z8 := lt_of_cell x80
      obtain ⟨x90, x91, x92⟩ := HB9.out.three
      have z9 := lt_of_cell x90
      obtain ⟨x110, x111, x112⟩ := HB11.out.three
      have z11 := lt_of_cell x110
      clear hf
      go_wp2_with fail
      go_ret
      exact ⟨rfl, HK.out⟩
    | true =>
      have hTI0 : timesL a n = plusL zeroL a n := by unfold timesL; rw [hna]; simp
      obtain ⟨t11, hT⟩ : ∃ t, plusL zeroL a n = t := ⟨_, rfl⟩
      have hTI : timesL a n = t11 := hTI0.trans hT
      have hst : t11.Sm := by rw [← hTI]; exact times_sm ha
      cases hnb : b.norm with
      | false =>
        have hADD : addL a b = (zeroL, 121) := by unfold addL; rw [hnb]; simp
        obtain ⟨q7, q8, F, rfl, rfl, hbx⟩ := hcut
        have HK := Lib.hid hbx.fr
        obtain ⟨A3, B3, c3, d3, hb3, ha3⟩ := hbx.box (p, a) (by simp)
        have HB3 := Lib.hid (show BlkC wc (p) [.slice A3 a.ss.length c3, .slice B3 a.ts.length d3, .int .i64 a.off] from hb3); have HA3 := Lib.hid ha3; clear hb3 ha3
        obtain ⟨A4, B4, c4, d4, hb4, ha4⟩ := hbx.box (p + 1, b) (by simp)
        have HB4 := Lib.hid (show BlkC wc (p + 1) [.slice A4 b.ss.length c4, .slice B4 b.ts.length d4, .int .i64 b.off] from hb4); have HA4 := Lib.hid ha4; clear hb4 ha4
        obtain ⟨A7, B7, c7, d7, hb7, ha7⟩ := hbx.box (q7, a) (by simp)
        have HB7 := Lib.hid (show BlkC wc (q7) [.slice A7 a.ss.length c7, .slice B7 a.ts.length d7, .int .i64 a.off] from hb7); have HA7 := Lib.hid ha7; clear hb7 ha7
        obtain ⟨A8, B8, c8, d8, hb8, ha8⟩ := hbx.box (q8, b) (by simp)
        have HB8 := Lib.hid (show BlkC wc (q8) [.slice A8 b.ss.length c8, .slice B8 b.ts.length d8, .int .i64 b.off] from hb8); have HA8 := Lib.hid ha8; clear hb8 ha8
        clear hbx
        obtain ⟨x30, x31, x32⟩ := HB3.out.three
        have z3 := lt_of_cell x30
        obtain ⟨x40, x41, x42⟩ := HB4.out.three
        have z4 := lt_of_cell x40
        obtain ⟨x70, x71, x72⟩ := HB7.out.three
        have z7 := lt_of_cell x70
        obtain ⟨x80, x81, x82⟩ := HB8.out.three
        have z8 := lt_of_cell x80
        have HQ := Lib.hid (HAD a b F _ _ wc ha hb HA7.out HA8.out)
        rw [hADD] at HQ
        go_wp2_with fail
        refine (HQ.out).mono ?_
        rintro e y1 ⟨x, rfl, hx, hf⟩
        clear x30 x31 x32 z3
        clear x40 x41 x42 z4
        clear x70 x71 x72 z7
        clear x80 x81 x82 z8
        replace HB3 := Lib.hid (HB3.out.fr hf)
        replace HA3 := Lib.hid (HA3.out.fr hf)
        replace HB4 := Lib.hid (HB4.out.fr hf)
        replace HA4 := Lib.hid (HA4.out.fr hf)
        replace HB7 := Lib.hid (HB7.out.fr hf)
        replace HA7 := Lib.hid (HA7.out.fr hf)
        replace HB8 := Lib.hid (HB8.out.fr hf)
        replace HA8 := Lib.hid (HA8.out.fr hf)
        replace HK := Lib.hid (HK.out.call hf)
        obtain ⟨x30, x31, x32⟩ := HB3.out.three
        have z3 := lt_of_cell x30
        obtain ⟨x40, x41, x42⟩ := HB4.out.three
        have z4 := lt_of_cell x40
        obtain ⟨x70, x71, x72⟩ := HB7.out.three
        have z7 := lt_of_cell x70
        obtain ⟨x80, x81, x82⟩ := HB8.out.three
        have z8 := lt_of_cell x80
        clear hf
        clear HQ
        obtain ⟨A9, B9, c9, d9, rfl, _, _, _⟩ := id hx
        have HA9 := Lib.hid hx; clear hx
        have kf := (Fr.refl y1).alloc (.cells #[.slice A9 zeroL.ss.length c9, .slice B9 zeroL.ts.length d9, .int .i64 zeroL.off] 25)
        have HB9 := Lib.hid (BlkC.alloc (w := y1) (t := 25) (cs := #[.slice A9 zeroL.ss.length c9, .slice B9 zeroL.ts.length d9, .int .i64 zeroL.off]))
        replace HB3 := Lib.hid (HB3.out.fr kf)
        replace HA3 := Lib.hid (HA3.out.fr kf)
        replace HB4 := Lib.hid (HB4.out.fr kf)
        replace HA4 := Lib.hid (HA4.out.fr kf)
        replace HB7 := Lib.hid (HB7.out.fr kf)
        replace HA7 := Lib.hid (HA7.out.fr kf)
        replace HB8 := Lib.hid (HB8.out.fr kf)
        replace HA8 := Lib.hid (HA8.out.fr kf)
        replace HK := Lib.hid (HK.out.call kf)
        replace HA9 := Lib.hid (HA9.out.fr kf)
        go_wp2_with fail
        clear kf
        clear x30 x31 x32 z3
        clear x40 x41 x42 z4
        clear x70 x71 x72 z7
        clear x80 x81 x82 z8
        generalize World.alloc y1 (.cells #[.slice A9 zeroL.ss.length c9, .slice B9 zeroL.ts.length d9, .int .i64 zeroL.off] 25) = y2 at *
        obtain ⟨q9, hq9⟩ : ∃ q, y1.heap.size = q := ⟨_, rfl⟩
        (try rw [hq9] at HB9); (try simp only [hq9]); clear hq9
        obtain ⟨x30, x31, x32⟩ := HB3.out.three
        have z3 := lt_of_cell x30
        obtain ⟨x40, x41, x42⟩ := HB4.out.three
        have z4 := lt_of_cell x40
        obtain ⟨x70, x71, x72⟩ := HB7.out.three
        have z7 := lt_of_cell x70
        obtain ⟨x80, x81, x82⟩ := HB8.out.three
        have z8 := lt_of_cell x80
        obtain ⟨x90, x91, x92⟩ := HB9.out.three
        have z9 := lt_of_cell x90
        have HQ := Lib.hid (HTI a n F _ y2 ha hn HA7.out)
        rw [hTI] at HQ
        refine (HQ.out).mono ?_
        rintro e y3 ⟨x, rfl, hx, hf⟩
        clear x30 x31 x32 z3
        clear x40 x41 x42 z4
        clear x70 x71 x72 z7
        clear x80 x81 x82 z8
        clear x90 x91 x92 z9
        replace HB3 := Lib.hid (HB3.out.fr hf)
        replace HA3 := Lib.hid (HA3.out.fr hf)
        replace HB4 := Lib.hid (HB4.out.fr hf)
        replace HA4 := Lib.hid (HA4.out.fr hf)
        replace HB7 := Lib.hid (HB7.out.fr hf)
        replace HA7 := Lib.hid (HA7.out.fr hf)
        replace HB8 := Lib.hid (HB8.out.fr hf)
        replace HA8 := Lib.hid (HA8.out.fr hf)
        replace HB9 := Lib.hid (HB9.out.fr hf)
        replace HA9 := Lib.hid (HA9.out.fr hf)
        replace HK := Lib.hid (HK.out.call hf)
        obtain ⟨x30, x31, x32⟩ := HB3.out.three
        have z3 := lt_of_cell x30
        obtain ⟨x40, x41, x42⟩ := HB4.out.three
        have z4 := lt_of_cell x40
        obtain ⟨x70, x71, x72⟩ := HB7.out.three
        have z7 := lt_of_cell x70
        obtain ⟨x80, x81, x82⟩ := HB8.out.three
        have z8 := lt_of_cell x80
        obtain ⟨x90, x91, x92⟩ := HB9.out.three
        have z9 := lt_of_cell x90
        clear hf
        clear HQ
        obtain ⟨A11, B11, c11, d11, rfl, _, _, _⟩ := id hx
        have HA11 := Lib.hid hx; clear hx
        have kf := (Fr.refl y3).alloc (.cells #[.slice A11 t11.ss.length c11, .slice B11 t11.ts.length d11, .int .i64 t11.off] 25)
        have HB11 := Lib.hid (BlkC.alloc (w := y3) (t := 25) (cs := #[.slice A11 t11.ss.length c11, .slice B11 t11.ts.length d11, .int .i64 t11.off]))
        replace HB3 := Lib.hid (HB3.out.fr kf)
        replace HA3 := Lib.hid (HA3.out.fr kf)
        replace HB4 := Lib.hid (HB4.out.fr kf)
        replace HA4 := Lib.hid (HA4.out.fr kf)
        replace HB7 := Lib.hid (HB7.out.fr kf)
        replace HA7 := Lib.hid (HA7.out.fr kf)
        replace HB8 := Lib.hid (HB8.out.fr kf)
        replace HA8 := Lib.hid (HA8.out.fr kf)
        replace HB9 := Lib.hid (HB9.out.fr kf)
        replace HA9 := Lib.hid (HA9.out.fr kf)
        replace HK := Lib.hid (HK.out.call kf)
        replace HA11 := Lib.hid (HA11.out.fr kf)
        go_wp2_with fail
        clear kf
        clear x30 x31 x32 z3
        clear x40 x41 x42 z4
        clear x70 x71 x72 z7
        clear x80 x81 x82 z8
        clear x90 x91 x92 z9
        generalize World.alloc y3 (.cells #[.slice A11 t11.ss.length c11, .slice B11 t11.ts.length d11, .int .i64 t11.off] 25) = y4 at *
        obtain ⟨q11, hq11⟩ : ∃ q, y3.heap.size = q := ⟨_, rfl⟩
        (try rw [hq11] at HB11); (try simp only [hq11]); clear hq11
        obtain ⟨x30, x31, x32⟩ := HB3.out.three
        have z3 := lt_of_cell x30
        obtain ⟨x40, x41, x42⟩ := HB4.out.three
        have z4 := lt_of_cell x40
        obtain ⟨x70, x71, x72⟩ := HB7.out.three
        have z7 := lt_of_cell x70
        obtain ⟨x80, x81, x82⟩ := HB8.out.three
        have z8 := lt_of_cell x80
        obtain ⟨x90, x91, x92⟩ := HB9.out.three
        have z9 := lt_of_cell x90
        obtain ⟨x110, x111, x112⟩ := HB11.out.three
        have z11 := lt_of_cell x110
        refine (same_at1 ha HA7.out HA3.out).mono ?_
        rintro e y5 ⟨rfl, hf⟩
        clear x30 x31 x32 z3
        clear x40 x41 x42 z4
        clear x70 x71 x72 z7
        clear x80 x81 x82 z8
        clear x90 x91 x92 z9
        clear x110 x111 x112 z11
        replace HB3 := Lib.hid (HB3.out.fr hf)
        replace HA3 := Lib.hid (HA3.out.fr hf)
        replace HB4 := Lib.hid (HB4.out.fr hf)
        replace HA4 := Lib.hid (HA4.out.fr hf)
        replace HB7 := Lib.hid (HB7.out.fr hf)
        replace HA7 := Lib.hid (HA7.out.fr hf)
        replace HB8 := Lib.hid (HB8.out.fr hf)
        replace HA8 := Lib.hid (HA8.out.fr hf)
        replace HB9 := Lib.hid (HB9.out.fr hf)
        replace HA9 := Lib.hid (HA9.out.fr hf)
        replace HB11 := Lib.hid (HB11.out.fr hf)
        replace HA11 := Lib.hid (HA11.out.fr hf)
        replace HK := Lib.hid (HK.out.call hf)
        obtain ⟨x30, x31, x32⟩ := HB3.out.three
        have z3 := lt_of_cell x30
        obtain ⟨x40, x41, x42⟩ := HB4.out.three
        have z4 := lt_of_cell x40
        obtain ⟨x70, x71, x72⟩ := HB7.out.three
        have z7 := lt_of_cell x70
        obtain ⟨x80, x81, x82⟩ := HB8.out.three
        have z8 := lt_of_cell x80
        obtain ⟨x90, x91, x92⟩ := HB9.out.three
        have z9 := lt_of_cell x90
        obtain ⟨x110, x111, x112⟩ := HB11.out.three
        have z11 := lt_of_cell x110
        clear hf
        go_wp2_with fail
        refine (same_at1 hb HA8.out HA4.out).mono ?_
        rintro e y6 ⟨rfl, hf⟩
        clear x30 x31 x32 z3
        clear x40 x41 x42 z4
        clear x70 x71 x72 z7
        clear x80 x81 x82 z8
        clear x90 x91 x92 z9
        clear x110 x111 x112 z11
        replace HB3 := Lib.hid (HB3.out.fr hf)
        replace HA3 := Lib.hid (HA3.out.fr hf)
        replace HB4 := Lib.hid (HB4.out.fr hf)
        replace HA4 := Lib.hid (HA4.out.fr hf)
        replace HB7 := Lib.hid (HB7.out.fr hf)
        replace HA7 := Lib.hid (HA7.out.fr hf)
        replace HB8 := Lib.hid (HB8.out.fr hf)
        replace HA8 := Lib.hid (HA8.out.fr hf)
        replace HB9 := Lib.hid (HB9.out.fr hf)
        replace HA9 := Lib.hid (HA9.out.fr hf)
        replace HB11 := Lib.hid (HB11.out.fr hf)
        replace HA11 := Lib.hid (HA11.out.fr hf)
        replace HK := Lib.hid (HK.out.call hf)
        obtain ⟨x30, x31, x32⟩ := HB3.out.three
        have z3 := lt_of_cell x30
        obtain ⟨x40, x41, x42⟩ := HB4.out.three
        have z4 := lt_of_cell x40
        obtain ⟨x70, x71, x72⟩ := HB7.out.three
        have z7 := lt_of_cell x70
        obtain ⟨x80, x81, x82⟩ := HB8.out.three
        have z8 := lt_of_cell x80
        obtain ⟨x90, x91, x92⟩ := HB9.out.three
        have z9 := lt_of_cell x90
        obtain ⟨x110, x111, x112⟩ := HB11.out.three
        have z11 := lt_of_cell x110
        clear hf
        have HQ := Lib.hid (normal_at ha HA3.out)
        rw [hna] at HQ
        go_wp2_with fail
        refine (HQ.out).mono ?_
        rintro e y7 ⟨rfl, hf⟩
        clear x30 x31 x32 z3
        clear x40 x41 x42 z4
        clear x70 x71 x72 z7
        clear x80 x81 x82 z8
        clear x90 x91 x92 z9
        clear x110 x111 x112 z11
        replace HB3 := Lib.hid (HB3.out.fr hf)
        replace HA3 := Lib.hid (HA3.out.fr hf)
        replace HB4 := Lib.hid (HB4.out.fr hf)
        replace HA4 := Lib.hid (HA4.out.fr hf)
        replace HB7 := Lib.hid (HB7.out.fr hf)
        replace HA7 := Lib.hid (HA7.out.fr hf)
        replace HB8 := Lib.hid (HB8.out.fr hf)
        replace HA8 := Lib.hid (HA8.out.fr hf)
        replace HB9 := Lib.hid (HB9.out.fr hf)
        replace HA9 := Lib.hid (HA9.out.fr hf)
        replace HB11 := Lib.hid (HB11.out.fr hf)
        replace HA11 := Lib.hid (HA11.out.fr hf)
        replace HK := Lib.hid (HK.out.call hf)
        obtain ⟨x30, x31, x32⟩ := HB3.out.three
        have z3 := lt_of_cell x30
        obtain ⟨x40, x41, x42⟩ := HB4.out.three
        have z4 := lt_of_cell x40
        obtain ⟨x70, x71, x72⟩ := HB7.out.three
        have z7 := lt_of_cell x70
        obtain ⟨x80, x81, x82⟩ := HB8.out.three
        have z8 := lt_of_cell x80
        obtain ⟨x90, x91, x92⟩ := HB9.out.three
        have z9 := lt_of_cell x90
        obtain ⟨x110, x111, x112⟩ := HB11.out.three
        have z11 := lt_of_cell x110
        clear hf
        clear HQ
        go_wp2_with fail
        refine wp_region_noPanic ?_
        refine wp_region_head (n := 5) (S := fun wx => BlkC wx q11 [.slice A11 t11.ss.length c11, .slice B11 t11.ts.length d11, .int .i64 t11.off] ∧ BlkC wx p [.slice A3 a.ss.length c3, .slice B3 a.ts.length d3, .int .i64 a.off]) (by kernel_rfl) (by decide) ?_
        have hf := Fr.drew (Fr.refl y7)
        clear x30 x31 x32 z3
        clear x40 x41 x42 z4
        clear x70 x71 x72 z7
        clear x80 x81 x82 z8
        clear x90 x91 x92 z9
        clear x110 x111 x112 z11
        replace HB3 := Lib.hid (HB3.out.fr hf)
        replace HA3 := Lib.hid (HA3.out.fr hf)
        replace HB4 := Lib.hid (HB4.out.fr hf)
        replace HA4 := Lib.hid (HA4.out.fr hf)
        replace HB7 := Lib.hid (HB7.out.fr hf)
        replace HA7 := Lib.hid (HA7.out.fr hf)
        replace HB8 := Lib.hid (HB8.out.fr hf)
        replace HA8 := Lib.hid (HA8.out.fr hf)
        replace HB9 := Lib.hid (HB9.out.fr hf)
        replace HA9 := Lib.hid (HA9.out.fr hf)
        replace HB11 := Lib.hid (HB11.out.fr hf)
        replace HA11 := Lib.hid (HA11.out.fr hf)
        replace HK := Lib.hid (HK.out.call hf)
        clear hf
        generalize World.drew y7 = y8 at *
        have HD : BlkC y8 q11 [.slice A11 t11.ss.length c11, .slice B11 t11.ts.length d11, .int .i64 t11.off] ∧ BlkC y8 p [.slice A3 a.ss.length c3, .slice B3 a.ts.length d3, .int .i64 a.off] := ⟨HB11.out, HB3.out⟩
        simp only [List.size_toArray, List.length_cons, List.length_nil, Nat.reduceAdd]
        refine wpHead_take (i := 0) (v := ?_) rfl (by kernel_rfl) (fun _ _ _ h => h) (Or.inl ⟨by rfl, ?ky20⟩) HD ?sest20
        case ky20 => (intro w' hw'; have g0 := hw'.1 0 _ rfl; have g1 := hw'.1 1 _ rfl; have g2 := hw'.1 2 _ rfl; go_simp) <;> (try with_reducible rfl)
        (try simp only [Act.put, List.getElem_toArray, List.getElem_cons_zero, List.getElem_cons_succ, List.setIfInBounds_toArray, List.set_cons_zero, List.set_cons_succ])
        refine wpHead_take (i := 1) (v := ?_) rfl (by kernel_rfl) (fun _ _ _ h => h) (Or.inl ⟨by rfl, ?ky21⟩) HD ?sest21
        case ky21 => (intro w' hw'; go_simp) <;> (try with_reducible rfl)
        (try simp only [Act.put, List.getElem_toArray, List.getElem_cons_zero, List.getElem_cons_succ, List.setIfInBounds_toArray, List.set_cons_zero, List.set_cons_succ])
        refine wpHead_take (i := 2) (v := ?_) rfl (by kernel_rfl) (fun _ _ _ h => h) (Or.inl ⟨by rfl, ?ky22⟩) HD ?sest22
        case ky22 => (intro w' hw'; have g0 := hw'.2 0 _ rfl; have g1 := hw'.2 1 _ rfl; have g2 := hw'.2 2 _ rfl; go_simp) <;> (try with_reducible rfl)
        (try simp only [Act.put, List.getElem_toArray, List.getElem_cons_zero, List.getElem_cons_succ, List.setIfInBounds_toArray, List.set_cons_zero, List.set_cons_succ])
        refine wpHead_take (i := 3) (v := ?_) rfl (by kernel_rfl) (fun _ _ _ h => h) (Or.inl ⟨by rfl, ?ky23⟩) HD ?sest23
        case ky23 => (intro w' hw'; go_simp) <;> (try with_reducible rfl)
        (try simp only [Act.put, List.getElem_toArray, List.getElem_cons_zero, List.getElem_cons_succ, List.setIfInBounds_toArray, List.set_cons_zero, List.set_cons_succ])
        clear HD
        refine wpHead_lone (i := 4) rfl (by kernel_rfl) (by decide) rfl (fun K hK => ?_)
        go_simp
        obtain ⟨x30, x31, x32⟩ := HB3.out.three
        have z3 := lt_of_cell x30
        obtain ⟨x40, x41, x42⟩ := HB4.out.three
        have z4 := lt_of_cell x40
        obtain ⟨x70, x71, x72⟩ := HB7.out.three
        have z7 := lt_of_cell x70
        obtain ⟨x80, x81, x82⟩ := HB8.out.three
        have z8 := lt_of_cell x80
        obtain ⟨x90, x91, x92⟩ := HB9.out.three
        have z9 := lt_of_cell x90
        obtain ⟨x110, x111, x112⟩ := HB11.out.three
        have z11 := lt_of_cell x110
        refine (plus_at zero_norm hna (zero_at F _) HA3.out).mono ?_
        rintro e y9 ⟨x, rfl, hx, hf⟩
        clear x30 x31 x32 z3
        clear x40 x41 x42 z4
        clear x70 x71 x72 z7
        clear x80 x81 x82 z8
        clear x90 x91 x92 z9
        clear x110 x111 x112 z11
        replace HB3 := Lib.hid (HB3.out.fr hf)
        replace HA3 := Lib.hid (HA3.out.fr hf)
        replace HB4 := Lib.hid (HB4.out.fr hf)
        replace HA4 := Lib.hid (HA4.out.fr hf)
        replace HB7 := Lib.hid (HB7.out.fr hf)
        replace HA7 := Lib.hid (HA7.out.fr hf)
        replace HB8 := Lib.hid (HB8.out.fr hf)
        replace HA8 := Lib.hid (HA8.out.fr hf)
        replace HB9 := Lib.hid (HB9.out.fr hf)
        replace HA9 := Lib.hid (HA9.out.fr hf)
        replace HB11 := Lib.hid (HB11.out.fr hf)
        replace HA11 := Lib.hid (HA11.out.fr hf)
        replace HK := Lib.hid (HK.out.call hf)
        obtain ⟨x30, x31, x32⟩ := HB3.out.three
        have z3 := lt_of_cell x30
        obtain ⟨x40, x41, x42⟩ := HB4.out.three
        have z4 := lt_of_cell x40
        obtain ⟨x70, x71, x72⟩ := HB7.out.three
        have z7 := lt_of_cell x70
        obtain ⟨x80, x81, x82⟩ := HB8.out.three
        have z8 := lt_of_cell x80
        obtain ⟨x90, x91, x92⟩ := HB9.out.three
        have z9 := lt_of_cell x90
        obtain ⟨x110, x111, x112⟩ := HB11.out.three
        have z11 := lt_of_cell x110
        clear hf
        rw [hT] at hx
        (try go_wp2_with fail)
        refine hK _ _ ⟨HB11.out, HB3.out⟩ ?_
        clear hK K
        (try simp only [Act.put, List.getElem_toArray, List.getElem_cons_zero, List.getElem_cons_succ, List.setIfInBounds_toArray, List.set_cons_zero, List.set_cons_succ])
        refine wpHead_done (by kernel_rfl) ?_
        simp only [List.drop_succ_cons, List.drop_zero]
        (try simp only [Act.put, List.getElem_toArray, List.getElem_cons_zero, List.getElem_cons_succ, List.setIfInBounds_toArray, List.set_cons_zero, List.set_cons_succ])
        go_wp2_with fail
        refine (same_at1 hst HA11.out hx).mono ?_
        rintro e y10 ⟨rfl, hf⟩
        clear x30 x31 x32 z3
        clear x40 x41 x42 z4
        clear x70 x71 x72 z7
        clear x80 x81 x82 z8
        clear x90 x91 x92 z9
        clear x110 x111 x112 z11
        replace HB3 := Lib.hid (HB3.out.fr hf)
        replace HA3 := Lib.hid (HA3.out.fr hf)
        replace HB4 := Lib.hid (HB4.out.fr hf)
        replace HA4 := Lib.hid (HA4.out.fr hf)
        replace HB7 := Lib.hid (HB7.out.fr hf)
        replace HA7 := Lib.hid (HA7.out.fr hf)
        replace HB8 := Lib.hid (HB8.out.fr hf)
        replace HA8 := Lib.hid (HA8.out.fr hf)
        replace HB9 := Lib.hid (HB9.out.fr hf)
        replace HA9 := Lib.hid (HA9.out.fr hf)
        replace HB11 := Lib.hid (HB11.out.fr hf)
        replace HA11 := Lib.hid (HA11.out.fr hf)
        replace HK := Lib.hid (HK.out.call hf)
        obtain ⟨x30, x31, x32⟩ := HB3.out.three
        have z3 := lt_of_cell x30
        obtain ⟨x40, x41, x42⟩ := HB4.out.three
        have z4 := lt_of_cell x40
        obtain ⟨x70, x71, x72⟩ := HB7.out.three
        have z7 := lt_of_cell x70
        obtain ⟨x80, x81, x82⟩ := HB8.out.three
        have z8 := lt_of_cell x80
        obtain ⟨x90, x91, x92⟩ := HB9.out.three
        have z9 := lt_of_cell x90
        obtain ⟨x110, x111, x112⟩ := HB11.out.three
        have z11 := lt_of_cell x110
        clear hf
        clear hx
        go_wp2_with fail
        refine NoPanic.normal ?_
        have HQ := Lib.hid (normal_at hb HA4.out)
        rw [hnb] at HQ
        go_wp2_with fail
        refine (HQ.out).mono ?_
        rintro e y11 ⟨rfl, hf⟩
        clear x30 x31 x32 z3
        clear x40 x41 x42 z4
        clear x70 x71 x72 z7
        clear x80 x81 x82 z8
        clear x90 x91 x92 z9
        clear x110 x111 x112 z11
        replace HB3 := Lib.hid (HB3.out.fr hf)
        replace HA3 := Lib.hid (HA3.out.fr hf)
        replace HB4 := Lib.hid (HB4.out.fr hf)
        replace HA4 := Lib.hid (HA4.out.fr hf)
        replace HB7 := Lib.hid (HB7.out.fr hf)
        replace HA7 := Lib.hid (HA7.out.fr hf)
        replace HB8 := Lib.hid (HB8.out.fr hf)
        replace HA8 := Lib.hid (HA8.out.fr hf)
        replace HB9 := Lib.hid (HB9.out.fr hf)
        replace HA9 := Lib.hid (HA9.out.fr hf)
        replace HB11 := Lib.hid (HB11.out.fr hf)
        replace HA11 := Lib.hid (HA11.out.fr hf)
        replace HK := Lib.hid (HK.out.call hf)
        obtain ⟨x30, x31, x32⟩ := HB3.out.three
        have z3 := lt_of_cell x30
        obtain ⟨x40, x41, x42⟩ := HB4.out.three
        have z4 := lt_of_cell x40
        obtain ⟨x70, x71, x72⟩ := HB7.out.three
        have z7 := lt_of_cell x70
        obtain ⟨x80, x81, x82⟩ := HB8.out.three
        have z8 := lt_of_cell x80
        obtain ⟨x90, x91, x92⟩ := HB9.out.three
        have z9 := lt_of_cell x90
        obtain ⟨x110, x111, x112⟩ := HB11.out.three
        have z11 := lt_of_cell x110
        clear hf
        clear HQ
        go_wp2_with fail
        refine (same_at1 zero_sm HA9.out (zero_at F _)).mono ?_
        rintro e y12 ⟨rfl, hf⟩
        clear x30 x31 x32 z3
        clear x40 x41 x42 z4
        clear x70 x71 x72 z7
        clear x80 x81 x82 z8
        clear x90 x91 x92 z9
        clear x110 x111 x112 z11
        replace HB3 := Lib.hid (HB3.out.fr hf)
        replace HA3 := Lib.hid (HA3.out.fr hf)
        replace HB4 := Lib.hid (HB4.out.fr hf)
        replace HA4 := Lib.hid (HA4.out.fr hf)
        replace HB7 := Lib.hid (HB7.out.fr hf)
        replace HA7 := Lib.hid (HA7.out.fr hf)
        replace HB8 := Lib.hid (HB8.out.fr hf)
        replace HA8 := Lib.hid (HA8.out.fr hf)
        replace HB9 := Lib.hid (HB9.out.fr hf)
        replace HA9 := Lib.hid (HA9.out.fr hf)
        replace HB11 := Lib.hid (HB11.out.fr hf)
        replace HA11 := Lib.hid (HA11.out.fr hf)
        replace HK := Lib.hid (HK.out.call hf)
        obtain ⟨x30, x31, x32⟩ := HB3.out.three
        have z3 := lt_of_cell x30
        obtain ⟨x40, x41, x42⟩ := HB4.out.three
        have z4 := lt_of_cell x40
        obtain ⟨x70, x71, x72⟩ := HB7.out.three
        have z7 := lt_of_cell x70
        obtain ⟨x80, x81, x82⟩ := HB8.out.three
        have z8 := lt_of_cell x80
        obtain ⟨x90, x91, x92⟩ := HB9.out.three
        have z9 := lt_of_cell x90
        obtain ⟨x110, x111, x112⟩ := HB11.out.three
        have z11 := lt_of_cell x110
        clear hf
        go_wp2_with fail
        go_ret
        exact ⟨rfl, HK.out⟩
      | true =>
        obtain ⟨s9, hS⟩ : ∃ s, plusL a b 1 = s := ⟨_, rfl⟩
        have hss : s9.Sm := by rw [← hS]; exact plus_sm ha hb hna hnb
        by_cases hle : s9.ss.length ≤ 16
        · have hADD : addL a b = (s9, 0) := by unfold addL; rw [hna, hnb, hS]; simp [hle]
          obtain ⟨q7, q8, F, rfl, rfl, hbx⟩ := hcut
          have HK := Lib.hid hbx.fr
          obtain ⟨A3, B3, c3, d3, hb3, ha3⟩ := hbx.box (p, a) (by simp)
          have HB3 := Lib.hid (show BlkC wc (p) [.slice A3 a.ss.length c3, .slice B3 a.ts.length d3, .int .i64 a.off] from hb3); have HA3 := Lib.hid ha3; clear hb3 ha3
          obtain ⟨A4, B4, c4, d4, hb4, ha4⟩ := hbx.box (p + 1, b) (by simp)
          have HB4 := Lib.hid (show BlkC wc (p + 1) [.slice A4 b.ss.length c4, .slice B4 b.ts.length d4, .int .i64 b.off] from hb4); have HA4 := Lib.hid ha4; clear hb4 ha4
          obtain ⟨A7, B7, c7, d7, hb7, ha7⟩ := hbx.box (q7, a) (by simp)
          have HB7 := Lib.hid (show BlkC wc (q7) [.slice A7 a.ss.length c7, .slice B7 a.ts.length d7, .int .i64 a.off] from hb7); have HA7 := Lib.hid ha7; clear hb7 ha7
          obtain ⟨A8, B8, c8, d8, hb8, ha8⟩ := hbx.box (q8, b) (by simp)
          have HB8 := Lib.hid (show BlkC wc (q8) [.slice A8 b.ss.length c8, .slice B8 b.ts.length d8, .int .i64 b.off] from hb8); have HA8 := Lib.hid ha8; clear hb8 ha8
          clear hbx
          obtain ⟨x30, x31, x32⟩ := HB3.out.three
          have z3 := lt_of_cell x30
          obtain ⟨x40, x41, x42⟩ := HB4.out.three
          have z4 := lt_of_cell x40
          obtain ⟨x70, x71, x72⟩ := HB7.out.three
          have z7 := lt_of_cell x70
          obtain ⟨x80, x81, x82⟩ := HB8.out.three
          have z8 := lt_of_cell x80
          have HQ := Lib.hid (HAD a b F _ _ wc ha hb HA7.out HA8.out)
          rw [hADD] at HQ
          go_wp2_with fail
          refine (HQ.out).mono ?_
          rintro e y1 ⟨x, rfl, hx, hf⟩
          clear x30 x31 x32 z3
          clear x40 x41 x42 z4
          clear x70 x71 x72 z7
          clear x80 x81 x82 z8
          replace HB3 := Lib.hid (HB3.out.fr hf)
          replace HA3 := Lib.hid (HA3.out.fr hf)
          replace HB4 := Lib.hid (HB4.out.fr hf)
          replace HA4 := Lib.hid (HA4.out.fr hf)
          replace HB7 := Lib.hid (HB7.out.fr hf)
          replace HA7 := Lib.hid (HA7.out.fr hf)
          replace HB8 := Lib.hid (HB8.out.fr hf)
          replace HA8 := Lib.hid (HA8.out.fr hf)
          replace HK := Lib.hid (HK.out.call hf)
          obtain ⟨x30, x31, x32⟩ := HB3.out.three
          have z3 := lt_of_cell x30
          obtain ⟨x40, x41, x42⟩ := HB4.out.three
          have z4 := lt_of_cell x40
          obtain ⟨x70, x71, x72⟩ := HB7.out.three
          have z7 := lt_of_cell x70
          obtain ⟨x80, x81, x82⟩ := HB8.out.three
          have z8 := lt_of_cell x80
          clear hf
          clear HQ
          obtain ⟨A9, B9, c9, d9, rfl, _, _, _⟩ := id hx
          have HA9 := Lib.hid hx; clear hx
          have kf := (Fr.refl y1).alloc (.cells #[.slice A9 s9.ss.length c9, .slice B9 s9.ts.length d9, .int .i64 s9.off] 25)
          have HB9 := Lib.hid (BlkC.alloc (w := y1) (t := 25) (cs := #[.slice A9 s9.ss.length c9, .slice B9 s9.ts.length d9, .int .i64 s9.off]))
          replace HB3 := Lib.hid (HB3.out.fr kf)
          replace HA3 := Lib.hid (HA3.out.fr kf)
          replace HB4 := Lib.hid (HB4.out.fr kf)
          replace HA4 := Lib.hid (HA4.out.fr kf)
          replace HB7 := Lib.hid (HB7.out.fr kf)
          replace HA7 := Lib.hid (HA7.out.fr kf)
          replace HB8 := Lib.hid (HB8.out.fr kf)
          replace HA8 := Lib.hid (HA8.out.fr kf)
          replace HK := Lib.hid (HK.out.call kf)
          replace HA9 := Lib.hid (HA9.out.fr kf)
          go_wp2_with fail
          clear kf
          clear x30 x31 x32 z3
          clear x40 x41 x42 z4
          clear x70 x71 x72 z7
          clear x80 x81 x82 z8
          generalize World.alloc y1 (.cells #[.slice A9 s9.ss.length c9, .slice B9 s9.ts.length d9, .int .i64 s9.off] 25) = y2 at *
          obtain ⟨q9, hq9⟩ : ∃ q, y1.heap.size = q := ⟨_, rfl⟩
          (try rw [hq9] at HB9); (try simp only [hq9]); clear hq9
          obtain ⟨x30, x31, x32⟩ := HB3.out.three
          have z3 := lt_of_cell x30
          obtain ⟨x40, x41, x42⟩ := HB4.out.three
          have z4 := lt_of_cell x40
          obtain ⟨x70, x71, x72⟩ := HB7.out.three
          have z7 := lt_of_cell x70
          obtain ⟨x80, x81, x82⟩ := HB8.out.three
          have z8 := lt_of_cell x80
          obtain ⟨x90, x91, x92⟩ := HB9.out.three
          have z9 := lt_of_cell x90
          have HQ := Lib.hid (HTI a n F _ y2 ha hn HA7.out)
          rw [hTI] at HQ
          refine (HQ.out).mono ?_
          rintro e y3 ⟨x, rfl, hx, hf⟩
          clear x30 x31 x32 z3
          clear x40 x41 x42 z4
          clear x70 x71 x72 z7
          clear x80 x81 x82 z8
          clear x90 x91 x92 z9
          replace HB3 := Lib.hid (HB3.out.fr hf)
          replace HA3 := Lib.hid (HA3.out.fr hf)
          replace HB4 := Lib.hid (HB4.out.fr hf)
          replace HA4 := Lib.hid (HA4.out.fr hf)
          replace HB7 := Lib.hid (HB7.out.fr hf)
          replace HA7 := Lib.hid (HA7.out.fr hf)
          replace HB8 := Lib.hid (HB8.out.fr hf)
          replace HA8 := Lib.hid (HA8.out.fr hf)
          replace HB9 := Lib.hid (HB9.out.fr hf)
          replace HA9 := Lib.hid (HA9.out.fr hf)
          replace HK := Lib.hid (HK.out.call hf)
          obtain ⟨x30, x31, x32⟩ := HB3.out.three
          have z3 := lt_of_cell x30
          obtain ⟨x40, x41, x42⟩ := HB4.out.three
          have z4 := lt_of_cell x40
          obtain ⟨x70, x71, x72⟩ := HB7.out.three
          have z7 := lt_of_cell x70
          obtain ⟨x80, x81, x82⟩ := HB8.out.three
          have z8 := lt_of_cell x80
          obtain ⟨x90, x91, x92⟩ := HB9.out.three
          have z9 := lt_of_cell x90
          clear hf
          clear HQ
          obtain ⟨A11, B11, c11, d11, rfl, _, _, _⟩ := id hx
          have HA11 := Lib.hid hx; clear hx
          have kf := (Fr.refl y3).alloc (.cells #[.slice A11 t11.ss.length c11, .slice B11 t11.ts.length d11, .int .i64 t11.off] 25)
          have HB11 := Lib.hid (BlkC.alloc (w := y3) (t := 25) (cs := #[.slice A11 t11.ss.length c11, .slice B11 t11.ts.length d11, .int .i64 t11.off]))
          replace HB3 := Lib.hid (HB3.out.fr kf)
          replace HA3 := Lib.hid (HA3.out.fr kf)
          replace HB4 := Lib.hid (HB4.out.fr kf)
          replace HA4 := Lib.hid (HA4.out.fr kf)
          replace HB7 := Lib.hid (HB7.out.fr kf)
          replace HA7 := Lib.hid (HA7.out.fr kf)
          replace HB8 := Lib.hid (HB8.out.fr kf)
          replace HA8 := Lib.hid (HA8.out.fr kf)
          replace HB9 := Lib.hid (HB9.out.fr kf)
          replace HA9 := Lib.hid (HA9.out.fr kf)
          replace HK := Lib.hid (HK.out.call kf)
          replace HA11 := Lib.hid (HA11.out.fr kf)
          go_wp2_with fail
          clear kf
          clear x30 x31 x32 z3
          clear x40 x41 x42 z4
          clear x70 x71 x72 z7
          clear x80 x81 x82 z8
          clear x90 x91 x92 z9
          generalize World.alloc y3 (.cells #[.slice A11 t11.ss.length c11, .slice B11 t11.ts.length d11, .int .i64 t11.off] 25) = y4 at *
          obtain ⟨q11, hq11⟩ : ∃ q, y3.heap.size = q := ⟨_, rfl⟩
          (try rw [hq11] at HB11); (try simp only [hq11]); clear hq11
          obtain ⟨x30, x31, x32⟩ := HB3.out.three
          have z3 := lt_of_cell x30
          obtain ⟨x40, x41, x42⟩ := HB4.out.three
          have z4 := lt_of_cell x40
          obtain ⟨x70, x71, x72⟩ := HB7.out.three
          have z7 := lt_of_cell x70
          obtain ⟨x80, x81, x82⟩ := HB8.out.three
          have z8 := lt_of_cell x80
          obtain ⟨x90, x91, x92⟩ := HB9.out.three
          have z9 := lt_of_cell x90
          obtain ⟨x110, x111, x112⟩ := HB11.out.three
          have z11 := lt_of_cell x110
          refine (same_at1 ha HA7.out HA3.out).mono ?_
          rintro e y5 ⟨rfl, hf⟩
          clear x30 x31 x32 z3
          clear x40 x41 x42 z4
          clear x70 x71 x72 z7
          clear x80 x81 x82 z8
          clear x90 x91 x92 z9
          clear x110 x111 x112 z11
          replace HB3 := Lib.hid (HB3.out.fr hf)
          replace HA3 := Lib.hid (HA3.out.fr hf)
          replace HB4 := Lib.hid (HB4.out.fr hf)
          replace HA4 := Lib.hid (HA4.out.fr hf)
          replace HB7 := Lib.hid (HB7.out.fr hf)
          replace HA7 := Lib.hid (HA7.out.fr hf)
          replace HB8 := Lib.hid (HB8.out.fr hf)
          replace HA8 := Lib.hid (HA8.out.fr hf)
          replace HB9 := Lib.hid (HB9.out.fr hf)
          replace HA9 := Lib.hid (HA9.out.fr hf)
          replace HB11 := Lib.hid (HB11.out.fr hf)
          replace HA11 := Lib.hid (HA11.out.fr hf)
          replace HK := Lib.hid (HK.out.call hf)
          obtain ⟨x30, x31, x32⟩ := HB3.out.three
          have z3 := lt_of_cell x30
          obtain ⟨x40, x41, x42⟩ := HB4.out.three
          have z4 := lt_of_cell x40
          obtain ⟨x70, x71, x72⟩ := HB7.out.three
          have z7 := lt_of_cell x70
          obtain ⟨x80, x81, x82⟩ := HB8.out.three
          have z8 := lt_of_cell x80
          obtain ⟨x90, x91, x92⟩ := HB9.out.three
          have z9 := lt_of_cell x90
          obtain ⟨x110, x111, x112⟩ := HB11.out.three
          have z11 := lt_of_cell x110
          clear hf
          go_wp2_with fail
          refine (same_at1 hb HA8.out HA4.out).mono ?_
          rintro e y6 ⟨rfl, hf⟩
          clear x30 x31 x32 z3
          clear x40 x41 x42 z4
          clear x70 x71 x72 z7
          clear x80 x81 x82 z8
          clear x90 x91 x92 z9
          clear x110 x111 x112 z11
          replace HB3 := Lib.hid (HB3.out.fr hf)
          replace HA3 := Lib.hid (HA3.out.fr hf)
          replace HB4 := Lib.hid (HB4.out.fr hf)
          replace HA4 := Lib.hid (HA4.out.fr hf)
          replace HB7 := Lib.hid (HB7.out.fr hf)
          replace HA7 := Lib.hid (HA7.out.fr hf)
          replace HB8 := Lib.hid (HB8.out.fr hf)
          replace HA8 := Lib.hid (HA8.out.fr hf)
          replace HB9 := Lib.hid (HB9.out.fr hf)
          replace HA9 := Lib.hid (HA9.out.fr hf)
          replace HB11 := Lib.hid (HB11.out.fr hf)
          replace HA11 := Lib.hid (HA11.out.fr hf)
          replace HK := Lib.hid (HK.out.call hf)
          obtain ⟨x30, x31, x32⟩ := HB3.out.three
          have z3 := lt_of_cell x30
          obtain ⟨x40, x41, x42⟩ := HB4.out.three
          have z4 := lt_of_cell x40
          obtain ⟨x70, x71, x72⟩ := HB7.out.three
          have z7 := lt_of_cell x70
          obtain ⟨x80, x81, x82⟩ := HB8.out.three
          have z8 := lt_of_cell x80
          obtain ⟨x90, x91, x92⟩ := HB9.out.three
          have z9 := lt_of_cell x90
          obtain ⟨x110, x111, x112⟩ := HB11.out.three
          have z11 := lt_of_cell x110
          clear hf
          have HQ := Lib.hid (normal_at ha HA3.out)
          rw [hna] at HQ
          go_wp2_with fail
          refine (HQ.out).mono ?_
          rintro e y7 ⟨rfl, hf⟩
          clear x30 x31 x32 z3
          clear x40 x41 x42 z4
          clear x70 x71 x72 z7
          clear x80 x81 x82 z8
          clear x90 x91 x92 z9
          clear x110 x111 x112 z11
          replace HB3 := Lib.hid (HB3.out.fr hf)
          replace HA3 := Lib.hid (HA3.out.fr hf)
          replace HB4 := Lib.hid (HB4.out.fr hf)
          replace HA4 := Lib.hid (HA4.out.fr hf)
          replace HB7 := Lib.hid (HB7.out.fr hf)
          replace HA7 := Lib.hid (HA7.out.fr hf)
          replace HB8 := Lib.hid (HB8.out.fr hf)
          replace HA8 := Lib.hid (HA8.out.fr hf)
          replace HB9 := Lib.hid (HB9.out.fr hf)
          replace HA9 := Lib.hid (HA9.out.fr hf)
          replace HB11 := Lib.hid (HB11.out.fr hf)
          replace HA11 := Lib.hid (HA11.out.fr hf)
          replace HK := Lib.hid (HK.out.call hf)
          obtain ⟨x30, x31, x32⟩ := HB3.out.three
          have z3 := lt_of_cell x30
          obtain ⟨x40, x41, x42⟩ := HB4.out.three
          have z4 := lt_of_cell x40
          obtain ⟨x70, x71, x72⟩ := HB7.out.three
          have z7 := lt_of_cell x70
          obtain ⟨x80, x81, x82⟩ := HB8.out.three
          have z8 := lt_of_cell x80
          obtain ⟨x90, x91, x92⟩ := HB9.out.three
          have z9 := lt_of_cell x90
          obtain ⟨x110, x111, x112⟩ := HB11.out.three
          have z11 := lt_of_cell x110
          clear hf
          clear HQ
          go_wp2_with fail
          refine wp_region_noPanic ?_
          refine wp_region_head (n := 5) (S := fun wx => BlkC wx q11 [.slice A11 t11.ss.length c11, .slice B11 t11.ts.length d11, .int .i64 t11.off] ∧ BlkC wx p [.slice A3 a.ss.length c3, .slice B3 a.ts.length d3, .int .i64 a.off]) (by kernel_rfl) (by decide) ?_
          have hf := Fr.drew (Fr.refl y7)
          clear x30 x31 x32 z3
          clear x40 x41 x42 z4
          clear x70 x71 x72 z7
          clear x80 x81 x82 z8
          clear x90 x91 x92 z9
          clear x110 x111 x112 z11
          replace HB3 := Lib.hid (HB3.out.fr hf)
          replace HA3 := Lib.hid (HA3.out.fr hf)
          replace HB4 := Lib.hid (HB4.out.fr hf)
          replace HA4 := Lib.hid (HA4.out.fr hf)
          replace HB7 := Lib.hid (HB7.out.fr hf)
          replace HA7 := Lib.hid (HA7.out.fr hf)
          replace HB8 := Lib.hid (HB8.out.fr hf)
          replace HA8 := Lib.hid (HA8.out.fr hf)
          replace HB9 := Lib.hid (HB9.out.fr hf)
          replace HA9 := Lib.hid (HA9.out.fr hf)
          replace HB11 := Lib.hid (HB11.out.fr hf)
          replace HA11 := Lib.hid (HA11.out.fr hf)
          replace HK := Lib.hid (HK.out.call hf)
          clear hf
          generalize World.drew y7 = y8 at *
          have HD : BlkC y8 q11 [.slice A11 t11.ss.length c11, .slice B11 t11.ts.length d11, .int .i64 t11.off] ∧ BlkC y8 p [.slice A3 a.ss.length c3, .slice B3 a.ts.length d3, .int .i64 a.off] := ⟨HB11.out, HB3.out⟩
          simp only [List.size_toArray, List.length_cons, List.length_nil, Nat.reduceAdd]
          refine wpHead_take (i := 0) (v := ?_) rfl (by kernel_rfl) (fun _ _ _ h => h) (Or.inl ⟨by rfl, ?ky40⟩) HD ?sest40
          case ky40 => (intro w' hw'; have g0 := hw'.1 0 _ rfl; have g1 := hw'.1 1 _ rfl; have g2 := hw'.1 2 _ rfl; go_simp) <;> (try with_reducible rfl)
          (try simp only [Act.put, List.getElem_toArray, List.getElem_cons_zero, List.getElem_cons_succ, List.setIfInBounds_toArray, List.set_cons_zero, List.set_cons_succ])
          refine wpHead_take (i := 1) (v := ?_) rfl (by kernel_rfl) (fun _ _ _ h => h) (Or.inl ⟨by rfl, ?ky41⟩) HD ?sest41
          case ky41 => (intro w' hw'; go_simp) <;> (try with_reducible rfl)
          (try simp only [Act.put, List.getElem_toArray, List.getElem_cons_zero, List.getElem_cons_succ, List.setIfInBounds_toArray, List.set_cons_zero, List.set_cons_succ])
          refine wpHead_take (i := 2) (v := ?_) rfl (by kernel_rfl) (fun _ _ _ h => h) (Or.inl ⟨by rfl, ?ky42⟩) HD ?sest42
          case ky42 => (intro w' hw'; have g0 := hw'.2 0 _ rfl; have g1 := hw'.2 1 _ rfl; have g2 := hw'.2 2 _ rfl; go_simp) <;> (try with_reducible rfl)
          (try simp only [Act.put, List.getElem_toArray, List.getElem_cons_zero, List.getElem_cons_succ, List.setIfInBounds_toArray, List.set_cons_zero, List.set_cons_succ])
          refine wpHead_take (i := 3) (v := ?_) rfl (by kernel_rfl) (fun _ _ _ h => h) (Or.inl ⟨by rfl, ?ky43⟩) HD ?sest43
          case ky43 => (intro w' hw'; go_simp) <;> (try with_reducible rfl)
          (try simp only [Act.put, List.getElem_toArray, List.getElem_cons_zero, List.getElem_cons_succ, List.setIfInBounds_toArray, List.set_cons_zero, List.set_cons_succ])
          clear HD
          refine wpHead_lone (i := 4) rfl (by kernel_rfl) (by decide) rfl (fun K hK => ?_)
          go_simp
          obtain ⟨x30, x31, x32⟩ := HB3.out.three
          have z3 := lt_of_cell x30
          obtain ⟨x40, x41, x42⟩ := HB4.out.three
          have z4 := lt_of_cell x40
          obtain ⟨x70, x71, x72⟩ := HB7.out.three
          have z7 := lt_of_cell x70
          obtain ⟨x80, x81, x82⟩ := HB8.out.three
          have z8 := lt_of_cell x80
          obtain ⟨x90, x91, x92⟩ := HB9.out.three
          have z9 := lt_of_cell x90
          obtain ⟨x110, x111, x112⟩ := HB11.out.three
          have z11 := lt_of_cell x110
          refine (plus_at zero_norm hna (zero_at F _) HA3.out).mono ?_
          rintro e y9 ⟨x, rfl, hx, hf⟩
          clear x30 x31 x32 z3
          clear x40 x41 x42 z4
          clear x70 x71 x72 z7
          clear x80 x81 x82 z8
          clear x90 x91 x92 z9
          clear x110 x111 x112 z11
          replace HB3 := Lib.hid (HB3.out.fr hf)
          replace HA3 := Lib.hid (HA3.out.fr hf)
          replace HB4 := Lib.hid (HB4.out.fr hf)
          replace HA4 := Lib.hid (HA4.out.fr hf)
          replace HB7 := Lib.hid (HB7.out.fr hf)
          replace HA7 := Lib.hid (HA7.out.fr hf)
          replace HB8 := Lib.hid (HB8.out.fr hf)
          replace HA8 := Lib.hid (HA8.out.fr hf)
          replace HB9 := Lib.hid (HB9.out.fr hf)
          replace HA9 := Lib.hid (HA9.out.fr hf)
          replace HB11 := Lib.hid (HB11.out.fr hf)
          replace HA11 := Lib.hid (HA11.out.fr hf)
          replace HK := Lib.hid (HK.out.call hf)
          obtain ⟨x30, x31, x32⟩ := HB3.out.three
          have z3 := lt_of_cell x30
          obtain ⟨x40, x41, x42⟩ := HB4.out.three
          have z4 := lt_of_cell x40
          obtain ⟨x70, x71, x72⟩ := HB7.out.three
          have z7 := lt_of_cell x70
          obtain ⟨x80, x81, x82⟩ := HB8.out.three
          have z8 := lt_of_cell x80
          obtain ⟨x90, x91, x92⟩ := HB9.out.three
          have z9 := lt_of_cell x90
          obtain ⟨x110, x111, x112⟩ := HB11.out.three
          have z11 := lt_of_cell x110
          clear hf
          rw [hT] at hx
          (try go_wp2_with fail)
          refine hK _ _ ⟨HB11.out, HB3.out⟩ ?_
          clear hK K
          (try simp only [Act.put, List.getElem_toArray, List.getElem_cons_zero, List.getElem_cons_succ, List.setIfInBounds_toArray, List.set_cons_zero, List.set_cons_succ])
          refine wpHead_done (by kernel_rfl) ?_
          simp only [List.drop_succ_cons, List.drop_zero]
          (try simp only [Act.put, List.getElem_toArray, List.getElem_cons_zero, List.getElem_cons_succ, List.setIfInBounds_toArray, List.set_cons_zero, List.set_cons_succ])
          go_wp2_with fail
          refine (same_at1 hst HA11.out hx).mono ?_
          rintro e y10 ⟨rfl, hf⟩
          clear x30 x31 x32 z3
          clear x40 x41 x42 z4
          clear x70 x71 x72 z7
          clear x80 x81 x82 z8
          clear x90 x91 x92 z9
          clear x110 x111 x112 z11
          replace HB3 := Lib.hid (HB3.out.fr hf)
          replace HA3 := Lib.hid (HA3.out.fr hf)
          replace HB4 := Lib.hid (HB4.out.fr hf)
          replace HA4 := Lib.hid (HA4.out.fr hf)
          replace HB7 := Lib.hid (HB7.out.fr hf)
          replace HA7 := Lib.hid (HA7.out.fr hf)
          replace HB8 := Lib.hid (HB8.out.fr hf)
          replace HA8 := Lib.hid (HA8.out.fr hf)
          replace HB9 := Lib.hid (HB9.out.fr hf)
          replace HA9 := Lib.hid (HA9.out.fr hf)
          replace HB11 := Lib.hid (HB11.out.fr hf)
          replace HA11 := Lib.hid (HA11.out.fr hf)
          replace HK := Lib.hid (HK.out.call hf)
          obtain ⟨x30, x31, x32⟩ := HB3.out.three
          have z3 := lt_of_cell x30
          obtain ⟨x40, x41, x42⟩ := HB4.out.three
          have z4 := lt_of_cell x40
          obtain ⟨x70, x71, x72⟩ := HB7.out.three
          have z7 := lt_of_cell x70
          obtain ⟨x80, x81, x82⟩ := HB8.out.three
          have z8 := lt_of_cell x80
          obtain ⟨x90, x91, x92⟩ := HB9.out.three
          have z9 := lt_of_cell x90
          obtain ⟨x110, x111, x112⟩ := HB11.out.three
          have z11 := lt_of_cell x110
          clear hf
          clear hx
          go_wp2_with fail
          refine NoPanic.normal ?_
          have HQ := Lib.hid (normal_at hb HA4.out)
          rw [hnb] at HQ
          go_wp2_with fail
          refine (HQ.out).mono ?_
          rintro e y11 ⟨rfl, hf⟩
          clear x30 x31 x32 z3
          clear x40 x41 x42 z4
          clear x70 x71 x72 z7
          clear x80 x81 x82 z8
          clear x90 x91 x92 z9
          clear x110 x111 x112 z11
          replace HB3 := Lib.hid (HB3.out.fr hf)
          replace HA3 := Lib.hid (HA3.out.fr hf)
          replace HB4 := Lib.hid (HB4.out.fr hf)
          replace HA4 := Lib.hid (HA4.out.fr hf)
          replace HB7 := Lib.hid (HB7.out.fr hf)
          replace HA7 := Lib.hid (HA7.out.fr hf)
          replace HB8 := Lib.hid (HB8.out.fr hf)
          replace HA8 := Lib.hid (HA8.out.fr hf)
          replace HB9 := Lib.hid (HB9.out.fr hf)
          replace HA9 := Lib.hid (HA9.out.fr hf)
          replace HB11 := Lib.hid (HB11.out.fr hf)
          replace HA11 := Lib.hid (HA11.out.fr hf)
          replace HK := Lib.hid (HK.out.call hf)
          obtain ⟨x30, x31, x32⟩ := HB3.out.three
          have z3 := lt_of_cell x30
          obtain ⟨x40, x41, x42⟩ := HB4.out.three
          have z4 := lt_of_cell x40
          obtain ⟨x70, x71, x72⟩ := HB7.out.three
          have z7 := lt_of_cell x70
          obtain ⟨x80, x81, x82⟩ := HB8.out.three
          have z8 := lt_of_cell x80
          obtain ⟨x90, x91, x92⟩ := HB9.out.three
          have z9 := lt_of_cell x90
          obtain ⟨x110, x111, x112⟩ := HB11.out.three
          have z11 := lt_of_cell x110
          clear hf
          clear HQ
          go_wp2_with fail
          refine (plus_at hna hnb HA3.out HA4.out).mono ?_
          rintro e y12 ⟨x, rfl, hx, hf⟩
          clear x30 x31 x32 z3
          clear x40 x41 x42 z4
          clear x70 x71 x72 z7
          clear x80 x81 x82 z8
          clear x90 x91 x92 z9
          clear x110 x111 x112 z11
          replace HB3 := Lib.hid (HB3.out.fr hf)
          replace HA3 := Lib.hid (HA3.out.fr hf)
          replace HB4 := Lib.hid (HB4.out.fr hf)
          replace HA4 := Lib.hid (HA4.out.fr hf)
          replace HB7 := Lib.hid (HB7.out.fr hf)
          replace HA7 := Lib.hid (HA7.out.fr hf)
          replace HB8 := Lib.hid (HB8.out.fr hf)
          replace HA8 := Lib.hid (HA8.out.fr hf)
          replace HB9 := Lib.hid (HB9.out.fr hf)
          replace HA9 := Lib.hid (HA9.out.fr hf)
          replace HB11 := Lib.hid (HB11.out.fr hf)
          replace HA11 := Lib.hid (HA11.out.fr hf)
          replace HK := Lib.hid (HK.out.call hf)
          obtain ⟨x30, x31, x32⟩ := HB3.out.three
          have z3 := lt_of_cell x30
          obtain ⟨x40, x41, x42⟩ := HB4.out.three
          have z4 := lt_of_cell x40
          obtain ⟨x70, x71, x72⟩ := HB7.out.three
          have z7 := lt_of_cell x70
          obtain ⟨x80, x81, x82⟩ := HB8.out.three
          have z8 := lt_of_cell x80
          obtain ⟨x90, x91, x92⟩ := HB9.out.three
          have z9 := lt_of_cell x90
          obtain ⟨x110, x111, x112⟩ := HB11.out.three
          have z11 := lt_of_cell x110
          clear hf
          rw [hS] at hx
          obtain ⟨A12, B12, c12, d12, rfl, _, _, _⟩ := id hx
          have HA12 := Lib.hid hx; clear hx
          have hgt : ¬ ((s9.ss.length : Nat) : Int) > 16 := by omega
          have kf := (Fr.refl y12).alloc (.cells #[.slice A12 s9.ss.length c12, .slice B12 s9.ts.length d12, .int .i64 s9.off] 25)
          have HB12 := Lib.hid (BlkC.alloc (w := y12) (t := 25) (cs := #[.slice A12 s9.ss.length c12, .slice B12 s9.ts.length d12, .int .i64 s9.off]))
          replace HB3 := Lib.hid (HB3.out.fr kf)
          replace HA3 := Lib.hid (HA3.out.fr kf)
          replace HB4 := Lib.hid (HB4.out.fr kf)
          replace HA4 := Lib.hid (HA4.out.fr kf)
          replace HB7 := Lib.hid (HB7.out.fr kf)
          replace HA7 := Lib.hid (HA7.out.fr kf)
          replace HB8 := Lib.hid (HB8.out.fr kf)
          replace HA8 := Lib.hid (HA8.out.fr kf)
          replace HB9 := Lib.hid (HB9.out.fr kf)
          replace HA9 := Lib.hid (HA9.out.fr kf)
          replace HB11 := Lib.hid (HB11.out.fr kf)
          replace HA11 := Lib.hid (HA11.out.fr kf)
          replace HK := Lib.hid (HK.out.call kf)
          replace HA12 := Lib.hid (HA12.out.fr kf)
          go_wp2_with fail
          clear kf
          clear x30 x31 x32 z3
          clear x40 x41 x42 z4
          clear x70 x71 x72 z7
          clear x80 x81 x82 z8
          clear x90 x91 x92 z9
          clear x110 x111 x112 z11
          generalize World.alloc y12 (.cells #[.slice A12 s9.ss.length c12, .slice B12 s9.ts.length d12, .int .i64 s9.off] 25) = y13 at *
          obtain ⟨q12, hq12⟩ : ∃ q, y12.heap.size = q := ⟨_, rfl⟩
          (try rw [hq12] at HB12); (try simp only [hq12]); clear hq12
          obtain ⟨x30, x31, x32⟩ := HB3.out.three
          have z3 := lt_of_cell x30
          obtain ⟨x40, x41, x42⟩ := HB4.out.three
          have z4 := lt_of_cell x40
          obtain ⟨x70, x71, x72⟩ := HB7.out.three
          have z7 := lt_of_cell x70
          obtain ⟨x80, x81, x82⟩ := HB8.out.three
          have z8 := lt_of_cell x80
          obtain ⟨x90, x91, x92⟩ := HB9.out.three
          have z9 := lt_of_cell x90
          obtain ⟨x110, x111, x112⟩ := HB11.out.three
          have z11 := lt_of_cell x110
          obtain ⟨x120, x121, x122⟩ := HB12.out.three
          have z12 := lt_of_cell x120
          refine (same_at1 hss HA9.out HA12.out).mono ?_
          rintro e y14 ⟨rfl, hf⟩
          clear x30 x31 x32 z3
          clear x40 x41 x42 z4
          clear x70 x71 x72 z7
          clear x80 x81 x82 z8
          clear x90 x91 x92 z9
          clear x110 x111 x112 z11
          clear x120 x121 x122 z12
          replace HB3 := Lib.hid (HB3.out.fr hf)
          replace HA3 := Lib.hid (HA3.out.fr hf)
          replace HB4 := Lib.hid (HB4.out.fr hf)
          replace HA4 := Lib.hid (HA4.out.fr hf)
          replace HB7 := Lib.hid (HB7.out.fr hf)
          replace HA7 := Lib.hid (HA7.out.fr hf)
          replace HB8 := Lib.hid (HB8.out.fr hf)
          replace HA8 := Lib.hid (HA8.out.fr hf)
          replace HB9 := Lib.hid (HB9.out.fr hf)
          replace HA9 := Lib.hid (HA9.out.fr hf)
          replace HB11 := Lib.hid (HB11.out.fr hf)
          replace HA11 := Lib.hid (HA11.out.fr hf)
          replace HB12 := Lib.hid (HB12.out.fr hf)
          replace HA12 := Lib.hid (HA12.out.fr hf)
          replace HK := Lib.hid (HK.out.call hf)
          obtain ⟨x30, x31, x32⟩ := HB3.out.three
          have z3 := lt_of_cell x30
          obtain ⟨x40, x41, x42⟩ := HB4.out.three
          have z4 := lt_of_cell x40
          obtain ⟨x70, x71, x72⟩ := HB7.out.three
          have z7 := lt_of_cell x70
          obtain ⟨x80, x81, x82⟩ := HB8.out.three
          have z8 := lt_of_cell x80
          obtain ⟨x90, x91, x92⟩ := HB9.out.three
          have z9 := lt_of_cell x90
          obtain ⟨x110, x111, x112⟩ := HB11.out.three
          have z11 := lt_of_cell x110
          obtain ⟨x120, x121, x122⟩ := HB12.out.three
          have z12 := lt_of_cell x120
          clear hf
          go_wp2_with fail
          go_ret
          exact ⟨rfl, HK.out⟩
        · have hADD : addL a b = (zeroL, 123) := by unfold addL; rw [hna, hnb, hS]; simp [hle]
          obtain ⟨q7, q8, F, rfl, rfl, hbx⟩ := hcut
          have HK := Lib.hid hbx.fr
          obtain ⟨A3, B3, c3, d3, hb3, ha3⟩ := hbx.box (p, a) (by simp)
          have HB3 := Lib.hid (show BlkC wc (p) [.slice A3 a.ss.length c3, .slice B3 a.ts.length d3, .int .i64 a.off] from hb3); have HA3 := Lib.hid ha3; clear hb3 ha3
          obtain ⟨A4, B4, c4, d4, hb4, ha4⟩ := hbx.box (p + 1, b) (by simp)
          have HB4 := Lib.hid (show BlkC wc (p + 1) [.slice A4 b.ss.length c4, .slice B4 b.ts.length d4, .int .i64 b.off] from hb4); have HA4 := Lib.hid ha4; clear hb4 ha4
          obtain ⟨A7, B7, c7, d7, hb7, ha7⟩ := hbx.box (q7, a) (by simp)
          have HB7 := Lib.hid (show BlkC wc (q7) [.slice A7 a.ss.length c7, .slice B7 a.ts.length d7, .int .i64 a.off] from hb7); have HA7 := Lib.hid ha7; clear hb7 ha7
          obtain ⟨A8, B8, c8, d8, hb8, ha8⟩ := hbx.box (q8, b) (by simp)
          have HB8 := Lib.hid (show BlkC wc (q8) [.slice A8 b.ss.length c8, .slice B8 b.ts.length d8, .int .i64 b.off] from hb8); have HA8 := Lib.hid ha8; clear hb8 ha8
          clear hbx
          obtain ⟨x30, x31, x32⟩ := HB3.out.three
          have z3 := lt_of_cell x30
          obtain ⟨x40, x41, x42⟩ := HB4.out.three
          have z4 := lt_of_cell x40
          obtain ⟨x70, x71, x72⟩ := HB7.out.three
          have z7 := lt_of_cell x70
          obtain ⟨x80, x81, x82⟩ := HB8.out.three
          have z8 := lt_of_cell x80
          have HQ := Lib.hid (HAD a b F _ _ wc ha hb HA7.out HA8.out)
          rw [hADD] at HQ
          go_wp2_with fail
          refine (HQ.out).mono ?_
          rintro e y1 ⟨x, rfl, hx, hf⟩
          clear x30 x31 x32 z3
          clear x40 x41 x42 z4
          clear x70 x71 x72 z7
          clear x80 x81 x82 z8
          replace HB3 := Lib.hid (HB3.out.fr hf)
          replace HA3 := Lib.hid (HA3.out.fr hf)
          replace HB4 := Lib.hid (HB4.out.fr hf)
          replace HA4 := Lib.hid (HA4.out.fr hf)
          replace HB7 := Lib.hid (HB7.out.fr hf)
          replace HA7 := Lib.hid (HA7.out.fr hf)
          replace HB8 := Lib.hid (HB8.out.fr hf)
          replace HA8 := Lib.hid (HA8.out.fr hf)
          replace HK := Lib.hid (HK.out.call hf)
          obtain ⟨x30, x31, x32⟩ := HB3.out.three
          have z3 := lt_of_cell x30
          obtain ⟨x40, x41, x42⟩ := HB4.out.three
          have z4 := lt_of_cell x40
          obtain ⟨x70, x71, x72⟩ := HB7.out.three
          have z7 := lt_of_cell x70
          obtain ⟨x80, x81, x82⟩ := HB8.out.three
          have z8 := lt_of_cell x80
          clear hf
          clear HQ
          obtain ⟨A9, B9, c9, d9, rfl, _, _, _⟩ := id hx
          have HA9 := Lib.hid hx; clear hx
          have kf := (Fr.refl y1).alloc (.cells #[.slice A9 zeroL.ss.length c9, .slice B9 zeroL.ts.length d9, .int .i64 zeroL.off] 25)
          have HB9 := Lib.hid (BlkC.alloc (w := y1) (t := 25) (cs := #[.slice A9 zeroL.ss.length c9, .slice B9 zeroL.ts.length d9, .int .i64 zeroL.off]))
          replace HB3 := Lib.hid (HB3.out.fr kf)
          replace HA3 := Lib.hid (HA3.out.fr kf)
          replace HB4 := Lib.hid (HB4.out.fr kf)
          replace HA4 := Lib.hid (HA4.out.fr kf)
          replace HB7 := Lib.hid (HB7.out.fr kf)
          replace HA7 := Lib.hid (HA7.out.fr kf)
          replace HB8 := Lib.hid (HB8.out.fr kf)
          replace HA8 := Lib.hid (HA8.out.fr kf)
          replace HK := Lib.hid (HK.out.call kf)
          replace HA9 := Lib.hid (HA9.out.fr kf)
          go_wp2_with fail
          clear kf
          clear x30 x31 x32 z3
          clear x40 x41 x42 z4
          clear x70 x71 x72 z7
          clear x80 x81 x82 z8
          generalize World.alloc y1 (.cells #[.slice A9 zeroL.ss.length c9, .slice B9 zeroL.ts.length d9, .int .i64 zeroL.off] 25) = y2 at *
          obtain ⟨q9, hq9⟩ : ∃ q, y1.heap.size = q := ⟨_, rfl⟩
          (try rw [hq9] at HB9); (try simp only [hq9]); clear hq9
          obtain ⟨x30, x31, x32⟩ := HB3.out.three
          have z3 := lt_of_cell x30
          obtain ⟨x40, x41, x42⟩ := HB4.out.three
          have z4 := lt_of_cell x40
          obtain ⟨x70, x71, x72⟩ := HB7.out.three
          have z7 := lt_of_cell x70
          obtain ⟨x80, x81, x82⟩ := HB8.out.three
          have z8 := lt_of_cell x80
          obtain ⟨x90, x91, x92⟩ := HB9.out.three
          have z9 := lt_of_cell x90
          have HQ := Lib.hid (HTI a n F _ y2 ha hn HA7.out)
          rw [hTI] at HQ
          refine (HQ.out).mono ?_
          rintro e y3 ⟨x, rfl, hx, hf⟩
          clear x30 x31 x32 z3
          clear x40 x41 x42 z4
          clear x70 x71 x72 z7
          clear x80 x81 x82 z8
          clear x90 x91 x92 z9
          replace HB3 := Lib.hid (HB3.out.fr hf)
          replace HA3 := Lib.hid (HA3.out.fr hf)
          replace HB4 := Lib.hid (HB4.out.fr hf)
          replace HA4 := Lib.hid (HA4.out.fr hf)
          replace HB7 := Lib.hid (HB7.out.fr hf)
          replace HA7 := Lib.hid (HA7.out.fr hf)
          replace HB8 := Lib.hid (HB8.out.fr hf)
          replace HA8 := Lib.hid (HA8.out.fr hf)
          replace HB9 := Lib.hid (HB9.out.fr hf)
          replace HA9 := Lib.hid (HA9.out.fr hf)
          replace HK := Lib.hid (HK.out.call hf)
          obtain ⟨x30, x31, x32⟩ := HB3.out.three
          have z3 := lt_of_cell x30
          obtain ⟨x40, x41, x42⟩ := HB4.out.three
          have z4 := lt_of_cell x40
          obtain ⟨x70, x71, x72⟩ := HB7.out.three
          have z7 := lt_of_cell x70
          obtain ⟨x80, x81, x82⟩ := HB8.out.three
          have z8 := lt_of_cell x80
          obtain ⟨x90, x91, x92⟩ := HB9.out.three
          have z9 := lt_of_cell x90
          clear hf
          clear HQ
          obtain ⟨A11, B11, c11, d11, rfl, _, _, _⟩ := id hx
          have HA11 := Lib.hid hx; clear hx
          have kf := (Fr.refl y3).alloc (.cells #[.slice A11 t11.ss.length c11, .slice B11 t11.ts.length d11, .int .i64 t11.off] 25)
          have HB11 := Lib.hid (BlkC.alloc (w := y3) (t := 25) (cs := #[.slice A11 t11.ss.length c11, .slice B11 t11.ts.length d11, .int .i64 t11.off]))
          replace HB3 := Lib.hid (HB3.out.fr kf)
          replace HA3 := Lib.hid (HA3.out.fr kf)
          replace HB4 := Lib.hid (HB4.out.fr kf)
          replace HA4 := Lib.hid (HA4.out.fr kf)
          replace HB7 := Lib.hid (HB7.out.fr kf)
          replace HA7 := Lib.hid (HA7.out.fr kf)
          replace HB8 := Lib.hid (HB8.out.fr kf)
          replace HA8 := Lib.hid (HA8.out.fr kf)
          replace HB9 := Lib.hid (HB9.out.fr kf)
          replace HA9 := Lib.hid (HA9.out.fr kf)
          replace HK := Lib.hid (HK.out.call kf)
          replace HA11 := Lib.hid (HA11.out.fr kf)
          go_wp2_with fail
          clear kf
          clear x30 x31 x32 z3
          clear x40 x41 x42 z4
          clear x70 x71 x72 z7
          clear x80 x81 x82 z8
          clear x90 x91 x92 z9
          generalize World.alloc y3 (.cells #[.slice A11 t11.ss.length c11, .slice B11 t11.ts.length d11, .int .i64 t11.off] 25) = y4 at *
          obtain ⟨q11, hq11⟩ : ∃ q, y3.heap.size = q := ⟨_, rfl⟩
          (try rw [hq11] at HB11); (try simp only [hq11]); clear hq11
          obtain ⟨x30, x31, x32⟩ := HB3.out.three
          have z3 := lt_of_cell x30
          obtain ⟨x40, x41, x42⟩ := HB4.out.three
          have z4 := lt_of_cell x40
          obtain ⟨x70, x71, x72⟩ := HB7.out.three
          have z7 := lt_of_cell x70
          obtain ⟨x80, x81, x82⟩ := HB8.out.three
          have z8 := lt_of_cell x80
          obtain ⟨x90, x91, x92⟩ := HB9.out.three
          have z9 := lt_of_cell x90
          obtain ⟨x110, x111, x112⟩ := HB11.out.three
          have z11 := lt_of_cell x110
          refine (same_at1 ha HA7.out HA3.out).mono ?_
          rintro e y5 ⟨rfl, hf⟩
          clear x30 x31 x32 z3
          clear x40 x41 x42 z4
          clear x70 x71 x72 z7
          clear x80 x81 x82 z8
          clear x90 x91 x92 z9
          clear x110 x111 x112 z11
          replace HB3 := Lib.hid (HB3.out.fr hf)
          replace HA3 := Lib.hid (HA3.out.fr hf)
          replace HB4 := Lib.hid (HB4.out.fr hf)
          replace HA4 := Lib.hid (HA4.out.fr hf)
          replace HB7 := Lib.hid (HB7.out.fr hf)
          replace HA7 := Lib.hid (HA7.out.fr hf)
          replace HB8 := Lib.hid (HB8.out.fr hf)
          replace HA8 := Lib.hid (HA8.out.fr hf)
          replace HB9 := Lib.hid (HB9.out.fr hf)
          replace HA9 := Lib.hid (HA9.out.fr hf)
          replace HB11 := Lib.hid (HB11.out.fr hf)
          replace HA11 := Lib.hid (HA11.out.fr hf)
          replace HK := Lib.hid (HK.out.call hf)
          obtain ⟨x30, x31, x32⟩ := HB3.out.three
          have z3 := lt_of_cell x30
          obtain ⟨x40, x41, x42⟩ := HB4.out.three
          have z4 := lt_of_cell x40
          obtain ⟨x70, x71, x72⟩ := HB7.out.three
          have z7 := lt_of_cell x70
          obtain ⟨x80, x81, x82⟩ := HB8.out.three
          have z8 := lt_of_cell x80
          obtain ⟨x90, x91, x92⟩ := HB9.out.three
          have z9 := lt_of_cell x90
          obtain ⟨x110, x111, x112⟩ := HB11.out.three
          have z11 := lt_of_cell x110
          clear hf
          go_wp2_with fail
          refine (same_at1 hb HA8.out HA4.out).mono ?_
          rintro e y6 ⟨rfl, hf⟩
          clear x30 x31 x32 z3
          clear x40 x41 x42 z4
          clear x70 x71 x72 z7
          clear x80 x81 x82 z8
          clear x90 x91 x92 z9
          clear x110 x111 x112 z11
          replace HB3 := Lib.hid (HB3.out.fr hf)
          replace HA3 := Lib.hid (HA3.out.fr hf)
          replace HB4 := Lib.hid (HB4.out.fr hf)
          replace HA4 := Lib.hid (HA4.out.fr hf)
          replace HB7 := Lib.hid (HB7.out.fr hf)
          replace HA7 := Lib.hid (HA7.out.fr hf)
          replace HB8 := Lib.hid (HB8.out.fr hf)
          replace HA8 := Lib.hid (HA8.out.fr hf)
          replace HB9 := Lib.hid (HB9.out.fr hf)
          replace HA9 := Lib.hid (HA9.out.fr hf)
          replace HB11 := Lib.hid (HB11.out.fr hf)
          replace HA11 := Lib.hid (HA11.out.fr hf)
          replace HK := Lib.hid (HK.out.call hf)
          obtain ⟨x30, x31, x32⟩ := HB3.out.three
          have z3 := lt_of_cell x30
          obtain ⟨x40, x41, x42⟩ := HB4.out.three
          have z4 := lt_of_cell x40
          obtain ⟨x70, x71, x72⟩ := HB7.out.three
          have z7 := lt_of_cell x70
          obtain ⟨x80, x81, x82⟩ := HB8.out.three
          have z8 := lt_of_cell x80
          obtain ⟨x90, x91, x92⟩ := HB9.out.three
          have z9 := lt_of_cell x90
          obtain ⟨x110, x111, x112⟩ := HB11.out.three
          have z11 := lt_of_cell x110
          clear hf
          have HQ := Lib.hid (normal_at ha HA3.out)
          rw [hna] at HQ
          go_wp2_with fail
          refine (HQ.out).mono ?_
          rintro e y7 ⟨rfl, hf⟩
          clear x30 x31 x32 z3
          clear x40 x41 x42 z4
          clear x70 x71 x72 z7
          clear x80 x81 x82 z8
          clear x90 x91 x92 z9
          clear x110 x111 x112 z11
          replace HB3 := Lib.hid (HB3.out.fr hf)
          replace HA3 := Lib.hid (HA3.out.fr hf)
          replace HB4 := Lib.hid (HB4.out.fr hf)
          replace HA4 := Lib.hid (HA4.out.fr hf)
          replace HB7 := Lib.hid (HB7.out.fr hf)
          replace HA7 := Lib.hid (HA7.out.fr hf)
          replace HB8 := Lib.hid (HB8.out.fr hf)
          replace HA8 := Lib.hid (HA8.out.fr hf)
          replace HB9 := Lib.hid (HB9.out.fr hf)
          replace HA9 := Lib.hid (HA9.out.fr hf)
          replace HB11 := Lib.hid (HB11.out.fr hf)
          replace HA11 := Lib.hid (HA11.out.fr hf)
          replace HK := Lib.hid (HK.out.call hf)
          obtain ⟨x30, x31, x32⟩ := HB3.out.three
          have z3 := lt_of_cell x30
          obtain ⟨x40, x41, x42⟩ := HB4.out.three
          have z4 := lt_of_cell x40
          obtain ⟨x70, x71, x72⟩ := HB7.out.three
          have z7 := lt_of_cell x70
          obtain ⟨x80, x81, x82⟩ := HB8.out.three
          have z8 := lt_of_cell x80
          obtain ⟨x90, x91, x92⟩ := HB9.out.three
          have z9 := lt_of_cell x90
          obtain ⟨x110, x111, x112⟩ := HB11.out.three
          have z11 := lt_of_cell x110
          clear hf
          clear HQ
          go_wp2_with fail
          refine wp_region_noPanic ?_
          refine wp_region_head (n := 5) (S := fun wx => BlkC wx q11 [.slice A11 t11.ss.length c11, .slice B11 t11.ts.length d11, .int .i64 t11.off] ∧ BlkC wx p [.slice A3 a.ss.length c3, .slice B3 a.ts.length d3, .int .i64 a.off]) (by kernel_rfl) (by decide) ?_
          have hf := Fr.drew (Fr.refl y7)
          clear x30 x31 x32 z3
          clear x40 x41 x42 z4
          clear x70 x71 x72 z7
          clear x80 x81 x82 z8
          clear x90 x91 x92 z9
          clear x110 x111 x112 z11
          replace HB3 := Lib.hid (HB3.out.fr hf)
          replace HA3 := Lib.hid (HA3.out.fr hf)
          replace HB4 := Lib.hid (HB4.out.fr hf)
          replace HA4 := Lib.hid (HA4.out.fr hf)
          replace HB7 := Lib.hid (HB7.out.fr hf)
          replace HA7 := Lib.hid (HA7.out.fr hf)
          replace HB8 := Lib.hid (HB8.out.fr hf)
          replace HA8 := Lib.hid (HA8.out.fr hf)
          replace HB9 := Lib.hid (HB9.out.fr hf)
          replace HA9 := Lib.hid (HA9.out.fr hf)
          replace HB11 := Lib.hid (HB11.out.fr hf)
          replace HA11 := Lib.hid (HA11.out.fr hf)
          replace HK := Lib.hid (HK.out.call hf)
          clear hf
          generalize World.drew y7 = y8 at *
          have HD : BlkC y8 q11 [.slice A11 t11.ss.length c11, .slice B11 t11.ts.length d11, .int .i64 t11.off] ∧ BlkC y8 p [.slice A3 a.ss.length c3, .slice B3 a.ts.length d3, .int .i64 a.off] := ⟨HB11.out, HB3.out⟩
          simp only [List.size_toArray, List.length_cons, List.length_nil, Nat.reduceAdd]
          refine wpHead_take (i := 0) (v := ?_) rfl (by kernel_rfl) (fun _ _ _ h => h) (Or.inl ⟨by rfl, ?ky30⟩) HD ?sest30
          case ky30 => (intro w' hw'; have g0 := hw'.1 0 _ rfl; have g1 := hw'.1 1 _ rfl; have g2 := hw'.1 2 _ rfl; go_simp) <;> (try with_reducible rfl)
          (try simp only [Act.put, List.getElem_toArray, List.getElem_cons_zero, List.getElem_cons_succ, List.setIfInBounds_toArray, List.set_cons_zero, List.set_cons_succ])
          refine wpHead_take (i := 1) (v := ?_) rfl (by kernel_rfl) (fun _ _ _ h => h) (Or.inl ⟨by rfl, ?ky31⟩) HD ?sest31
          case ky31 => (intro w' hw'; go_simp) <;> (try with_reducible rfl)
          (try simp only [Act.put, List.getElem_toArray, List.getElem_cons_zero, List.getElem_cons_succ, List.setIfInBounds_toArray, List.set_cons_zero, List.set_cons_succ])
          refine wpHead_take (i := 2) (v := ?_) rfl (by kernel_rfl) (fun _ _ _ h => h) (Or.inl ⟨by rfl, ?ky32⟩) HD ?sest32
          case ky32 => (intro w' hw'; have g0 := hw'.2 0 _ rfl; have g1 := hw'.2 1 _ rfl; have g2 := hw'.2 2 _ rfl; go_simp) <;> (try with_reducible rfl)
          (try simp only [Act.put, List.getElem_toArray, List.getElem_cons_zero, List.getElem_cons_succ, List.setIfInBounds_toArray, List.set_cons_zero, List.set_cons_succ])
          refine wpHead_take (i := 3) (v := ?_) rfl (by kernel_rfl) (fun _ _ _ h => h) (Or.inl ⟨by rfl, ?ky33⟩) HD ?sest33
          case ky33 => (intro w' hw'; go_simp) <;> (try with_reducible rfl)
          (try simp only [Act.put, List.getElem_toArray, List.getElem_cons_zero, List.getElem_cons_succ, List.setIfInBounds_toArray, List.set_cons_zero, List.set_cons_succ])
          clear HD
          refine wpHead_lone (i := 4) rfl (by kernel_rfl) (by decide) rfl (fun K hK => ?_)
          go_simp
          obtain ⟨x30, x31, x32⟩ := HB3.out.three
          have z3 := lt_of_cell x30
          obtain ⟨x40, x41, x42⟩ := HB4.out.three
          have z4 := lt_of_cell x40
          obtain ⟨x70, x71, x72⟩ := HB7.out.three
          have z7 := lt_of_cell x70
          obtain ⟨x80, x81, x82⟩ := HB8.out.three
          have z8 := lt_of_cell x80
          obtain ⟨x90, x91, x92⟩ := HB9.out.three
          have z9 := lt_of_cell x90
          obtain ⟨x110, x111, x112⟩ := HB11.out.three
          have z11 := lt_of_cell x110
          refine (plus_at zero_norm hna (zero_at F _) HA3.out).mono ?_
          rintro e y9 ⟨x, rfl, hx, hf⟩
          clear x30 x31 x32 z3
          clear x40 x41 x42 z4
          clear x70 x71 x72 z7
          clear x80 x81 x82 z8
          clear x90 x91 x92 z9
          clear x110 x111 x112 z11
          replace HB3 := Lib.hid (HB3.out.fr hf)
          replace HA3 := Lib.hid (HA3.out.fr hf)
          replace HB4 := Lib.hid (HB4.out.fr hf)
          replace HA4 := Lib.hid (HA4.out.fr hf)
          replace HB7 := Lib.hid (HB7.out.fr hf)
          replace HA7 := Lib.hid (HA7.out.fr hf)
          replace HB8 := Lib.hid (HB8.out.fr hf)
          replace HA8 := Lib.hid (HA8.out.fr hf)
          replace HB9 := Lib.hid (HB9.out.fr hf)
          replace HA9 := Lib.hid (HA9.out.fr hf)
          replace HB11 := Lib.hid (HB11.out.fr hf)
          replace HA11 := Lib.hid (HA11.out.fr hf)
          replace HK := Lib.hid (HK.out.call hf)
          obtain ⟨x30, x31, x32⟩ := HB3.out.three
          have z3 := lt_of_cell x30
          obtain ⟨x40, x41, x42⟩ := HB4.out.three
          have z4 := lt_of_cell x40
          obtain ⟨x70, x71, x72⟩ := HB7.out.three
          have z7 := lt_of_cell x70
          obtain ⟨x80, x81, x82⟩ := HB8.out.three
          have z8 := lt_of_cell x80
          obtain ⟨x90, x91, x92⟩ := HB9.out.three
          have z9 := lt_of_cell x90
          obtain ⟨x110, x111, x112⟩ := HB11.out.three
          have z11 := lt_of_cell x110
          clear hf
          rw [hT] at hx
          (try go_wp2_with fail)
          refine hK _ _ ⟨HB11.out, HB3.out⟩ ?_
          clear hK K
          (try simp only [Act.put, List.getElem_toArray, List.getElem_cons_zero, List.getElem_cons_succ, List.setIfInBounds_toArray, List.set_cons_zero, List.set_cons_succ])
          refine wpHead_done (by kernel_rfl) ?_
          simp only [List.drop_succ_cons, List.drop_zero]
          (try simp only [Act.put, List.getElem_toArray, List.getElem_cons_zero, List.getElem_cons_succ, List.setIfInBounds_toArray, List.set_cons_zero, List.set_cons_succ])
          go_wp2_with fail
          refine (same_at1 hst HA11.out hx).mono ?_
          rintro e y10 ⟨rfl, hf⟩
          clear x30 x31 x32 z3
          clear x40 x41 x42 z4
          clear x70 x71 x72 z7
          clear x80 x81 x82 z8
          clear x90 x91 x92 z9
          clear x110 x111 x112 z11
          replace HB3 := Lib.hid (HB3.out.fr hf)
          replace HA3 := Lib.hid (HA3.out.fr hf)
          replace HB4 := Lib.hid (HB4.out.fr hf)
          replace HA4 := Lib.hid (HA4.out.fr hf)
          replace HB7 := Lib.hid (HB7.out.fr hf)
          replace HA7 := Lib.hid (HA7.out.fr hf)
          replace HB8 := Lib.hid (HB8.out.fr hf)
          replace HA8 := Lib.hid (HA8.out.fr hf)
          replace HB9 := Lib.hid (HB9.out.fr hf)
          replace HA9 := Lib.hid (HA9.out.fr hf)
          replace HB11 := Lib.hid (HB11.out.fr hf)
          replace HA11 := Lib.hid (HA11.out.fr hf)
          replace HK := Lib.hid (HK.out.call hf)
          obtain ⟨x30, x31, x32⟩ := HB3.out.three
          have z3 := lt_of_cell x30
          obtain ⟨x40, x41, x42⟩ := HB4.out.three
          have z4 := lt_of_cell x40
          obtain ⟨x70, x71, x72⟩ := HB7.out.three
          have z7 := lt_of_cell x70
          obtain ⟨x80, x81, x82⟩ := HB8.out.three
          have z8 := lt_of_cell x80
          obtain ⟨x90, x91, x92⟩ := HB9.out.three
          have z9 := lt_of_cell x90
          obtain ⟨x110, x111, x112⟩ := HB11.out.three
          have z11 := lt_of_cell x110
          clear hf
          clear hx
          go_wp2_with fail
          refine NoPanic.normal ?_
          have HQ := Lib.hid (normal_at hb HA4.out)
          rw [hnb] at HQ
          go_wp2_with fail
          refine (HQ.out).mono ?_
          rintro e y11 ⟨rfl, hf⟩
          clear x30 x31 x32 z3
          clear x40 x41 x42 z4
          clear x70 x71 x72 z7
          clear x80 x81 x82 z8
          clear x90 x91 x92 z9
          clear x110 x111 x112 z11
          replace HB3 := Lib.hid (HB3.out.fr hf)
          replace HA3 := Lib.hid (HA3.out.fr hf)
          replace HB4 := Lib.hid (HB4.out.fr hf)
          replace HA4 := Lib.hid (HA4.out.fr hf)
          replace HB7 := Lib.hid (HB7.out.fr hf)
          replace HA7 := Lib.hid (HA7.out.fr hf)
          replace HB8 := Lib.hid (HB8.out.fr hf)
          replace HA8 := Lib.hid (HA8.out.fr hf)
          replace HB9 := Lib.hid (HB9.out.fr hf)
          replace HA9 := Lib.hid (HA9.out.fr hf)
          replace HB11 := Lib.hid (HB11.out.fr hf)
          replace HA11 := Lib.hid (HA11.out.fr hf)
          replace HK := Lib.hid (HK.out.call hf)
          obtain ⟨x30, x31, x32⟩ := HB3.out.three
          have z3 := lt_of_cell x30
          obtain ⟨x40, x41, x42⟩ := HB4.out.three
          have z4 := lt_of_cell x40
          obtain ⟨x70, x71, x72⟩ := HB7.out.three
          have z7 := lt_of_cell x70
          obtain ⟨x80, x81, x82⟩ := HB8.out.three
          have z8 := lt_of_cell x80
          obtain ⟨x90, x91, x92⟩ := HB9.out.three
          have z9 := lt_of_cell x90
          obtain ⟨x110, x111, x112⟩ := HB11.out.three
          have z11 := lt_of_cell x110
          clear hf
          clear HQ
          go_wp2_with fail
          refine (plus_at hna hnb HA3.out HA4.out).mono ?_
          rintro e y12 ⟨x, rfl, hx, hf⟩
          clear x30 x31 x32 z3
          clear x40 x41 x42 z4
          clear x70 x71 x72 z7
          clear x80 x81 x82 z8
          clear x90 x91 x92 z9
          clear x110 x111 x112 z11
          replace HB3 := Lib.hid (HB3.out.fr hf)
          replace HA3 := Lib.hid (HA3.out.fr hf)
          replace HB4 := Lib.hid (HB4.out.fr hf)
          replace HA4 := Lib.hid (HA4.out.fr hf)
          replace HB7 := Lib.hid (HB7.out.fr hf)
          replace HA7 := Lib.hid (HA7.out.fr hf)
          replace HB8 := Lib.hid (HB8.out.fr hf)
          replace HA8 := Lib.hid (HA8.out.fr hf)
          replace HB9 := Lib.hid (HB9.out.fr hf)
          replace HA9 := Lib.hid (HA9.out.fr hf)
          replace HB11 := Lib.hid (HB11.out.fr hf)
          replace HA11 := Lib.hid (HA11.out.fr hf)
          replace HK := Lib.hid (HK.out.call hf)
          obtain ⟨x30, x31, x32⟩ := HB3.out.three
          have z3 := lt_of_cell x30
          obtain ⟨x40, x41, x42⟩ := HB4.out.three
          have z4 := lt_of_cell x40
          obtain ⟨x70, x71, x72⟩ := HB7.out.three
          have z7 := lt_of_cell x70
          obtain ⟨x80, x81, x82⟩ := HB8.out.three
          have z8 := lt_of_cell x80
          obtain ⟨x90, x91, x92⟩ := HB9.out.three
          have z9 := lt_of_cell x90
          obtain ⟨x110, x111, x112⟩ := HB11.out.three
          have z11 := lt_of_cell x110
          clear hf
          rw [hS] at hx
          obtain ⟨A12, B12, c12, d12, rfl, _, _, _⟩ := id hx
          have HA12 := Lib.hid hx; clear hx
          have hgt : ((s9.ss.length : Nat) : Int) > 16 := by omega
          have kf := (Fr.refl y12).alloc (.cells #[.slice A12 s9.ss.length c12, .slice B12 s9.ts.length d12, .int .i64 s9.off] 25)
          have HB12 := Lib.hid (BlkC.alloc (w := y12) (t := 25) (cs := #[.slice A12 s9.ss.length c12, .slice B12 s9.ts.length d12, .int .i64 s9.off]))
          replace HB3 := Lib.hid (HB3.out.fr kf)
          replace HA3 := Lib.hid (HA3.out.fr kf)
          replace HB4 := Lib.hid (HB4.out.fr kf)
          replace HA4 := Lib.hid (HA4.out.fr kf)
          replace HB7 := Lib.hid (HB7.out.fr kf)
          replace HA7 := Lib.hid (HA7.out.fr kf)
          replace HB8 := Lib.hid (HB8.out.fr kf)
          replace HA8 := Lib.hid (HA8.out.fr kf)
          replace HB9 := Lib.hid (HB9.out.fr kf)
          replace HA9 := Lib.hid (HA9.out.fr kf)
          replace HB11 := Lib.hid (HB11.out.fr kf)
          replace HA11 := Lib.hid (HA11.out.fr kf)
          replace HK := Lib.hid (HK.out.call kf)
          replace HA12 := Lib.hid (HA12.out.fr kf)
          go_wp2_with fail
          clear kf
          clear x30 x31 x32 z3
          clear x40 x41 x42 z4
          clear x70 x71 x72 z7
          clear x80 x81 x82 z8
          clear x90 x91 x92 z9
          clear x110 x111 x112 z11
          generalize World.alloc y12 (.cells #[.slice A12 s9.ss.length c12, .slice B12 s9.ts.length d12, .int .i64 s9.off] 25) = y13 at *
          obtain ⟨q12, hq12⟩ : ∃ q, y12.heap.size = q := ⟨_, rfl⟩
          (try rw [hq12] at HB12); (try simp only [hq12]); clear hq12
          obtain ⟨x30, x31, x32⟩ := HB3.out.three
          have z3 := lt_of_cell x30
          obtain ⟨x40, x41, x42⟩ := HB4.out.three
          have z4 := lt_of_cell x40
          obtain ⟨x70, x71, x72⟩ := HB7.out.three
          have z7 := lt_of_cell x70
          obtain ⟨x80, x81, x82⟩ := HB8.out.three
          have z8 := lt_of_cell x80
          obtain ⟨x90, x91, x92⟩ := HB9.out.three
          have z9 := lt_of_cell x90
          obtain ⟨x110, x111, x112⟩ := HB11.out.three
          have z11 := lt_of_cell x110
          obtain ⟨x120, x121, x122⟩ := HB12.out.three
          have z12 := lt_of_cell x120
          refine (same_at1 zero_sm HA9.out (zero_at F _)).mono ?_
          rintro e y14 ⟨rfl, hf⟩
          clear x30 x31 x32 z3
          clear x40 x41 x42 z4
          clear x70 x71 x72 z7
          clear x80 x81 x82 z8
          clear x90 x91 x92 z9
          clear x110 x111 x112 z11
          clear x120 x121 x122 z12
          replace HB3 := Lib.hid (HB3.out.fr hf)
          replace HA3 := Lib.hid (HA3.out.fr hf)
          replace HB4 := Lib.hid (HB4.out.fr hf)
          replace HA4 := Lib.hid (HA4.out.fr hf)
          replace HB7 := Lib.hid (HB7.out.fr hf)
          replace HA7 := Lib.hid (HA7.out.fr hf)
          replace HB8 := Lib.hid (HB8.out.fr hf)
          replace HA8 := Lib.hid (HA8.out.fr hf)
          replace HB9 := Lib.hid (HB9.out.fr hf)
          replace HA9 := Lib.hid (HA9.out.fr hf)
          replace HB11 := Lib.hid (HB11.out.fr hf)
          replace HA11 := Lib.hid (HA11.out.fr hf)
          replace HB12 := Lib.hid (HB12.out.fr hf)
          replace HA12 := Lib.hid (HA12.out.fr hf)
          replace HK := Lib.hid (HK.out.call hf)
          obtain ⟨x30, x31, x32⟩ := HB3.out.three
          have z3 := lt_of_cell x30
          obtain ⟨x40, x41, x42⟩ := HB4.out.three
          have z4 := lt_of_cell x40
          obtain ⟨x70, x71, x72⟩ := HB7.out.three
          have z7 := lt_of_cell x70
          obtain ⟨x80, x81, x82⟩ := HB8.out.three
          have z8 := lt_of_cell x80
          obtain ⟨x90, x91, x92⟩ := HB9.out.three
          have z9 := lt_of_cell x90
          obtain ⟨x110, x111, x112⟩ := HB11.out.three
          have z11 := lt_of_cell x110
          obtain ⟨x120, x121, x122⟩ := HB12.out.three
          have z12 := lt_of_cell x120
          clear hf
          go_wp2_with fail
          go_ret
          exact ⟨rfl, HK.out⟩
end Go.Proofs.YtbnaakognnkhdaaGreatDoor
