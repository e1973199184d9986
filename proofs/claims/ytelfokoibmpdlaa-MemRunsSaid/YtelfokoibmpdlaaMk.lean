/- The regions that have bytes, by rising places: the library's sort. -/
import Derived.Test.YtelfokoibmpdlaaMj
import Derived.Test.YtelfokoibmpdlaaSort
namespace Go.Proofs.Ytelfokoibmpdlaa
open Go.RowKit Go.Sort
set_option linter.unusedSimpArgs false
set_option linter.unusedVariables false

instance : Inhabited (Rg × Sl) := ⟨⟨default, (none, 0)⟩⟩
def cfR (x y : Rg × Sl) : Int := if x.1.pl < y.1.pl then -1 else if y.1.pl < x.1.pl then 1 else 0
theorem cfR_lt (x y : Rg × Sl) : ltOf cfR x y = decide (x.1.pl < y.1.pl) := by
  unfold ltOf cfR
  by_cases h1 : x.1.pl < y.1.pl
  · simp [h1]
  · by_cases h2 : y.1.pl < x.1.pl <;> simp [h1, h2]
theorem cfR_swo : SWO (ltOf cfR) where
  irrefl x := by rw [cfR_lt]; simp
  trans x y z h1 h2 := by rw [cfR_lt] at *; simp at *; omega
  ntrans x y z h1 h2 := by rw [cfR_lt] at *; simp at *; omega
theorem isNaN_any (x : Int) (w : World) : Calls Try.prog 46 #[.int .u64 x] w fun e w' => e = .returned (.bool false) ∧ w = w' := by
  go_enter Try.func46, Try.ntmps46
  go_wp2
  go_ret
  exact ⟨rfl, rfl⟩
set_option maxHeartbeats 1600000 in
theorem compare_any (x y : Nat) (w : World) : Calls Try.prog 38 #[.int .u64 (x : Int), .int .u64 (y : Int)] w fun e w' => e = .returned (.int .i64 (if x < y then -1 else if y < x then 1 else 0)) ∧ w = w' := by
  have HN := Lib.hid (fun z => isNaN_any z w)
  by_cases h1 : x < y
  · rw [if_pos h1]
    have h1i : (x : Int) < (y : Int) := by omega
    go_enter Try.func38, Try.ntmps38
    go_wp2_with (go_at_call 46; refine (HN.out _).mono ?_; rintro e w1 ⟨rfl, rfl⟩)
    go_ret
    exact ⟨rfl, rfl⟩
  · rw [if_neg h1]
    by_cases h2 : y < x
    · rw [if_pos h2]
      go_enter Try.func38, Try.ntmps38
      go_wp2_with (go_at_call 46; refine (HN.out _).mono ?_; rintro e w1 ⟨rfl, rfl⟩)
      go_ret
      exact ⟨rfl, rfl⟩
    · rw [if_neg h2]
      go_enter Try.func38, Try.ntmps38
      go_wp2_with (go_at_call 46; refine (HN.out _).mono ?_; rintro e w1 ⟨rfl, rfl⟩)
      go_ret
      exact ⟨rfl, rfl⟩
set_option maxHeartbeats 1600000 in
theorem order_any (x y : Rg × Sl) (W : World) : Calls Try.prog 37 #[.agg (rgCells x).toArray, .agg (rgCells y).toArray] W fun e w' => e = .returned (.int .i64 (cfR x y)) ∧ ∃ q os', w' = grow (W.drewN q) os' := by
  obtain ⟨⟨pl, pm, bs⟩, sa, sc⟩ := x
  obtain ⟨⟨pl', pm', bs'⟩, sa', sc'⟩ := y
  have HC := Lib.hid (fun W' => compare_any pl pl' W')
  have HD := Lib.hid (show cfR (⟨pl, pm, bs⟩, sa, sc) (⟨pl', pm', bs'⟩, sa', sc') = (if pl < pl' then -1 else if pl' < pl then 1 else 0) from rfl)
  generalize (if pl < pl' then (-1 : Int) else if pl' < pl then 1 else 0) = r at *
  show Calls Try.prog 37 #[.agg #[.int .u64 (pl : Int), .int .i64 pm, .slice sa bs.length sc], .agg #[.int .u64 (pl' : Int), .int .i64 pm', .slice sa' bs'.length sc']] W _
  go_enter Try.func37, Try.ntmps37
  go_wp2_with (go_at_call 38; refine (HC.out _).mono ?_; rintro e w1 ⟨rfl, rfl⟩)
  go_ret
  exact ⟨ret_int HD.out.symm, 0, _, by rw [alloc_eq_grow, alloc_eq_grow, grow_grow]; rfl⟩
theorem sort_kp (w : World) (g n : Nat) (d : Array (Rg × Sl)) (os : Array Obj) : Kp (fun b => b = g) w (sortWorldK rgCells 3 w g 0 n d os) := by
  refine ⟨rfl, rfl, rfl, by simp [sortWorldK, grow, putRowK], fun b hb hn => ?_⟩
  show ((putRowK rgCells 3 (Sort.ahead w n) g 0 d).heap ++ os)[b]? = _
  rw [Array.getElem?_append_left (by show b < (putRow id (Sort.ahead w n) g 0 (flatK rgCells 3 d)).heap.size; rw [size_putRow]; exact hb)]
  show ((Sort.ahead w n).heap.modify g _)[b]? = _
  rw [Array.getElem?_modify, if_neg (fun h => hn h.symm)]
  rfl
theorem rg_flat (d : Array (Rg × Sl)) (i t : Nat) (hi : i < d.size) (ht : t < 3) {u : Value} (hu : (rgCells d[i])[t]? = some u) : (flatK rgCells 3 d)[i * 3 + t]! = u := by
  rw [get_flatK rgCells 3 d _ (by omega), show (i * 3 + t) / 3 = i by omega, show (i * 3 + t) % 3 = t by omega, getElem!_pos d i hi]
  simp [List.getElem!_eq_getElem?_getD, hu]
/-- The library's sort, at a row of regions of the call's own. -/
theorem sort_any (w : World) (B g c : Nat) (ps : List (Rg × Sl)) (hr : RowsAt w B (.slice (some ⟨g, 0, none⟩) ps.length c) ps) (hl : ps.length ≤ 64) :
    Calls Try.prog 36 #[.slice (some ⟨g, 0, none⟩) ps.length c, .func (.func 37) #[] #[]] w fun e w' =>
      e = .returned (.tuple #[]) ∧ ∃ qs : List (Rg × Sl), qs.length = ps.length ∧ qs.Perm ps ∧ (qs.map (·.1)).Pairwise (fun a b => a.pl ≤ b.pl) ∧ RowOf RgAt 3 w' (some ⟨g, 0, none⟩) (qs.map (·.1)) ∧ Kp (fun b => b = g) w w' := by
  have eg : ∀ args w, (callFunc 37 args).run Try.prog w = .ok (.enter 37 args) w := enters_my Try.func37 (by decide +kernel) rfl
  have hlt := hr.base g rfl
  have hH : HoldsK rgCells 3 w g 0 ps.toArray := by
    intro j hj
    rw [size_flatK] at hj
    simp only [List.size_toArray] at hj
    have hi : j / 3 < ps.length := by omega
    have h1 : ps[j / 3]? = some ps[j / 3] := List.getElem?_eq_getElem hi
    have h2 : (rgCells ps[j / 3])[j % 3]? = some ((rgCells ps[j / 3])[j % 3]'(by simp [rgCells]; omega)) := List.getElem?_eq_getElem _
    have h3 := hr.cell (g := g) rfl (i := j / 3) (t := j % 3) h1 (by omega) h2
    have e : j / 3 * 3 + j % 3 = j := by omega
    rw [e] at h3
    rw [Nat.zero_add]
    refine ⟨?_, hr.own.frozenAt j⟩
    rw [h3]
    have := rg_flat ps.toArray (j / 3) (j % 3) (by simpa using hi) (by omega) (u := (rgCells ps[j / 3])[j % 3]'(by simp [rgCells]; omega)) (by simp)
    rw [e] at this
    rw [this]; rfl
  have hcon := AnyQ.slices_SortFunc Try.sortRg 3 Try.isAgg49 Try.sizeOf49 rgCells (fun _ => rfl) (fun x v hv => by simp [rgCells] at hv; rcases hv with rfl | rfl | rfl <;> rfl) cfR cfR_swo 37 #[] g 0 c ps.toArray w eg
    (fun m os dk _ x y => order_any x y _) hH hlt.2 (by simp; omega)
  change Calls Try.prog 36 _ _ _ at hcon
  simp only [List.size_toArray] at hcon
  refine hcon.mono fun e w' ⟨he, d', n, os, hp, hs, hw⟩ => ⟨he, d'.toList, ?_, ?_, ?_, ?_, ?_⟩
  · have := hp.1; simpa using this
  · have h3 := hp.2.2
    have hsz := hp.1
    simp only [List.size_toArray] at hsz
    have e1 : d'.extract 0 ps.length = d' := by rw [← hsz]; exact Array.extract_size
    have e2 : ps.toArray.extract 0 ps.length = ps.toArray := by simp
    rw [e1, e2] at h3
    exact h3
  · have hsz := hp.1
    simp only [List.size_toArray] at hsz
    rw [List.pairwise_map, List.pairwise_iff_getElem]
    intro i j hi hj hij
    have hi' : i < d'.size := by simpa using hi
    have hj' : j < d'.size := by simpa using hj
    have := hs i j (Nat.zero_le _) hij (by omega)
    rw [getElem!_pos d' i hi', getElem!_pos d' j hj', cfR_lt] at this
    simp only [Array.getElem_toList]
    simpa using this
  · have hsz := hp.1
    simp only [List.size_toArray] at hsz
    subst hw
    have hk := sort_kp w g n d' os
    have hHd := holdsK_sortWorldK_c rgCells 3 w g 0 ps.toArray d' n os hH hlt.2 (by simpa using hsz)
    intro hl0
    refine ⟨g, 0, rfl, fun i hi => ?_⟩
    have hi' : i < d'.size := by simpa using hi
    have hmem : d'[i] ∈ ps := by
      have h3 := hp.2.2
      have e1 : d'.extract 0 ps.length = d' := by rw [← hsz]; exact Array.extract_size
      have e2 : ps.toArray.extract 0 ps.length = ps.toArray := by simp
      rw [e1, e2] at h3
      exact h3.mem_iff.1 (by simp)
    have hcell : ∀ t u, t < 3 → (rgCells d'[i])[t]? = some u → (sortWorldK rgCells 3 w g 0 n d' os).cell? ⟨g, i * 3 + t, none⟩ = some u := fun t u ht hu => by
      have := (hHd (i * 3 + t) (by rw [size_flatK]; omega)).1
      rw [Nat.zero_add, rg_flat d' i t hi' ht hu] at this
      exact this
    have hg : (d'.toList.map (·.1))[i] = d'[i].1 := by simp
    rw [hg]
    refine ⟨d'[i].2, (hr.sl _ hmem).kp hk fun h0 a ha h => hr.off _ hmem h0 a ha (by rw [h]; rfl), ?_, ?_, ?_⟩
    · have := hcell 0 _ (by omega) rfl; rw [Nat.zero_add, Nat.mul_comm 3 i]; exact this
    · have := hcell 1 _ (by omega) rfl; rw [Nat.zero_add, Nat.mul_comm 3 i]; exact this
    · have := hcell 2 _ (by omega) rfl; rw [Nat.zero_add, Nat.mul_comm 3 i]; exact this
  · subst hw; exact sort_kp w g n d' os
end Go.Proofs.Ytelfokoibmpdlaa
