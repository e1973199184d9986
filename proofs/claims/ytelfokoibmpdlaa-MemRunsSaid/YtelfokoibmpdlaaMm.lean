/- New: memory with regions. -/
import Derived.Test.YtelfokoibmpdlaaMl
import Derived.Test.YtelfokoibmpdlaaMg
import Derived.Laws.Cover3
namespace Go.Proofs.Ytelfokoibmpdlaa
open Go.RowKit
set_option linter.unusedSimpArgs false
set_option linter.unusedVariables false

/-- A row of regions, with where the bytes of each lie. -/
theorem rows_pairs {w : World} {A : Option Addr} {l : List Rg} (h : RowOf RgAt 3 w A l) : ∃ ps : List (Rg × Sl), ps.map (·.1) = l ∧ (∀ x ∈ ps, SlAt w x) ∧ Src w A (flatR ps) := by
  rcases Nat.eq_zero_or_pos l.length with h0 | h0
  · have : l = [] := List.eq_nil_of_length_eq_zero h0
    subst this
    exact ⟨[], rfl, fun x hx => by simp at hx, fun h => by simp [flatR] at h⟩
  · obtain ⟨b, o, rfl, hx⟩ := h h0
    obtain ⟨ps, hl, hq⟩ := list_of_ex (Q := fun i (x : Rg × Sl) => l[i]? = some x.1 ∧ SlAt w x ∧ ∀ t u, (rgCells x)[t]? = some u → w.cell? ⟨b, o + 3 * i + t, none⟩ = some u) l.length fun i hi => by
      obtain ⟨s, hs, c0, c1, c2⟩ := hx i hi
      refine ⟨(l[i], s), List.getElem?_eq_getElem hi, hs, fun t u hu => ?_⟩
      simp only [rgCells] at hu
      match t, hu with
      | 0, hu => obtain rfl : _ = u := Option.some.inj hu; exact c0
      | 1, hu => obtain rfl : _ = u := Option.some.inj hu; exact c1
      | 2, hu => obtain rfl : _ = u := Option.some.inj hu; exact c2
      | t + 3, hu => simp at hu
    refine ⟨ps, ?_, fun x hx => ?_, fun _ => ⟨_, rfl, fun j u hu => ?_⟩⟩
    · refine List.ext_getElem (by simp [hl]) fun i h1 h2 => ?_
      have := (hq i (by simpa using h1)).1
      rw [List.getElem?_eq_getElem h2] at this
      injection this with this
      simp [this]
    · obtain ⟨i, hi, rfl⟩ := List.getElem_of_mem hx
      exact (hq i hi).2.1
    · have hj : j < ps.length * 3 := by have := (List.getElem?_eq_some_iff.1 hu).1; rwa [flatR_length] at this
      have hi : j / 3 < ps.length := by omega
      have e : j / 3 * 3 + j % 3 = j := by omega
      have h1 := flatR_get ps (j / 3) (j % 3) _ (List.getElem?_eq_getElem hi) (by omega)
      rw [e, hu] at h1
      have := (hq (j / 3) hi).2.2 (j % 3) u h1.symm
      rw [off_add]
      rw [show o + 3 * (j / 3) + j % 3 = o + j by omega] at this
      exact this
theorem eql_nil (t e : TypeId) (a : Option Addr) (l c : Nat) (h : Try.prog.underlying t = some (.slice e)) (w : World) : (binOp .eql t (.slice a l c) (.slice none 0 0)).run Try.prog w = .ok (.bool a.isNone) w := by
  have b1 : binOp .eql t (.slice a l c) (.slice none 0 0) = (do pure (.bool (← Op.equal t (.slice a l c) (.slice none 0 0)))) := rfl
  rw [b1, Sem.run_bind, run_equal_slice_nil _ t e a l c h]; rfl
set_option maxHeartbeats 3200000 in
theorem cloneB_any (a : Addr) (bs : List Nat) (c : Nat) (w : World) (h0 : 0 < bs.length) (hr : Rd u8n w (some a) bs) (hl : bs.length ≤ 67108864) :
    Calls Try.prog 41 #[.slice (some a) bs.length c] w fun e w' => ∃ g c', e = .returned (.slice (some ⟨g, 0, none⟩) bs.length c') ∧ bs.length ≤ c' ∧ c' ≤ maxLen ∧ BytesAt w' g bs ∧ w.heap.size ≤ g ∧ g < w'.heap.size ∧ Fr w w' := by
  have HR := Lib.hid hr
  clear hr
  have heq := eql_nil 44 5 (some a) bs.length c Try.underlying44 w
  go_enter Try.func41, Try.ntmps41
  go_wp2_with (at_builtin; refine wpList_appendk _ rfl (.tmp 5) (.tmp 6) 44 rfl w.heap.size 5 1 Try.underlying44 Try.infoB rfl (by decide) (.slice (some ⟨w.heap.size, 0, none⟩) 0 0) 0 [] rfl (own_made _ _ rfl (Nat.le_refl _)) (some a) bs.length c (bs.map u8n) rfl (by simp) (Src.rd (HR.out.alloc _)) (fun h => nomatch h) (one_u8n bs) (by unfold maxLen; omega) (by omega) (by simp) ?_)
  intro v5 w5 HG5
  have HG := Lib.hid HG5.out
  clear HG5
  go_wp2
  go_ret
  obtain ⟨s, rfl, h1, h2, h3, h4⟩ := own_rd HG.out.1
  obtain ⟨sa, sc⟩ := s
  rcases sa with _ | sa
  · obtain ⟨g, o, e, _⟩ := h3 h0; cases e
  · obtain ⟨h5, h6, h7, h8, h9⟩ := h4 sa rfl
    obtain ⟨g, o, sp⟩ := sa
    simp only at h6 h7 h8 h9
    subst h6 h7
    have hown := HG.out.1
    refine ⟨g, sc, rfl, h1, h2, fun k x hx => ⟨?_, hown.frozenAt k⟩, h8, h9, ?_⟩
    · have hk : k < bs.length := (List.getElem?_eq_some_iff.1 hx).1
      rw [hown.cellAt k (by omega)]
      simp [hx]
    · exact ((Kp.of (Fr.alloc (Fr.refl w) _)).call HG.out.kp).to fun x hx => by
        have hx : some w.heap.size = some x := hx
        injection hx with hx; omega
set_option maxHeartbeats 3200000 in
theorem cloneR_any (a : Addr) (ps : List (Rg × Sl)) (c : Nat) (w : World) (hs : ∀ x ∈ ps, SlAt w x) (hr : Src w (some a) (flatR ps)) (hl : ps.length ≤ 64) :
    Calls Try.prog 40 #[.slice (some a) ps.length c] w fun e w' => ∃ g c', e = .returned (.slice (some ⟨g, 0, none⟩) ps.length c') ∧ w'.ownsRow w.heap.size 49 3 (.slice (some ⟨g, 0, none⟩) ps.length c') ps.length (flatR ps) ∧ ps.length ≤ c' ∧ c' ≤ maxLen ∧ Fr w w' := by
  have HR := Lib.hid hr
  clear hr hs
  by_cases hne : ps.length = 0
  · have hp : ps = [] := List.eq_nil_of_length_eq_zero hne
    subst hp
    have heq := eql_nil 23 49 (some a) 0 c Try.underlying23 w
    go_enter Try.func40, Try.ntmps40
    go_wp2_with (at_builtin; refine wpList_appendk _ rfl (.tmp 5) (.tmp 6) 23 rfl w.heap.size 49 3 Try.underlying23 Try.infoR rfl (by decide) (.slice (some ⟨w.heap.size, 0, none⟩) 0 0) 0 [] rfl (own_made _ _ rfl (Nat.le_refl _)) (some a) 0 c [] rfl rfl (fun h => by simp at h) (fun h => nomatch h) (fun u hu => by simp at hu) (by decide) (by decide) (by simp) ?_)
    intro v5 w5 HG5
    have HG := Lib.hid HG5.out
    clear HG5
    go_wp2
    go_ret
    rcases HG.out.1.2 with ⟨hv, _⟩ | ⟨g, cap, cur, hv, _, _, hc, hm, _⟩
    · have := HG.out.2.2
      subst hv
      rcases this with e | e <;> cases e
    · have h1 := HG.out.1
      subst hv
      exact ⟨g, cap, rfl, h1, Nat.zero_le _, hm, ((Kp.of (Fr.alloc (Fr.refl w) _)).call HG.out.kp).to fun x hx => by
        have hx : some w.heap.size = some x := hx
        injection hx with hx; omega⟩
  · have hpos : 0 < ps.length := by omega
    have heq := eql_nil 23 49 (some a) ps.length c Try.underlying23 w
    go_enter Try.func40, Try.ntmps40
    go_wp2_with (at_builtin; refine wpList_appendk _ rfl (.tmp 5) (.tmp 6) 23 rfl w.heap.size 49 3 Try.underlying23 Try.infoR rfl (by decide) (.slice (some ⟨w.heap.size, 0, none⟩) 0 0) 0 [] rfl (own_made _ _ rfl (Nat.le_refl _)) (some a) ps.length c (flatR ps) rfl (flatR_length ps) (fun h => by obtain ⟨ad, e, hh⟩ := HR.out h; exact ⟨ad, e, fun j u hu => by have := hh j u hu; exact (World.cell?_alloc_lt _ _ _ (World.block_lt_of_cell? _ _ this)).trans this⟩) (fun h => nomatch h) (flatR_one ps) (by unfold maxLen; omega) (by omega) (by simp) ?_)
    intro v5 w5 HG5
    have HG := Lib.hid HG5.out
    clear HG5
    go_wp2
    go_ret
    rcases HG.out.1.2 with ⟨hv, hn⟩ | ⟨g, cap, cur, hv, _, _, hc, hm, _⟩
    · omega
    · have h1 := HG.out.1
      subst hv
      exact ⟨g, cap, (by first | rfl | simp), by simpa using h1, by simpa using hc, hm, ((Kp.of (Fr.alloc (Fr.refl w) _)).call HG.out.kp).to fun x hx => by
        have hx : some w.heap.size = some x := hx
        injection hx with hx; omega⟩
end Go.Proofs.Ytelfokoibmpdlaa
