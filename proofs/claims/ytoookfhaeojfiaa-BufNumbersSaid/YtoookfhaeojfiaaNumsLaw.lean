/- For any bytes, any place and size and any number BufNumbers answers true; no condition. -/
import Derived.Test.YtoookfhaeojfiaaNumsg
import Derived.Test.YtoookfhaeojfiaaBopen
namespace Go.Proofs.Ytoookfhaeojfiaa
open Go.ChangeShapes Go.WideShapes Go.ChangeAt Go.RowKit Go.Joins

set_option maxHeartbeats 1600000 in
set_option maxRecDepth 100000 in
theorem bufNumbers_lifted (os : Os) (started : os.Started) (H : Type) (enc : TypeId × Value → H) :
    ReturnsInHanded {} Try.checked os 3 .any (Rows.bufNumbersSpec.pre6 enc Try.prog Try.f3 Rows.bufNumbersRow.domain false) (Rows.bufNumbersSpec.post enc Try.prog Try.f3 false true false false) := by
  refine returnsInHanded_of_change_sized (C := Try.checked) Try.own started (by kernel_rfl) Try.func3
    (ChangeSpec.witness6 (enc := enc) (C := Try.checked) false ⟨#[], #[.slice none 0 0, .agg #[.int .i64 0, .int .i64 0], .int .u64 0], []⟩ 8 (by kernel_rfl) (by kernel_rfl) (by kernel_rfl) (by kernel_rfl)) ?_
  intro W base args ds gs before hval0 hW _ hsz0 _
  have hval : ∀ (j : Nat) t v, Try.f3.params[j]? = some t → args[j]? = some v → Value.okWide Try.prog W .any base t v := hval0
  have hsz : (DataW.weightsEach Try.prog (Try.f3.params.toList ++ Rows.bufNumbersSpec.plain.varTypes Try.prog) (ds ++ gs)).all (· ≤ reachBytes) = true := hsz0
  have hW' := hW
  obtain ⟨p, q, hA0, hV, rfl, hfz, hnd⟩ := hW
  have hA : DataW.TrodAll enc Try.prog W 0 (fun _ => true) true Try.f3.params.toList args.toList ds p := hA0
  rw [Try.params3] at hA hval hsz
  obtain ⟨v0, v1, v2, d0, d1, d2, p0, p1, p2, rfl, rfl, rfl, h0, h1, h2⟩ := trodAll_three hA
  obtain ⟨rfl, rfl⟩ := trodVars_none hV
  have hlt : ∀ x ∈ p0, x.block < W.heap.size := fun x hx => hW'.lt x (by simp [hx])
  obtain ⟨A, c, l, rfl, hb, hlc, hcm, hr, hd⟩ := open_bytes (hval 0 22 v0 rfl rfl) h0 hlt
  have hlen : l.length ≤ 140737488351232 := by
    rcases hd with ⟨es, sp, rfl, hl⟩ | rfl
    · have := sized_slice hsz (j := 0) (t := 22) (e := 5) rfl rfl Try.underlying22
      rw [Try.bytes5] at this
      simp only [reachBytes] at this
      omega
    · exact Nat.zero_le _
  obtain ⟨x, y, rfl, rfl, rfl, wfx, wfy⟩ := WideMaps.open_pair Try.pairKey Try.underlying3 (hval 1 23 v1 rfl rfl) h1
  obtain ⟨n, rfl, rfl, rfl, wf2⟩ := open_int Try.underlying24 (hval 2 24 v2 rfl rfl) h2
  obtain ⟨n0, n1⟩ := word_of_wf wf2
  clear hA0 hval0
  simp only [List.append_nil] at hW'
  refine (nums_walk A c x y n l hb hlen hlc hcm n0 n1 W hr).mono fun e W' ⟨he, hw⟩ => ?_
  subst he
  exact ⟨_, rfl, law_post (gs := []) hW' hw (fun _ _ _ => trodAll_mk1 (shut_bool Try.underlying4 _)) (by have h := trodAll_mk3 (Below.trod Try.laid (by kernel_rfl) (of_decide_eq_true (by kernel_rfl)) h0 hw hlt) (WideMaps.shut_pair Try.pairKey Try.underlying3 wfx wfy) (shut_int Try.underlying24 wf2); simp only [List.append_nil] at h; exact h) (fun _ => rfl)⟩
theorem bufNumbers_holds : Rows.BufNumbersSaid :=
  OpenClaim.holds_of_wide 3 Try.f3 rfl rfl rfl rfl rfl rfl rfl ⟨rfl, rfl, rfl, rfl, rfl⟩ rfl rfl rfl rfl rfl (by kernel_rfl) Try.func3 (by kernel_rfl)
    (of_decide_eq_true (by kernel_rfl)) (by unfold Func.isWrapper; first | (rw [if_pos (by decide +kernel)]; kernel_rfl) | (rw [if_neg (by decide +kernel)]; exact ⟨rfl, rfl⟩))
    (fun os started H enc _ => bufNumbers_lifted os started H enc)
#print axioms bufNumbers_holds
end Go.Proofs.Ytoookfhaeojfiaa
