/- Fetch: bytes that may be run. -/
import Derived.Test.YtelfokoibmpdlaaJe
import Derived.Test.YtelfokoibmpdlaaMf
import Derived.Test.YtelfokoibmpdlaaMi
namespace Go.Proofs.Ytelfokoibmpdlaa
open Go.RowKit
set_option linter.unusedSimpArgs false
set_option linter.unusedVariables false

theorem ownsRow_kp {S : Nat → Prop} {w w' : World} {base : Nat} {e : TypeId} {size : Nat} {v : Value} {n : Nat} {xs : List Value} (h : w.ownsRow base e size v n xs) (k : Kp S w w') (hn : ∀ g, v.ownBlock = some g → ¬ S g) : w'.ownsRow base e size v n xs := by
  have hlt := h.lt
  refine ⟨h.1, ?_⟩
  rcases h.2 with q | ⟨g, cap, cur, hv, hb, hc, q⟩
  · exact .inl q
  · subst hv
    exact .inr ⟨g, cap, cur, rfl, hb, (k.block g (hlt g rfl).2 (hn g rfl)).trans hc, q⟩
theorem ownsRow_base {w : World} {base base' : Nat} {e : TypeId} {size : Nat} {v : Value} {n : Nat} {xs : List Value} (h : w.ownsRow base e size v n xs) (hb : base' ≤ base) : w.ownsRow base' e size v n xs := by
  refine ⟨h.1, ?_⟩
  rcases h.2 with q | ⟨g, cap, cur, hv, hb2, q⟩
  · exact .inl q
  · exact .inr ⟨g, cap, cur, hv, by omega, q⟩
/-- What the reader of code has: so many bytes of B. -/
def FtS (b base : Nat) (B : List Nat) (k : Nat) (W : World) : Prop := ∃ s : Sl, W.cell? ⟨b, 0, none⟩ = some (.slice s.1 k s.2) ∧ W.frozen? ⟨b, 0, none⟩ = false ∧ W.ownsRow base 5 1 (.slice s.1 k s.2) k ((B.take k).map u8n)
theorem FtS.kp {S : Nat → Prop} {w w' : World} {b base k : Nat} {B : List Nat} (h : FtS b base B k w) (hk : Kp S w w') (hb : ¬ S b) (hS : ∀ g, base ≤ g → ¬ S g) : FtS b base B k w' := by
  obtain ⟨s, h1, h2, h3⟩ := h
  exact ⟨s, hk.get hb h1, hk.free hb h1 h2, ownsRow_kp h3 hk fun g hg => hS g (h3.lt g hg).1⟩
set_option maxHeartbeats 3200000 in
set_option maxRecDepth 100000 in
theorem fetch1_any (g off m c b base k : Nat) (B : List Nat) (w : World) (hB : B.length ≤ 15) (hm : k + m ≤ B.length) (hbb : b < base) (hbw : base ≤ w.heap.size)
    (hc : ∀ j, j < m → w.cell? ⟨g, off + j, none⟩ = some (u8n (B.getD (k + j) 0))) (hs : FtS b base B k w) :
    Calls Try.prog 33 #[.slice (some ⟨g, off, none⟩) m c, .pointer (some ⟨b, 0, none⟩)] w fun e w' => e = .returned (.tuple #[]) ∧ FtS b base B (k + m) w' ∧ Kp (fun x => x = b ∨ base ≤ x) w w' := by
  obtain ⟨⟨sa, sc⟩, h1, h2, h3⟩ := hs
  simp only at h1 h3
  have HO := Lib.hid h3
  have HC := Lib.hid hc
  clear h3 hc
  go_enter Try.func33, Try.ntmps33
  go_wp2_with (at_builtin; refine wpList_appendk _ rfl (.tmp 3) (.tmp 4) 44 rfl base 5 1 Try.underlying44 Try.infoB rfl (by decide) (.slice sa k sc) k ((B.take k).map u8n) rfl HO.out (some ⟨g, off, none⟩) m c (((B.drop k).take m).map u8n) rfl ?_ ?_ ?_ ?_ ?_ ?_ ?_ ?_)
  · simp; omega
  · intro _
    refine ⟨_, rfl, fun j u hj => ?_⟩
    have hjl : j < m := by have := (List.getElem?_eq_some_iff.1 hj).1; simp at this; omega
    rw [off_add, HC.out j hjl]
    rw [List.getElem?_map, List.getElem?_take, if_pos hjl, List.getElem?_drop] at hj
    rw [List.getD]
    cases hx : B[k + j]? with
    | none => rw [hx] at hj; cases hj
    | some y => rw [hx] at hj; exact hj
  · intro h; cases h
  · exact one_u8n _
  · unfold maxLen; omega
  · omega
  · exact hbw
  intro v5 w5 HG
  have hl5 : (B.take (k + m)).length = k + m := by simp; omega
  have h5 : w5.ownsRow base 5 1 v5 (B.take (k + m)).length ((B.take (k + m)).map u8n) := by
    rw [hl5, List.take_add, List.map_append]; simpa [List.map_take, List.map_drop] using HG.out.1
  have HKP := Lib.hid HG.out.kp
  have HLT := Lib.hid HO.out.lt
  clear HG
  obtain ⟨⟨ta, tc⟩, rfl, _⟩ := own_rd h5
  rw [hl5] at h5
  simp only at h5
  have H5 := Lib.hid h5
  have nb : ¬ (Value.slice sa k sc).ownBlock = some b := fun h => by have := (HLT.out b h).1; omega
  have d1 := HKP.out.get nb h1
  have d2 := HKP.out.free nb h1 h2
  have HK5 := Lib.hid (HKP.out.mono (S' := fun x => x = b ∨ base ≤ x) fun x _ hx => .inr (HLT.out x hx).1)
  clear h5 nb h1 h2 HKP
  rw [hl5]
  go_wp2
  go_end0
  refine ⟨rfl, ⟨(ta, tc), World.cell?_setCell_same _ _ _ d1, by simpa using d2, ?_⟩, HK5.out.set (.inl (.inl rfl)) _⟩
  exact ownsRow_kp H5.out (S := fun x => x = b) (Kp.set (S := fun x => x = b) (p := ⟨b, 0, none⟩) (Kp.refl _ _) (.inl rfl) _) fun g hg h => by subst h; have := (H5.out.lt _ hg).1; omega
set_option maxHeartbeats 3200000 in
set_option maxRecDepth 100000 in
theorem fetch_any {w : World} {M : Lo} {l : List Rg} (hg : Good l) (hm : MemAt w M l) (hl : l.length ≤ 64) (a : Nat) (ha : a < 18446744073709551616) (n : Int) (hn0 : -9223372036854775808 ≤ n) :
    Calls Try.prog 19 #[.pointer (some ⟨M.bm, 0, none⟩), .int .u64 (a : Int), .int .i64 n] w fun e w' => ∃ v, e = .returned v ∧ w'.ownsRow w.heap.size 5 1 v (runB (cel l 1) a (min n 15).toNat).length ((runB (cel l 1) a (min n 15).toNat).map u8n) ∧ Fr w w' := by
  have eg : ∀ args w, (callFunc 33 args).run Try.prog w = .ok (.enter 33 args) w := enters_my Try.func33 (by decide +kernel) rfl
  have hW : Fr w (w.alloc (.cells #[.slice none 0 0] 44)) := Fr.alloc (Fr.refl w) _
  have hsz : (w.alloc (.cells #[.slice none 0 0] 44)).heap.size = w.heap.size + 1 := by simp
  have hgg := fun (n : Nat) (i off j x : Nat) (hi : i < l.length) => got_get hg (a := a) (n := n) (i := i) (off := off) (j := j) (q := 1) (x := x) hi
  have hP := fun (n : Int) (hn0 : -9223372036854775808 ≤ n) (hn : n ≤ 15) => piecesW_any hg (hm.fr hW) hl a ha n 1 hn0 hn (by omega) (by omega) 33 #[.pointer (some ⟨w.heap.size, 0, none⟩)] eg (fun x => x = w.heap.size ∨ w.heap.size + 3 ≤ x)
    (fun b hb => by
      have h1 := hm.ltm
      refine ⟨by omega, by omega, fun h0 => by have := hm.ltr h0; omega⟩)
    (FtS w.heap.size (w.heap.size + 3) (got (from_ l a) a n.toNat 1))
    ⟨(none, 0), by simp, by simp, World.ownsRow_nil _ _ _ _⟩
    (fun k v1 v2 _ hs hk => hs.kp hk (by omega) fun g hg => by omega)
    (fun k i off m c v1 hi hs2 hkm hk hs hp hm0 hle _ hq _ _ => by
      have hlg := hm.ltg hi (by omega)
      have hmv : MemAt v1 M l := (hm.fr hW).kp hk (by have := hm.ltm; omega) (fun h0 => by have := hm.ltr h0; omega) (fun t ht h => by have := hm.ltg ht ((hg.ok _ (List.getElem_mem ht)).some); omega)
      have hBl : (got (from_ l a) a n.toNat 1).length ≤ 15 := by rw [from_run hg]; have := runB_length_le (cel l 1) n.toNat a; omega
      exact fetch1_any (M.G i) off m c w.heap.size (w.heap.size + 3) k _ v1 hBl hkm (by omega) (by omega) (fun j hj => by
        have hx := List.getElem?_eq_getElem (show k + j < (got (from_ l a) a n.toNat 1).length by omega)
        have := hgg n.toNat i (off + j) (k + j) _ hi (by omega : (l[i]).pl + (off + j) = a + (k + j)) (by omega) hq hx
        rw [(hmv.bytes i hi (off + j) _ this).1, List.getD, hx]; rfl) hs)
  have hend : ∀ (n : Int) (w2 : World) (s : Sl), w2.ownsRow (w.heap.size + 3) 5 1 (.slice s.1 (got (from_ l a) a n.toNat 1).length s.2) (got (from_ l a) a n.toNat 1).length (((got (from_ l a) a n.toNat 1).take (got (from_ l a) a n.toNat 1).length).map u8n) →
      w2.ownsRow w.heap.size 5 1 (.slice s.1 (got (from_ l a) a n.toNat 1).length s.2) (runB (cel l 1) a n.toNat).length ((runB (cel l 1) a n.toNat).map u8n) := fun n w2 s h => by
    rw [← from_run hg]
    rw [List.take_length] at h
    exact ownsRow_base h (by omega)
  have HE := Lib.hid hend
  have HW := Lib.hid hW
  by_cases hn : n ≤ 15
  · have HP := Lib.hid (hP n hn0 hn)
    have HM := Lib.hid (show min n 15 = n by omega)
    clear hP hend hgg hg hm hW
    go_enter Try.func19, Try.ntmps19
    go_wp2_with (go_at_call 27; refine HP.out.mono ?_; rintro e w2 ⟨rfl, ⟨⟨sa, sc⟩, c1, c2, h3⟩, hk⟩; simp only at c1; have HK := Lib.hid hk; have H3 := Lib.hid h3; clear hk h3)
    go_ret
    exact ⟨_, rfl, by rw [HM.out]; exact HE.out n _ (sa, sc) H3.out, ((Kp.of HW.out).call HK.out).to fun x hx => by omega⟩
  · have HP := Lib.hid (hP 15 (by omega) (by omega))
    have HM := Lib.hid (show min n 15 = 15 by omega)
    clear hP hend hgg hg hm hW
    go_enter Try.func19, Try.ntmps19
    go_wp2_with (go_at_call 27; refine HP.out.mono ?_; rintro e w2 ⟨rfl, ⟨⟨sa, sc⟩, c1, c2, h3⟩, hk⟩; simp only at c1; have HK := Lib.hid hk; have H3 := Lib.hid h3; clear hk h3)
    go_ret
    exact ⟨_, rfl, by rw [HM.out]; exact HE.out 15 _ (sa, sc) H3.out, ((Kp.of HW.out).call HK.out).to fun x hx => by omega⟩
end Go.Proofs.Ytelfokoibmpdlaa
