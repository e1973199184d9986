/- The document's Copy of a sum: new memory that reads as the same. -/
import Derived.Test.YtbnaakognnkhdaaGreatDoorNc
import Derived.Test.YtbnaakognnkhdaaGreatDoorIt
import Derived.Deep.RegionHeld3
namespace Go.Proofs.YtbnaakognnkhdaaGreatDoor
open Go.RowKit
set_option linter.unusedSimpArgs false
set_option linter.unusedVariables false

/-- Two may come up. -/
theorem wpHead_two {P : Program} {ops : Array Oper} {Q : Exit → Act → World → Prop} {md : Region.Mode} {S : World → Prop} {n i j : Nat} {oi oj : Oper} {L : Array Bool → Act → World → Prop} {f : Nat} {listed : Array Bool} {a : Act} {w : World} (hi : ops[i]? = some oi) (hj : ops[j]? = some oj)
    (hr : Region.ready md ops listed = [i, j]) (hin : i < n) (hjn : j < n) (hg : oi.guard = none) (hgj : oj.guard = none)
    (h1 : ∀ K : Act → World → Prop, (∀ a' w', S w' → wpHead P md ops Q S n L f (listed.setIfInBounds i true) a' w' → K a' w') → oi.wp P a w K Q)
    (h2 : ∀ K : Act → World → Prop, (∀ a' w', S w' → wpHead P md ops Q S n L f (listed.setIfInBounds j true) a' w' → K a' w') → oj.wp P a w K Q) : wpHead P md ops Q S n L (f + 1) listed a w := by
  refine ⟨by rw [hr]; simp, fun k hk => ?_⟩
  rw [hr] at hk
  rcases List.mem_cons.1 hk with rfl | hk
  · refine ⟨hin, ?_⟩
    unfold wpOp
    simp only [hi, Region.wanted, hg, if_true]
    exact .inl (h1 _ fun _ _ h1 h2 => ⟨h1, h2⟩)
  · obtain rfl : k = j := by simpa using hk
    refine ⟨hjn, ?_⟩
    unfold wpOp
    simp only [hj, Region.wanted, hgj, if_true]
    exact .inl (h2 _ fun _ _ h1 h2 => ⟨h1, h2⟩)
theorem wpHead_lone {P : Program} {ops : Array Oper} {Q : Exit → Act → World → Prop} {md : Region.Mode} {S : World → Prop} {n i : Nat} {oi : Oper} {L : Array Bool → Act → World → Prop} {f : Nat} {listed : Array Bool} {a : Act} {w : World} (hi : ops[i]? = some oi)
    (hr : Region.ready md ops listed = [i]) (hin : i < n) (hg : oi.guard = none)
    (h : ∀ K : Act → World → Prop, (∀ a' w', S w' → wpHead P md ops Q S n L f (listed.setIfInBounds i true) a' w' → K a' w') → oi.wp P a w K Q) : wpHead P md ops Q S n L (f + 1) listed a w := by
  refine wpHead_one hr hin ?_
  unfold wpOp
  simp only [hi, Region.wanted, hg, if_true]
  exact .inl (h _ fun _ _ h1 h2 => ⟨h1, h2⟩)
theorem Fr.free' {W W' : World} (h : Fr W W') {b o : Nat} (hb : b < W.heap.size) (hf : W.frozen? ⟨b, o, none⟩ = false) : W'.frozen? ⟨b, o, none⟩ = false := (h.cells.2.1 b o hb).trans hf
theorem own_fresh {α : Type} (f : α → Value) (e : TypeId) (w : World) (base : Nat) (hb : base ≤ w.heap.size) : Own f (w.alloc (.cells #[] e)) base e (.slice (some ⟨w.heap.size, 0, none⟩) 0 0) ([] : List α) :=
  World.ownsRow_made w #[] 0 hb (by decide) (by simp)
theorem Tryz.infoStr : (Tryz.prog.info? 9).map (fun i => (i.zero, i.size, i.bytes)) = some (some (.string ⟨#[]⟩), 1, 16) := by kernel_rfl
theorem Tryz.infoInt : (Tryz.prog.info? 3).map (fun i => (i.zero, i.size, i.bytes)) = some (some (.int .i64 0), 1, 8) := by kernel_rfl
theorem results_cell {P : Program} {fn : Func} {t : Tmp} {ty : TypeId} (h : fn.results = #[.cell t ty]) (tmps : Array Value) {w : World} {p : Addr} {v : Value} (hp : tmps.getD t undef = .pointer (some p)) (hl : (loadVar ty p).run P w = .ok v w) : (results fn tmps).run P w = .ok v w := by
  rw [Array.getD_eq_getD_getElem?] at hp
  simp [results, h, hp, asAddr, hl]
/-- What lies at A, if anything does, lies in a block of F. -/
def InF (F : Nat → Prop) (A : Option Addr) (n : Nat) : Prop := 0 < n → ∃ g o s, A = some ⟨g, o, s⟩ ∧ F g
/-- A sum in memory: its value, and its rows, in blocks of F. -/
def LnF (F : Nat → Prop) (w : World) (v : Value) (ss : List ByteArray) (ts : List Int) (off : Int) : Prop := ∃ A B c d, v = .agg #[.slice A ss.length c, .slice B ts.length d, .int .i64 off] ∧ Rd strv w A ss ∧ Rd intv w B ts ∧ InF F A ss.length ∧ InF F B ts.length
theorem LnF.fr {F : Nat → Prop} {w w' : World} {v : Value} {ss : List ByteArray} {ts : List Int} {off : Int} (h : LnF F w v ss ts off) (k : Fr w w') : LnF F w' v ss ts off := by
  obtain ⟨A, B, c, d, e, h1, h2, h3⟩ := h
  exact ⟨A, B, c, d, e, h1.fr k, h2.fr k, h3⟩
theorem rd_keep {α : Type} {f : α → Value} {F : Nat → Prop} {w w' : World} {A : Option Addr} {l : List α} (h : Rd f w A l) (hF : InF F A l.length) (k : ∀ g, F g → w'.heap[g]? = w.heap[g]?) : Rd f w' A l := fun hl => by
  obtain ⟨g, o, e, hg, hc⟩ := h hl
  obtain ⟨g', o', s', e', hf⟩ := hF hl
  rw [e] at e'
  injection e' with e'
  injection e' with e1
  subst e1
  have hk := k g hf
  have hcell : ∀ i, w'.cell? ⟨g, o + i, none⟩ = w.cell? ⟨g, o + i, none⟩ := fun i => by simp [World.cell?, hk]
  exact ⟨g, o, e, lt_of_cell ((hcell 0).trans (hc 0 hl)), fun i hi => (hcell i).trans (hc i hi)⟩
theorem InF.mono {F G : Nat → Prop} {A : Option Addr} {n : Nat} (h : InF F A n) (k : ∀ g, F g → G g) : InF G A n := fun hn => by
  obtain ⟨g, o, s, e, hf⟩ := h hn
  exact ⟨g, o, s, e, k g hf⟩
theorem LnF.mono {F G : Nat → Prop} {w : World} {v : Value} {ss : List ByteArray} {ts : List Int} {off : Int} (h : LnF F w v ss ts off) (k : ∀ g, F g → G g) : LnF G w v ss ts off := by
  obtain ⟨A, B, c, d, e, h1, h2, h3, h4⟩ := h
  exact ⟨A, B, c, d, e, h1, h2, h3.mono k, h4.mono k⟩
theorem LnF.keep {F : Nat → Prop} {w w' : World} {v : Value} {ss : List ByteArray} {ts : List Int} {off : Int} (h : LnF F w v ss ts off) (k : ∀ g, F g → w'.heap[g]? = w.heap[g]?) : LnF F w' v ss ts off := by
  obtain ⟨A, B, c, d, e, h1, h2, h3, h4⟩ := h
  exact ⟨A, B, c, d, e, rd_keep h1 h3 k, rd_keep h2 h4 k, h3, h4⟩
theorem own_inF {α : Type} {f : α → Value} {w : World} {base c n : Nat} {e : TypeId} {A : Option Addr} {l : List α} (h : Own f w base e (.slice A n c) l) : InF (fun g => base ≤ g ∧ g < w.heap.size) A n := fun hn => by
  obtain ⟨A', c', e', _, _, hr⟩ := h.val
  injection e' with e1 e2 e3
  subst e1
  have hl : 0 < l.length := by omega
  obtain ⟨g, o, rfl, hg, _⟩ := hr hl
  exact ⟨g, o, none, rfl, h.base_le g rfl, hg⟩
/-- New memory. -/
def New (w w' : World) (g : Nat) : Prop := w.heap.size ≤ g ∧ g < w'.heap.size
/-- What an append to a fresh row leaves. -/
theorem grew_fr {α : Type} {f : α → Value} {W w w' : World} {base : Nat} {e : TypeId} {v v' : Value} {l : List α} (h : Grew f w base e v l v' w') (hb : Fr W w) (hW : W.heap.size ≤ base) (ho : Own f w base e v ([] : List α)) : Fr W w' :=
  h.fr hb hW ho.base_le
theorem grew_kept {α β : Type} {f : α → Value} {g : β → Value} {w w' : World} {base base' : Nat} {e e' : TypeId} {v v' x : Value} {l : List α} {m : List β} (h : Grew f w base e v l v' w') (ho : Own g w base' e' x m) (hne : x.ownBlock = none ∨ x.ownBlock ≠ v.ownBlock) : Own g w' base' e' x m :=
  ho.kept h.2.1 hne
theorem own_other {α : Type} {f : α → Value} {w w' : World} {base b : Nat} {e : TypeId} {v : Value} {l : List α} (h : Own f w base e v l) (hb : b < base) (hg : w.grownBy w' (some b)) : Own f w' base e v l := by
  refine h.kept hg ?_
  cases hv : v.ownBlock with
  | none => exact .inl rfl
  | some k => exact .inr (fun e => by have := h.base_le k hv; injection e with e; omega)
theorem grown_set {w w' : World} {b : Nat} (h : w.grownBy w' (some b)) {o : Nat} {v : Value} : w.grownBy (w'.setCell ⟨b, o, none⟩ v) (some b) :=
  ⟨h.os, h.tape, h.output, by have := h.size; simpa using this, fun i hi hn => (Below.heap_setCell w' ⟨b, o, none⟩ v i (fun e => hn (by rw [e]))).trans (h.block i hi hn)⟩
theorem load_lin {w : World} {b : Nat} {x y z : Value} (h0 : w.cell? ⟨b, 0, none⟩ = some x) (h1 : w.cell? ⟨b, 1, none⟩ = some y) (h2 : w.cell? ⟨b, 2, none⟩ = some z) : (loadVar 25 ⟨b, 0, none⟩).run Tryz.prog w = .ok (.agg #[x, y, z]) w := by
  simp [go_sem, *]
/-- The end: the sum is put into the block of the result. -/
theorem lin_end {w w4 : World} {rb base c3 c7 : Nat} {ss : List ByteArray} {ts : List Int} {off : Int} {A3 A7 : Option Addr} {x y z : Value} (hn : w.heap.size ≤ rb) (hK : Fr w w4) (hbase : rb < base)
    (h3 : Own strv w4 base 9 (.slice A3 ss.length c3) ss) (h7 : Own intv w4 base 3 (.slice A7 ts.length c7) ts) (z0 : w4.cell? ⟨rb, 0, none⟩ = some x) (z1 : w4.cell? ⟨rb, 1, none⟩ = some y) (z2 : w4.cell? ⟨rb, 2, none⟩ = some z) :
    ∃ w5, w5 = ((w4.setCell ⟨rb, 0, none⟩ (.slice A3 ss.length c3)).setCell ⟨rb, 1, none⟩ (.slice A7 ts.length c7)).setCell ⟨rb, 2, none⟩ (.int .i64 off) ∧
      (loadVar 25 ⟨rb, 0, none⟩).run Tryz.prog w5 = .ok (.agg #[.slice A3 ss.length c3, .slice A7 ts.length c7, .int .i64 off]) w5 ∧ LnF (New w w5) w5 (.agg #[.slice A3 ss.length c3, .slice A7 ts.length c7, .int .i64 off]) ss ts off ∧ Fr w w5 := by
  have zz := lt_of_cell z0
  have hg : w4.grownBy (((w4.setCell ⟨rb, 0, none⟩ (.slice A3 ss.length c3)).setCell ⟨rb, 1, none⟩ (.slice A7 ts.length c7)).setCell ⟨rb, 2, none⟩ (.int .i64 off)) (some (rb)) :=
    grown_set (grown_set (grown_set (World.grownBy.refl w4 _)))
  refine ⟨_, rfl, load_lin ?_ ?_ ?_, ?_, ?_⟩
  · simp [go_sem, *]
  · simp [go_sem, *]
  · simp [go_sem, *]
  · have o3 := own_other h3 hbase hg
    have o7 := own_other h7 hbase hg
    obtain ⟨_, _, e3, _, _, r3⟩ := o3.val
    obtain ⟨_, _, e7, _, _, r7⟩ := o7.val
    injection e3 with e3
    injection e7 with e7
    subst e3 e7
    exact ⟨_, _, _, _, rfl, r3, r7, (own_inF o3).mono fun g h => ⟨by have := h.1; omega, h.2⟩, (own_inF o7).mono fun g h => ⟨by have := h.1; omega, h.2⟩⟩
  · exact ((hK.set (p := ⟨rb, 0, none⟩) (hn) _).set (p := ⟨rb, 1, none⟩) (hn) _).set (p := ⟨rb, 2, none⟩) (hn) _
set_option maxHeartbeats 6400000 in
set_option maxRecDepth 100000 in
theorem copyl_any (ss : List ByteArray) (ts : List Int) (off : Int) (A B : Option Addr) (c d n m : Nat) (w : World) (hn : ss.length = n) (hm : ts.length = m) (h1 : SmS ss) (h2 : SmT ts) (ha : Rd strv w A ss) (hb : Rd intv w B ts) :
    Calls Tryz.prog 7 #[.agg #[.slice A n c, .slice B m d, .int .i64 off]] w fun e w' => ∃ v, e = .returned v ∧ LnF (New w w') w' v ss ts off ∧ Fr w w' := by
  have hl1 := h1.1
  have hl2 := h2.1
  rw [hn] at hl1
  rw [hm] at hl2
  have HA := Lib.hid ha
  have HB := Lib.hid hb
  have HLA := Lib.hid hn
  have HLB := Lib.hid hm
  have HX := Lib.hid (BlkC.alloc.fr ((Fr.refl (w.alloc (.cells #[.slice A n c, .slice B m d, .int .i64 off] 25))).alloc (.cells #[.slice none 0 0, .slice none 0 0, .int .i64 0] 25)) : BlkC _ w.heap.size [.slice A n c, .slice B m d, .int .i64 off])
  have HF0 := Lib.hid (((Fr.refl w).alloc (.cells #[.slice A n c, .slice B m d, .int .i64 off] 25)).alloc (.cells #[.slice none 0 0, .slice none 0 0, .int .i64 0] 25))
  have HBZ := Lib.hid (show BlkC ((w.alloc (.cells #[.slice A n c, .slice B m d, .int .i64 off] 25)).alloc (.cells #[.slice none 0 0, .slice none 0 0, .int .i64 0] 25)) (w.heap.size + 1) [.slice none 0 0, .slice none 0 0, .int .i64 0] from by
    have := BlkC.alloc (w := w.alloc (.cells #[.slice A n c, .slice B m d, .int .i64 off] 25)) (t := 25) (cs := #[.slice none 0 0, .slice none 0 0, .int .i64 0])
    simpa using this)
  have HYZ := Lib.hid (show ∀ k, ((w.alloc (.cells #[.slice A n c, .slice B m d, .int .i64 off] 25)).alloc (.cells #[.slice none 0 0, .slice none 0 0, .int .i64 0] 25)).frozen? ⟨w.heap.size + 1, k, none⟩ = false from fun k => World.frozen?_alloc_at _ _ _ _ (by simp))
  have HSZ := Lib.hid (show ((w.alloc (.cells #[.slice A n c, .slice B m d, .int .i64 off] 25)).alloc (.cells #[.slice none 0 0, .slice none 0 0, .int .i64 0] 25)).heap.size = w.heap.size + 2 by simp)
  clear ha hb h1 h2 hn hm
  go_enter Tryz.func7, Tryz.ntmps7
  go_wp2_with fail
  generalize World.alloc (World.alloc w _) _ = W at *
  obtain ⟨b0, hb0⟩ : ∃ b0, w.heap.size = b0 := ⟨_, rfl⟩
  have HN := Lib.hid hb0
  rw [hb0] at HX HBZ HYZ HSZ ⊢
  (try simp only [hb0])
  clear hb0
  refine wp_region_noPanic ?_
  refine wp_region_head (n := 10) (S := fun wx => BlkC wx b0 [.slice A n c, .slice B m d, .int .i64 off]) (by kernel_rfl) (by decide) ?_
  have HSF := Lib.hid (fun (wx : World) (k : Fr W wx) => HX.out.fr k)
  have HD := HSF.out _ (Fr.drew (Fr.refl W))
  have HK0 := Lib.hid (show Fr W W.drew from Fr.drew (Fr.refl W))
  have hz0 := HK0.out.size
  generalize World.drew W = w0 at *
  simp only [List.size_toArray, List.length_cons, List.length_nil, Nat.reduceAdd]
  refine wpHead_take (i := 1) (v := ?_) rfl (by kernel_rfl) (fun _ _ _ h => h) (Or.inl ⟨by rfl, ?hy1⟩) HD ?rest1
  case hy1 => (intro w' hw'; go_simp) <;> (try with_reducible rfl)
  (try simp only [Act.put, List.getElem_toArray, List.getElem_cons_zero, List.getElem_cons_succ, List.setIfInBounds_toArray, List.set_cons_zero, List.set_cons_succ])
  refine wpHead_take (i := 2) (v := ?_) rfl (by kernel_rfl) (fun _ _ _ h => h) (Or.inl ⟨by rfl, ?hy2⟩) HD ?rest2
  case hy2 => (intro w' hw'; have g0 := hw' 0 _ rfl; have g1 := hw' 1 _ rfl; have g2 := hw' 2 _ rfl; go_simp) <;> (try with_reducible rfl)
  (try simp only [Act.put, List.getElem_toArray, List.getElem_cons_zero, List.getElem_cons_succ, List.setIfInBounds_toArray, List.set_cons_zero, List.set_cons_succ])
  refine wpHead_take (i := 5) (v := ?_) rfl (by kernel_rfl) (fun _ _ _ h => h) (Or.inl ⟨by rfl, ?hy5⟩) HD ?rest5
  case hy5 => (intro w' hw'; go_simp) <;> (try with_reducible rfl)
  (try simp only [Act.put, List.getElem_toArray, List.getElem_cons_zero, List.getElem_cons_succ, List.setIfInBounds_toArray, List.set_cons_zero, List.set_cons_succ])
  refine wpHead_take (i := 6) (v := ?_) rfl (by kernel_rfl) (fun _ _ _ h => h) (Or.inl ⟨by rfl, ?hy6⟩) HD ?rest6
  case hy6 => (intro w' hw'; have g0 := hw' 0 _ rfl; have g1 := hw' 1 _ rfl; have g2 := hw' 2 _ rfl; go_simp) <;> (try with_reducible rfl)
  (try simp only [Act.put, List.getElem_toArray, List.getElem_cons_zero, List.getElem_cons_succ, List.setIfInBounds_toArray, List.set_cons_zero, List.set_cons_succ])
  refine wpHead_take (i := 8) (v := ?_) rfl (by kernel_rfl) (fun _ _ _ h => h) (Or.inl ⟨by rfl, ?hy8⟩) HD ?rest8
  case hy8 => (intro w' hw'; go_simp) <;> (try with_reducible rfl)
  (try simp only [Act.put, List.getElem_toArray, List.getElem_cons_zero, List.getElem_cons_succ, List.setIfInBounds_toArray, List.set_cons_zero, List.set_cons_succ])
  refine wpHead_take (i := 9) (v := ?_) rfl (by kernel_rfl) (fun _ _ _ h => h) (Or.inl ⟨by rfl, ?hy9⟩) HD ?rest9
  case hy9 => (intro w' hw'; have g0 := hw' 0 _ rfl; have g1 := hw' 1 _ rfl; have g2 := hw' 2 _ rfl; go_simp) <;> (try with_reducible rfl)
  (try simp only [Act.put, List.getElem_toArray, List.getElem_cons_zero, List.getElem_cons_succ, List.setIfInBounds_toArray, List.set_cons_zero, List.set_cons_succ])
  refine wpHead_two (i := 0) (j := 4) rfl rfl (by kernel_rfl) (by decide) (by decide) rfl rfl (fun K hK => ?_) (fun K hK => ?_)
  · skip
    try go_simp
    have HO0 := Lib.hid (own_fresh strv 9 w0 W.heap.size (HK0.out.size))
    have HK1 := Lib.hid (HK0.out.alloc (.cells #[] 9))
    have hz1 : w0.heap.size + 1 = (w0.alloc (.cells #[] 9)).heap.size := by simp
    refine hK _ _ (HSF.out _ HK1.out) ?_
    clear hK K
    generalize World.alloc w0 (.cells #[] 9) = w1 at *
    obtain ⟨g0, hgz0⟩ : ∃ g, w0.heap.size = g := ⟨_, rfl⟩
    rw [hgz0] at HO0 ⊢
    (try simp only [Act.put, List.getElem_toArray, List.getElem_cons_zero, List.getElem_cons_succ, List.setIfInBounds_toArray, List.set_cons_zero, List.set_cons_succ])
    refine wpHead_two (i := 3) (j := 4) rfl rfl (by kernel_rfl) (by decide) (by decide) rfl rfl (fun K hK => ?_) (fun K hK => ?_)
    · skip
      refine wp_append_rd (f := strv) (fun _ => rfl) _ (.tmp 3) (.tmp 5) 22 rfl W.heap.size 9 Tryz.underlying22 Tryz.infoStr rfl (.slice (some ⟨g0, 0, none⟩) 0 0) [] rfl HO0.out A n c ss rfl HLA.out (HA.out.fr (HF0.out.call HK1.out)) ?_ ?_ HK1.out.size ?_
      · exact Nat.le_trans (show 0 + n ≤ 140737488351232 by omega) (by decide)
      · simp only [List.length_nil]; omega
      intro v3 w2 hg3
      have HK2 := Lib.hid (grew_fr hg3.out HK1.out (Nat.le_refl _) HO0.out)
      have HG3 := Lib.hid (show Own strv w2 W.heap.size 9 v3 ss from hg3.out.own)
      have hz2 := hg3.out.2.1.size
      have HB3 := Lib.hid (show ∀ g, v3.ownBlock = some g → (g = g0 ∨ g = w1.heap.size) ∧ g < w2.heap.size from fun g hg => ⟨by rcases hg3.out.2.2 with e | e <;> (rw [hg] at e; injection e with e) <;> simp [e], (World.ownsRow.lt HG3.out g hg).2⟩)
      refine hK _ _ (HSF.out _ HK2.out) ?_
      clear hK K hg3
      (try simp only [Act.put, List.getElem_toArray, List.getElem_cons_zero, List.getElem_cons_succ, List.setIfInBounds_toArray, List.set_cons_zero, List.set_cons_succ])
      refine wpHead_lone (i := 4) rfl (by kernel_rfl) (by decide) rfl (fun K hK => ?_)
      try go_simp
      have HO4 := Lib.hid (own_fresh intv 3 w2 W.heap.size (HK2.out.size))
      have HK3 := Lib.hid (HK2.out.alloc (.cells #[] 3))
      have hz3 : w2.heap.size + 1 = (w2.alloc (.cells #[] 3)).heap.size := by simp
      replace HG3 := Lib.hid (HG3.out.alloc (.cells #[] 3))
      refine hK _ _ (HSF.out _ HK3.out) ?_
      clear hK K
      generalize World.alloc w2 (.cells #[] 3) = w3 at *
      obtain ⟨g4, hgz4⟩ : ∃ g, w2.heap.size = g := ⟨_, rfl⟩
      rw [hgz4] at HO4 ⊢
      (try simp only [Act.put, List.getElem_toArray, List.getElem_cons_zero, List.getElem_cons_succ, List.setIfInBounds_toArray, List.set_cons_zero, List.set_cons_succ])
      refine wpHead_lone (i := 7) rfl (by kernel_rfl) (by decide) rfl (fun K hK => ?_)
      refine wp_append_rd (f := intv) (fun _ => rfl) _ (.tmp 7) (.tmp 9) 23 rfl W.heap.size 3 Tryz.underlying23 Tryz.infoInt rfl (.slice (some ⟨g4, 0, none⟩) 0 0) [] rfl HO4.out B m d ts rfl HLB.out (HB.out.fr (HF0.out.call HK3.out)) ?_ ?_ HK3.out.size ?_
      · exact Nat.le_trans (show 0 + m ≤ 140737488351232 by omega) (by decide)
      · simp only [List.length_nil]; omega
      intro v7 w4 hg7
      have HK4 := Lib.hid (grew_fr hg7.out HK3.out (Nat.le_refl _) HO4.out)
      have HG7 := Lib.hid (show Own intv w4 W.heap.size 3 v7 ts from hg7.out.own)
      have hz4 := hg7.out.2.1.size
      replace HG3 := Lib.hid (grew_kept hg7.out HG3.out (.inr (fun h => by have := HB3.out g4 h; omega)))
      refine hK _ _ (HSF.out _ HK4.out) ?_
      clear hK K hg7
      (try simp only [Act.put, List.getElem_toArray, List.getElem_cons_zero, List.getElem_cons_succ, List.setIfInBounds_toArray, List.set_cons_zero, List.set_cons_succ])
      refine wpHead_done (by kernel_rfl) ?_
      simp only [List.drop_succ_cons, List.drop_zero]
      obtain ⟨A3, c3, rfl, hc3, hm3, hr3⟩ := HG3.out.val
      obtain ⟨A7, c7, rfl, hc7, hm7, hr7⟩ := HG7.out.val
      have z0 := HK4.out.get (HBZ.out 0 _ rfl); have z1 := HK4.out.get (HBZ.out 1 _ rfl); have z2 := HK4.out.get (HBZ.out 2 _ rfl)
      have y0 := HK4.out.free (HBZ.out 0 _ rfl) (HYZ.out 0); have y1 := HK4.out.free (HBZ.out 1 _ rfl) (HYZ.out 1); have y2 := HK4.out.free (HBZ.out 2 _ rfl) (HYZ.out 2)
      have zz := lt_of_cell z0
      have HR3 := Lib.hid hr3
      have HR7 := Lib.hid hr7
      clear hr3 hr7
      (try simp only [Act.put, List.getElem_toArray, List.getElem_cons_zero, List.getElem_cons_succ, List.setIfInBounds_toArray, List.set_cons_zero, List.set_cons_succ])
      go_wp2
      refine NoPanic.normal ?_
      obtain ⟨w5, hw5, hl5, hr5, hf5⟩ := lin_end (off := off) (show w.heap.size ≤ b0 + 1 by rw [HN.out]; omega) (HF0.out.call HK4.out) (show b0 + 1 < W.heap.size by rw [HSZ.out]; omega) HG3.out HG7.out z0 z1 z2
      rw [← hw5]
      clear hw5 z0 z1 z2 y0 y1 y2
      go_wp2
      exact bodyPost_ret (v := .agg #[.slice A3 ss.length c3, .slice A7 ts.length c7, .int .i64 off]) (results_cell Tryz.results7 _ rfl hl5) rfl ⟨_, rfl, hr5, hf5⟩
    · skip
      try go_simp
      have HO4 := Lib.hid (own_fresh intv 3 w1 W.heap.size (HK1.out.size))
      have HK2 := Lib.hid (HK1.out.alloc (.cells #[] 3))
      have hz2 : w1.heap.size + 1 = (w1.alloc (.cells #[] 3)).heap.size := by simp
      replace HO0 := Lib.hid (HO0.out.alloc (.cells #[] 3))
      refine hK _ _ (HSF.out _ HK2.out) ?_
      clear hK K
      generalize World.alloc w1 (.cells #[] 3) = w2 at *
      obtain ⟨g4, hgz4⟩ : ∃ g, w1.heap.size = g := ⟨_, rfl⟩
      rw [hgz4] at HO4 ⊢
      (try simp only [Act.put, List.getElem_toArray, List.getElem_cons_zero, List.getElem_cons_succ, List.setIfInBounds_toArray, List.set_cons_zero, List.set_cons_succ])
      refine wpHead_lone (i := 3) rfl (by kernel_rfl) (by decide) rfl (fun K hK => ?_)
      refine wp_append_rd (f := strv) (fun _ => rfl) _ (.tmp 3) (.tmp 5) 22 rfl W.heap.size 9 Tryz.underlying22 Tryz.infoStr rfl (.slice (some ⟨g0, 0, none⟩) 0 0) [] rfl HO0.out A n c ss rfl HLA.out (HA.out.fr (HF0.out.call HK2.out)) ?_ ?_ HK2.out.size ?_
      · exact Nat.le_trans (show 0 + n ≤ 140737488351232 by omega) (by decide)
      · simp only [List.length_nil]; omega
      intro v3 w3 hg3
      have HK3 := Lib.hid (grew_fr hg3.out HK2.out (Nat.le_refl _) HO0.out)
      have HG3 := Lib.hid (show Own strv w3 W.heap.size 9 v3 ss from hg3.out.own)
      have hz3 := hg3.out.2.1.size
      have HB3 := Lib.hid (show ∀ g, v3.ownBlock = some g → (g = g0 ∨ g = w2.heap.size) ∧ g < w3.heap.size from fun g hg => ⟨by rcases hg3.out.2.2 with e | e <;> (rw [hg] at e; injection e with e) <;> simp [e], (World.ownsRow.lt HG3.out g hg).2⟩)
      replace HO4 := Lib.hid (grew_kept hg3.out HO4.out (.inr (fun h => by have h' : (some g4 : Option Nat) = some g0 := h; injection h' with h'; omega)))
      refine hK _ _ (HSF.out _ HK3.out) ?_
      clear hK K hg3
      (try simp only [Act.put, List.getElem_toArray, List.getElem_cons_zero, List.getElem_cons_succ, List.setIfInBounds_toArray, List.set_cons_zero, List.set_cons_succ])
      refine wpHead_lone (i := 7) rfl (by kernel_rfl) (by decide) rfl (fun K hK => ?_)
      refine wp_append_rd (f := intv) (fun _ => rfl) _ (.tmp 7) (.tmp 9) 23 rfl W.heap.size 3 Tryz.underlying23 Tryz.infoInt rfl (.slice (some ⟨g4, 0, none⟩) 0 0) [] rfl HO4.out B m d ts rfl HLB.out (HB.out.fr (HF0.out.call HK3.out)) ?_ ?_ HK3.out.size ?_
      · exact Nat.le_trans (show 0 + m ≤ 140737488351232 by omega) (by decide)
      · simp only [List.length_nil]; omega
      intro v7 w4 hg7
      have HK4 := Lib.hid (grew_fr hg7.out HK3.out (Nat.le_refl _) HO4.out)
      have HG7 := Lib.hid (show Own intv w4 W.heap.size 3 v7 ts from hg7.out.own)
      have hz4 := hg7.out.2.1.size
      replace HG3 := Lib.hid (grew_kept hg7.out HG3.out (.inr (fun h => by have := HB3.out g4 h; omega)))
      refine hK _ _ (HSF.out _ HK4.out) ?_
      clear hK K hg7
      (try simp only [Act.put, List.getElem_toArray, List.getElem_cons_zero, List.getElem_cons_succ, List.setIfInBounds_toArray, List.set_cons_zero, List.set_cons_succ])
      refine wpHead_done (by kernel_rfl) ?_
      simp only [List.drop_succ_cons, List.drop_zero]
      obtain ⟨A3, c3, rfl, hc3, hm3, hr3⟩ := HG3.out.val
      obtain ⟨A7, c7, rfl, hc7, hm7, hr7⟩ := HG7.out.val
      have z0 := HK4.out.get (HBZ.out 0 _ rfl); have z1 := HK4.out.get (HBZ.out 1 _ rfl); have z2 := HK4.out.get (HBZ.out 2 _ rfl)
      have y0 := HK4.out.free (HBZ.out 0 _ rfl) (HYZ.out 0); have y1 := HK4.out.free (HBZ.out 1 _ rfl) (HYZ.out 1); have y2 := HK4.out.free (HBZ.out 2 _ rfl) (HYZ.out 2)
      have zz := lt_of_cell z0
      have HR3 := Lib.hid hr3
      have HR7 := Lib.hid hr7
      clear hr3 hr7
      (try simp only [Act.put, List.getElem_toArray, List.getElem_cons_zero, List.getElem_cons_succ, List.setIfInBounds_toArray, List.set_cons_zero, List.set_cons_succ])
      go_wp2
      refine NoPanic.normal ?_
      obtain ⟨w5, hw5, hl5, hr5, hf5⟩ := lin_end (off := off) (show w.heap.size ≤ b0 + 1 by rw [HN.out]; omega) (HF0.out.call HK4.out) (show b0 + 1 < W.heap.size by rw [HSZ.out]; omega) HG3.out HG7.out z0 z1 z2
      rw [← hw5]
      clear hw5 z0 z1 z2 y0 y1 y2
      go_wp2
      exact bodyPost_ret (v := .agg #[.slice A3 ss.length c3, .slice A7 ts.length c7, .int .i64 off]) (results_cell Tryz.results7 _ rfl hl5) rfl ⟨_, rfl, hr5, hf5⟩
  · skip
    try go_simp
    have HO4 := Lib.hid (own_fresh intv 3 w0 W.heap.size (HK0.out.size))
    have HK1 := Lib.hid (HK0.out.alloc (.cells #[] 3))
    have hz1 : w0.heap.size + 1 = (w0.alloc (.cells #[] 3)).heap.size := by simp
    refine hK _ _ (HSF.out _ HK1.out) ?_
    clear hK K
    generalize World.alloc w0 (.cells #[] 3) = w1 at *
    obtain ⟨g4, hgz4⟩ : ∃ g, w0.heap.size = g := ⟨_, rfl⟩
    rw [hgz4] at HO4 ⊢
    (try simp only [Act.put, List.getElem_toArray, List.getElem_cons_zero, List.getElem_cons_succ, List.setIfInBounds_toArray, List.set_cons_zero, List.set_cons_succ])
    refine wpHead_lone (i := 0) rfl (by kernel_rfl) (by decide) rfl (fun K hK => ?_)
    try go_simp
    have HO0 := Lib.hid (own_fresh strv 9 w1 W.heap.size (HK1.out.size))
    have HK2 := Lib.hid (HK1.out.alloc (.cells #[] 9))
    have hz2 : w1.heap.size + 1 = (w1.alloc (.cells #[] 9)).heap.size := by simp
    replace HO4 := Lib.hid (HO4.out.alloc (.cells #[] 9))
    refine hK _ _ (HSF.out _ HK2.out) ?_
    clear hK K
    generalize World.alloc w1 (.cells #[] 9) = w2 at *
    obtain ⟨g0, hgz0⟩ : ∃ g, w1.heap.size = g := ⟨_, rfl⟩
    rw [hgz0] at HO0 ⊢
    (try simp only [Act.put, List.getElem_toArray, List.getElem_cons_zero, List.getElem_cons_succ, List.setIfInBounds_toArray, List.set_cons_zero, List.set_cons_succ])
    refine wpHead_lone (i := 3) rfl (by kernel_rfl) (by decide) rfl (fun K hK => ?_)
    refine wp_append_rd (f := strv) (fun _ => rfl) _ (.tmp 3) (.tmp 5) 22 rfl W.heap.size 9 Tryz.underlying22 Tryz.infoStr rfl (.slice (some ⟨g0, 0, none⟩) 0 0) [] rfl HO0.out A n c ss rfl HLA.out (HA.out.fr (HF0.out.call HK2.out)) ?_ ?_ HK2.out.size ?_
    · exact Nat.le_trans (show 0 + n ≤ 140737488351232 by omega) (by decide)
    · simp only [List.length_nil]; omega
    intro v3 w3 hg3
    have HK3 := Lib.hid (grew_fr hg3.out HK2.out (Nat.le_refl _) HO0.out)
    have HG3 := Lib.hid (show Own strv w3 W.heap.size 9 v3 ss from hg3.out.own)
    have hz3 := hg3.out.2.1.size
    have HB3 := Lib.hid (show ∀ g, v3.ownBlock = some g → (g = g0 ∨ g = w2.heap.size) ∧ g < w3.heap.size from fun g hg => ⟨by rcases hg3.out.2.2 with e | e <;> (rw [hg] at e; injection e with e) <;> simp [e], (World.ownsRow.lt HG3.out g hg).2⟩)
    replace HO4 := Lib.hid (grew_kept hg3.out HO4.out (.inr (fun h => by have h' : (some g4 : Option Nat) = some g0 := h; injection h' with h'; omega)))
    refine hK _ _ (HSF.out _ HK3.out) ?_
    clear hK K hg3
    (try simp only [Act.put, List.getElem_toArray, List.getElem_cons_zero, List.getElem_cons_succ, List.setIfInBounds_toArray, List.set_cons_zero, List.set_cons_succ])
    refine wpHead_lone (i := 7) rfl (by kernel_rfl) (by decide) rfl (fun K hK => ?_)
    refine wp_append_rd (f := intv) (fun _ => rfl) _ (.tmp 7) (.tmp 9) 23 rfl W.heap.size 3 Tryz.underlying23 Tryz.infoInt rfl (.slice (some ⟨g4, 0, none⟩) 0 0) [] rfl HO4.out B m d ts rfl HLB.out (HB.out.fr (HF0.out.call HK3.out)) ?_ ?_ HK3.out.size ?_
    · exact Nat.le_trans (show 0 + m ≤ 140737488351232 by omega) (by decide)
    · simp only [List.length_nil]; omega
    intro v7 w4 hg7
    have HK4 := Lib.hid (grew_fr hg7.out HK3.out (Nat.le_refl _) HO4.out)
    have HG7 := Lib.hid (show Own intv w4 W.heap.size 3 v7 ts from hg7.out.own)
    have hz4 := hg7.out.2.1.size
    replace HG3 := Lib.hid (grew_kept hg7.out HG3.out (.inr (fun h => by have := HB3.out g4 h; omega)))
    refine hK _ _ (HSF.out _ HK4.out) ?_
    clear hK K hg7
    (try simp only [Act.put, List.getElem_toArray, List.getElem_cons_zero, List.getElem_cons_succ, List.setIfInBounds_toArray, List.set_cons_zero, List.set_cons_succ])
    refine wpHead_done (by kernel_rfl) ?_
    simp only [List.drop_succ_cons, List.drop_zero]
    obtain ⟨A3, c3, rfl, hc3, hm3, hr3⟩ := HG3.out.val
    obtain ⟨A7, c7, rfl, hc7, hm7, hr7⟩ := HG7.out.val
    have z0 := HK4.out.get (HBZ.out 0 _ rfl); have z1 := HK4.out.get (HBZ.out 1 _ rfl); have z2 := HK4.out.get (HBZ.out 2 _ rfl)
    have y0 := HK4.out.free (HBZ.out 0 _ rfl) (HYZ.out 0); have y1 := HK4.out.free (HBZ.out 1 _ rfl) (HYZ.out 1); have y2 := HK4.out.free (HBZ.out 2 _ rfl) (HYZ.out 2)
    have zz := lt_of_cell z0
    have HR3 := Lib.hid hr3
    have HR7 := Lib.hid hr7
    clear hr3 hr7
    (try simp only [Act.put, List.getElem_toArray, List.getElem_cons_zero, List.getElem_cons_succ, List.setIfInBounds_toArray, List.set_cons_zero, List.set_cons_succ])
    go_wp2
    refine NoPanic.normal ?_
    obtain ⟨w5, hw5, hl5, hr5, hf5⟩ := lin_end (off := off) (show w.heap.size ≤ b0 + 1 by rw [HN.out]; omega) (HF0.out.call HK4.out) (show b0 + 1 < W.heap.size by rw [HSZ.out]; omega) HG3.out HG7.out z0 z1 z2
    rw [← hw5]
    clear hw5 z0 z1 z2 y0 y1 y2
    go_wp2
    exact bodyPost_ret (v := .agg #[.slice A3 ss.length c3, .slice A7 ts.length c7, .int .i64 off]) (results_cell Tryz.results7 _ rfl hl5) rfl ⟨_, rfl, hr5, hf5⟩
end Go.Proofs.YtbnaakognnkhdaaGreatDoor
