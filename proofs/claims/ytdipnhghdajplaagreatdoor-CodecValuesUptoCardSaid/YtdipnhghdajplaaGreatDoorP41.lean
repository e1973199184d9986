/- Package codec's New: a description's codec in memory. Package codec's Has; the walk of CodecValues. -/
import Derived.Test.YtdipnhghdajplaaGreatDoorP37
import Derived.Test.YtdipnhghdajplaaGreatDoorP40
import Derived.Test.YtdipnhghdajplaaGreatDoorP38
namespace Go.Proofs.YtdipnhghdajplaaGreatDoor
open Go.RowKit
set_option linter.unusedSimpArgs false
set_option linter.unusedVariables false

def clcV (c : Cl) (A : Option Addr) (n : Nat) : List Value := [.bool (sgC c.kind), .int .i64 c.bits, .int .i64 c.shift, .int .i64 c.plus, .slice A c.ex.length n]
/-- A class of a codec; a form of it: what its cells say. -/
def ClcF (w : World) (cs : List Value) (c : Cl) : Prop := ∃ (A : Option Addr) (n : Nat), cs = clcV c A n ∧ RowOf IntC 1 w A c.ex
def CfF (w : World) (cs : List Value) (f : Cf) : Prop := ∃ (A : Option Addr) (n : Nat), cs = cfV f A f.ops.length n ∧ RowOf OcRd 2 w A f.ops
def ClcAt (w : World) (b o : Nat) (c : Cl) : Prop := ∃ (A : Option Addr) (n : Nat), (∀ (j : Nat) (v : Value), (clcV c A n)[j]? = some v → w.cell? ⟨b, o + j, none⟩ = some v) ∧ RowOf IntC 1 w A c.ex
def CfRd (w : World) (b o : Nat) (f : Cf) : Prop := ∃ (A : Option Addr) (n : Nat), (∀ (j : Nat) (v : Value), (cfV f A f.ops.length n)[j]? = some v → w.cell? ⟨b, o + j, none⟩ = some v) ∧ RowOf OcRd 2 w A f.ops
theorem ClcAt.fr {w w' : World} {b o : Nat} {c : Cl} (h : ClcAt w b o c) (k : Fr w w') : ClcAt w' b o c := by
  obtain ⟨A, n, h1, h2⟩ := h
  exact ⟨A, n, fun j v hv => k.get (h1 j v hv), h2.fr fun _ _ _ x => IntC.fr x k⟩
theorem CfRd.fr {w w' : World} {b o : Nat} {f : Cf} (h : CfRd w b o f) (k : Fr w w') : CfRd w' b o f := by
  obtain ⟨A, n, h1, h2⟩ := h
  exact ⟨A, n, fun j v hv => k.get (h1 j v hv), h2.fr fun _ _ _ x => x.fr k⟩
def cfD (D : Ds) (f : Fm) : Cf := layCD D f.args f.pcs
/-- A description's codec in memory. -/
def CodecAt (w : World) (p : Nat) (D : Ds) : Prop := ∃ (CA FA : Option Addr) (cc fc : Nat), BlkAt w p [.slice CA D.cls.length cc, .slice FA D.fms.length fc] ∧ RowOf ClcAt 5 w CA D.cls ∧ RowOf CfRd 7 w FA (D.fms.map (cfD D))
theorem CodecAt.fr {w w' : World} {p : Nat} {D : Ds} (h : CodecAt w p D) (k : Fr w w') : CodecAt w' p D := by
  obtain ⟨CA, FA, cc, fc, h1, h2, h3⟩ := h
  exact ⟨CA, FA, cc, fc, h1.fr k, h2.fr fun _ _ _ x => x.fr k, h3.fr fun _ _ _ x => x.fr k⟩
def RelN1 (D : Ds) (W4 : World) (cb : Nat) (i : Value) (wr : World) : Prop := ∃ (css : List (List Value)) (O : Option Addr) (oc : Nat), css.length ≤ D.cls.length ∧ i = .int .i64 (css.length : Int) ∧ Fr W4 wr ∧
  wr.cell? ⟨cb, 0, none⟩ = some (.slice O css.length oc) ∧ wr.cell? ⟨cb, 1, none⟩ = some (.slice none 0 0) ∧ (∀ k, wr.frozen? ⟨cb, k, none⟩ = false) ∧ GRow ClcF 89 5 (cb + 1) wr (.slice O css.length oc) css (D.cls.take css.length) ∧ cb + 1 ≤ wr.heap.size
def RelN2 (D : Ds) (W4 Wb : World) (cb : Nat) (CA : Option Addr) (cc : Nat) (i : Value) (wr : World) : Prop := ∃ (css : List (List Value)) (O : Option Addr) (oc : Nat), css.length ≤ D.fms.length ∧ i = .int .i64 (css.length : Int) ∧ Fr W4 wr ∧
  wr.cell? ⟨cb, 0, none⟩ = some (.slice CA D.cls.length cc) ∧ wr.cell? ⟨cb, 1, none⟩ = some (.slice O css.length oc) ∧ (∀ k, wr.frozen? ⟨cb, k, none⟩ = false) ∧ GRow CfF 95 7 Wb.heap.size wr (.slice O css.length oc) css ((D.fms.map (cfD D)).take css.length) ∧
  Wb.heap.size ≤ wr.heap.size ∧ ∀ b, cb < b → b < Wb.heap.size → wr.heap[b]? = Wb.heap[b]?
/-- What New answers. -/
def NewP (w : World) (D : Ds) (e : Ending) (w' : World) : Prop := (((chkN D).2 ≠ 0 ∧ e = .returned (.tuple #[.pointer none, .int .i64 (chkN D).2])) ∨ ((chkN D).2 = 0 ∧ ∃ p : Nat, e = .returned (.tuple #[.pointer (some ⟨p, 0, none⟩), .int .i64 0]) ∧ CodecAt w' p D)) ∧ Fr w w'
theorem chk_pats {D : Ds} (h : (chkN D).2 = 0) : partsB D = true ∧ ∀ f ∈ D.fms, patN D f.args f.pcs ≠ 0 := by
  unfold chkN at h
  split at h
  · exact absurd h (by decide)
  · rename_i hp
    refine ⟨by simpa using hp, ?_⟩
    cases hb : badL D D.fms 0 with
    | some x =>
      obtain ⟨n, e⟩ := x
      rw [hb] at h
      have h : e = 0 := h
      subst h
      have : ∀ (l : List Fm) (n m : Nat), badL D l n ≠ some (m, 0) := by
        intro l
        induction l with
        | nil => intro n m h2; cases h2
        | cons f r ih =>
          intro n m h2
          unfold badL at h2
          split at h2
          · injection h2 with h2; injection h2 with _ h2; cases h2
          · split at h2
            · injection h2 with h2; injection h2 with _ h2; cases h2
            · exact ih _ _ h2
      exact absurd hb (this _ _ _)
    | none => exact fun f hf h0 => (badL_none _ _ hb f hf).1 (by rw [h0])
theorem chk_lens {D : Ds} (h : (chkN D).2 = 0) : D.cls.length ≤ 64 ∧ D.fms.length ≤ 512 ∧ ∀ c ∈ D.cls, clsB D c = true := by
  have hp := (chk_pats h).1
  unfold partsB at hp
  simp only [Bool.and_eq_true, decide_eq_true_eq] at hp
  exact ⟨by omega, by omega, fun c hc => List.all_eq_true.1 hp.1.1.2 c hc⟩
theorem new_cell {w' : World} {cb i j : Nat} {v x : Value} (h : w'.cell? ⟨cb, j, none⟩ = some x) (hij : i ≠ j) : (w'.setCell ⟨cb, i, none⟩ v).cell? ⟨cb, j, none⟩ = some x := by
  rw [World.cell?_setCell_other _ _ _ _ (by intro e; injection e with _ e; exact hij e)]; exact h
/-- The codec's own cells, behind a call and an append. -/
theorem new_cells {base i j cb : Nat} {W w' : World} {sv sv' a b : Value} (hg : W.grownBy w' sv.ownBlock) (hne : sv.ownBlock ≠ some cb) (ca : W.cell? ⟨cb, i, none⟩ = some a) (cbb : W.cell? ⟨cb, j, none⟩ = some b) (hij : i ≠ j) (hf : ∀ k, W.frozen? ⟨cb, k, none⟩ = false) :
    (w'.setCell ⟨cb, i, none⟩ sv').cell? ⟨cb, i, none⟩ = some sv' ∧ (w'.setCell ⟨cb, i, none⟩ sv').cell? ⟨cb, j, none⟩ = some b ∧ ∀ k, (w'.setCell ⟨cb, i, none⟩ sv').frozen? ⟨cb, k, none⟩ = false := by
  have hlt := lt_of_cell ca
  have e : w'.heap[cb]? = W.heap[cb]? := World.grownBy.block hg cb hlt (fun e => hne e.symm)
  exact ⟨World.cell?_setCell_same _ _ _ ((cell_of_heap e).trans ca), new_cell ((cell_of_heap e).trans cbb) hij, fun k => by rw [World.frozen?_setCell, froz_heap e]; exact hf k⟩
theorem take_one {α : Type} {l : List α} {j : Nat} (h : j < l.length) : l.take j ++ [l[j]] = l.take (j + 1) := (List.take_succ_eq_append_getElem h).symm
set_option maxHeartbeats 25600000 in
set_option maxRecDepth 100000 in
theorem new_any {w : World} {D : Ds} {v : Array Value} (hD : DescAt w D v) (hS : D.Small) (hL : D.Light) (hX : ∀ c ∈ D.cls, c.ex.length ≤ 1048576) :
    Calls Tryz.prog 11 #[.agg v] w fun e w' => NewP w D e w' := by
  have HCK := Lib.hid (fun (w1 : World) (k : Fr w w1) => check_any (hD.fr k) hS hL)
  have HLY := Lib.hid (fun (w1 : World) (k : Fr w w1) (n : Nat) (hn : n < D.fms.length) (hp : patN D (D.fms[n]).args (D.fms[n]).pcs ≠ 0) => clay_any hD k hL n hn hp)
  have HXL := Lib.hid hX
  obtain ⟨s0, Fa, Ba, Ga, Ca, Ma, Ra, Ua, Xa, Ka, Na, Pa, fc, bc, gc, cc, mc, rc, uc, xc, kc, nl, nc, pc, rfl, h1, h2, h3, h4, h5, h6, h7, h8, h9⟩ := hD
  have HC := Lib.hid h3
  have HDV := Lib.hid (show BlkAt (w.alloc (.cells #[.string s0, .int .i64 D.order, .slice Fa D.files.length fc, .slice Ba D.als.length bc, .slice Ga D.nflags gc, .slice Ca D.cls.length cc, .slice Ma D.fms.length mc, .slice Ra D.rels.length rc, .slice Ua D.uses.length uc, .slice Xa D.rxs.length xc, .slice Ka D.mcs.length kc, .slice Na nl nc, .slice Pa D.regs.length pc] 33)) w.heap.size [.string s0, .int .i64 D.order, .slice Fa D.files.length fc, .slice Ba D.als.length bc, .slice Ga D.nflags gc, .slice Ca D.cls.length cc, .slice Ma D.fms.length mc, .slice Ra D.rels.length rc, .slice Ua D.uses.length uc, .slice Xa D.rxs.length xc, .slice Ka D.mcs.length kc, .slice Na nl nc, .slice Pa D.regs.length pc] from BlkAt.alloc)
  have HF1 := Lib.hid (show Fr w (w.alloc (.cells #[.string s0, .int .i64 D.order, .slice Fa D.files.length fc, .slice Ba D.als.length bc, .slice Ga D.nflags gc, .slice Ca D.cls.length cc, .slice Ma D.fms.length mc, .slice Ra D.rels.length rc, .slice Ua D.uses.length uc, .slice Xa D.rxs.length xc, .slice Ka D.mcs.length kc, .slice Na nl nc, .slice Pa D.regs.length pc] 33)) from Fr.alloc (Fr.refl w) _)
  clear h1 h2 h3 h4 h5 h6 h7 h8 h9 hL hS hX
  go_enter Tryz.func11, Tryz.ntmps11
  go_wp2_with fail
  generalize World.alloc w _ = W1 at *
  refine (HCK.out _ HF1.out).mono ?_
  rintro e w4 ⟨rfl, hf4⟩
  have HF4 := Lib.hid hf4
  clear hf4
  have HKO := Lib.hid (fun h => chk_pats (D := D) h)
  have HKL := Lib.hid (fun h => chk_lens (D := D) h)
  have HNP := Lib.hid (fun (e : Ending) (w' : World) (h : (((chkN D).2 ≠ 0 ∧ e = .returned (.tuple #[.pointer none, .int .i64 (chkN D).2])) ∨ ((chkN D).2 = 0 ∧ ∃ p : Nat, e = .returned (.tuple #[.pointer (some ⟨p, 0, none⟩), .int .i64 0]) ∧ CodecAt w' p D)) ∧ Fr w w') => (show NewP w D e w' from h))
  obtain ⟨c1, hc1⟩ : ∃ c1, (chkN D).1 = c1 := ⟨_, rfl⟩
  obtain ⟨c2, hc2⟩ : ∃ c2, (chkN D).2 = c2 := ⟨_, rfl⟩
  rw [show chkV D = .tuple #[.int .i64 c1, .int .i64 c2] by unfold chkV; rw [hc1, hc2]]
  rw [hc2] at HKO HKL HNP
  clear hc1 hc2
  by_cases h0 : c2 = 0
  · subst h0
    have hlen := HKL.out (by trivial)
    have HLEN := Lib.hid hlen
    have HPAT := Lib.hid (HKO.out (by trivial)).2
    clear hlen
    have HB0 := Lib.hid (show BlkAt (w4.alloc (.cells #[.slice none 0 0, .slice none 0 0] 87)) w4.heap.size [.slice none 0 0, .slice none 0 0] from BlkAt.alloc)
    have HZ0 := Lib.hid (show ∀ k, (w4.alloc (.cells #[.slice none 0 0, .slice none 0 0] 87)).frozen? ⟨w4.heap.size, k, none⟩ = false from fun k => World.frozen?_alloc_at _ _ _ _ rfl)
    have HF5 := Lib.hid (show Fr w4 (w4.alloc (.cells #[.slice none 0 0, .slice none 0 0] 87)) from Fr.alloc (Fr.refl _) _)
    have HS5 := Lib.hid (show (w4.alloc (.cells #[.slice none 0 0, .slice none 0 0] 87)).heap.size = w4.heap.size + 1 by simp)
    have d5 := HDV.out.fr HF4.out 5 _ rfl
    have zd := lt_of_cell d5
    go_wp2_with fail
    generalize World.alloc w4 _ = W5 at *
    obtain ⟨m0, hm0⟩ : ∃ m, w.heap.size = m := ⟨_, rfl⟩
    obtain ⟨cb, hcb0⟩ : ∃ cb, w4.heap.size = cb := ⟨_, rfl⟩
    have HM0 := Lib.hid hm0
    have HCB := Lib.hid hcb0
    rw [hm0] at HDV
    rw [hcb0] at HB0 HZ0 HS5
    (try simp only [hm0, hcb0])
    clear hm0 hcb0 d5 zd
    go_loopw [23] (fun i wr => RelN1 D w4 cb i wr) (fun i _ => D.cls.length - (intOf i).toNat)
    case atStart =>
      exact ⟨[], none, 0, Nat.zero_le _, rfl, HF5.out, HB0.out 0 _ rfl, HB0.out 1 _ rfl, HZ0.out, GRow.nil _, by rw [HS5.out]; exact Nat.le_refl _⟩
    case round =>
      obtain ⟨css, O, oc, hj, rfl, hf, k0, k1, kz, hG, hsz⟩ := hrel
      have HF := Lib.hid hf
      have HK0 := Lib.hid k0
      have HK1 := Lib.hid k1
      have HKZ := Lib.hid kz
      have HG := Lib.hid hG
      have HSZ := Lib.hid hsz
      clear hf k1 kz hG k0
      obtain ⟨j, hj0⟩ : ∃ j, css.length = j := ⟨_, rfl⟩
      have HJ := Lib.hid hj0
      rw [hj0] at hj HK0
      simp only [hj0]
      clear hj0
      by_cases hlt : j < D.cls.length
      · have hji : (j : Int) < (D.cls.length : Int) := by omega
        have HTK := Lib.hid (take_one hlt)
        have HXJ := Lib.hid (HXL.out _ (List.getElem_mem hlt))
        obtain ⟨bq, oq, rfl, hx⟩ := (HC.out.fr fun _ _ _ x => x.fr (HF1.out.call (HF4.out.call HF.out))).at hlt
        rw [Nat.mul_comm 7 j] at hx
        generalize D.cls[j] = k at *
        obtain ⟨kind, file, bits, shift, plus, ex⟩ := k
        obtain ⟨n0, E, ec, y0, r1, y1, r2, y2, r3, y3, r4, y4, r5, y5, r6, r7, y6, hex⟩ := hx
        simp only at y1 y2 y3 y4 y5 y6 hex r6
        have zq := lt_of_cell y0
        have HF6 := Lib.hid (show Fr wr (wr.alloc (.cells #[.string n0, .int .i64 kind, .int .i64 file, .int .i64 bits, .int .i64 shift, .int .i64 plus, .slice E ex.length ec] 64)) from Fr.alloc (Fr.refl wr) _)
        have HK6 := Lib.hid (BlkAt.alloc (w := wr) (t := 64) (cs := #[.string n0, .int .i64 kind, .int .i64 file, .int .i64 bits, .int .i64 shift, .int .i64 plus, .slice E ex.length ec]))
        have HEX := Lib.hid hex
        clear r1 r2 r3 r4 r5 r6 r7 hex
        go_wp2
        generalize World.alloc wr _ = W6 at *
        have hj9 := HJ.out
        have hg := HG.out
        have hsz6 := HF6.out.size
        have hl64 := HLEN.out.1
        have hsz9 := HSZ.out
        refine cnew8 _ _ _ _ _ _ _ _ _ _ _ _ _ _ _ _ _ _ _ _ _ _ _ _ _ _ _ _ _ _ _ _ _ _ _ _ _ _ _ _ _ _ _ _ _ _ _ _ _ _ _ _ _ _ _ _ _ _ cb wr.heap.size n0 kind file bits shift plus E ex ec O j oc (HF6.out.get HK0.out) HK6.out (cb + 1) css.flatten ?own (by omega) (by omega) ?nk ?base ?frz ?call_ ?end_
        case own => subst hj9; exact ownsRow_fr hg.row HF6.out
        case nk =>
          intro e
          have := (World.ownsRow.lt hg.row wr.heap.size (by subst hj9; exact e)).2
          omega
        case base => omega
        case frz => exact HF6.out.free HK0.out (HKZ.out 0)
        case call_ => exact fun w1 k1 => classOf_any n0 kind file bits shift plus E ex ec (HEX.out.fr fun _ _ _ x => x.fr (HF6.out.call k1)) HXJ.out
        case end_ =>
          intro g cap w2 w' A8 c8 x27 x28 x29 x30 x31 x32 x33 x34 x35 x36 x37 hf2 hv hg2
          have hwr : wr.heap.size ≤ W6.heap.size := hsz6
          have k7 := HF6.out.call (hf2.alloc (.cells #[.bool (sgC kind), .int .i64 bits, .int .i64 shift, .int .i64 plus, .slice A8 ex.length c8] 89))
          have hz2 : w2.heap.size ≤ (w2.alloc (.cells #[.bool (sgC kind), .int .i64 bits, .int .i64 shift, .int .i64 plus, .slice A8 ex.length c8] 89)).heap.size := by simp
          have hzz := hf2.size
          have hpart : PartK ClcF (cb + 1) (w2.alloc (.cells #[.bool (sgC kind), .int .i64 bits, .int .i64 shift, .int .i64 plus, .slice A8 ex.length c8] 89)) (.slice O j oc) [.bool (sgC kind), .int .i64 bits, .int .i64 shift, .int .i64 plus, .slice A8 ex.length c8] ⟨kind, file, bits, shift, plus, ex⟩ := by
            refine ⟨W6.heap.size, w2.heap.size, by omega, hz2, fun g0 hg0 => .inl ?_, fun w'' hk => ⟨A8, c8, rfl, hv w'' fun b hb1 hb2 => (hk b hb1 hb2).trans (heap_alloc_old w2 _ hb2)⟩⟩
            have := (World.ownsRow.lt hg.row g0 (by subst hj9; exact hg0)).2
            omega
          have HN := Lib.hid (GRow.next (lb := cb) (o := 0) hg k7 rfl (by subst hj9; exact hpart) (by subst hj9; exact hg2) (Nat.lt_succ_self cb))
          have hne : ∀ b, b < cb + 1 → (Value.slice O j oc).ownBlock ≠ some b := fun b hb e => by
            subst hj9
            have := (World.ownsRow.lt hg.row b e).1
            omega
          have HCL := Lib.hid (new_cells (base := 0) (sv' := .slice (some ⟨g, 0, none⟩) (j + 1) cap) hg2.2.1 (hne cb (Nat.lt_succ_self cb)) (k7.get HK0.out) (k7.get HK1.out) (by decide : (0 : Nat) ≠ 1) (fun k => (k7.cells.2.1 _ k (lt_of_cell HK0.out)).trans (HKZ.out k)))
          have HFN := Lib.hid (show Fr w4 (w'.setCell ⟨cb, 0, none⟩ (.slice (some ⟨g, 0, none⟩) (j + 1) cap)) from Fr.set (Fr.grown (HF.out.call k7) hg2.2.1 (fun k e => by
            have hcb := HCB.out
            rcases Nat.lt_or_ge k w4.heap.size with h | h
            · exact absurd e (hne k (by omega))
            · exact h)) (by have hcb := HCB.out; simp only; omega) _)
          have HZN := Lib.hid (show cb + 1 ≤ (w'.setCell ⟨cb, 0, none⟩ (.slice (some ⟨g, 0, none⟩) (j + 1) cap)).heap.size by have := hg2.2.1.size; simp; omega)
          clear hpart hne hg hg2 hv hf2 k7
          go_wp2
          go_roundw
          case rel =>
            subst hj9
            have hl : (css ++ [[Value.bool (sgC kind), .int .i64 bits, .int .i64 shift, .int .i64 plus, .slice A8 ex.length c8]]).length = css.length + 1 := by simp
            exact ⟨css ++ [[.bool (sgC kind), .int .i64 bits, .int .i64 shift, .int .i64 plus, .slice A8 ex.length c8]], some ⟨g, 0, none⟩, cap, by rw [hl]; omega, by rw [hl]; go_num, HFN.out, by rw [hl]; exact HCL.out.1, HCL.out.2.1, HCL.out.2.2, by rw [hl, ← HTK.out]; exact HN.out, HZN.out⟩
          case measure => simp [intOf]; omega
      · obtain rfl : j = D.cls.length := by omega
        have hD1 := GRow.done (f := ClcAt) HG.out (fun w'' b o cs x hF hc => by
          obtain ⟨A, n, rfl, hr⟩ := hF
          exact ⟨A, n, hc, hr⟩)
        rw [HJ.out, List.take_length] at hD1
        obtain ⟨CA, c5, hsv, hrow⟩ := hD1
        injection hsv with e1 e2 e3
        subst e1 e3
        have HROW := Lib.hid hrow
        have d6 := HDV.out.fr (HF4.out.call HF.out) 6 _ rfl
        have zd := lt_of_cell d6
        clear hrow hj e2
        go_wp2_with fail
        clear d6 zd
        generalize wr = Wb at *
        go_loopw [42] (fun i w' => RelN2 D w4 Wb cb O oc i w') (fun i _ => D.fms.length - (intOf i).toNat)
        case atStart =>
          exact ⟨[], none, 0, Nat.zero_le _, rfl, HF.out, HK0.out, HK1.out, HKZ.out, GRow.nil _, Nat.le_refl _, fun b _ _ => rfl⟩
        case round =>
          obtain ⟨css2, O2, oc2, hj2, rfl, hf2, q0, q1, qz, hG2, hsz2, hkeep⟩ := hrel
          have HF2 := Lib.hid hf2
          have HQ0 := Lib.hid q0
          have HQ1 := Lib.hid q1
          have HQZ := Lib.hid qz
          have HG2 := Lib.hid hG2
          have HSZ2 := Lib.hid hsz2
          have HKP := Lib.hid hkeep
          have hcbW : cb < Wb.heap.size := by have := HSZ.out; omega
          clear hf2 q0 q1 qz hG2 hsz2 hkeep
          obtain ⟨j2, hj20⟩ : ∃ j, css2.length = j := ⟨_, rfl⟩
          have HJ2 := Lib.hid hj20
          rw [hj20] at hj2 HQ1
          simp only [hj20]
          clear hj20
          by_cases hlt : j2 < D.fms.length
          · have hji : (j2 : Int) < (D.fms.length : Int) := by omega
            have HTK := Lib.hid (show (D.fms.map (cfD D)).take j2 ++ [cfD D D.fms[j2]] = (D.fms.map (cfD D)).take (j2 + 1) by
              have h := take_one (l := D.fms.map (cfD D)) (j := j2) (by simpa using hlt)
              rwa [List.getElem_map] at h)
            have HLC := Lib.hid (show ∀ w1, Fr w w1 → Calls Tryz.prog 30 #[.agg #[.string s0, .int .i64 D.order, .slice Fa D.files.length fc, .slice Ba D.als.length bc, .slice Ga D.nflags gc, .slice Ca D.cls.length cc, .slice Ma D.fms.length mc, .slice Ra D.rels.length rc, .slice Ua D.uses.length uc, .slice Xa D.rxs.length xc, .slice Ka D.mcs.length kc, .slice Na nl nc, .slice Pa D.regs.length pc], .int .i64 (j2 : Int)] w1 fun e w' => ∃ O oc, e = .returned (.agg (cfV (cfD D D.fms[j2]) O (cfD D D.fms[j2]).ops.length oc).toArray) ∧ Fr w1 w' ∧ ∀ w'' : World, (∀ b, w1.heap.size ≤ b → b < w'.heap.size → w''.heap[b]? = w'.heap[b]?) → RowOf OcRd 2 w'' O (cfD D D.fms[j2]).ops from
              fun w1 k => (HLY.out w1 k j2 hlt (HPAT.out _ (List.getElem_mem hlt))).mono fun e w' h => by
                obtain ⟨O, oc, h1, h2, _, h3⟩ := h
                exact ⟨O, oc, h1, h2, h3⟩)
            generalize cfD D D.fms[j2] = T at *
            have hl512 := HLEN.out.2.1
            go_wp2
            have hj9 := HJ2.out
            have hg := HG2.out
            have hsz9 := HSZ2.out
            refine cnew13 _ _ _ _ _ _ _ _ _ _ _ _ _ _ _ _ _ _ _ _ _ _ _ _ _ _ _ _ _ _ _ _ _ _ _ _ _ _ _ _ _ _ _ _ _ _ _ _ _ _ _ _ _ _ _ _ _ cb m0 j2 s0 D.order Fa Ba Ga Ca Ma Ra Ua Xa Ka Na Pa D.files.length fc D.als.length bc D.nflags gc D.cls.length cc D.fms.length mc D.rels.length rc D.uses.length uc D.rxs.length xc D.mcs.length kc nl nc D.regs.length pc T O2 j2 oc2 HQ1.out (HDV.out.fr (HF4.out.call HF2.out)) Wb.heap.size css2.flatten ?own (by omega) (by omega) ?nk ?base ?frz ?call_ ?end_
            case own => subst hj9; exact hg.row
            case nk =>
              intro e
              have := (World.ownsRow.lt hg.row m0 (by subst hj9; exact e)).1
              have := lt_of_cell (HDV.out 0 _ rfl)
              have := HF4.out.size
              have := HCB.out
              omega
            case base => omega
            case frz => exact HQZ.out 1
            case call_ => exact fun w1 k1 => HLC.out w1 ((HF1.out.call (HF4.out.call HF2.out)).call k1)
            case end_ =>
              intro g cap w2 w9 A8 c8 x45 x46 x47 x48 x49 x50 x51 x52 x53 x54 x55 x56 hf2 hv hg2
              have k7 := hf2.alloc (.cells (cfV T A8 T.ops.length c8).toArray 95)
              have hz2 : w2.heap.size ≤ (w2.alloc (.cells (cfV T A8 T.ops.length c8).toArray 95)).heap.size := by simp
              have hzz := hf2.size
              have hz4 : (w2.alloc (.cells (cfV T A8 T.ops.length c8).toArray 95)).heap.size ≤ w9.heap.size := hg2.2.1.size
              have hpart : PartK CfF Wb.heap.size (w2.alloc (.cells (cfV T A8 T.ops.length c8).toArray 95)) (.slice O2 j2 oc2) (cfV T A8 T.ops.length c8) T := by
                refine ⟨wr.heap.size, w2.heap.size, by omega, hz2, fun g0 hg0 => .inl ?_, fun w'' hk => ⟨A8, c8, rfl, hv w'' fun b hb1 hb2 => (hk b hb1 hb2).trans (heap_alloc_old w2 _ hb2)⟩⟩
                exact (World.ownsRow.lt hg.row g0 (by subst hj9; exact hg0)).2
              have HN := Lib.hid (GRow.next (lb := cb) (o := 1) hg k7 rfl (by subst hj9; exact hpart) (by subst hj9; exact hg2) hcbW)
              have hne : ∀ b, b < Wb.heap.size → (Value.slice O2 j2 oc2).ownBlock ≠ some b := fun b hb e => by
                subst hj9
                have := (World.ownsRow.lt hg.row b e).1
                omega
              have HCL := Lib.hid (new_cells (base := 0) (sv' := .slice (some ⟨g, 0, none⟩) (j2 + 1) cap) hg2.2.1 (hne cb hcbW) (k7.get HQ1.out) (k7.get HQ0.out) (by decide : (1 : Nat) ≠ 0) (fun k => (k7.cells.2.1 _ k (lt_of_cell HQ1.out)).trans (HQZ.out k)))
              have HFN := Lib.hid (show Fr w4 (w9.setCell ⟨cb, 1, none⟩ (.slice (some ⟨g, 0, none⟩) (j2 + 1) cap)) from Fr.set (Fr.grown (HF2.out.call k7) hg2.2.1 (fun k e => by
                have hcb := HCB.out
                rcases Nat.lt_or_ge k w4.heap.size with h | h
                · exact absurd e (hne k (by omega))
                · exact h)) (by have hcb := HCB.out; simp only; omega) _)
              have HZN := Lib.hid (show Wb.heap.size ≤ (w9.setCell ⟨cb, 1, none⟩ (.slice (some ⟨g, 0, none⟩) (j2 + 1) cap)).heap.size by simp; omega)
              have HKN := Lib.hid (show ∀ b, cb < b → b < Wb.heap.size → (w9.setCell ⟨cb, 1, none⟩ (.slice (some ⟨g, 0, none⟩) (j2 + 1) cap)).heap[b]? = Wb.heap[b]? from fun b hb1 hb2 =>
                (Below.heap_setCell w9 ⟨cb, 1, none⟩ _ b (by simp only; omega)).trans ((World.grownBy.block hg2.2.1 b (Nat.lt_of_lt_of_le (Nat.lt_of_lt_of_le hb2 (Nat.le_trans hsz9 (Nat.le_trans hzz hz2))) (Nat.le_refl _)) (fun e => hne b hb2 e.symm)).trans ((Below.block k7 b (by omega)).trans (HKP.out b hb1 hb2))))
              clear hpart hne hg hg2 hv hf2 k7
              go_wp2
              go_roundw
              case rel =>
                subst hj9
                have hl : (css2 ++ [cfV T A8 T.ops.length c8]).length = css2.length + 1 := by simp
                exact ⟨css2 ++ [cfV T A8 T.ops.length c8], some ⟨g, 0, none⟩, cap, by rw [hl]; omega, by rw [hl]; go_num, HFN.out, HCL.out.2.1, by rw [hl]; exact HCL.out.1, HCL.out.2.2, by rw [hl, ← HTK.out]; exact HN.out, HZN.out, HKN.out⟩
              case measure => simp [intOf]; omega
          · obtain rfl : j2 = D.fms.length := by omega
            have hD2 := GRow.done (f := CfRd) HG2.out (fun w'' b o cs x hF hc => by
              obtain ⟨A, n, rfl, hr⟩ := hF
              exact ⟨A, n, hc, hr⟩)
            rw [HJ2.out, List.take_of_length_le (by simp)] at hD2
            obtain ⟨FA, c6, hsv2, hrow2⟩ := hD2
            injection hsv2 with e1 e2 e3
            subst e1 e3
            have HCO := Lib.hid (show CodecAt wr cb D from ⟨O, O2, oc, oc2, fun i v hv => (by
              match i, hv with
              | 0, hv => obtain rfl := Option.some.inj hv; exact HQ0.out
              | 1, hv => obtain rfl := Option.some.inj hv; exact HQ1.out), HROW.out _ (fun b h1 h2 => HKP.out b (by omega) h2), hrow2 _ (fun b _ _ => rfl)⟩)
            clear hrow2 hj2 e2
            go_wp2
            go_ret2
            exact HNP.out _ _ ⟨.inr ⟨by trivial, cb, rfl, HCO.out⟩, HF1.out.call (HF4.out.call HF2.out)⟩
  · have h0n : (c2 != 0) = true := bne_iff_ne.2 h0
    have h00 : ¬ c2 = 0 := h0
    clear h0
    go_wp2
    go_ret2
    exact HNP.out _ _ ⟨.inl ⟨h00, rfl⟩, HF1.out.call HF4.out⟩
end Go.Proofs.YtdipnhghdajplaaGreatDoor
namespace Go.Proofs.YtdipnhghdajplaaGreatDoor
open Go.RowKit
set_option linter.unusedSimpArgs false
set_option linter.unusedVariables false

theorem rowInt {w : World} {A : Option Addr} {l : List Int} (h : RowOf IntAt 1 w A l) : RowOf IntC 1 w A l := fun hl => by
  obtain ⟨b, o, e, hx⟩ := h hl; exact ⟨b, o, e, fun i hi => (hx i hi).2⟩
/-- Is the class a place, and has it the value? -/
def hasAt (D : Ds) (k v : Int) : Bool := if 0 ≤ k then (match D.cls[k.toNat]? with | some c => hasI c v | none => false) else false
theorem hasAt_in {D : Ds} {n : Nat} (hn : n < D.cls.length) (v : Int) : hasAt D (n : Int) v = hasI D.cls[n] v := by
  unfold hasAt
  rw [if_pos (by omega), Int.toNat_natCast, List.getElem?_eq_getElem hn]
theorem hasAt_out {D : Ds} {k : Int} (h : ¬ (0 ≤ k ∧ k < (D.cls.length : Int))) (v : Int) : hasAt D k v = false := by
  unfold hasAt
  split
  · rw [List.getElem?_eq_none (by omega)]
  · rfl
set_option maxHeartbeats 6400000 in
set_option maxRecDepth 100000 in
theorem cHas_any {w : World} {p : Nat} {D : Ds} (hC : CodecAt w p D) (hR : ∀ c ∈ D.cls, clsB D c = true) (hX : ∀ c ∈ D.cls, c.ex.length ≤ 1048576) (k v : Int) (hv : I64 v) :
    Calls Tryz.prog 13 #[.pointer (some ⟨p, 0, none⟩), .int .i64 k, .int .i64 v] w fun e w' => e = .returned (.bool (hasAt D k v)) ∧ Fr w w' := by
  obtain ⟨CA, FA, cc, fc, hb, hc, hf⟩ := hC
  have q0 := hb 0 _ rfl
  have zq := lt_of_cell q0
  clear hf hb
  by_cases hk : 0 ≤ k ∧ k < (D.cls.length : Int)
  · obtain ⟨n, rfl⟩ : ∃ n : Nat, k = (n : Int) := ⟨k.toNat, by omega⟩
    have hn : n < D.cls.length := by omega
    rw [hasAt_in hn]
    have HPL := Lib.hid (fun (A : Option Addr) (w : World) => (show Calls Tryz.prog 35 #[.int .i64 (n : Int), .slice A D.cls.length cc] w fun e w' => e = .returned (.bool true) ∧ w' = w from by
      have h := cclassPlace_any (n : Int) A D.cls.length cc w
      have e : plB (n : Int) D.cls.length = true := by unfold plB; simp; omega
      rwa [e] at h))
    have hcl := hR _ (List.getElem_mem hn)
    have hxl := hX _ (List.getElem_mem hn)
    obtain ⟨bq, oq, rfl, hx⟩ := hc.at hn
    rw [Nat.mul_comm 5 n] at hx
    have hni : (n : Int) < (D.cls.length : Int) := by omega
    have hn0 : (0 : Int) ≤ (n : Int) := by omega
    generalize D.cls[n] = c at *
    obtain ⟨A, m, hcell, hrow⟩ := hx
    have hbits : I64 c.bits := by
      rcases cls_right hcl with h | ⟨_, _, b, s, h, _⟩ | ⟨_, _, _, b, s, h, _⟩ <;> (constructor <;> omega)
    have hsh : 0 ≤ c.shift ∧ c.shift < 64 := by
      rcases cls_right hcl with h | ⟨_, _, b, s, h1, h2, h3, h4⟩ | ⟨_, _, _, b, s, h1, h2, h3, h4⟩ <;> omega
    have HH := Lib.hid (show Calls Tryz.prog 36 #[.pointer (some ⟨bq, oq + n * 5, none⟩), .int .i64 v] w fun e w' => e = .returned (.bool (hasI c v)) ∧ Fr w w' from by
      rw [← chas_right hcl hv]
      exact chas_any bq (oq + n * 5) m (sgC c.kind) c.bits c.shift c.plus v hbits hsh.1 hsh.2 (hcell 0 _ rfl) (hcell 1 _ rfl) (hcell 2 _ rfl) (hcell 3 _ rfl) (hcell 4 _ rfl) hrow (Nat.le_trans hxl (by decide)))
    clear hcell hrow hcl hc hbits hsh
    go_enter Tryz.func13, Tryz.ntmps13
    go_wp2_with fail
    refine (HPL.out _ _).mono ?_
    rintro e w1 ⟨rfl, rfl⟩
    go_wp2_with fail
    refine HH.out.mono ?_
    rintro e w2 ⟨rfl, hf2⟩
    go_wp2
    go_ret
    exact ⟨rfl, hf2⟩
  · rw [hasAt_out hk]
    have HPL := Lib.hid (fun (w : World) => (show Calls Tryz.prog 35 #[.int .i64 k, .slice CA D.cls.length cc] w fun e w' => e = .returned (.bool false) ∧ w' = w from by
      have h := cclassPlace_any k CA D.cls.length cc w
      have e : plB k D.cls.length = false := by unfold plB; simp; omega
      rwa [e] at h))
    clear hk hc
    go_enter Tryz.func13, Tryz.ntmps13
    go_wp2_with fail
    refine (HPL.out _).mono ?_
    rintro e w1 ⟨rfl, rfl⟩
    go_wp2
    go_ret
    exact ⟨rfl, Fr.refl _⟩
set_option maxHeartbeats 6400000 in
set_option maxRecDepth 100000 in
theorem values_walk {w : World} {D : Ds} {v : Array Value} (hD : DescAt w D v) (hS : D.Small) (hL : D.Light) (hX : ∀ c ∈ D.cls, c.ex.length ≤ 1048576) (k x : Int) (hx : I64 x)
    (alive : ∀ w : World, Calls Tryz.prog 10 #[] w fun e w' => e = .returned (.bool true) ∧ Fr w w') :
    Calls Tryz.prog 6 #[.agg v, .int .i64 k, .int .i64 x] w fun e w' => e = .returned (.bool true) ∧ Fr w w' := by
  have HAL := Lib.hid alive
  have HNW := Lib.hid (fun (w1 : World) (k : Fr w w1) => new_any (hD.fr k) hS hL hX)
  have HXL := Lib.hid hX
  have HXI := Lib.hid hx
  obtain ⟨s0, Fa, Ba, Ga, Ca, Ma, Ra, Ua, Xa, Ka, Na, Pa, fc, bc, gc, cc, mc, rc, uc, xc, kc, nl, nc, pc, rfl, h1, h2, h3, h4, h5, h6, h7, h8, h9⟩ := hD
  have HC := Lib.hid h3
  have HDV := Lib.hid (show BlkAt (w.alloc (.cells #[.string s0, .int .i64 D.order, .slice Fa D.files.length fc, .slice Ba D.als.length bc, .slice Ga D.nflags gc, .slice Ca D.cls.length cc, .slice Ma D.fms.length mc, .slice Ra D.rels.length rc, .slice Ua D.uses.length uc, .slice Xa D.rxs.length xc, .slice Ka D.mcs.length kc, .slice Na nl nc, .slice Pa D.regs.length pc] 33)) w.heap.size [.string s0, .int .i64 D.order, .slice Fa D.files.length fc, .slice Ba D.als.length bc, .slice Ga D.nflags gc, .slice Ca D.cls.length cc, .slice Ma D.fms.length mc, .slice Ra D.rels.length rc, .slice Ua D.uses.length uc, .slice Xa D.rxs.length xc, .slice Ka D.mcs.length kc, .slice Na nl nc, .slice Pa D.regs.length pc] from BlkAt.alloc)
  have HF1 := Lib.hid (show Fr w (w.alloc (.cells #[.string s0, .int .i64 D.order, .slice Fa D.files.length fc, .slice Ba D.als.length bc, .slice Ga D.nflags gc, .slice Ca D.cls.length cc, .slice Ma D.fms.length mc, .slice Ra D.rels.length rc, .slice Ua D.uses.length uc, .slice Xa D.rxs.length xc, .slice Ka D.mcs.length kc, .slice Na nl nc, .slice Pa D.regs.length pc] 33)) from Fr.alloc (Fr.refl w) _)
  clear h1 h2 h3 h4 h5 h6 h7 h8 h9 hL hS hX hx alive
  go_enter Tryz.func6, Tryz.ntmps6
  go_wp2_with fail
  generalize World.alloc w _ = W1 at *
  refine (HAL.out _).mono ?_
  rintro e w3 ⟨rfl, hf3⟩
  have HF3 := Lib.hid hf3
  have d0 := (HDV.out.fr HF3.out) 0 _ rfl; have d1 := (HDV.out.fr HF3.out) 1 _ rfl; have d2 := (HDV.out.fr HF3.out) 2 _ rfl; have d3 := (HDV.out.fr HF3.out) 3 _ rfl; have d4 := (HDV.out.fr HF3.out) 4 _ rfl; have d5 := (HDV.out.fr HF3.out) 5 _ rfl; have d6 := (HDV.out.fr HF3.out) 6 _ rfl; have d7 := (HDV.out.fr HF3.out) 7 _ rfl; have d8 := (HDV.out.fr HF3.out) 8 _ rfl; have d9 := (HDV.out.fr HF3.out) 9 _ rfl; have d10 := (HDV.out.fr HF3.out) 10 _ rfl; have d11 := (HDV.out.fr HF3.out) 11 _ rfl; have d12 := (HDV.out.fr HF3.out) 12 _ rfl; have zd := lt_of_cell d0
  clear hf3
  go_wp2_with fail
  refine (HNW.out _ (HF1.out.call HF3.out)).mono ?_
  rintro e w4 ⟨hnew, hf4⟩
  have HF4 := Lib.hid (HF3.out.call hf4)
  clear hf4 d0 d1 d2 d3 d4 d5 d6 d7 d8 d9 d10 d11 d12 zd
  rcases hnew with ⟨hne, rfl⟩ | ⟨h0, pb, rfl, hco⟩
  · generalize (chkN D).2 = c2 at *
    have h0n : (c2 != 0) = true := bne_iff_ne.2 hne
    go_wp2
    go_ret
    exact ⟨rfl, HF1.out.call HF4.out⟩
  · have HCL := Lib.hid (chk_lens h0)
    have HHA := Lib.hid (fun (w1 : World) (k1 : Fr w4 w1) => cHas_any (hco.fr k1) HCL.out.2.2 HXL.out k x HXI.out)
    clear hco h0
    have d5 := (HDV.out.fr HF4.out) 5 _ rfl
    have zd := lt_of_cell d5
    by_cases hk : 0 ≤ k ∧ k < (D.cls.length : Int)
    · obtain ⟨n, rfl⟩ : ∃ n : Nat, k = (n : Int) := ⟨k.toNat, by omega⟩
      have hn : n < D.cls.length := by omega
      rw [hasAt_in hn] at HHA
      have hni : (n : Int) < (D.cls.length : Int) := by omega
      have hn0 : (0 : Int) ≤ (n : Int) := by omega
      have HRC := Lib.hid (HCL.out.2.2 _ (List.getElem_mem hn))
      have HXC := Lib.hid (HXL.out _ (List.getElem_mem hn))
      obtain ⟨bq, oq, rfl, hx⟩ := (HC.out.fr fun _ _ _ x => x.fr (HF1.out.call HF4.out)).at hn
      rw [Nat.mul_comm 7 n] at hx
      generalize D.cls[n] = c at *
      obtain ⟨n0, E, ec, y0, r1, y1, r2, y2, r3, y3, r4, y4, r5, y5, r6, r7, y6, hex⟩ := hx
      have HEX := Lib.hid hex
      clear hex r1 r2 r3 r4 r5 r6 r7 hk
      go_wp2_with fail
      generalize w.heap.size = m0 at *
      have HSF := Lib.hid (fun (wx : World) (k : Fr w4 wx) => (⟨k.get d5, k.get y0, k.get y1, k.get y2, k.get y3, k.get y4, k.get y5, k.get y6⟩ : wx.cell? ⟨m0, 5, none⟩ = some (.slice (some ⟨bq, oq, none⟩) D.cls.length cc) ∧ wx.cell? ⟨bq, oq + n * 7, none⟩ = some (.string n0) ∧ wx.cell? ⟨bq, oq + n * 7 + 1, none⟩ = some (.int .i64 c.kind) ∧ wx.cell? ⟨bq, oq + n * 7 + 2, none⟩ = some (.int .i64 c.file) ∧ wx.cell? ⟨bq, oq + n * 7 + 3, none⟩ = some (.int .i64 c.bits) ∧ wx.cell? ⟨bq, oq + n * 7 + 4, none⟩ = some (.int .i64 c.shift) ∧ wx.cell? ⟨bq, oq + n * 7 + 5, none⟩ = some (.int .i64 c.plus) ∧ wx.cell? ⟨bq, oq + n * 7 + 6, none⟩ = some (.slice E c.ex.length ec)))
      have HRH := Lib.hid (fun (w1 : World) (k1 : Fr w4 w1) => rhas_any c HRC.out n0 E ec ((rowInt HEX.out).fr fun _ _ _ x => IntC.fr x k1) (Nat.le_trans HXC.out (by decide)) x HXI.out)
      go_region_held3 (fun wx => wx.cell? ⟨m0, 5, none⟩ = some (.slice (some ⟨bq, oq, none⟩) D.cls.length cc) ∧ wx.cell? ⟨bq, oq + n * 7, none⟩ = some (.string n0) ∧ wx.cell? ⟨bq, oq + n * 7 + 1, none⟩ = some (.int .i64 c.kind) ∧ wx.cell? ⟨bq, oq + n * 7 + 2, none⟩ = some (.int .i64 c.file) ∧ wx.cell? ⟨bq, oq + n * 7 + 3, none⟩ = some (.int .i64 c.bits) ∧ wx.cell? ⟨bq, oq + n * 7 + 4, none⟩ = some (.int .i64 c.shift) ∧ wx.cell? ⟨bq, oq + n * 7 + 5, none⟩ = some (.int .i64 c.plus) ∧ wx.cell? ⟨bq, oq + n * 7 + 6, none⟩ = some (.slice E c.ex.length ec)) (first | exact HSF.out _ (Fr.refl _) | exact HSF.out _ (Fr.drew (Fr.refl _)) | exact HSF.out _ HF5.out | exact HSF.out _ HF6.out) (first
        | (go_at_call 13; refine (HHA.out _ (by first | exact Fr.refl _ | exact Fr.drew (Fr.refl _))).mono ?_; rintro e w5 ⟨rfl, hf5⟩; have HF5 := Lib.hid (show Fr w4 w5 by first | exact hf5 | exact Fr.call (Fr.drew (Fr.refl _)) hf5); clear hf5)
        | (go_at_call 17; refine (HRH.out _ HF5.out).mono ?_; rintro e w6 ⟨rfl, hf6⟩; have HF6 := Lib.hid (HF5.out.call hf6); clear hf6))
      generalize hasI c x = y at *
      go_wp2
      go_ret
      exact ⟨ret_bool (by simp), (HF1.out.call HF4.out).call HF6.out⟩
    · have hlt : ¬ (k < 0) → (D.cls.length : Int) ≤ k := fun h => by omega
      rw [hasAt_out hk] at HHA
      clear hk
      by_cases hk0 : k < 0
      · go_wp2_with fail
        refine (HHA.out _ (Fr.refl _)).mono ?_
        rintro e w5 ⟨rfl, hf5⟩
        go_wp2
        go_ret
        exact ⟨rfl, (HF1.out.call HF4.out).call hf5⟩
      · have hk1 := hlt hk0
        clear hlt
        go_wp2_with fail
        refine (HHA.out _ (Fr.refl _)).mono ?_
        rintro e w5 ⟨rfl, hf5⟩
        go_wp2
        go_ret
        exact ⟨rfl, (HF1.out.call HF4.out).call hf5⟩
end Go.Proofs.YtdipnhghdajplaaGreatDoor
