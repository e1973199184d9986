/- The reference's Written: a form's bits as they are written. -/
import Derived.Test.YtgldfokjnkmifaaGreatDoorP32
import Derived.Laws.IdiomCopy
import Derived.Test.YtgldfokjnkmifaaGreatDoorP34
namespace Go.Proofs.YtgldfokjnkmifaaGreatDoor
open Go.RowKit
set_option linter.unusedSimpArgs false
set_option linter.unusedVariables false

def btC (x : Bt) : List Value := [.int .u8 (x.lit : Int), .int .i64 x.arg, .int .i64 x.num]
def flatB (l : List Bt) : List Value := l.flatMap btC
theorem flatB_snoc (l : List Bt) (x : Bt) : flatB (l ++ [x]) = flatB l ++ btC x := by simp [flatB]
theorem Tryz.infoBt : (Tryz.prog.info? 107).map (fun i => (i.zero, i.size, i.bytes)) = some (some (.agg #[.int .u8 0, .int .i64 0, .int .i64 0]), 3, 24) := by kernel_rfl
def RelW2 (D : Ds) (args : List Int) (pcs : List Pc) (W2 : World) (i ov : Value) (wr : World) : Prop := ∃ (j : Nat) (l : List Bt) (vv : Value), j ≤ pcs.length ∧ i = .int .i64 (j : Int) ∧ vv = ov ∧ l ++ wL D args (pcs.drop j) = wL D args pcs ∧ Fr W2 wr ∧ wr.ownsRow W2.heap.size 107 3 vv l.length (flatB l)
/-- Within a piece: c of its bits are left. -/
structure WIn (W2 : World) (T R : List Bt) (p : Pc) (pb : Nat) (pv : List Value) (c : Nat) (l : List Bt) (vv : Value) (wr : World) : Prop where
  eq : l ++ (wP p c ++ R) = T
  fr : Fr W2 wr
  own : wr.ownsRow W2.heap.size 107 3 vv l.length (flatB l)
  ne : vv.ownBlock ≠ some pb
  box : BlkAt wr pb pv
  lt : pb < wr.heap.size
def RelWI (enc : Nat → Int) (W2 : World) (T R : List Bt) (p : Pc) (pb : Nat) (pv : List Value) (N : Nat) (iv ov : Value) (wr : World) : Prop := ∃ (c : Nat) (l : List Bt) (vv : Value) (z : Int), c ≤ N ∧ z = enc c ∧ iv = .int .i64 z ∧ vv = ov ∧ WIn W2 T R p pb pv c l vv wr
theorem WIn.next {W2 : World} {T R : List Bt} {p : Pc} {pb : Nat} {pv : List Value} {c : Nat} {l : List Bt} {vv v' : Value} {wr w' : World} {cs : List Value} (h : WIn W2 T R p pb pv (c + 1) l vv wr) (hcs : cs = btC (wbit p c)) (o : Obj) (hg : GrewK (wr.alloc o) W2.heap.size 107 3 vv (l.length + 1) (flatB l ++ cs) v' w') :
    WIn W2 T R p pb pv c (l ++ [wbit p c]) v' w' := by
  have k := Fr.alloc (Fr.refl wr) o
  have hs := k.size
  refine ⟨by rw [← h.eq, wP]; simp, ?_, by rw [flatB_snoc, ← hcs]; simpa using hg.1, ?_, fun i v hv => ?_, Nat.lt_of_lt_of_le h.lt (Nat.le_trans hs hg.2.1.size)⟩
  · exact Fr.grown (h.fr.call k) hg.2.1 fun b e => (World.ownsRow.lt h.own b e).1
  · rcases hg.2.2 with e | e
    · rw [e]; exact h.ne
    · rw [e]; intro e2; injection e2 with e2; have := h.lt; omega
  · exact (cell_of_heap (World.grownBy.block hg.2.1 pb (Nat.lt_of_lt_of_le h.lt hs) (fun e => h.ne e.symm))).trans (k.get (h.box i v hv))
theorem WIn.len {W2 : World} {T R : List Bt} {p : Pc} {pb : Nat} {pv : List Value} {c : Nat} {l : List Bt} {vv : Value} {wr : World} (h : WIn W2 T R p pb pv c l vv wr) : l.length ≤ T.length := by
  rw [← h.eq]; simp
def RelW1 (W3 : World) (args : List Int) (i : Value) (wr : World) : Prop := ∃ j : Nat, j ≤ args.length ∧ i = .int .i64 (j : Int) ∧ Fr W3 wr
/-- Counts: numbers in a block. -/
def CntAt (b : Nat) (w : World) : Prop := ∀ c, c < 384 → (∃ x : Int, w.cell? ⟨b, c, none⟩ = some (.int .i64 x)) ∧ w.frozen? ⟨b, c, none⟩ = false
theorem CntAt.set {b i : Nat} {w : World} {x : Int} (h : CntAt b w) : CntAt b (w.setCell ⟨b, i, none⟩ (.int .i64 x)) := fun c hc => by
  obtain ⟨⟨y, hy⟩, hf⟩ := h c hc
  refine ⟨?_, by rw [World.frozen?_setCell]; exact hf⟩
  by_cases e : i = c
  · subst e; exact ⟨x, World.cell?_setCell_same _ _ _ hy⟩
  · exact ⟨y, by rw [World.cell?_setCell_other _ _ _ _ (by intro e2; injection e2 with _ e3; exact e e3)]; exact hy⟩
theorem CntAt.sets {b : Nat} : ∀ (vs : List Value) (o : Nat) (w : World), (∀ v ∈ vs, ∃ x, v = .int .i64 x) → CntAt b w → CntAt b (w.setCells b o vs)
  | [], _, _, _, h => h
  | v :: r, o, w, hv, h => by
    obtain ⟨x, rfl⟩ := hv v (by simp)
    rw [World.setCells]
    exact CntAt.sets r (o + 1) _ (fun u hu => hv u (by simp [hu])) h.set
theorem sets_below {b : Nat} : ∀ (vs : List Value) (o : Nat) (w : World), Below b w (w.setCells b o vs)
  | [], _, w => Below.refl _ w
  | v :: r, o, w => by
    rw [World.setCells]
    exact Below.trans (Below.setCell (Below.refl b w) (Nat.le_refl b) v) (sets_below r (o + 1) _)
theorem CntAt.fr {b : Nat} {w w' : World} (h : CntAt b w) (k : Fr w w') : CntAt b w' := fun c hc => by
  obtain ⟨⟨y, hy⟩, hf⟩ := h c hc
  exact ⟨⟨y, k.get hy⟩, k.free hy hf⟩
theorem Tryz.zc : Tryz.zeroCells273 = Array.replicate 384 (.int .i64 0) := by kernel_rfl
/-- The counts are made. -/
theorem counts_made (w : World) : ∃ w', (storeCells ⟨w.heap.size, 0, none⟩ Tryz.zeroCells273.toList).run Tryz.prog (w.alloc (.cells Tryz.zeroCells273 273)) = .ok () w' ∧ Fr w w' ∧ CntAt w.heap.size w' ∧ w.heap.size < w'.heap.size := by
  obtain ⟨N, hN, hz⟩ : ∃ N, N = 384 ∧ Tryz.zeroCells273 = Array.replicate N (.int .i64 0) := ⟨384, rfl, Tryz.zc⟩
  generalize Tryz.zeroCells273 = zs at *
  have hb := BlkAt.alloc (w := w) (t := 273) (cs := zs)
  have hl : zs.toList.length = N := by subst hz; simp
  have hi : ∀ v ∈ zs.toList, v = .int .i64 0 := fun v hv => by subst hz; exact List.eq_of_mem_replicate (by simpa using hv)
  have hc : ∀ j, j < N → (w.alloc (.cells zs 273)).cell? ⟨w.heap.size, j, none⟩ = some (.int .i64 0) := fun j hj => hb j _ (by
    have hj2 : j < zs.toList.length := by omega
    rw [List.getElem?_eq_getElem hj2, hi _ (List.getElem_mem hj2)])
  have hf : ∀ j, (w.alloc (.cells zs 273)).frozen? ⟨w.heap.size, j, none⟩ = false := fun j => World.frozen?_alloc_at _ _ _ _ rfl
  clear hz
  refine ⟨_, run_storeCells_cells w.heap.size 0 zs.toList 0 _ (fun j hj => by have h1 := hc j (by omega); simp only [Nat.zero_add]; rw [h1]; rfl) (fun j hj => hf _) (fun v hv => by rw [hi v hv]; rfl), ?_, ?_, ?_⟩
  · exact Below.trans (Fr.alloc (Fr.refl w) (.cells zs 273)) (sets_below (b := w.heap.size) zs.toList (0 + 0) (w.alloc (.cells zs 273)))
  · exact CntAt.sets _ _ _ (fun v hv => ⟨0, hi v hv⟩) fun c hc' => ⟨⟨0, hc c (by omega)⟩, hf c⟩
  · have := (sets_below (b := w.heap.size) zs.toList (0 + 0) (w.alloc (.cells zs 273))).size
    simp at this; simp; omega
def BtAt (w : World) (b o : Nat) (x : Bt) : Prop := w.cell? ⟨b, o, none⟩ = some (.int .u8 (x.lit : Int)) ∧ w.cell? ⟨b, o + 1, none⟩ = some (.int .i64 x.arg) ∧ w.cell? ⟨b, o + 2, none⟩ = some (.int .i64 x.num)
theorem flatB_get : ∀ (l : List Bt) (i : Nat) (o : Bt) (k : Nat) (v : Value), l[i]? = some o → (btC o)[k]? = some v → (flatB l)[i * 3 + k]? = some v
  | [], i, o, k, v, h, _ => by simp at h
  | a :: r, 0, o, k, v, h, hk => by
    obtain rfl : a = o := by simpa using h
    have : k < (btC a).length := (List.getElem?_eq_some_iff.1 hk).1
    simp only [flatB, List.flatMap_cons, Nat.zero_mul, Nat.zero_add]
    rw [List.getElem?_append_left this]; exact hk
  | a :: r, i + 1, o, k, v, h, hk => by
    have hl : (btC a).length = 3 := rfl
    simp only [flatB, List.flatMap_cons]
    rw [List.getElem?_append_right (by rw [hl]; omega), hl, show (i + 1) * 3 + k - 3 = i * 3 + k by omega]
    exact flatB_get r i o k v (by simpa using h) hk
theorem rowB {w w' : World} {base og oc : Nat} {l : List Bt} (h : w.ownsRow base 107 3 (.slice (some ⟨og, 0, none⟩) l.length oc) l.length (flatB l)) (k : Fr w w') : RowOf BtAt 3 w' (some ⟨og, 0, none⟩) l := by
  intro hl
  rcases h.2 with ⟨_, hz⟩ | ⟨g, cap', cur, e, hb, hg, _, _, hs, ht⟩
  · omega
  · injection e with e e4 e5
    injection e with e; injection e with e e6; subst e
    refine ⟨og, 0, rfl, fun i hi => ?_⟩
    have hc : ∀ m v, (btC l[i])[m]? = some v → w'.cell? ⟨og, i * 3 + m, none⟩ = some v := fun m v hv => by
      have h1 := flatB_get l i l[i] m v (List.getElem?_eq_getElem hi) hv
      rw [← ht] at h1
      have h2 : i * 3 + m < l.length * 3 := by
        rcases Nat.lt_or_ge (i * 3 + m) (l.length * 3) with h3 | h3
        · exact h3
        · rw [List.getElem?_eq_none (by rw [List.length_take]; omega)] at h1; cases h1
      rw [List.getElem?_take_of_lt h2] at h1
      refine k.get ?_
      simp [World.cell?, hg]
      simpa using h1
    rw [Nat.zero_add, Nat.mul_comm 3 i]
    exact ⟨hc 0 _ rfl, hc 1 _ rfl, hc 2 _ rfl⟩
theorem rowB_at {w : World} {og : Nat} {T : List Bt} (h : RowOf BtAt 3 w (some ⟨og, 0, none⟩) T) {j : Nat} (hj : j < T.length) : w.cell? ⟨og, j * 3, none⟩ = some (.int .u8 ((T[j]).lit : Int)) ∧ w.cell? ⟨og, j * 3 + 1, none⟩ = some (.int .i64 (T[j]).arg) ∧ w.cell? ⟨og, j * 3 + 2, none⟩ = some (.int .i64 (T[j]).num) := by
  obtain ⟨b, o, e, hx⟩ := h.at hj
  injection e with e; injection e with e1 e2; subst e1 e2
  rw [Nat.zero_add, Nat.mul_comm 3 j] at hx
  exact hx
def RelW3 (T : List Bt) (cb : Nat) (w10 : World) (i : Value) (wr : World) : Prop := ∃ j : Nat, j ≤ T.length ∧ i = .int .i64 (j : Int) ∧ Below cb w10 wr ∧ CntAt cb wr
theorem BtAt.fr {w w' : World} {b o : Nat} {x : Bt} (h : BtAt w b o x) (k : Fr w w') : BtAt w' b o x := ⟨k.get h.1, k.get h.2.1, k.get h.2.2⟩
def RelW5 (W : World) (bits : Int) (iv : Value) (wr : World) : Prop := ∃ m : Nat, iv = .int .i64 (m : Int) ∧ (m : Int) ≤ bits ∧ wr = W
theorem own_none {e : TypeId} {size B : Nat} (w : World) (n : Nat) (hn : n = w.heap.size) (hB : B ≤ w.heap.size) : (w.alloc (.cells #[] e)).ownsRow B e size (.slice (some ⟨n, 0, none⟩) 0 0) 0 [] := by
  subst hn
  exact World.ownsRow_made w #[] 0 hB (by decide) (by simp)
set_option maxHeartbeats 25600000 in
set_option maxRecDepth 100000 in
theorem written_any {w : World} {D : Ds} {v : Array Value} (hD : DescAt w D v) (fn fs : ByteArray) (Aa Bp Cs : Option Addr) (args : List Int) (pcs : List Pc) (ac bc2 cl cc2 : Nat) (hA : RowOf ArgS 2 w Aa args) (hP : RowOf PcAt 4 w Bp pcs) (hL : Light pcs) (hn : patN D args pcs ≠ 0) :
    Calls Tryz.prog 89 #[.agg v, .agg #[.string fn, .string fs, .slice Aa args.length ac, .slice Bp pcs.length bc2, .slice Cs cl cc2]] w fun e w' =>
      (e = .returned (.tuple #[.slice none 0 0, .bool false]) ∨ ∃ A c, e = .returned (.tuple #[.slice A (wL D args pcs).length c, .bool true]) ∧ RowOf BtAt 3 w' A (wL D args pcs)) ∧ Fr w w' := by
  have hop := (pat_sum hn).1
  have HSUM := Lib.hid (pat_sum hn)
  have HPN := Lib.hid hn
  have HD := Lib.hid hD
  have HPR := Lib.hid hP
  have HLT := Lib.hid hL
  have HON := Lib.hid (wL_once hn)
  unfold opsB at hop
  rw [Bool.and_eq_true] at hop
  have hall : args.all (clsAtB D) = true := hop.2
  have h6 : args.length ≤ 6 := of_decide_eq_true hop.1
  obtain ⟨s0, Fa, Ba, Ga, Ca, Ma, Ra, Ua, Xa, Ka, Na, Pa, fc, bc, gc, cc, mc, rc, uc, xc, kc, nl, nc, pc, rfl, h1, h2, h3, h4, h5, h6', h7, h8, h9⟩ := hD
  have HC := Lib.hid h3
  have HA := Lib.hid hA
  have HALL := Lib.hid hall
  have hpl : pcs.length ≤ 1048576 := hL.many
  have HRC := Lib.hid (fun (w1 : World) (k : Fr w w1) (c : Cl) (hc : clsB D c = true) nm A l q => rclass_yes (HD.out.fr k) c hc nm A l q)
  clear h1 h2 h3 h4 h5 h6' h7 h8 h9 hA hall hP hL hn hop
  have HF2 := Lib.hid (show Fr w ((w.alloc (.cells #[.string s0, .int .i64 D.order, .slice Fa D.files.length fc, .slice Ba D.als.length bc, .slice Ga D.nflags gc, .slice Ca D.cls.length cc, .slice Ma D.fms.length mc, .slice Ra D.rels.length rc, .slice Ua D.uses.length uc, .slice Xa D.rxs.length xc, .slice Ka D.mcs.length kc, .slice Na nl nc, .slice Pa D.regs.length pc] 33)).alloc (.cells #[.string fn, .string fs, .slice Aa args.length ac, .slice Bp pcs.length bc2, .slice Cs cl cc2] 43)) from Fr.alloc (Fr.alloc (Fr.refl w) _) _)
  have HZ2 := Lib.hid (show ((w.alloc (.cells #[.string s0, .int .i64 D.order, .slice Fa D.files.length fc, .slice Ba D.als.length bc, .slice Ga D.nflags gc, .slice Ca D.cls.length cc, .slice Ma D.fms.length mc, .slice Ra D.rels.length rc, .slice Ua D.uses.length uc, .slice Xa D.rxs.length xc, .slice Ka D.mcs.length kc, .slice Na nl nc, .slice Pa D.regs.length pc] 33)).alloc (.cells #[.string fn, .string fs, .slice Aa args.length ac, .slice Bp pcs.length bc2, .slice Cs cl cc2] 43)).heap.size = w.heap.size + 2 by simp)
  have HDV := Lib.hid (show BlkAt ((w.alloc (.cells #[.string s0, .int .i64 D.order, .slice Fa D.files.length fc, .slice Ba D.als.length bc, .slice Ga D.nflags gc, .slice Ca D.cls.length cc, .slice Ma D.fms.length mc, .slice Ra D.rels.length rc, .slice Ua D.uses.length uc, .slice Xa D.rxs.length xc, .slice Ka D.mcs.length kc, .slice Na nl nc, .slice Pa D.regs.length pc] 33)).alloc (.cells #[.string fn, .string fs, .slice Aa args.length ac, .slice Bp pcs.length bc2, .slice Cs cl cc2] 43)) w.heap.size [.string s0, .int .i64 D.order, .slice Fa D.files.length fc, .slice Ba D.als.length bc, .slice Ga D.nflags gc, .slice Ca D.cls.length cc, .slice Ma D.fms.length mc, .slice Ra D.rels.length rc, .slice Ua D.uses.length uc, .slice Xa D.rxs.length xc, .slice Ka D.mcs.length kc, .slice Na nl nc, .slice Pa D.regs.length pc] from BlkAt.fr BlkAt.alloc (Fr.alloc (Fr.refl _) _))
  have HFV := Lib.hid (show BlkAt ((w.alloc (.cells #[.string s0, .int .i64 D.order, .slice Fa D.files.length fc, .slice Ba D.als.length bc, .slice Ga D.nflags gc, .slice Ca D.cls.length cc, .slice Ma D.fms.length mc, .slice Ra D.rels.length rc, .slice Ua D.uses.length uc, .slice Xa D.rxs.length xc, .slice Ka D.mcs.length kc, .slice Na nl nc, .slice Pa D.regs.length pc] 33)).alloc (.cells #[.string fn, .string fs, .slice Aa args.length ac, .slice Bp pcs.length bc2, .slice Cs cl cc2] 43)) (w.heap.size + 1) [.string fn, .string fs, .slice Aa args.length ac, .slice Bp pcs.length bc2, .slice Cs cl cc2] from by
    have := BlkAt.alloc (w := w.alloc (.cells #[.string s0, .int .i64 D.order, .slice Fa D.files.length fc, .slice Ba D.als.length bc, .slice Ga D.nflags gc, .slice Ca D.cls.length cc, .slice Ma D.fms.length mc, .slice Ra D.rels.length rc, .slice Ua D.uses.length uc, .slice Xa D.rxs.length xc, .slice Ka D.mcs.length kc, .slice Na nl nc, .slice Pa D.regs.length pc] 33)) (t := 43) (cs := #[.string fn, .string fs, .slice Aa args.length ac, .slice Bp pcs.length bc2, .slice Cs cl cc2])
    simpa using this)
  go_enter Tryz.func89, Tryz.ntmps89
  have f2 := HFV.out 2 _ rfl
  have zf := lt_of_cell f2
  have hl6 : (args.length : Int) ≤ 6 := by omega
  go_wp2
  generalize World.alloc (World.alloc w _) _ = W2 at *
  have HF3 := Lib.hid (Fr.alloc (Fr.refl W2) (.cells #[] 107))
  have HOW := Lib.hid (own_none (e := 107) (size := 3) (B := W2.heap.size) W2 _ rfl (Nat.le_refl _))
  generalize hW3 : World.alloc W2 _ = W3 at *
  clear hW3 zf f2
  go_loopw [27] (fun i wr => RelW1 W3 args i wr) (fun i _ => args.length - (intOf i).toNat)
  case atStart => exact ⟨0, Nat.zero_le _, rfl, Fr.refl _⟩
  case round =>
    obtain ⟨j, hj, rfl, hf⟩ := hrel
    have HF := Lib.hid hf
    have HWF := Lib.hid (HF3.out.call hf)
    by_cases hlt : j < args.length
    · have hji : (j : Int) < (args.length : Int) := by omega
      obtain ⟨bk, ok, rfl, hx⟩ := (HA.out.fr fun _ _ _ x => x.fr (HF2.out.call HWF.out)).at hlt
      obtain ⟨c, e, hc, hcl, _, hb1, hb64⟩ := args_at HALL.out hlt
      rw [Nat.mul_comm 2 j, e] at hx
      obtain ⟨bq, oq, rfl, hy⟩ := (HC.out.fr fun _ _ _ x => x.fr (HF2.out.call HWF.out)).at hc
      rw [Nat.mul_comm 7 c] at hy
      obtain ⟨an, x0, _, x1⟩ := hx
      have HCL := Lib.hid hcl
      clear hcl hb1 hb64
      generalize D.cls[c] = k at *
      obtain ⟨kind, file, bits, shift, plus, ex⟩ := k
      obtain ⟨n0, E, ec, y0, r1, y1, r2, y2, r3, y3, r4, y4, r5, y5, r6, r7, y6, hex⟩ := hy
      simp only at y0 y1 y2 y3 y4 y5 y6
      clear r1 r2 r3 r4 r5 r6 r7 hex
      have hci : (c : Int) < (D.cls.length : Int) := by omega
      have zx := lt_of_cell x0
      have HPL := Lib.hid (fun w => (show plB (c : Int) D.cls.length = true by simp [plB, hc]) ▸ rplace_any (c : Int) D.cls.length w)
      have HRC1 := Lib.hid (fun (w1 : World) (k : Fr w w1) => HRC.out w1 k _ HCL.out n0 E ex.length ec)
      have HBX := Lib.hid (BlkAt.alloc (w := wr) (t := 55) (cs := #[.string an, .int .i64 (c : Int)]))
      have HFX := Lib.hid (Fr.alloc (Fr.refl wr) (.cells #[.string an, .int .i64 (c : Int)] 55))
      go_wp2_with fail
      generalize World.alloc wr _ = W at *
      have q1 := fun ex : Ext W => ex.get (HBX.out 1 _ rfl)
      have d0 := fun ex : Ext W => ex.get (HDV.out.fr (HWF.out.call HFX.out) 0 _ rfl); have d1 := fun ex : Ext W => ex.get (HDV.out.fr (HWF.out.call HFX.out) 1 _ rfl); have d2 := fun ex : Ext W => ex.get (HDV.out.fr (HWF.out.call HFX.out) 2 _ rfl); have d3 := fun ex : Ext W => ex.get (HDV.out.fr (HWF.out.call HFX.out) 3 _ rfl); have d4 := fun ex : Ext W => ex.get (HDV.out.fr (HWF.out.call HFX.out) 4 _ rfl); have d5 := fun ex : Ext W => ex.get (HDV.out.fr (HWF.out.call HFX.out) 5 _ rfl); have d6 := fun ex : Ext W => ex.get (HDV.out.fr (HWF.out.call HFX.out) 6 _ rfl); have d7 := fun ex : Ext W => ex.get (HDV.out.fr (HWF.out.call HFX.out) 7 _ rfl); have d8 := fun ex : Ext W => ex.get (HDV.out.fr (HWF.out.call HFX.out) 8 _ rfl); have d9 := fun ex : Ext W => ex.get (HDV.out.fr (HWF.out.call HFX.out) 9 _ rfl); have d10 := fun ex : Ext W => ex.get (HDV.out.fr (HWF.out.call HFX.out) 10 _ rfl); have d11 := fun ex : Ext W => ex.get (HDV.out.fr (HWF.out.call HFX.out) 11 _ rfl); have d12 := fun ex : Ext W => ex.get (HDV.out.fr (HWF.out.call HFX.out) 12 _ rfl)
      have g0 := fun ex : Ext W => ex.get (HFX.out.get y0); have g1 := fun ex : Ext W => ex.get (HFX.out.get y1); have g2 := fun ex : Ext W => ex.get (HFX.out.get y2); have g3 := fun ex : Ext W => ex.get (HFX.out.get y3); have g4 := fun ex : Ext W => ex.get (HFX.out.get y4); have g5 := fun ex : Ext W => ex.get (HFX.out.get y5); have g6 := fun ex : Ext W => ex.get (HFX.out.get y6)
      clear x0 x1 y0 y1 y2 y3 y4 y5 y6
      refine wp_region_ext (by kernel_rfl) (by kernel_rfl) ?_
      repeat (go_big_quiet_step (first
        | (go_at_call 65; exact ext_of ((HPL.out _).mono fun _ _ h => ⟨h.1, h.2 ▸ Fr.refl _⟩))
        | (go_at_call 171; exact ext_of (HRC1.out _ (HF2.out.call (HWF.out.call (HFX.out.call (Ext.fr _))))))))
      refine wpQuiet_nil ?_
      intro w7 hw7
      obtain ⟨v7, hv7⟩ := hw7
      have HF7 := Lib.hid (show Fr wr w7 by rw [hv7]; exact HFX.out.call v7.fr)
      clear hv7 v7 q1 d0 d1 d2 d3 d4 d5 d6 d7 d8 d9 d10 d11 d12 g0 g1 g2 g3 g4 g5 g6
      go_wp2
      go_roundw
      case rel => exact ⟨j + 1, by omega, by go_num, HF.out.call HF7.out⟩
      case measure => simp [intOf]; omega
    · obtain rfl : j = args.length := by omega
      clear hlt hj
      have f3 := HFV.out.fr HWF.out 3 _ rfl
      have zf := lt_of_cell f3
      have HOW2 := Lib.hid (show wr.ownsRow W2.heap.size 107 3 (.slice (some ⟨w.heap.size + 1 + 1, 0, none⟩) 0 0) 0 [] by
        have h := ownsRow_fr HOW.out hf
        rwa [show (Value.slice (some ⟨W2.heap.size, 0, none⟩) 0 0) = .slice (some ⟨w.heap.size + 1 + 1, 0, none⟩) 0 0 by rw [HZ2.out]] at h)
      go_wp2
      clear f3 zf hf
      go_loopw [53, 6] (fun i ov wr => RelW2 D args pcs W2 i ov wr) (fun i _ _ => pcs.length - (intOf i).toNat)
      case atStart => exact ⟨0, [], _, Nat.zero_le _, rfl, rfl, by simp, HWF.out, HOW2.out⟩
      case round =>
        obtain ⟨j, l, vv, hj, rfl, rfl, heq, hf, hown⟩ := hrel
        have HEQ := Lib.hid heq
        have HF := Lib.hid hf
        have HOWN := Lib.hid hown
        clear heq hown hf
        by_cases hlt : j < pcs.length
        · obtain ⟨bp, op, rfl, hx⟩ := (HPR.out.fr fun _ _ _ x => x.fr (HF2.out.call HF.out)).at hlt
          rw [Nat.mul_comm 4 j] at hx
          have hdr : pcs.drop j = pcs[j] :: pcs.drop (j + 1) := List.drop_eq_getElem_cons hlt
          have HE2 := Lib.hid (show l ++ (wP pcs[j] (pcN D args pcs[j]) ++ wL D args (pcs.drop (j + 1))) = wL D args pcs by
            have := HEQ.out; rw [hdr, wL] at this; exact this)
          have hpn := HSUM.out.2.2.1 _ (List.getElem_mem hlt)
          have hlit := HLT.out.lits _ (List.getElem_mem hlt)
          clear hdr
          generalize pcs[j] = p at *
          obtain ⟨lit, ar, hi, lo⟩ := p
          obtain ⟨w0', g0, w1', g1, w2', g2, w3', g3⟩ := hx
          simp only at g0 g1 g2 g3 hlit w0' w2' w3'
          have hji : (j : Int) < (pcs.length : Int) := by omega
          have zp := lt_of_cell g0
          have HTL := Lib.hid (show (wL D args pcs).length ≤ 120 by rw [wL_len, HSUM.out.2.1]; exact HSUM.out.2.2.2.2)
          have HI0 : ∀ N, pcN D args ⟨lit, ar, hi, lo⟩ = N → Hid (WIn W2 (wL D args pcs) (wL D args (pcs.drop (j + 1))) ⟨lit, ar, hi, lo⟩ wr.heap.size [.string lit, .int .i64 ar, .int .i64 hi, .int .i64 lo] N l vv (wr.alloc (.cells #[.string lit, .int .i64 ar, .int .i64 hi, .int .i64 lo] 210))) := fun N hN =>
            Lib.hid ⟨by rw [← hN]; exact HE2.out, HF.out.call (Fr.alloc (Fr.refl _) _), ownsRow_fr HOWN.out (Fr.alloc (Fr.refl _) _), (fun e => by have := (World.ownsRow.lt HOWN.out _ e).2; omega), BlkAt.alloc, by simp⟩
          have hsz9 : lit.size ≤ 9223372036854775807 := Nat.le_trans w0' (by decide)
          clear w0' w1' w2' w3'
          by_cases ha : ar = -1
          · subst ha
            have hlb : litB lit = true ∧ pcN D args ⟨lit, -1, hi, lo⟩ = lit.size := by
              unfold pcN at hpn ⊢; rw [if_pos rfl] at hpn ⊢
              split at hpn
              · rename_i h1; rw [if_pos h1]; exact ⟨h1, rfl⟩
              · exact absurd rfl hpn
            have hs0 : 0 < lit.size := by rw [hlb.2] at hpn; omega
            have HLB := Lib.hid hlb.1
            have HI1 := HI0 _ hlb.2
            have hne : lit.toList.isEmpty = false := by
              rw [ByteArray.toList_eq, List.isEmpty_eq_false_iff]
              intro e
              have h1 : lit.data.size = 0 := by rw [← Array.length_toList, e]; rfl
              have h2 : lit.size = lit.data.size := rfl
              omega
            clear hlb hpn HI0 HE2
            go_wp2
            generalize wr.heap.size = pb at *
            go_loopw [11, 6] (fun iv ov w' => RelWI (fun c => (lit.size : Int) - (c : Int)) W2 (wL D args pcs) (wL D args (pcs.drop (j + 1))) ⟨lit, -1, hi, lo⟩ pb [.string lit, .int .i64 (-1), .int .i64 hi, .int .i64 lo] lit.size iv ov w') (fun iv _ _ => lit.size - (intOf iv).toNat)
            case atStart => exact ⟨lit.size, l, vv, 0, Nat.le_refl _, by simp, rfl, rfl, HI1.out⟩
            case round =>
              obtain ⟨c, l2, vv, z, hc, hz0, rfl, rfl, hI⟩ := hrel
              have hz : z = (lit.size : Int) - (c : Int) := hz0
              clear hz0
              have HI := Lib.hid hI
              clear hI
              have b0 := HI.out.box 0 _ rfl
              have zb := lt_of_cell b0
              rcases c with _ | c
              · obtain rfl : z = (lit.size : Int) := by omega
                clear hz
                go_wp2
                go_roundw
                case rel => exact ⟨j + 1, l2, vv, by omega, by go_num, rfl, by have := HI.out.eq; simpa [wP] using this, HI.out.fr, HI.out.own⟩
                case measure => simp [intOf]; omega
              · obtain ⟨i, hi0⟩ : ∃ i : Nat, lit.size - 1 - c = i := ⟨_, rfl⟩
                obtain rfl : z = (i : Int) := by omega
                have hil : i < lit.size := by omega
                have hil2 : (i : Int) < (lit.size : Int) := by omega
                have HCE := Lib.hid (show chrN ⟨lit, -1, hi, lo⟩ c = (lit[i]).toNat by unfold chrN; simp only; rw [dif_pos (by omega)]; subst hi0; rfl)
                have hcc : (lit[i]).toNat = 48 ∨ (lit[i]).toNat = 49 ∨ (lit[i]).toNat = 120 := by
                  have h1 := List.all_eq_true.1 HLB.out (lit[i]) (by
                    have : lit[i] = lit.data.toList[i]'(by simpa using hil) := by simp [ByteArray.getElem_eq_getElem_data]
                    rw [this]; exact List.getElem_mem _)
                  unfold litC at h1
                  simp only [Bool.or_eq_true, beq_iff_eq] at h1
                  rcases h1 with (h1 | h1) | h1 <;> rw [h1] <;> decide
                have hl120 : l2.length ≤ 120 := Nat.le_trans HI.out.len HTL.out
                have HZ := Lib.hid (show (i : Int) + 1 = (lit.size : Int) - (c : Int) by omega)
                clear hz hi0
                rcases hcc with hcc | hcc | hcc
                · have HCH := Lib.hid (show chrN ⟨lit, -1, hi, lo⟩ c = 48 by rw [HCE.out]; exact hcc)
                  have hci : ((lit[i]).toNat : Int) = 48 := by omega
                  clear hcc
                  go_wp2_with (at_builtin; refine wpList_appendk _ rfl (.tmp 89) (.tmp 95) 102 rfl W2.heap.size 107 3 Tryz.underlying102 Tryz.infoBt rfl (by decide) vv l2.length (flatB l2) rfl ?_ (some ⟨wr.heap.size, 0, none⟩) 1 1 [.int .u8 48, .int .i64 (-1), .int .i64 0] rfl ?_ ?_ (fun h => by cases h) ?_ ?_ ?_ ?_ ?_)
                  · exact ownsRow_fr HI.out.own (Fr.alloc (Fr.refl wr) _)
                  · rfl
                  · intro _
                    refine ⟨_, rfl, fun j u hj => ?_⟩
                    rw [add_zero_k2]
                    exact (BlkAt.alloc (w := wr) (t := 107) (cs := #[.int .u8 48, .int .i64 (-1), .int .i64 0])) j u (by simpa using hj)
                  · intro u hu; simp only [List.mem_cons, List.not_mem_nil, or_false] at hu; rcases hu with rfl | rfl | rfl <;> rfl
                  · unfold maxLen; omega
                  · omega
                  · have := HI.out.fr.size; simp; omega
                  intro v6 w8 HG
                  have HN := Lib.hid (HI.out.next (by unfold wbit btC; rw [if_pos rfl]; simp only [HCH.out]; rfl) _ HG.out)
                  clear HG b0 zb
                  go_wp2
                  go_roundw
                  case rel => exact ⟨c, _, _, (i : Int) + 1, by omega, HZ.out, by go_num, rfl, HN.out⟩
                  case measure => simp [intOf]; omega
                · have HCH := Lib.hid (show chrN ⟨lit, -1, hi, lo⟩ c = 49 by rw [HCE.out]; exact hcc)
                  have hci : ((lit[i]).toNat : Int) = 49 := by omega
                  clear hcc
                  go_wp2_with (at_builtin; refine wpList_appendk _ rfl (.tmp 89) (.tmp 95) 102 rfl W2.heap.size 107 3 Tryz.underlying102 Tryz.infoBt rfl (by decide) vv l2.length (flatB l2) rfl ?_ (some ⟨wr.heap.size, 0, none⟩) 1 1 [.int .u8 49, .int .i64 (-1), .int .i64 0] rfl ?_ ?_ (fun h => by cases h) ?_ ?_ ?_ ?_ ?_)
                  · exact ownsRow_fr HI.out.own (Fr.alloc (Fr.refl wr) _)
                  · rfl
                  · intro _
                    refine ⟨_, rfl, fun j u hj => ?_⟩
                    rw [add_zero_k2]
                    exact (BlkAt.alloc (w := wr) (t := 107) (cs := #[.int .u8 49, .int .i64 (-1), .int .i64 0])) j u (by simpa using hj)
                  · intro u hu; simp only [List.mem_cons, List.not_mem_nil, or_false] at hu; rcases hu with rfl | rfl | rfl <;> rfl
                  · unfold maxLen; omega
                  · omega
                  · have := HI.out.fr.size; simp; omega
                  intro v6 w8 HG
                  have HN := Lib.hid (HI.out.next (by unfold wbit btC; rw [if_pos rfl]; simp only [HCH.out]; rfl) _ HG.out)
                  clear HG b0 zb
                  go_wp2
                  go_roundw
                  case rel => exact ⟨c, _, _, (i : Int) + 1, by omega, HZ.out, by go_num, rfl, HN.out⟩
                  case measure => simp [intOf]; omega
                · have HCH := Lib.hid (show chrN ⟨lit, -1, hi, lo⟩ c = 120 by rw [HCE.out]; exact hcc)
                  have hci : ((lit[i]).toNat : Int) = 120 := by omega
                  clear hcc
                  go_wp2_with (at_builtin; refine wpList_appendk _ rfl (.tmp 89) (.tmp 95) 102 rfl W2.heap.size 107 3 Tryz.underlying102 Tryz.infoBt rfl (by decide) vv l2.length (flatB l2) rfl ?_ (some ⟨wr.heap.size, 0, none⟩) 1 1 [.int .u8 120, .int .i64 (-1), .int .i64 0] rfl ?_ ?_ (fun h => by cases h) ?_ ?_ ?_ ?_ ?_)
                  · exact ownsRow_fr HI.out.own (Fr.alloc (Fr.refl wr) _)
                  · rfl
                  · intro _
                    refine ⟨_, rfl, fun j u hj => ?_⟩
                    rw [add_zero_k2]
                    exact (BlkAt.alloc (w := wr) (t := 107) (cs := #[.int .u8 120, .int .i64 (-1), .int .i64 0])) j u (by simpa using hj)
                  · intro u hu; simp only [List.mem_cons, List.not_mem_nil, or_false] at hu; rcases hu with rfl | rfl | rfl <;> rfl
                  · unfold maxLen; omega
                  · omega
                  · have := HI.out.fr.size; simp; omega
                  intro v6 w8 HG
                  have HN := Lib.hid (HI.out.next (by unfold wbit btC; rw [if_pos rfl]; simp only [HCH.out]; rfl) _ HG.out)
                  clear HG b0 zb
                  go_wp2
                  go_roundw
                  case rel => exact ⟨c, _, _, (i : Int) + 1, by omega, HZ.out, by go_num, rfl, HN.out⟩
                  case measure => simp [intOf]; omega
          · obtain ⟨k, lo', N, e1, e2, e3, e4, e5, e6, e7, e8, e9⟩ := pc_right HALL.out ha hpn
            simp only at e1 e3 e4
            subst e1 e3 e4
            have HI1 := HI0 _ e5.symm
            obtain ⟨c, ec, hc, hcl, hba, hb1, hb64⟩ := args_at HALL.out e2
            obtain ⟨bk, ok, rfl, hx⟩ := (HA.out.fr fun _ _ _ x => x.fr (HF2.out.call HF.out)).at e2
            rw [Nat.mul_comm 2 k, ec] at hx
            obtain ⟨an, x0, _, x1⟩ := hx
            obtain ⟨bq, oq, rfl, hy⟩ := (HC.out.fr fun _ _ _ x => x.fr (HF2.out.call HF.out)).at hc
            rw [Nat.mul_comm 7 c] at hy
            obtain ⟨_, _, _, y0, _, _, _, _, _, y3, _⟩ := hy
            rw [hba] at e7
            clear hba hcl
            generalize (D.cls[c]).bits = bits at *
            have hki : (k : Int) < (args.length : Int) := by omega
            have hci : (c : Int) < (D.cls.length : Int) := by omega
            have HPL := Lib.hid (fun w => (show plB (k : Int) args.length = true by simp [plB, e2]) ▸ rplace_any (k : Int) args.length w)
            have f2 := (HFV.out.fr HF.out) 2 _ rfl
            have d5 := (HDV.out.fr HF.out) 5 _ rfl
            have zf := lt_of_cell f2
            have zd := lt_of_cell d5
            have zx := lt_of_cell x1
            have zy := lt_of_cell y3
            have hkne : ((k : Int) == -1) = false := by rw [beq_eq_false_iff_ne]; omega
            have hkne2 : ¬ (k : Int) = -1 := by omega
            have hlo0 : (0 : Int) ≤ (lo' : Int) := by omega
            have hhl : (lo' : Int) ≤ ((lo' + N : Nat) : Int) - 1 := by omega
            have hhb : ((lo' + N : Nat) : Int) - 1 < bits := by omega
            obtain ⟨hn, hhn⟩ : ∃ hn : Nat, ((lo' + N : Nat) : Int) - 1 = (hn : Int) := ⟨lo' + N - 1, by omega⟩
            have HHN := Lib.hid hhn
            rw [hhn] at hhl hhb g2 HI1
            have hn64 : hn ≤ 64 := by omega
            clear hhn HI0 HE2
            have HFX := Lib.hid (Fr.alloc (Fr.refl wr) (.cells #[.string lit, .int .i64 (k : Int), .int .i64 (hn : Int), .int .i64 (lo' : Int)] 210))
            go_wp2_with fail
            generalize World.alloc wr _ = W5 at *
            have q1 := fun ex : Ext W5 => ex.get (HI1.out.box 1 _ rfl)
            have q2 := fun ex : Ext W5 => ex.get (HI1.out.box 2 _ rfl)
            have q3 := fun ex : Ext W5 => ex.get (HI1.out.box 3 _ rfl)
            have q4 := fun ex : Ext W5 => ex.get (HFX.out.get f2)
            have q5 := fun ex : Ext W5 => ex.get (HFX.out.get d5)
            have q6 := fun ex : Ext W5 => ex.get (HFX.out.get x1)
            have q7 := fun ex : Ext W5 => ex.get (HFX.out.get y3)
            clear f2 d5 x0 x1 y0 y3 g0 g1 g2 g3
            have hq1 : decide ((lo' : Int) < 0) = false := by simp; try omega
            have hq2 : decide ((hn : Int) < (lo' : Int)) = false := by simp; omega
            have hq4 : decide (hn < lo') = false := by simp; omega
            have hq5 : lo' ≤ hn := by omega
            have hq3 : decide (bits ≤ (hn : Int)) = false := by simp; omega
            refine wp_region_ext (by kernel_rfl) (by kernel_rfl) ?_
            repeat (go_big_quiet_step ((go_at_call 65; exact ext_of ((HPL.out _).mono fun _ _ h => ⟨h.1, h.2 ▸ Fr.refl _⟩))))
            refine wpQuiet_nil ?_
            intro w7 hw7
            obtain ⟨v7, hv7⟩ := hw7
            have HF7 := Lib.hid (show Fr W5 w7 by rw [hv7]; exact v7.fr)
            clear hv7 v7 q1 q2 q3 q4 q5 q6 q7
            have HI7 := Lib.hid (show WIn W2 (wL D args pcs) (wL D args (pcs.drop (j + 1))) ⟨lit, (k : Int), (hn : Int), (lo' : Int)⟩ wr.heap.size [.string lit, .int .i64 (k : Int), .int .i64 (hn : Int), .int .i64 (lo' : Int)] N l vv w7 from
              ⟨HI1.out.eq, HI1.out.fr.call HF7.out, ownsRow_fr HI1.out.own HF7.out, HI1.out.ne, HI1.out.box.fr HF7.out, Nat.lt_of_lt_of_le HI1.out.lt HF7.out.size⟩)
            have b2 := HI7.out.box 2 _ rfl
            have zb := lt_of_cell b2
            go_wp2
            clear b2 zb
            generalize wr.heap.size = pb at *
            go_loopw [12, 6] (fun iv ov w' => RelWI (fun c => (lo' : Int) + (c : Int) - 1) W2 (wL D args pcs) (wL D args (pcs.drop (j + 1))) ⟨lit, (k : Int), (hn : Int), (lo' : Int)⟩ pb [.string lit, .int .i64 (k : Int), .int .i64 (hn : Int), .int .i64 (lo' : Int)] N iv ov w') (fun iv _ _ => (intOf iv + 1 - (lo' : Int)).toNat)
            case atStart => exact ⟨N, l, vv, (hn : Int), Nat.le_refl _, (show (hn : Int) = (lo' : Int) + (N : Int) - 1 by have := HHN.out; omega), rfl, rfl, HI7.out⟩
            case round =>
              obtain ⟨c2, l2, vv, z, hc2, hz0, rfl, rfl, hI⟩ := hrel
              have hz : z = (lo' : Int) + (c2 : Int) - 1 := hz0
              clear hz0
              have HI := Lib.hid hI
              clear hI
              have b1 := HI.out.box 1 _ rfl
              have b3 := HI.out.box 3 _ rfl
              have zb := lt_of_cell b1
              rcases c2 with _ | c2
              · have hzl : z < (lo' : Int) := by omega
                have hzg : -1 ≤ z := by omega
                clear hz
                go_wp2
                go_roundw
                case rel => exact ⟨j + 1, l2, vv, by omega, by go_num, rfl, by have := HI.out.eq; simpa [wP] using this, HI.out.fr, HI.out.own⟩
                case measure => simp [intOf]; omega
              · obtain ⟨i, hi0⟩ : ∃ i : Nat, lo' + c2 = i := ⟨_, rfl⟩
                obtain rfl : z = (i : Int) := by omega
                have hil : (lo' : Int) ≤ (i : Int) := by omega
                have hi6 : (i : Int) ≤ 64 := by omega
                have hl120 : l2.length ≤ 120 := Nat.le_trans HI.out.len HTL.out
                have HZ := Lib.hid (show (i : Int) - 1 = (lo' : Int) + (c2 : Int) - 1 by omega)
                have HB := Lib.hid (show [Value.int .u8 0, .int .i64 (k : Int), .int .i64 (i : Int)] = btC (wbit ⟨lit, (k : Int), (hn : Int), (lo' : Int)⟩ c2) by
                  unfold wbit btC; rw [if_neg (by simp only; omega)]; simp only; rw [← hi0]; simp)
                clear hz hi0
                go_wp2_with (at_builtin; refine wpList_appendk _ rfl (.tmp 141) (.tmp 146) 102 rfl W2.heap.size 107 3 Tryz.underlying102 Tryz.infoBt rfl (by decide) vv l2.length (flatB l2) rfl ?_ (some ⟨wr.heap.size, 0, none⟩) 1 1 [.int .u8 0, .int .i64 (k : Int), .int .i64 (i : Int)] rfl ?_ ?_ (fun h => by cases h) ?_ ?_ ?_ ?_ ?_)
                · exact ownsRow_fr HI.out.own (Fr.alloc (Fr.refl wr) _)
                · rfl
                · intro _
                  refine ⟨_, rfl, fun j u hj => ?_⟩
                  rw [add_zero_k2]
                  exact (BlkAt.alloc (w := wr) (t := 107) (cs := #[.int .u8 0, .int .i64 (k : Int), .int .i64 (i : Int)])) j u (by simpa using hj)
                · intro u hu; simp only [List.mem_cons, List.not_mem_nil, or_false] at hu; rcases hu with rfl | rfl | rfl <;> rfl
                · unfold maxLen; omega
                · omega
                · have := HI.out.fr.size; simp; omega
                intro v6 w8 HG
                have HN := Lib.hid (HI.out.next HB.out _ HG.out)
                clear HG b1 b3 zb
                go_wp2
                go_roundw
                case rel => exact ⟨c2, _, _, (i : Int) - 1, by omega, HZ.out, by go_num, rfl, HN.out⟩
                case measure => simp [intOf]; omega
        · obtain rfl : j = pcs.length := by omega
          have heq2 := HEQ.out
          rw [List.drop_length, wL, List.append_nil] at heq2
          subst heq2
          have HE0 := Lib.hid (show (wL D args pcs).length = patN D args pcs by rw [wL_len, HSUM.out.2.1])
          clear hlt hj
          obtain ⟨w10, hst, hf10, hc10, hz10⟩ := counts_made wr
          have hpos : 0 < (wL D args pcs).length := by rw [HE0.out]; exact Nat.pos_of_ne_zero HPN.out
          obtain ⟨og, oc, rfl, hog1, hog2⟩ := World.ownsRow.form HOWN.out hpos
          have HROW := Lib.hid (rowB HOWN.out hf10)
          have HW10 := Lib.hid (HF.out.call hf10)
          have HC10 := Lib.hid hc10
          have HT120 := Lib.hid (show (wL D args pcs).length ≤ 120 by rw [HE0.out]; exact HSUM.out.2.2.2.2)
          have HOK := Lib.hid (wL_ok (pcs := pcs) HPN.out)
          clear hf10 hc10 hpos
          obtain ⟨T, hT⟩ : ∃ T, wL D args pcs = T := ⟨_, rfl⟩
          rw [hT] at HROW HT120 HOK HE0 ⊢
          have HTT := Lib.hid hT
          clear hT
          have htl := HT120.out
          go_wp2
          generalize wr.heap.size = cb at *
          clear hst
          go_loopw [152] (fun i w' => RelW3 T cb w10 i w') (fun i _ => T.length - (intOf i).toNat)
          case atStart => exact ⟨0, Nat.zero_le _, rfl, Below.refl _ _, HC10.out⟩
          case round =>
            obtain ⟨j, hj, rfl, hb, hcn⟩ := hrel
            have HB := Lib.hid hb
            have HCN := Lib.hid hcn
            have hcw : cb < wr.heap.size := Nat.lt_of_lt_of_le hz10 hb.size
            clear hb hcn
            by_cases hlt : j < T.length
            · have hbt := rowB_at HROW.out hlt
              have x0 := (HB.out.cell (p := ⟨og, j * 3, none⟩) hog2).trans hbt.1
              have x1 := (HB.out.cell (p := ⟨og, j * 3 + 1, none⟩) hog2).trans hbt.2.1
              have x2 := (HB.out.cell (p := ⟨og, j * 3 + 2, none⟩) hog2).trans hbt.2.2
              have hok := HOK.out _ (List.getElem_mem hlt)
              have hji : (j : Int) < (T.length : Int) := by omega
              have zx := lt_of_cell x0
              clear hbt
              generalize T[j] = x at *
              obtain ⟨lit, ar, nm⟩ := x
              simp only at x0 x1 x2
              rcases hok with ⟨ha, hnm, hl⟩ | ⟨ha, k, m, e1, e2, hk, hm, hm6⟩
              · simp only at ha hnm hl
                subst ha hnm
                rcases hl with rfl | rfl | rfl
                all_goals
                  go_wp2
                  go_roundw
                  case rel => exact ⟨j + 1, by omega, by go_num, Below.alloc HB.out (Nat.le_of_lt hcw) _, HCN.out.fr (Fr.alloc (Fr.refl _) _)⟩
                  case measure => simp [intOf]; omega
              · simp only at ha e1 e2
                subst ha e1 e2
                have hk6 : k < 6 := by omega
                obtain ⟨⟨y, hy⟩, hyf⟩ := HCN.out (k * 64 + m) (by omega)
                have HFX := Lib.hid (Fr.alloc (Fr.refl wr) (.cells #[.int .u8 0, .int .i64 (k : Int), .int .i64 (m : Int)] 107))
                have HBX := Lib.hid (BlkAt.alloc (w := wr) (t := 107) (cs := #[.int .u8 0, .int .i64 (k : Int), .int .i64 (m : Int)]))
                have hki : (k : Int) < 6 := by omega
                have hmi : (m : Int) < 64 := by omega
                clear hm
                go_wp2_with fail
                clear x0 x1 x2 zx
                generalize World.alloc wr _ = W at *
                have y1 := HBX.out 1 _ rfl
                have y2 := HBX.out 2 _ rfl
                have y3 := HFX.out.get hy
                have y4 := HFX.out.free hy hyf
                have zy := lt_of_cell y1
                have zc := lt_of_cell y3
                clear hy hyf
                go_still_tail 10, (by kernel_rfl)
                change wpList _ _ _ _ _ W.drew
                go_wp2
                go_roundw
                case rel => exact ⟨j + 1, by omega, by go_num, Below.setCell (Below.trans HB.out (Below.mono (Fr.drew HFX.out) (Nat.le_of_lt hcw))) (Nat.le_refl cb) _, (HCN.out.fr (Fr.drew HFX.out)).set⟩
                case measure => simp [intOf]; omega
            · obtain rfl : j = T.length := by omega
              have HW11 := Lib.hid (show Fr W2 wr from Below.trans HW10.out (Below.mono HB.out (by omega)))
              have f2 := HFV.out.fr HW11.out 2 _ rfl
              have zf := lt_of_cell f2
              clear hlt hj
              go_wp2_with fail
              clear f2 zf
              have HROW2 := Lib.hid (show RowOf BtAt 3 wr (some ⟨og, 0, none⟩) T from fun hl => ⟨og, 0, rfl, fun i hi => by
                have h := rowB_at HROW.out hi
                rw [Nat.zero_add, Nat.mul_comm 3 i]
                exact ⟨(HB.out.cell (p := ⟨og, i * 3, none⟩) hog2).trans h.1, (HB.out.cell (p := ⟨og, i * 3 + 1, none⟩) hog2).trans h.2.1, (HB.out.cell (p := ⟨og, i * 3 + 2, none⟩) hog2).trans h.2.2⟩⟩)
              clear HB HROW
              go_loopw [173] (fun i w' => RelW1 wr args i w') (fun i _ => args.length - (intOf i).toNat)
              case atStart => exact ⟨0, Nat.zero_le _, rfl, Fr.refl _⟩
              case round =>
                obtain ⟨j, hj, rfl, hf⟩ := hrel
                have HF9 := Lib.hid hf
                have HWF := Lib.hid (HW11.out.call hf)
                have HC9 := Lib.hid (HCN.out.fr hf)
                clear hf
                by_cases hlt : j < args.length
                · have hji : (j : Int) < (args.length : Int) := by omega
                  obtain ⟨bk, ok, rfl, hx⟩ := (HA.out.fr fun _ _ _ x => x.fr (HF2.out.call HWF.out)).at hlt
                  obtain ⟨c, e, hc, hcl, _, hb1, hb64⟩ := args_at HALL.out hlt
                  rw [Nat.mul_comm 2 j, e] at hx
                  obtain ⟨bq, oq, rfl, hy⟩ := (HC.out.fr fun _ _ _ x => x.fr (HF2.out.call HWF.out)).at hc
                  rw [Nat.mul_comm 7 c] at hy
                  obtain ⟨an, x0, _, x1⟩ := hx
                  obtain ⟨_, _, _, y0, _, _, _, _, _, y3, _⟩ := hy
                  clear hcl
                  generalize (D.cls[c]).bits = bits at *
                  have hci : (c : Int) < (D.cls.length : Int) := by omega
                  have zx := lt_of_cell x0
                  have d5 := HDV.out.fr HWF.out 5 _ rfl
                  have HFX := Lib.hid (Fr.alloc (Fr.refl wr) (.cells #[.string an, .int .i64 (c : Int)] 55))
                  have HBX := Lib.hid (BlkAt.alloc (w := wr) (t := 55) (cs := #[.string an, .int .i64 (c : Int)]))
                  have HY3 := Lib.hid y3
                  have HD5 := Lib.hid d5
                  clear y0 y3
                  go_wp2_with fail
                  clear x0 x1 zx d5
                  have hj6 : j < 6 := by omega
                  have hj6i : (j : Int) < 6 := by omega
                  generalize World.alloc wr _ = W12 at *
                  generalize wr.heap.size = pb at *
                  go_loopw [18] (fun iv w' => RelW5 W12 bits iv w') (fun iv _ => (bits - intOf iv).toNat)
                  case atStart => exact ⟨0, rfl, by simp; omega, rfl⟩
                  case round =>
                    obtain ⟨m, rfl, hm, rfl⟩ := hrel
                    have d5 := HFX.out.get HD5.out
                    have b1 := HBX.out 1 _ rfl
                    have y3 := HFX.out.get HY3.out
                    have zd := lt_of_cell d5
                    have zb := lt_of_cell b1
                    have zy := lt_of_cell y3
                    by_cases hmb : (m : Int) < bits
                    · have hm64 : (m : Int) < 64 := by omega
                      obtain ⟨⟨y, hy⟩, _⟩ := (HC9.out.fr HFX.out) (j * 64 + m) (by omega)
                      have zc := lt_of_cell hy
                      by_cases hy1 : y = 1
                      · subst hy1
                        go_wp2
                        go_roundw
                        case rel => exact ⟨m + 1, by go_num, by omega, rfl⟩
                        case measure => simp [intOf]; omega
                      · have hyn : (y != 1) = true := bne_iff_ne.2 hy1
                        have hyn2 : ¬ y = 1 := hy1
                        clear hy1
                        go_wp2
                        go_ret2
                        exact ⟨.inl rfl, HF2.out.call (HWF.out.call HFX.out)⟩
                    · go_wp2
                      go_roundw
                      case rel => exact ⟨j + 1, by omega, by go_num, HF9.out.call HFX.out⟩
                      case measure => simp [intOf]; omega
                · obtain rfl : j = args.length := by omega
                  have h8 : T.length % 8 = 0 := by rw [HE0.out]; exact HSUM.out.2.2.2.1
                  have h0 : T.length ≠ 0 := by rw [HE0.out]; exact HPN.out
                  have e8 : Int.tmod (T.length : Int) 8 = 0 := by rw [Int.tmod_eq_emod_of_nonneg (by omega)]; omega
                  have h88 : (8 : Int) ≤ (T.length : Int) := by omega
                  have h120 : (T.length : Int) ≤ 120 := by omega
                  have HRF := Lib.hid (HROW2.out.fr fun _ _ _ x => BtAt.fr x HF9.out)
                  clear h8 h0 hlt hj
                  go_wp2
                  go_ret2
                  exact ⟨.inr ⟨some ⟨og, 0, none⟩, oc, by rw [HTT.out]; rfl, by rw [HTT.out]; exact HRF.out⟩, HF2.out.call HWF.out⟩
end Go.Proofs.YtgldfokjnkmifaaGreatDoor
