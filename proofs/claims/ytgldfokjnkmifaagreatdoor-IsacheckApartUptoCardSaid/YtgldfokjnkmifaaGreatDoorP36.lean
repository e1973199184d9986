/- The reference's Bits: a form's bits by their places. What the reference's fits reckons, as plain facts: what its rounds know; what they come to. -/
import Derived.Test.YtgldfokjnkmifaaGreatDoorP35
import Derived.Laws.MakeOwn
import Derived.Test.YtgldfokjnkmifaaGreatDoorP21
namespace Go.Proofs.YtgldfokjnkmifaaGreatDoor
open Go.RowKit
set_option linter.unusedSimpArgs false
set_option linter.unusedVariables false

theorem plcN_inj {o : Int} {s s' n : Nat} (h : s < n) (h' : s' < n) (e : plcN o s n = plcN o s' n) : s = s' := by
  unfold plcN at e; split at e <;> omega
/-- The list holds each written bit at its place. -/
def PutAt (o : Int) (l B : List Bt) (j : Nat) : Prop := B.length = l.length ∧ ∀ s, s < j → B[plcN o s l.length]? = l[s]?
theorem plcN_lt2 {o : Int} {s n : Nat} (h : s < n) (h8 : n % 8 = 0) : plcN o s n < n := by
  unfold plcN; split <;> omega
theorem PutAt.step {o : Int} {l B : List Bt} {j : Nat} (h : PutAt o l B j) (hj : j < l.length) (hp : plcN o j l.length < l.length) : PutAt o l (B.set (plcN o j l.length) l[j]) (j + 1) := by
  refine ⟨by simpa using h.1, fun s hs => ?_⟩
  by_cases e : s = j
  · subst e
    rw [List.getElem?_set_self (by rw [h.1]; exact hp), List.getElem?_eq_getElem hj]
  · rw [List.getElem?_set_ne (fun e2 => e (plcN_inj (by omega) hj e2.symm))]
    exact h.2 s (by omega)
/-- A row of the call's own that holds bits. -/
def RowG (g : Nat) (w : World) (B : List Bt) : Prop := ∀ p (h : p < B.length), BtAt w g (p * 3) B[p] ∧ w.frozen? ⟨g, p * 3, none⟩ = false ∧ w.frozen? ⟨g, p * 3 + 1, none⟩ = false ∧ w.frozen? ⟨g, p * 3 + 2, none⟩ = false
theorem RowG.fr {g : Nat} {w w' : World} {B : List Bt} (h : RowG g w B) (k : Fr w w') : RowG g w' B := fun p hp => by
  obtain ⟨h1, h2, h3, h4⟩ := h p hp
  exact ⟨h1.fr k, k.free h1.1 h2, k.free h1.2.1 h3, k.free h1.2.2 h4⟩
theorem rowG_ex {g : Nat} {w : World} {B : List Bt} (h : RowG g w B) {q : Nat} (hq : q < B.length) : ∃ u0 u1 u2 : Value, w.cell? ⟨g, q * 3, none⟩ = some u0 ∧ w.cell? ⟨g, q * 3 + 1, none⟩ = some u1 ∧ w.cell? ⟨g, q * 3 + 2, none⟩ = some u2 ∧ w.frozen? ⟨g, q * 3, none⟩ = false ∧ w.frozen? ⟨g, q * 3 + 1, none⟩ = false ∧ w.frozen? ⟨g, q * 3 + 2, none⟩ = false := by
  obtain ⟨h1, h2, h3, h4⟩ := h q hq
  exact ⟨_, _, _, h1.1, h1.2.1, h1.2.2, h2, h3, h4⟩
theorem cell_set_ne {w : World} {g a b : Nat} {v : Value} (h : a ≠ b) : (w.setCell ⟨g, a, none⟩ v).cell? ⟨g, b, none⟩ = w.cell? ⟨g, b, none⟩ := World.cell?_setCell_other _ _ _ _ (by intro e; injection e with _ e; exact h e)
theorem RowG.put {g : Nat} {w : World} {B : List Bt} (h : RowG g w B) {p : Nat} (hp : p < B.length) (x : Bt) :
    RowG g (((w.setCell ⟨g, p * 3, none⟩ (.int .u8 (x.lit : Int))).setCell ⟨g, p * 3 + 1, none⟩ (.int .i64 x.arg)).setCell ⟨g, p * 3 + 2, none⟩ (.int .i64 x.num)) (B.set p x) := fun q hq => by
  have hq' : q < B.length := by simpa using hq
  obtain ⟨h1, h2, h3, h4⟩ := h q hq'
  refine ⟨?_, by simpa using h2, by simpa using h3, by simpa using h4⟩
  obtain ⟨g1, _, _, _⟩ := h p hp
  by_cases e : p = q
  · subst e
    rw [List.getElem_set_self]
    refine ⟨?_, ?_, ?_⟩
    · rw [cell_set_ne (by omega), cell_set_ne (by omega), World.cell?_setCell_same _ _ _ g1.1]
    · rw [cell_set_ne (by omega)]
      exact World.cell?_setCell_same _ _ _ (u := .int .i64 B[p].arg) (by rw [cell_set_ne (by omega)]; exact g1.2.1)
    · exact World.cell?_setCell_same _ _ _ (u := .int .i64 B[p].num) (by rw [cell_set_ne (by omega), cell_set_ne (by omega)]; exact g1.2.2)
  · rw [List.getElem_set_ne e]
    refine ⟨?_, ?_, ?_⟩
    · rw [cell_set_ne (by omega), cell_set_ne (by omega), cell_set_ne (by omega)]; exact h1.1
    · rw [cell_set_ne (by omega), cell_set_ne (by omega), cell_set_ne (by omega)]; exact h1.2.1
    · rw [cell_set_ne (by omega), cell_set_ne (by omega), cell_set_ne (by omega)]; exact h1.2.2
theorem mk_bits (n : Nat) (hn : n ≤ 120) (w : World) : (Instr.makeSlice 102 (.int .i64 (n : Int)) (.int .i64 (n : Int))).run Tryz.prog w = .ok (.slice (some ⟨w.heap.size, 0, none⟩) n n) (w.alloc (.cells (madeCells #[.int .u8 0, .int .i64 0, .int .i64 0] (n * 3)) 107)) := by
  obtain ⟨i, hi', hz0, hz1, hz2⟩ := info_parts Tryz.infoBt
  have := run_make (P := Tryz.prog) w 102 107 i _ Tryz.underlying102 hi' hz0 .i64 .i64 n n (by omega) (Int.le_refl _) (by rw [hz2]; omega) (by omega)
  rw [hz1] at this
  simpa [Value.cells] using this
theorem made_bits (n : Nat) (w : World) : RowG w.heap.size (w.alloc (.cells (madeCells #[.int .u8 0, .int .i64 0, .int .i64 0] (n * 3)) 107)) (List.replicate n ⟨0, 0, 0⟩) := fun p hp => by
  have hp' : p < n := by simpa using hp
  have hb := BlkAt.alloc (w := w) (t := 107) (cs := madeCells #[.int .u8 0, .int .i64 0, .int .i64 0] (n * 3))
  have hc : ∀ m (hm : m < 3), (w.alloc (.cells (madeCells #[.int .u8 0, .int .i64 0, .int .i64 0] (n * 3)) 107)).cell? ⟨w.heap.size, p * 3 + m, none⟩ = some (#[Value.int .u8 0, .int .i64 0, .int .i64 0][m]'hm) := fun m hm => by
    refine hb _ _ ?_
    have hs : p * 3 + m < (madeCells #[Value.int .u8 0, .int .i64 0, .int .i64 0] (n * 3)).size := by rw [size_madeCells]; omega
    rw [Array.getElem?_toList, Array.getElem?_eq_getElem hs]
    have hmod : (p * 3 + m) % 3 = m := by omega
    simp [madeCells, hmod]
    clear hs hmod
    match m, hm with
    | 0, _ => rfl
    | 1, _ => rfl
    | 2, _ => rfl
  refine ⟨?_, World.frozen?_alloc_at _ _ _ _ rfl, World.frozen?_alloc_at _ _ _ _ rfl, World.frozen?_alloc_at _ _ _ _ rfl⟩
  rw [List.getElem_replicate]
  exact ⟨hc 0 (by decide), hc 1 (by decide), hc 2 (by decide)⟩
def RelBi (o : Int) (l : List Bt) (g : Nat) (Wm : World) (i : Value) (wr : World) : Prop := ∃ (j : Nat) (B : List Bt), j ≤ l.length ∧ i = .int .i64 (j : Int) ∧ Below g Wm wr ∧ RowG g wr B ∧ PutAt o l B j
theorem RowG.row {g : Nat} {w : World} {B : List Bt} (h : RowG g w B) : RowOf BtAt 3 w (some ⟨g, 0, none⟩) B := fun _ => ⟨g, 0, rfl, fun p hp => by rw [Nat.zero_add, Nat.mul_comm 3 p]; exact (h p hp).1⟩
theorem RowG.lt {g : Nat} {w : World} {B : List Bt} (h : RowG g w B) (hp : 0 < B.length) : g < w.heap.size := lt_of_cell (h 0 hp).1.1

set_option maxHeartbeats 12800000 in
set_option maxRecDepth 100000 in
theorem bits_any {w : World} {D : Ds} {v : Array Value} (hD : DescAt w D v) (fn fs : ByteArray) (Aa Bp Cs : Option Addr) (args : List Int) (pcs : List Pc) (ac bc2 cl cc2 : Nat) (hA : RowOf ArgS 2 w Aa args) (hP : RowOf PcAt 4 w Bp pcs) (hL : Light pcs) (hn : patN D args pcs ≠ 0) :
    Calls Tryz.prog 36 #[.agg v, .agg #[.string fn, .string fs, .slice Aa args.length ac, .slice Bp pcs.length bc2, .slice Cs cl cc2]] w fun e w' =>
      (e = .returned (.tuple #[.slice none 0 0, .bool false]) ∨ ∃ A c B, e = .returned (.tuple #[.slice A (wL D args pcs).length c, .bool true]) ∧ RowOf BtAt 3 w' A B ∧ PutAt D.order (wL D args pcs) B (wL D args pcs).length) ∧ Fr w w' := by
  have HSUM := Lib.hid (pat_sum hn)
  have HWR := Lib.hid (fun (w1 : World) (k : Fr w w1) => written_any (hD.fr k) fn fs Aa Bp Cs args pcs ac bc2 cl cc2 (hA.fr fun _ _ _ x => x.fr k) (hP.fr fun _ _ _ x => x.fr k) hL hn)
  have HPN := Lib.hid hn
  have HE0 := Lib.hid (show (wL D args pcs).length = patN D args pcs by rw [wL_len, HSUM.out.2.1])
  obtain ⟨T, hT⟩ : ∃ T, wL D args pcs = T := ⟨_, rfl⟩
  rw [hT] at HWR HE0 ⊢
  obtain ⟨s0, Fa, Ba, Ga, Ca, Ma, Ra, Ua, Xa, Ka, Na, Pa, fc, bc, gc, cc, mc, rc, uc, xc, kc, nl, nc, pc, rfl, h1, h2, h3, h4, h5, h6', h7, h8, h9⟩ := hD
  clear h1 h2 h3 h4 h5 h6' h7 h8 h9 hA hP hL hn hT
  have HF2 := Lib.hid (show Fr w ((w.alloc (.cells #[.string s0, .int .i64 D.order, .slice Fa D.files.length fc, .slice Ba D.als.length bc, .slice Ga D.nflags gc, .slice Ca D.cls.length cc, .slice Ma D.fms.length mc, .slice Ra D.rels.length rc, .slice Ua D.uses.length uc, .slice Xa D.rxs.length xc, .slice Ka D.mcs.length kc, .slice Na nl nc, .slice Pa D.regs.length pc] 33)).alloc (.cells #[.string fn, .string fs, .slice Aa args.length ac, .slice Bp pcs.length bc2, .slice Cs cl cc2] 43)) from Fr.alloc (Fr.alloc (Fr.refl w) _) _)
  have HDV := Lib.hid (show BlkAt ((w.alloc (.cells #[.string s0, .int .i64 D.order, .slice Fa D.files.length fc, .slice Ba D.als.length bc, .slice Ga D.nflags gc, .slice Ca D.cls.length cc, .slice Ma D.fms.length mc, .slice Ra D.rels.length rc, .slice Ua D.uses.length uc, .slice Xa D.rxs.length xc, .slice Ka D.mcs.length kc, .slice Na nl nc, .slice Pa D.regs.length pc] 33)).alloc (.cells #[.string fn, .string fs, .slice Aa args.length ac, .slice Bp pcs.length bc2, .slice Cs cl cc2] 43)) w.heap.size [.string s0, .int .i64 D.order, .slice Fa D.files.length fc, .slice Ba D.als.length bc, .slice Ga D.nflags gc, .slice Ca D.cls.length cc, .slice Ma D.fms.length mc, .slice Ra D.rels.length rc, .slice Ua D.uses.length uc, .slice Xa D.rxs.length xc, .slice Ka D.mcs.length kc, .slice Na nl nc, .slice Pa D.regs.length pc] from BlkAt.fr BlkAt.alloc (Fr.alloc (Fr.refl _) _))
  have htl : T.length ≤ 120 := by rw [HE0.out]; exact HSUM.out.2.2.2.2
  have htp : 0 < T.length := by rw [HE0.out]; exact Nat.pos_of_ne_zero HPN.out
  have ht8 : T.length % 8 = 0 := by rw [HE0.out]; exact HSUM.out.2.2.2.1
  have HPLT := Lib.hid (fun j (hj : j < T.length) => plcN_lt2 (o := D.order) hj ht8)
  have HAT := Lib.hid (fun j (hj : j < T.length) w => at_any D.order j T.length hj (by omega) w)
  clear ht8
  go_enter Tryz.func36, Tryz.ntmps36
  go_wp2_with fail
  generalize World.alloc (World.alloc w _) _ = W2 at *
  refine (HWR.out _ HF2.out).mono ?_
  rintro e w4 ⟨h | ⟨A, c, h, hrow⟩, hf4⟩
  · subst h
    have HF4 := Lib.hid (HF2.out.call hf4)
    clear hf4
    go_wp2
    go_ret2
    exact ⟨.inl rfl, HF4.out⟩
  · subst h
    have HF4 := Lib.hid (HF2.out.call hf4)
    have HD1 := Lib.hid (HDV.out.fr hf4 1 _ rfl)
    have HROW := Lib.hid hrow
    have hm := mk_bits T.length htl w4
    have HG := Lib.hid (made_bits T.length w4)
    have HFM := Lib.hid (Fr.alloc (Fr.refl w4) (.cells (madeCells #[.int .u8 0, .int .i64 0, .int .i64 0] (T.length * 3)) 107))
    clear hf4 hrow
    go_wp2
    generalize World.alloc w4 _ = Wm at *
    obtain ⟨g, hg0⟩ : ∃ g, w4.heap.size = g := ⟨_, rfl⟩
    have HGW := Lib.hid hg0
    rw [hg0] at HG ⊢
    clear hg0
    clear hm
    go_loopw [26] (fun i wr => RelBi D.order T g Wm i wr) (fun i _ => T.length - (intOf i).toNat)
    case atStart => exact ⟨0, _, Nat.zero_le _, rfl, Below.refl _ _, HG.out, by simp, fun s hs => absurd hs (by omega)⟩
    case round =>
      obtain ⟨j, B, hj, rfl, hb, hg, hp⟩ := hrel
      have HB := Lib.hid hb
      have HG2 := Lib.hid hg
      have HP := Lib.hid hp
      have hgw : g < wr.heap.size := hg.lt (by rw [hp.1]; omega)
      have HFW := Lib.hid (show Fr w4 wr from Below.trans HFM.out (Below.mono hb (by rw [HGW.out]; exact Nat.le_refl _)))
      clear hb hg hp
      by_cases hlt : j < T.length
      · obtain ⟨b, o, rfl, hx⟩ := (HROW.out.fr fun _ _ _ x => BtAt.fr x HFW.out).at hlt
        rw [Nat.mul_comm 3 j] at hx
        obtain ⟨x0, x1, x2⟩ := hx
        have HSTP := Lib.hid (HP.out.step hlt (HPLT.out j hlt))
        have HAT1 := Lib.hid (HAT.out j hlt)
        have hq := HPLT.out j hlt
        have hji : (j : Int) < (T.length : Int) := by omega
        have zx := lt_of_cell x0
        have HD2 := Lib.hid (HFW.out.get HD1.out)
        have d1 := HD2.out
        have zd := lt_of_cell d1
        generalize T[j] = x at *
        obtain ⟨lit, ar, nm⟩ := x
        simp only at x0 x1 x2
        generalize plcN D.order j T.length = q at *
        have hqe : (8 : Int) * ((q / 8 : Nat) : Int) + ((q % 8 : Nat) : Int) = (q : Int) := by omega
        have hq1 : q / 8 ≤ 120 := by omega
        have hq2 : q % 8 < 8 := Nat.mod_lt _ (by decide)
        have hqi : (q : Int) < (T.length : Int) := by omega
        generalize q / 8 = qa at *
        generalize q % 8 = qb at *
        have HFX := Lib.hid (Fr.alloc (Fr.refl wr) (.cells #[.int .u8 (lit : Int), .int .i64 ar, .int .i64 nm] 107))
        have HBX := Lib.hid (BlkAt.alloc (w := wr) (t := 107) (cs := #[.int .u8 (lit : Int), .int .i64 ar, .int .i64 nm]))
        have HGX := Lib.hid (HG2.out q (by rw [HP.out.1]; exact hq))
        obtain ⟨u0, u1, u2, y0, y1, y2, z0, z1, z2⟩ := rowG_ex HG2.out (show q < B.length by rw [HP.out.1]; exact hq)
        have b0 := HBX.out 0 _ rfl
        go_wp2_with (go_at_call 90; refine (HAT1.out _).mono ?_; rintro e w5 ⟨rfl, rfl⟩)
        go_roundw
        case rel => exact ⟨j + 1, _, by omega, by go_num, Below.alloc (Below.setCell (Below.setCell (Below.setCell HB.out (Nat.le_refl g) _) (Nat.le_refl g) _) (Nat.le_refl g) _) (by simp; omega) _, (HG2.out.put (by rw [HP.out.1]; exact hq) ⟨lit, ar, nm⟩).fr (Fr.alloc (Fr.refl _) _), HSTP.out⟩
        case measure => simp [intOf]; omega
      · obtain rfl : j = T.length := by omega
        have HRR := Lib.hid HG2.out.row
        have HLB := Lib.hid HP.out.1
        go_wp2
        go_ret2
        exact ⟨.inr ⟨some ⟨g, 0, none⟩, T.length, B, rfl, HRR.out, HP.out⟩, HF4.out.call HFW.out⟩
end Go.Proofs.YtgldfokjnkmifaaGreatDoor
namespace Go.Proofs.YtgldfokjnkmifaaGreatDoor
open Go.RowKit
set_option linter.unusedSimpArgs false
set_option linter.unusedVariables false

theorem put_word {x m : Nat} (hx : x < 18446744073709551616) (hm : m < 64) (h : x.testBit m = false) : (x + 2 ^ m) % 18446744073709551616 = x ||| 2 ^ m := by
  have h2 : 2 ^ m < 18446744073709551616 := pow_u64 ⟨m, hm⟩
  have hz : BitVec.ofNat 64 x &&& BitVec.ofNat 64 (2 ^ m) = 0#64 := by
    apply BitVec.eq_of_toNat_eq
    rw [BitVec.toNat_and, BitVec.toNat_ofNat, BitVec.toNat_ofNat, Nat.mod_eq_of_lt hx, Nat.mod_eq_of_lt h2]
    apply Nat.eq_of_testBit_eq
    intro i
    rw [Nat.testBit_and, Nat.testBit_two_pow]
    by_cases e : m = i
    · subst e; simp [h]
    · simp [e]
  have := congrArg BitVec.toNat (BitVec.add_eq_or_of_and_eq_zero _ _ hz)
  rw [BitVec.toNat_add, BitVec.toNat_or, BitVec.toNat_ofNat, BitVec.toNat_ofNat, Nat.mod_eq_of_lt hx, Nat.mod_eq_of_lt h2] at this
  exact this
theorem or_word {x m : Nat} (hx : x < 18446744073709551616) (hm : m < 64) : x ||| 2 ^ m < 18446744073709551616 := Nat.or_lt_two_pow (n := 64) hx (pow_u64 ⟨m, hm⟩)
/-- The bit at a place of bytes. -/
def bitOf (bs : List Nat) (p : Nat) : Bool := (bs.getD (p / 8) 0).testBit (p % 8)
/-- What the first j rounds know. -/
structure InvF (β : Nat → Bool) (n : Nat) (B : List Bt) (j : Nat) (V : List Nat) : Prop where
  len : V.length = n
  lt : ∀ x ∈ V, x < 18446744073709551616
  lit : ∀ p, p < j → ∀ x, B[p]? = some x → x.arg = -1 → (x.lit = 48 → β p = false) ∧ (x.lit = 49 → β p = true)
  bit : ∀ k m : Nat, k < n → ((V.getD k 0).testBit m = true ↔ ∃ p, p < j ∧ B[p]? = some ⟨0, (k : Int), (m : Int)⟩ ∧ β p = true)
theorem InvF.zero (β : Nat → Bool) (n : Nat) (B : List Bt) : InvF β n B 0 (List.replicate n 0) := by
  refine ⟨by simp, fun x hx => ?_, fun p hp => absurd hp (by omega), fun k m hk => ?_⟩
  · rw [List.eq_of_mem_replicate hx]; decide
  · have : (List.replicate n 0).getD k 0 = 0 := by simp [List.getD_eq_getElem?_getD, List.getElem?_replicate, hk]
    rw [this]
    constructor
    · intro h; simp at h
    · rintro ⟨p, hp, _⟩; omega
theorem InvF.skip {β : Nat → Bool} {n : Nat} {B : List Bt} {j : Nat} {V : List Nat} (h : InvF β n B j V) {x : Bt} (hx : B[j]? = some x) (hl : x.arg = -1 → (x.lit = 48 → β j = false) ∧ (x.lit = 49 → β j = true)) (hb : x.arg ≠ -1 → β j = false) : InvF β n B (j + 1) V := by
  refine ⟨h.len, h.lt, fun p hp y hy ha => ?_, fun k m hk => ?_⟩
  · rcases Nat.lt_or_ge p j with h1 | h1
    · exact h.lit p h1 y hy ha
    · obtain rfl : p = j := by omega
      obtain rfl : x = y := Option.some.inj (hx.symm.trans hy)
      exact hl ha
  · rw [h.bit k m hk]
    constructor
    · rintro ⟨p, hp, h1, h2⟩; exact ⟨p, by omega, h1, h2⟩
    · rintro ⟨p, hp, h1, h2⟩
      rcases Nat.lt_or_ge p j with h3 | h3
      · exact ⟨p, h3, h1, h2⟩
      · obtain rfl : p = j := by omega
        obtain rfl := Option.some.inj (hx.symm.trans h1)
        have := hb (by simp only; omega)
        rw [this] at h2; cases h2
theorem InvF.put {β : Nat → Bool} {n : Nat} {B : List Bt} {j : Nat} {V : List Nat} (h : InvF β n B j V) {k m : Nat} (hx : B[j]? = some ⟨0, (k : Int), (m : Int)⟩) (hk : k < n) (hm : m < 64) (hb : β j = true) (hu : ∀ p, p < j → B[p]? ≠ some ⟨0, (k : Int), (m : Int)⟩) :
    (V.getD k 0).testBit m = false ∧ InvF β n B (j + 1) (V.set k (V.getD k 0 ||| 2 ^ m)) := by
  have h0 : (V.getD k 0).testBit m = false := by
    cases hc : (V.getD k 0).testBit m with
    | false => rfl
    | true =>
      obtain ⟨p, hp, h1, _⟩ := (h.bit k m hk).1 hc
      exact absurd h1 (hu p hp)
  have hkV : k < V.length := by rw [h.len]; exact hk
  refine ⟨h0, by simpa using h.len, fun x hx' => ?_, fun p hp y hy ha => ?_, fun k' m' hk' => ?_⟩
  · rcases List.mem_or_eq_of_mem_set hx' with h1 | rfl
    · exact h.lt x h1
    · refine or_word ?_ hm
      rw [List.getD_eq_getElem?_getD, List.getElem?_eq_getElem hkV]
      exact h.lt _ (List.getElem_mem hkV)
  · rcases Nat.lt_or_ge p j with h1 | h1
    · exact h.lit p h1 y hy ha
    · obtain rfl : p = j := by omega
      obtain rfl := Option.some.inj (hx.symm.trans hy)
      simp only at ha; omega
  · by_cases e : k' = k
    · subst e
      have : (V.set k' (V.getD k' 0 ||| 2 ^ m)).getD k' 0 = V.getD k' 0 ||| 2 ^ m := by
        rw [List.getD_eq_getElem?_getD, List.getElem?_set_self hkV]; rfl
      rw [this, Nat.testBit_or, Bool.or_eq_true, h.bit k' m' hk', Nat.testBit_two_pow, decide_eq_true_eq]
      constructor
      · rintro (⟨p, hp, h1, h2⟩ | rfl)
        · exact ⟨p, by omega, h1, h2⟩
        · exact ⟨j, by omega, hx, hb⟩
      · rintro ⟨p, hp, h1, h2⟩
        rcases Nat.lt_or_ge p j with h3 | h3
        · exact .inl ⟨p, h3, h1, h2⟩
        · obtain rfl : p = j := by omega
          have := Option.some.inj (hx.symm.trans h1)
          injection this with _ _ h4
          right; omega
    · have : (V.set k (V.getD k 0 ||| 2 ^ m)).getD k' 0 = V.getD k' 0 := by
        rw [List.getD_eq_getElem?_getD, List.getElem?_set_ne (Ne.symm e), ← List.getD_eq_getElem?_getD]
      rw [this, h.bit k' m' hk']
      constructor
      · rintro ⟨p, hp, h1, h2⟩; exact ⟨p, by omega, h1, h2⟩
      · rintro ⟨p, hp, h1, h2⟩
        rcases Nat.lt_or_ge p j with h3 | h3
        · exact ⟨p, h3, h1, h2⟩
        · obtain rfl : p = j := by omega
          have := Option.some.inj (hx.symm.trans h1)
          injection this with _ h4 _
          omega
theorem plcN_back {o : Int} {s n : Nat} (h : s < n) (h8 : n % 8 = 0) : plcN o (plcN o s n) n = s := by
  unfold plcN; split <;> omega
/-- Each place holds a bit that is written. -/
theorem PutAt.at {o : Int} {T B : List Bt} (h : PutAt o T B T.length) (h8 : T.length % 8 = 0) {p : Nat} (hp : p < T.length) : B[p]? = T[plcN o p T.length]? := by
  have h1 := h.2 (plcN o p T.length) (plcN_lt2 hp h8)
  rwa [plcN_back hp h8] at h1
theorem put_once {o : Int} {T B : List Bt} (h : PutAt o T B T.length) (h8 : T.length % 8 = 0) (ho : T.Pairwise (fun a b => a.arg ≠ -1 → a ≠ b)) {p q : Nat} (hp : p < T.length) (hq : q < T.length) (hpq : p < q) {x : Bt} (ha : x.arg ≠ -1) (h1 : B[p]? = some x) (h2 : B[q]? = some x) : False := by
  rw [h.at h8 hp] at h1
  rw [h.at h8 hq] at h2
  obtain ⟨l1, e1⟩ := List.getElem?_eq_some_iff.1 h1
  obtain ⟨l2, e2⟩ := List.getElem?_eq_some_iff.1 h2
  have hpw := List.pairwise_iff_getElem.1 ho
  rcases Nat.lt_trichotomy (plcN o p T.length) (plcN o q T.length) with h3 | h3 | h3
  · exact hpw _ _ l1 l2 h3 (by rw [e1]; exact ha) (e1.trans e2.symm)
  · have := plcN_inj hp hq h3; omega
  · exact hpw _ _ l2 l1 h3 (by rw [e2]; exact ha) (e2.trans e1.symm)
theorem layB_at {o : Int} {bits : Nat} {k m : Nat} : ∀ (l : List Bt) (wr : Nat) (L : Ly) (i : Nat), (∀ x ∈ l, x.arg ≠ -1 → 0 ≤ x.arg ∧ 0 ≤ x.num ∧ x.lit = 0) → l.Pairwise (fun a b => a.arg ≠ -1 → a ≠ b) → l[i]? = some ⟨0, (k : Int), (m : Int)⟩ →
    (∃ c a, L.ops[k]? = some (c, a) ∧ m < a.length) → ∃ c a, (layB o bits l wr L).ops[k]? = some (c, a) ∧ a[m]? = some (plcN o (wr + i) bits : Int)
  | [], _, _, i, _, _, h, _ => by simp at h
  | x :: r, wr, L, 0, hx, hp, h, ⟨c, a, h1, h2⟩ => by
    obtain rfl : x = ⟨0, (k : Int), (m : Int)⟩ := by simpa using h
    have hk : ¬ (k : Int) = -1 := by omega
    show ∃ c a, (layB o bits r (wr + 1) (putB _ (plcN o wr bits) L)).ops[k]? = _ ∧ _
    refine layB_ops r (wr + 1) _ _ (fun y hy => hx y (by simp [hy])) ?_ (fun y hy e => (List.pairwise_cons.1 hp).1 y hy (by simp only; exact hk) e.symm)
    refine ⟨c, a.set m (plcN o wr bits : Int), ?_, ?_⟩
    · unfold putB; rw [if_neg (by simp only; exact hk)]; unfold putO; simp [List.getElem?_modify, h1]
    · rw [List.getElem?_set_self h2]; simp
  | x :: r, wr, L, i + 1, hx, hp, h, ⟨c, a, h1, h2⟩ => by
    show ∃ c a, (layB o bits r (wr + 1) (putB x (plcN o wr bits) L)).ops[k]? = _ ∧ _
    rw [show wr + (i + 1) = wr + 1 + i by omega]
    obtain ⟨a', h3, h4⟩ := layB_len (o := o) (bits := bits) [x] wr L c a.length ⟨a, h1, rfl⟩
    exact layB_at r (wr + 1) _ i (fun y hy => hx y (by simp [hy])) (List.pairwise_cons.1 hp).2 (by simpa using h) ⟨c, a', h3, by omega⟩
/-- What the rounds come to: the bytes fit the form's layout. -/
theorem fits_lay {D : Ds} {args : List Int} {pcs : List Pc} (hn : patN D args pcs ≠ 0) {β : Nat → Bool} {B : List Bt} {V : List Nat} (hB : PutAt D.order (wL D args pcs) B (wL D args pcs).length) (h : InvF β args.length B (wL D args pcs).length V)
    (hv : ∀ i : Nat, i < args.length → ∀ c, D.cls[(args.getD i 0).toNat]? = some c → valI c (V.getD i 0) ∉ c.ex) : FitL β (layD D args pcs) := by
  obtain ⟨e, el⟩ := layD_B hn
  obtain ⟨h1, _, _, h8, hb⟩ := pat_sum hn
  have ho := wL_once hn
  have hok := wL_ok hn
  have hall := h1
  unfold opsB at hall
  rw [Bool.and_eq_true] at hall
  have hargs : ∀ x ∈ wL D args pcs, x.arg ≠ -1 → 0 ≤ x.arg ∧ 0 ≤ x.num ∧ x.lit = 0 := fun x hx ha => by
    rcases hok x hx with ⟨h2, _⟩ | ⟨h2, k, m, h3, h4, _⟩
    · exact absurd h2 ha
    · exact ⟨by omega, by omega, h2⟩
  rw [el] at hB
  have h8T : (wL D args pcs).length % 8 = 0 := by rw [el]; exact h8
  refine ⟨?_, fun x hx => ?_⟩
  · rw [e]
    refine layB_fit hb h8 _ 0 _ (by omega) ⟨fun p _ hh => ?_, fun p _ hh => ?_⟩ (fun i x hx ha => ?_)
    · unfold hasN lay0 at hh; split at hh <;> simp at hh
    · unfold hasN lay0 at hh; split at hh <;> simp at hh
    · have hi := (List.getElem?_eq_some_iff.1 hx).1
      have hpl : plcN D.order i (patN D args pcs) < patN D args pcs := plcN_lt2 (by omega) h8
      have := hB.2 i (by omega)
      rw [el] at this
      rw [Nat.zero_add]
      exact h.lit _ (by omega) x (this.trans hx) ha
  · obtain ⟨k, hk, rfl⟩ := List.mem_iff_getElem.1 hx
    have hlen : (layD D args pcs).ops.length = args.length := by
      have : ∀ (l : List Bt) (wr : Nat) (L : Ly), (layB D.order (patN D args pcs) l wr L).ops.length = L.ops.length := by
        intro l
        induction l with
        | nil => intro _ _; rfl
        | cons y r ih =>
          intro wr L
          show (layB _ _ r (wr + 1) (putB y _ L)).ops.length = _
          rw [ih]
          unfold putB
          split
          · split
            · rw [(addZ_else L _).2.2]
            · split
              · rw [(addU_else L _).2.2]
              · rfl
          · simp [putO]
      rw [e, this]; simp [lay0]
    have hka : k < args.length := by omega
    obtain ⟨c, ec, hc, hcl, hba, hb1, hb64⟩ := args_at hall.2 hka
    have h0 : (lay0 D args).ops[k]? = some (D.cls[c], List.replicate (D.cls[c]).bits.toNat 0) := by
      simp [lay0, op0, List.getElem?_eq_getElem hka, ec, List.getElem?_eq_getElem hc]
    obtain ⟨a, ha, hal⟩ := layB_len (o := D.order) (bits := patN D args pcs) (k := k) (wL D args pcs) 0 (lay0 D args) D.cls[c] _ ⟨_, h0, rfl⟩
    rw [← e] at ha
    have hx2 : (layD D args pcs).ops[k] = (D.cls[c], a) := (List.getElem?_eq_some_iff.1 ha).2
    rw [hx2]
    have hcv := hv k hka D.cls[c] (by rw [List.getD_eq_getElem?_getD, List.getElem?_eq_getElem hka]; simp only [Option.getD_some, ec, Int.toNat_natCast]; exact List.getElem?_eq_getElem hc)
    have hnum : numA β a = V.getD k 0 := by
      apply Nat.eq_of_testBit_eq
      intro m
      rw [numA_bit]
      by_cases hm : (m : Int) < (D.cls[c]).bits
      · have hmem := (ho.has k m hka).2 (by rw [hba]; exact hm)
        obtain ⟨s, hs, es⟩ := List.mem_iff_getElem.1 hmem
        have hs2 : (wL D args pcs)[s]? = some ⟨0, (k : Int), (m : Int)⟩ := by rw [List.getElem?_eq_getElem hs, es]
        obtain ⟨c2, a2, h2, h3⟩ := layB_at (o := D.order) (bits := patN D args pcs) (wL D args pcs) 0 (lay0 D args) s hargs ho.once hs2 ⟨_, _, h0, by simp; omega⟩
        rw [← e, ha] at h2
        obtain ⟨rfl, rfl⟩ : D.cls[c] = c2 ∧ a = a2 := by injection h2 with h2; injection h2 with h4 h5; exact ⟨h4, h5⟩
        rw [h3, Nat.zero_add]
        simp only [Int.toNat_natCast]
        have hplt : plcN D.order s (patN D args pcs) < patN D args pcs := plcN_lt2 (by omega) h8
        have hBs := hB.2 s (by omega)
        rw [el] at hBs
        rw [hs2] at hBs
        cases hβ : β (plcN D.order s (patN D args pcs)) with
        | true => exact ((h.bit k m hka).2 ⟨_, by omega, hBs, hβ⟩).symm
        | false =>
          cases hV : (V.getD k 0).testBit m with
          | false => rfl
          | true =>
            obtain ⟨p, hp, h5, h6⟩ := (h.bit k m hka).1 hV
            exfalso
            have hpq : p ≠ plcN D.order s (patN D args pcs) := fun e2 => by rw [e2, hβ] at h6; cases h6
            have hB' : PutAt D.order (wL D args pcs) B (wL D args pcs).length := by rw [el]; exact hB
            rcases Nat.lt_or_gt_of_ne hpq with h7 | h7
            · exact put_once hB' h8T ho.once hp (by omega) h7 (by simp only; omega) h5 hBs
            · exact put_once hB' h8T ho.once (by omega) hp h7 (by simp only; omega) hBs h5
      · have : a[m]? = none := List.getElem?_eq_none (by rw [hal, List.length_replicate]; omega)
        rw [this]
        cases hV : (V.getD k 0).testBit m with
        | false => rfl
        | true =>
          obtain ⟨p, hp, h5, _⟩ := (h.bit k m hka).1 hV
          exfalso
          have hB' : PutAt D.order (wL D args pcs) B (wL D args pcs).length := by rw [el]; exact hB
          have h6 := h5
          rw [hB'.at h8T hp] at h6
          have := (ho.has k m hka).1 (List.mem_of_getElem? h6)
          rw [hba] at this; exact hm this
    rw [hnum]; exact hcv
/-- How great the numbers get. -/
theorem invF_lt {D : Ds} {args : List Int} {pcs : List Pc} (hn : patN D args pcs ≠ 0) {β : Nat → Bool} {B : List Bt} {V : List Nat} (hB : PutAt D.order (wL D args pcs) B (wL D args pcs).length) (h : InvF β args.length B (wL D args pcs).length V) {k : Nat} (hk : k < args.length) : V.getD k 0 < 2 ^ (bitsAt D args k).toNat := by
  have ho := wL_once hn
  obtain ⟨_, el⟩ := layD_B hn
  obtain ⟨_, _, _, h8, _⟩ := pat_sum hn
  have h8T : (wL D args pcs).length % 8 = 0 := by rw [el]; exact h8
  apply Nat.lt_pow_two_of_testBit
  intro m hm
  cases hV : (V.getD k 0).testBit m with
  | false => rfl
  | true =>
    obtain ⟨p, hp, h5, _⟩ := (h.bit k m hk).1 hV
    exfalso
    rw [hB.at h8T hp] at h5
    have := (ho.has k m hk).1 (List.mem_of_getElem? h5)
    omega
end Go.Proofs.YtgldfokjnkmifaaGreatDoor
