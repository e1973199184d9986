/- The law's fits: are bytes such as a form's bits say? -/
import Derived.Test.YtgldfokjnkmifaaGreatDoorP36
namespace Go.Proofs.YtgldfokjnkmifaaGreatDoor
open Go.RowKit
set_option linter.unusedSimpArgs false
set_option linter.unusedVariables false

def BnC (w : World) (b o : Nat) (x : Nat) : Prop := x < 256 ∧ w.cell? ⟨b, o, none⟩ = some (.int .u8 (x : Int))
theorem BnC.fr {w w' : World} {b o x : Nat} (h : BnC w b o x) (k : Fr w w') : BnC w' b o x := ⟨h.1, k.get h.2⟩
/-- Numbers in a row of the call's own. -/
def ValG (g : Nat) (w : World) (V : List Nat) : Prop := ∀ k (h : k < V.length), w.cell? ⟨g, k, none⟩ = some (.int .u64 (V[k] : Int)) ∧ w.frozen? ⟨g, k, none⟩ = false
theorem ValG.fr {g : Nat} {w w' : World} {V : List Nat} (h : ValG g w V) (k : Fr w w') : ValG g w' V := fun i hi => ⟨k.get (h i hi).1, k.free (h i hi).1 (h i hi).2⟩
theorem ValG.put {g : Nat} {w : World} {V : List Nat} (h : ValG g w V) {k : Nat} (hk : k < V.length) (x : Nat) : ValG g (w.setCell ⟨g, k, none⟩ (.int .u64 (x : Int))) (V.set k x) := fun i hi => by
  have hi' : i < V.length := by simpa using hi
  refine ⟨?_, by rw [World.frozen?_setCell]; exact (h i hi').2⟩
  by_cases e : k = i
  · subst e
    rw [List.getElem_set_self]; exact World.cell?_setCell_same _ _ _ (h k hk).1
  · rw [List.getElem_set_ne e, cell_set_ne e]; exact (h i hi').1
theorem Tryz.infoU : (Tryz.prog.info? 66).map (fun i => (i.zero, i.size, i.bytes)) = some (some (.int .u64 0), 1, 8) := by kernel_rfl
theorem mk_vals (n : Nat) (hn : n ≤ 6) (w : World) : (Instr.makeSlice 105 (.int .i64 (n : Int)) (.int .i64 (n : Int))).run Tryz.prog w = .ok (.slice (some ⟨w.heap.size, 0, none⟩) n n) (w.alloc (.cells (madeCells #[.int .u64 0] n) 66)) := by
  obtain ⟨i, hi', hz0, hz1, hz2⟩ := info_parts Tryz.infoU
  have := run_make (P := Tryz.prog) w 105 66 i _ Tryz.underlying105 hi' hz0 .i64 .i64 n n (by omega) (Int.le_refl _) (by rw [hz2]; omega) (by omega)
  rw [hz1] at this
  simpa [Value.cells] using this
theorem made_vals (n : Nat) (w : World) : ValG w.heap.size (w.alloc (.cells (madeCells #[.int .u64 0] n) 66)) (List.replicate n 0) := fun k hk => by
  have hk' : k < n := by simpa using hk
  have hb := BlkAt.alloc (w := w) (t := 66) (cs := madeCells #[.int .u64 0] n)
  refine ⟨?_, World.frozen?_alloc_at _ _ _ _ rfl⟩
  rw [List.getElem_replicate]
  refine hb _ _ ?_
  have : k < (madeCells #[Value.int .u64 0] n).size := by rw [size_madeCells]; exact hk'
  rw [Array.getElem?_toList, Array.getElem?_eq_getElem this]
  simp [madeCells, Nat.mod_one]
theorem ValG.lt {g : Nat} {w : World} {V : List Nat} (h : ValG g w V) (hp : 0 < V.length) : g < w.heap.size := lt_of_cell (h 0 hp).1
def RelF1 (β : Nat → Bool) (n : Nat) (B : List Bt) (N g : Nat) (Wm : World) (i : Value) (wr : World) : Prop := ∃ (j : Nat) (V : List Nat), j ≤ N ∧ i = .int .i64 (j : Int) ∧ Below g Wm wr ∧ g < wr.heap.size ∧ ValG g wr V ∧ InvF β n B j V
def RelF2 (D : Ds) (args : List Int) (V : List Nat) (W : World) (i : Value) (wr : World) : Prop := ∃ j : Nat, j ≤ args.length ∧ i = .int .i64 (j : Int) ∧ Fr W wr ∧ ∀ k : Nat, k < j → ∀ c, D.cls[(args.getD k 0).toNat]? = some c → valI c (V.getD k 0) ∉ c.ex
def RelF3 (ex : List Int) (z : Int) (W : World) (i : Value) (wr : World) : Prop := ∃ m : Nat, m ≤ ex.length ∧ i = .int .i64 (m : Int) ∧ Fr W wr ∧ z ∉ ex.take m
/-- What the law's fits answers: yes only of bytes that fit the layout. -/
def FitP (β : Nat → Bool) (L : Ly) (w : World) (e : Ending) (w' : World) : Prop := ∃ r : Bool, e = .returned (.bool r) ∧ (r = true → FitL β L) ∧ Fr w w'
theorem fitP_no {β : Nat → Bool} {L : Ly} {w w' : World} {v : Value} (hv : v = .bool false) (k : Fr w w') : FitP β L w (.returned v) w' := ⟨false, by rw [hv], (fun h => by cases h), k⟩
theorem fitP_yes {β : Nat → Bool} {L : Ly} {w w' : World} {v : Value} (hv : v = .bool true) (h : FitL β L) (k : Fr w w') : FitP β L w (.returned v) w' := ⟨true, by rw [hv], fun _ => h, k⟩
theorem take_not {ex : List Int} {z : Int} {m : Nat} (h : m < ex.length) (h1 : z ∉ ex.take m) (h2 : ex[m] ≠ z) : z ∉ ex.take (m + 1) := by
  rw [List.take_succ_eq_append_getElem h, List.mem_append]
  rintro (h3 | h3)
  · exact h1 h3
  · exact h2 (List.mem_singleton.1 h3).symm

set_option maxHeartbeats 25600000 in
set_option maxRecDepth 100000 in
theorem fits_any {w : World} {D : Ds} {v : Array Value} (hD : DescAt w D v) (fn fs : ByteArray) (Aa Bp Cs : Option Addr) (args : List Int) (pcs : List Pc) (ac bc2 cl cc2 : Nat) (hA : RowOf ArgS 2 w Aa args) (hP : RowOf PcAt 4 w Bp pcs) (hL : Light pcs) (hn : patN D args pcs ≠ 0)
    (Y : Option Addr) (bs : List Nat) (yc : Nat) (hY : RowOf BnC 1 w Y bs) (hyl : bs.length ≤ 1048576) :
    Calls Tryz.prog 10 #[.agg v, .agg #[.string fn, .string fs, .slice Aa args.length ac, .slice Bp pcs.length bc2, .slice Cs cl cc2], .slice Y bs.length yc] w fun e w' => FitP (bitOf bs) (layD D args pcs) w e w' := by
  have HSUM := Lib.hid (pat_sum hn)
  have hop := (pat_sum hn).1
  unfold opsB at hop
  rw [Bool.and_eq_true] at hop
  have hall : args.all (clsAtB D) = true := hop.2
  have h6 : args.length ≤ 6 := of_decide_eq_true hop.1
  have HBI := Lib.hid (fun (w1 : World) (k : Fr w w1) => bits_any (hD.fr k) fn fs Aa Bp Cs args pcs ac bc2 cl cc2 (hA.fr fun _ _ _ x => x.fr k) (hP.fr fun _ _ _ x => x.fr k) hL hn)
  have HE0 := Lib.hid (show (wL D args pcs).length = patN D args pcs by rw [wL_len, HSUM.out.2.1])
  have HFL := Lib.hid (fun (B : List Bt) (V : List Nat) hB hI hv => fits_lay (B := B) (V := V) (β := bitOf bs) hn hB hI hv)
  have HLT := Lib.hid (fun (B : List Bt) (V : List Nat) hB hI k hk => invF_lt (B := B) (V := V) (β := bitOf bs) (k := k) hn hB hI hk)
  have HOK := Lib.hid (wL_ok hn)
  have HON := Lib.hid (wL_once hn)
  have htl : (wL D args pcs).length ≤ 120 := by rw [HE0.out]; exact HSUM.out.2.2.2.2
  have HT8 := Lib.hid (show (wL D args pcs).length % 8 = 0 by rw [HE0.out]; exact HSUM.out.2.2.2.1)
  have htp : 0 < (wL D args pcs).length := by rw [HE0.out]; exact Nat.pos_of_ne_zero hn
  obtain ⟨T, hT⟩ : ∃ T, wL D args pcs = T := ⟨_, rfl⟩
  rw [hT] at HBI HFL HLT HOK HON HT8 htl htp
  have HY := Lib.hid hY
  have HALL := Lib.hid hall
  obtain ⟨s0, Fa, Ba, Ga, Ca, Ma, Ra, Ua, Xa, Ka, Na, Pa, fc, bc, gc, cc, mc, rc, uc, xc, kc, nl, nc, pc, rfl, h1, h2, h3, h4, h5, h6', h7, h8, h9⟩ := hD
  have HC := Lib.hid h3
  have HA := Lib.hid hA
  clear h1 h2 h3 h4 h5 h6' h7 h8 h9 hA hP hL hn hT hop hall hY HE0 HSUM
  have HF2 := Lib.hid (show Fr w ((w.alloc (.cells #[.string s0, .int .i64 D.order, .slice Fa D.files.length fc, .slice Ba D.als.length bc, .slice Ga D.nflags gc, .slice Ca D.cls.length cc, .slice Ma D.fms.length mc, .slice Ra D.rels.length rc, .slice Ua D.uses.length uc, .slice Xa D.rxs.length xc, .slice Ka D.mcs.length kc, .slice Na nl nc, .slice Pa D.regs.length pc] 33)).alloc (.cells #[.string fn, .string fs, .slice Aa args.length ac, .slice Bp pcs.length bc2, .slice Cs cl cc2] 43)) from Fr.alloc (Fr.alloc (Fr.refl w) _) _)
  have HDV := Lib.hid (show BlkAt ((w.alloc (.cells #[.string s0, .int .i64 D.order, .slice Fa D.files.length fc, .slice Ba D.als.length bc, .slice Ga D.nflags gc, .slice Ca D.cls.length cc, .slice Ma D.fms.length mc, .slice Ra D.rels.length rc, .slice Ua D.uses.length uc, .slice Xa D.rxs.length xc, .slice Ka D.mcs.length kc, .slice Na nl nc, .slice Pa D.regs.length pc] 33)).alloc (.cells #[.string fn, .string fs, .slice Aa args.length ac, .slice Bp pcs.length bc2, .slice Cs cl cc2] 43)) w.heap.size [.string s0, .int .i64 D.order, .slice Fa D.files.length fc, .slice Ba D.als.length bc, .slice Ga D.nflags gc, .slice Ca D.cls.length cc, .slice Ma D.fms.length mc, .slice Ra D.rels.length rc, .slice Ua D.uses.length uc, .slice Xa D.rxs.length xc, .slice Ka D.mcs.length kc, .slice Na nl nc, .slice Pa D.regs.length pc] from BlkAt.fr BlkAt.alloc (Fr.alloc (Fr.refl _) _))
  have HFV := Lib.hid (show BlkAt ((w.alloc (.cells #[.string s0, .int .i64 D.order, .slice Fa D.files.length fc, .slice Ba D.als.length bc, .slice Ga D.nflags gc, .slice Ca D.cls.length cc, .slice Ma D.fms.length mc, .slice Ra D.rels.length rc, .slice Ua D.uses.length uc, .slice Xa D.rxs.length xc, .slice Ka D.mcs.length kc, .slice Na nl nc, .slice Pa D.regs.length pc] 33)).alloc (.cells #[.string fn, .string fs, .slice Aa args.length ac, .slice Bp pcs.length bc2, .slice Cs cl cc2] 43)) (w.heap.size + 1) [.string fn, .string fs, .slice Aa args.length ac, .slice Bp pcs.length bc2, .slice Cs cl cc2] from by
    have := BlkAt.alloc (w := w.alloc (.cells #[.string s0, .int .i64 D.order, .slice Fa D.files.length fc, .slice Ba D.als.length bc, .slice Ga D.nflags gc, .slice Ca D.cls.length cc, .slice Ma D.fms.length mc, .slice Ra D.rels.length rc, .slice Ua D.uses.length uc, .slice Xa D.rxs.length xc, .slice Ka D.mcs.length kc, .slice Na nl nc, .slice Pa D.regs.length pc] 33)) (t := 43) (cs := #[.string fn, .string fs, .slice Aa args.length ac, .slice Bp pcs.length bc2, .slice Cs cl cc2])
    simpa using this)
  go_enter Tryz.func10, Tryz.ntmps10
  go_wp2_with fail
  generalize World.alloc (World.alloc w _) _ = W2 at *
  refine (HBI.out _ HF2.out).mono ?_
  rintro e w4 ⟨h | ⟨A, c, B, h, hrow, hput⟩, hf4⟩
  · subst h
    have HF4 := Lib.hid (HF2.out.call hf4)
    clear hf4
    go_wp2
    go_ret
    exact fitP_no rfl HF4.out
  · subst h
    have HF4 := Lib.hid (HF2.out.call hf4)
    have HD4 := Lib.hid (HDV.out.fr hf4)
    have HG4 := Lib.hid (HFV.out.fr hf4)
    have HROW := Lib.hid hrow
    have HPUT := Lib.hid hput
    clear hf4 hrow hput
    by_cases hlen : T.length ≤ 8 * bs.length
    · have hli : (T.length : Int) ≤ 8 * (bs.length : Int) := by omega
      have hm := mk_vals args.length h6 w4
      have HG := Lib.hid (made_vals args.length w4)
      have HFM := Lib.hid (Fr.alloc (Fr.refl w4) (.cells (madeCells #[.int .u64 0] args.length) 66))
      have HGZ := Lib.hid (show w4.heap.size < (w4.alloc (.cells (madeCells #[.int .u64 0] args.length) 66)).heap.size by simp)
      have f2 := HG4.out 2 _ rfl
      have zf := lt_of_cell f2
      go_wp2
      clear f2 zf hm
      generalize World.alloc w4 _ = Wm at *
      obtain ⟨g, hg0⟩ : ∃ g, w4.heap.size = g := ⟨_, rfl⟩
      have HGW := Lib.hid hg0
      rw [hg0] at HG HGZ ⊢
      clear hg0
      go_loopw [39] (fun i wr => RelF1 (bitOf bs) args.length B T.length g Wm i wr) (fun i _ => T.length - (intOf i).toNat)
      case atStart => exact ⟨0, _, Nat.zero_le _, rfl, Below.refl _ _, HGZ.out, HG.out, InvF.zero _ _ _⟩
      case round =>
        obtain ⟨j, V, hj, rfl, hb, hgw, hg, hi⟩ := hrel
        have HB := Lib.hid hb
        have HVG := Lib.hid hg
        have HI := Lib.hid hi
        have HFW := Lib.hid (show Fr w4 wr from Below.trans HFM.out (Below.mono hb (by rw [HGW.out]; exact Nat.le_refl _)))
        clear hb hg hi
        by_cases hlt : j < T.length
        · have hjB : j < B.length := by rw [HPUT.out.1]; exact hlt
          obtain ⟨b, o, rfl, hx⟩ := (HROW.out.fr fun _ _ _ x => BtAt.fr x HFW.out).at hjB
          rw [Nat.mul_comm 3 j] at hx
          obtain ⟨x0, x1, x2⟩ := hx
          have HX := Lib.hid (show B[j]? = some B[j] from List.getElem?_eq_getElem hjB)
          have hmem : B[j] ∈ T := by
            have h1 := HX.out
            rw [HPUT.out.at HT8.out hlt] at h1
            exact List.mem_of_getElem? h1
          have hok := HOK.out _ hmem
          clear hmem
          generalize B[j] = x at *
          obtain ⟨lit, ar, nm⟩ := x
          simp only at x0 x1 x2
          have hja : j / 8 < bs.length := by omega
          obtain ⟨bb, ob, rfl, hyb, y0⟩ := (HY.out.fr fun _ _ _ x => BnC.fr x (HF4.out.call HFW.out)).at hja
          rw [Nat.one_mul] at y0
          have e1 : Int.tdiv (j : Int) 8 = ((j / 8 : Nat) : Int) := by simp
          have e2 : Int.tmod (j : Int) 8 = ((j % 8 : Nat) : Int) := by rw [Int.tmod_eq_emod_of_nonneg (by omega)]; simp
          have hjb : j % 8 < 8 := Nat.mod_lt _ (by decide)
          have hjai : ((j / 8 : Nat) : Int) < (bs.length : Int) := by omega
          have HBE := Lib.hid (show bitOf bs j = decide (bs[j / 8] / 2 ^ (j % 8) % 2 = 1) by
            unfold bitOf; rw [List.getD_eq_getElem?_getD, List.getElem?_eq_getElem hja, Option.getD_some, Nat.testBit_eq_decide_div_mod_eq])
          generalize bs[j / 8] = xb at *
          generalize j / 8 = ja at *
          generalize j % 8 = jb at *
          have e3 : (xb : Int) / 2 ^ jb = ((xb / 2 ^ jb : Nat) : Int) := by simp
          have hy256 : xb / 2 ^ jb < 256 := Nat.lt_of_le_of_lt (Nat.div_le_self _ _) hyb
          generalize xb / 2 ^ jb = yv at *
          have e4 : Int.tmod (yv : Int) 2 = ((yv % 2 : Nat) : Int) := by rw [Int.tmod_eq_emod_of_nonneg (by omega)]; simp
          have ht2 : yv % 2 = 0 ∨ yv % 2 = 1 := by omega
          have hji : (j : Int) < (T.length : Int) := by omega
          have zx := lt_of_cell x0
          have zy := lt_of_cell y0
          generalize yv % 2 = tt at *
          rcases ht2 with rfl | rfl
          · have HBJ := Lib.hid (show bitOf bs j = false from HBE.out)
            rcases hok with ⟨ha, hnm, hl⟩ | ⟨ha, k, m, e5, e6, hk, hm, hm6⟩
            · simp only at ha hnm hl
              subst ha hnm
              rcases hl with rfl | rfl | rfl
              · go_wp2
                go_roundw
                case rel => exact ⟨j + 1, V, by omega, by go_num, Below.alloc HB.out (Nat.le_of_lt hgw) _, by simp; omega, HVG.out.fr (Fr.alloc (Fr.refl _) _), HI.out.skip HX.out (fun _ => ⟨fun _ => HBJ.out, (fun h => absurd h (by decide))⟩) (fun h => absurd rfl h)⟩
                case measure => simp [intOf]; omega
              · go_wp2
                go_ret
                exact fitP_no rfl (HF4.out.call (HFW.out.call (Fr.alloc (Fr.refl _) _)))
              · go_wp2
                go_roundw
                case rel => exact ⟨j + 1, V, by omega, by go_num, Below.alloc HB.out (Nat.le_of_lt hgw) _, by simp; omega, HVG.out.fr (Fr.alloc (Fr.refl _) _), HI.out.skip HX.out (fun _ => ⟨fun _ => HBJ.out, (fun h => absurd h (by decide))⟩) (fun h => absurd rfl h)⟩
                case measure => simp [intOf]; omega
            · simp only at ha e5 e6
              subst ha e5 e6
              go_wp2
              go_roundw
              case rel => exact ⟨j + 1, V, by omega, by go_num, Below.alloc HB.out (Nat.le_of_lt hgw) _, by simp; omega, HVG.out.fr (Fr.alloc (Fr.refl _) _), HI.out.skip HX.out (fun h => absurd h (by simp only; omega)) (fun _ => HBJ.out)⟩
              case measure => simp [intOf]; omega
          · have HBJ := Lib.hid (show bitOf bs j = true from HBE.out)
            rcases hok with ⟨ha, hnm, hl⟩ | ⟨ha, k, m, e5, e6, hk, hm, hm6⟩
            · simp only at ha hnm hl
              subst ha hnm
              rcases hl with rfl | rfl | rfl
              · go_wp2
                go_ret
                exact fitP_no rfl (HF4.out.call (HFW.out.call (Fr.alloc (Fr.refl _) _)))
              · go_wp2
                go_roundw
                case rel => exact ⟨j + 1, V, by omega, by go_num, Below.alloc HB.out (Nat.le_of_lt hgw) _, by simp; omega, HVG.out.fr (Fr.alloc (Fr.refl _) _), HI.out.skip HX.out (fun _ => ⟨(fun h => absurd h (by decide)), fun _ => HBJ.out⟩) (fun h => absurd rfl h)⟩
                case measure => simp [intOf]; omega
              · go_wp2
                go_roundw
                case rel => exact ⟨j + 1, V, by omega, by go_num, Below.alloc HB.out (Nat.le_of_lt hgw) _, by simp; omega, HVG.out.fr (Fr.alloc (Fr.refl _) _), HI.out.skip HX.out (fun _ => ⟨(fun h => absurd h (by decide)), fun _ => HBJ.out⟩) (fun h => absurd rfl h)⟩
                case measure => simp [intOf]; omega
            · simp only at ha e5 e6
              subst ha e5 e6
              have hkV : k < V.length := by rw [HI.out.len]; exact hk
              have HPT := Lib.hid (HI.out.put HX.out hk hm6 HBJ.out (fun p hp h1 => put_once HPUT.out HT8.out HON.out.once (by omega) hlt hp (x := ⟨0, (k : Int), (m : Int)⟩) (by simp only; omega) h1 HX.out))
              have hx64 : V.getD k 0 < 18446744073709551616 := by rw [List.getD_eq_getElem?_getD, List.getElem?_eq_getElem hkV]; exact HI.out.lt _ (List.getElem_mem hkV)
              have hpw := put_word hx64 hm6 HPT.out.1
              obtain ⟨v0, v1⟩ := HVG.out k hkV
              have HVE := Lib.hid (show V[k] = V.getD k 0 by rw [List.getD_eq_getElem?_getD, List.getElem?_eq_getElem hkV]; rfl)
              rw [HVE.out] at v0
              have hs := one_shl ⟨m, hm6⟩
              have hs2 := one_shl2 ⟨m, hm6⟩
              have hz64 := pow_u64 ⟨m, hm6⟩
              simp only at hs hs2 hz64
              have HPU := Lib.hid (fun (W : World) (k : Fr wr W) => (HVG.out.fr k).put hkV)
              have HBX := Lib.hid (BlkAt.alloc (w := wr) (t := 107) (cs := #[.int .u8 0, .int .i64 (k : Int), .int .i64 (m : Int)]))
              have HFX := Lib.hid (Fr.alloc (Fr.refl wr) (.cells #[.int .u8 0, .int .i64 (k : Int), .int .i64 (m : Int)] 107))
              generalize V.getD k 0 = xv at *
              generalize xv ||| 2 ^ m = yw at *
              generalize hz : 2 ^ m = z at *
              have ha : IntKind.u64.wrap ((xv : Int) + (z : Int)) = (yw : Int) := by rw [← hpw]; simp [IntKind.wrap, IntKind.bits, IntKind.signed]
              have hki : (k : Int) < (args.length : Int) := by omega
              have hmi : (m : Int) < 64 := by omega
              have HEQ := Lib.hid (show (xv + 2 ^ min m 64 % ((2 : Int) ^ IntKind.u64.bits).natAbs) % ((2 : Int) ^ IntKind.u64.bits).natAbs = yw by
                rw [show min m 64 = m by omega, show ((2 : Int) ^ IntKind.u64.bits).natAbs = 18446744073709551616 by decide, hz, Nat.mod_eq_of_lt hz64, hpw])
              clear hpw hz
              go_wp2_with fail
              clear x0 x1 x2 y0 e1 e2 e3 e4 zx zy
              generalize World.alloc wr _ = W at *
              have b1 := HBX.out 1 _ rfl
              have b2 := HBX.out 2 _ rfl
              have g0 := HFX.out.get v0
              have g1 := HFX.out.free v0 v1
              have zb := lt_of_cell b1
              have zg := lt_of_cell g0
              clear v0 v1
              go_still_tail 11, (by kernel_rfl)
              change wpList _ _ _ _ _ W.drew
              go_wp2
              go_roundw
              case rel => exact ⟨j + 1, _, by omega, by go_num, Below.setCell (Below.trans HB.out (Below.mono (Fr.drew HFX.out) (Nat.le_of_lt hgw))) (Nat.le_refl g) _, by simp; omega, HPU.out _ (Fr.drew HFX.out) _, by rw [HEQ.out]; exact HPT.out.2⟩
              case measure => simp [intOf]; omega
        · obtain rfl : j = T.length := by omega
          have HWR := Lib.hid (HF4.out.call HFW.out)
          have f2 := HG4.out.fr HFW.out 2 _ rfl
          have zf := lt_of_cell f2
          clear hlt hj
          go_wp2_with fail
          clear f2 zf
          go_loopw [91] (fun i w' => RelF2 D args V wr i w') (fun i _ => args.length - (intOf i).toNat)
          case atStart => exact ⟨0, Nat.zero_le _, rfl, Fr.refl _, fun k hk => absurd hk (by omega)⟩
          case round =>
            obtain ⟨j, hj, rfl, hf, hno⟩ := hrel
            have HNO := Lib.hid hno
            have HF9 := Lib.hid hf
            have HW9 := Lib.hid (HWR.out.call hf)
            have HD9 := Lib.hid (HD4.out.fr (HFW.out.call hf))
            have HV9 := Lib.hid (HVG.out.fr hf)
            clear hno hf
            by_cases hlt : j < args.length
            · have hji : (j : Int) < (args.length : Int) := by omega
              obtain ⟨bk, ok, rfl, hx⟩ := (HA.out.fr fun _ _ _ x => x.fr HW9.out).at hlt
              obtain ⟨c, e, hc, hcl, hba, hb1, hb64⟩ := args_at HALL.out hlt
              rw [Nat.mul_comm 2 j, e] at hx
              obtain ⟨bq, oq, rfl, hy⟩ := (HC.out.fr fun _ _ _ x => x.fr HW9.out).at hc
              rw [Nat.mul_comm 7 c] at hy
              obtain ⟨an, x0, _, x1⟩ := hx
              have HGC := Lib.hid (show D.cls[(args.getD j 0).toNat]? = some D.cls[c] by
                rw [List.getD_eq_getElem?_getD, List.getElem?_eq_getElem hlt, Option.getD_some, e, Int.toNat_natCast]; exact List.getElem?_eq_getElem hc)
              have hvl := HLT.out B V HPUT.out HI.out j hlt
              rw [hba] at hvl
              have HCL := Lib.hid hcl
              clear hcl hb1 hb64 hba
              have hjV : j < V.length := by rw [HI.out.len]; exact hlt
              have hvc := (HV9.out j hjV).1
              rw [show V[j] = V.getD j 0 by rw [List.getD_eq_getElem?_getD, List.getElem?_eq_getElem hjV]; rfl] at hvc
              obtain ⟨xv, hxv⟩ : ∃ xv, V.getD j 0 = xv := ⟨_, rfl⟩
              have HXV := Lib.hid hxv
              rw [hxv] at hvc hvl
              clear hxv
              generalize D.cls[c] = k at *
              have HVA := Lib.hid (fun nm A l q w => rvalue_any k HCL.out nm A l q xv hvl w)
              obtain ⟨kind, file, bits, shift, plus, ex⟩ := k
              obtain ⟨n0, E, ec, y0, r1, y1, r2, y2, r3, y3, r4, y4, r5, y5, r6, r7, y6, hex⟩ := hy
              simp only at y0 y1 y2 y3 y4 y5 y6 hvl r6 hex HVA
              have HEX := Lib.hid hex
              have hel : ex.length ≤ 9223372036854775807 := Nat.le_trans (Nat.le_trans r6 r7) (by decide)
              clear r1 r2 r3 r4 r5 r6 r7 hex
              generalize hz0 : valI ⟨kind, file, bits, shift, plus, ex⟩ xv = z at *
              have HZ0 := Lib.hid hz0
              clear hz0
              have hci : (c : Int) < (D.cls.length : Int) := by omega
              have zx := lt_of_cell x0
              have zy := lt_of_cell y0
              have zv := lt_of_cell hvc
              have d5 := HD9.out 5 _ rfl
              have zd := lt_of_cell d5
              have HBX := Lib.hid (BlkAt.alloc (w := wr) (t := 55) (cs := #[.string an, .int .i64 (c : Int)]))
              have HFX := Lib.hid (Fr.alloc (Fr.refl wr) (.cells #[.string an, .int .i64 (c : Int)] 55))
              have HD5 := Lib.hid d5; have HY0 := Lib.hid y0; have HY1 := Lib.hid y1; have HY2 := Lib.hid y2; have HY3 := Lib.hid y3; have HY4 := Lib.hid y4; have HY5 := Lib.hid y5; have HY6 := Lib.hid y6; have HVC := Lib.hid hvc
              go_wp2_with fail
              clear x0 x1 y0 y1 y2 y3 y4 y5 y6 d5 hvc zx zy zv zd
              generalize World.alloc wr _ = W12 at *
              generalize wr.heap.size = pb at *
              go_loopw [104] (fun i w' => RelF3 ex z W12 i w') (fun i _ => ex.length - (intOf i).toNat)
              case atStart => exact ⟨0, Nat.zero_le _, rfl, Fr.refl _, by simp⟩
              case round =>
                obtain ⟨m, hm, rfl, hf13, hnot⟩ := hrel
                have HF13 := Lib.hid hf13
                have HNT := Lib.hid hnot
                have HFB := Lib.hid (HFX.out.call hf13)
                clear hf13 hnot
                by_cases hmlt : m < ex.length
                · have hmi : (m : Int) < (ex.length : Int) := by omega
                  have HTN := Lib.hid (fun h => take_not hmlt HNT.out h)
                  obtain ⟨be, oe, rfl, _, t0⟩ := (HEX.out.fr fun _ _ _ x => x.fr HFB.out).at hmlt
                  rw [Nat.one_mul] at t0
                  generalize ex[m] = ev at *
                  have zt := lt_of_cell t0
                  go_wp2_with fail
                  clear t0 zt
                  have d5 := fun ex : Ext wr => ex.get (HFB.out.get HD5.out)
                  have b1 := fun ex : Ext wr => ex.get (HF13.out.get (HBX.out 1 _ rfl))
                  have y0 := fun ex : Ext wr => ex.get (HFB.out.get HY0.out); have y1 := fun ex : Ext wr => ex.get (HFB.out.get HY1.out); have y2 := fun ex : Ext wr => ex.get (HFB.out.get HY2.out); have y3 := fun ex : Ext wr => ex.get (HFB.out.get HY3.out); have y4 := fun ex : Ext wr => ex.get (HFB.out.get HY4.out); have y5 := fun ex : Ext wr => ex.get (HFB.out.get HY5.out); have y6 := fun ex : Ext wr => ex.get (HFB.out.get HY6.out)
                  have vc := fun ex : Ext wr => ex.get (HFB.out.get HVC.out)
                  refine wp_region_ext (by kernel_rfl) (by kernel_rfl) ?_
                  repeat (go_big_quiet_step ((go_at_call 37; exact ext_of (HVA.out _ _ _ _ _))))
                  refine wpQuiet_nil ?_
                  intro w7 hw7
                  obtain ⟨v7, hv7⟩ := hw7
                  have HF7 := Lib.hid (show Fr wr w7 by rw [hv7]; exact v7.fr)
                  clear hv7 v7 d5 b1 y0 y1 y2 y3 y4 y5 y6 vc
                  by_cases he : ev = z
                  · subst he
                    go_wp2
                    go_ret
                    exact fitP_no rfl (HW9.out.call (HFB.out.call HF7.out))
                  · have hen : (ev == z) = false := beq_eq_false_iff_ne.2 he
                    have HT := Lib.hid (HTN.out he)
                    go_wp2
                    go_roundw
                    case rel => exact ⟨m + 1, by omega, by go_num, HF13.out.call HF7.out, HT.out⟩
                    case measure => simp [intOf]; omega
                · obtain rfl : m = ex.length := by omega
                  have hnt := HNT.out
                  rw [List.take_length] at hnt
                  have HNX := Lib.hid (show ∀ k : Nat, k < j + 1 → ∀ c, D.cls[(args.getD k 0).toNat]? = some c → valI c (V.getD k 0) ∉ c.ex from fun k hk c' hc' => by
                    rcases Nat.lt_or_ge k j with h | h
                    · exact HNO.out k h c' hc'
                    · obtain rfl : k = j := by omega
                      rw [HGC.out] at hc'
                      obtain rfl := Option.some.inj hc'
                      rw [HXV.out, HZ0.out]; exact hnt)
                  clear hnt
                  go_wp2
                  go_roundw
                  case rel => exact ⟨j + 1, by omega, by go_num, HF9.out.call HFB.out, HNX.out⟩
                  case measure => simp [intOf]; omega
            · obtain rfl : j = args.length := by omega
              go_wp2
              go_ret
              exact fitP_yes rfl (HFL.out B V HPUT.out HI.out HNO.out) HW9.out
    · have hli : 8 * (bs.length : Int) < (T.length : Int) := by omega
      go_wp2
      go_ret
      exact fitP_no rfl HF4.out
end Go.Proofs.YtgldfokjnkmifaaGreatDoor
