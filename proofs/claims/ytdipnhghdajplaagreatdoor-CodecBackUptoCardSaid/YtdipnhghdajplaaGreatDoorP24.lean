/- Do literals make a value that a class excepts? Of the program. -/
import Derived.Test.YtdipnhghdajplaaGreatDoorP20
import Derived.Test.YtdipnhghdajplaaGreatDoorShelf
namespace Go.Proofs.YtdipnhghdajplaaGreatDoor
open Go.RowKit
set_option linter.unusedSimpArgs false
set_option linter.unusedVariables false
structure Ly where
 (z0 z1 u0 u1 : Nat)
 ops : List (Cl × List Int)
def OpAt (w : World) (b o : Nat) (x : Cl × List Int) : Prop := ClAt w b o x.1 ∧ ∃ A c, x.2.length ≤ c ∧ w.cell? ⟨b, o + 7, none⟩ = some (.slice A x.2.length c) ∧ RowOf IntC 1 w A x.2
theorem OpAt.fr {w w' : World} {b o : Nat} {x : Cl × List Int} (h : OpAt w b o x) (k : Fr w w') : OpAt w' b o x := by
 obtain ⟨h1, A, c, hc, h2, h3⟩ := h; exact ⟨h1.fr k, A, c, hc, k.get h2, h3.fr fun _ _ _ x => x.fr k⟩
structure LyOk (D : Ds) (L : Ly) : Prop where
 z0 : L.z0 < 18446744073709551616
 z1 : L.z1 < 18446744073709551616
 u0 : L.u0 < 18446744073709551616
 u1 : L.u1 < 18446744073709551616
 many : L.ops.length ≤ 6
 cls : ∀ x ∈ L.ops, clsB D x.1 = true ∧ (x.2.length : Int) = x.1.bits ∧ x.2.length ≤ 64
 at_ : ∀ x ∈ L.ops, ∀ p ∈ x.2, 0 ≤ p ∧ p < 128
def lyC (L : Ly) (O : Option Addr) (oc : Nat) : Array Value := #[.int .u64 (L.z0 : Int), .int .u64 (L.z1 : Int), .int .u64 (L.u0 : Int), .int .u64 (L.u1 : Int), .slice O L.ops.length oc]
def exO (L : Ly) (x : Cl × List Int) : Bool := match litO L.z0 L.z1 L.u0 L.u1 x.2 with
 | none => false
 | some (_, b) => x.1.ex.contains (valI x.1 b)
def exB (L M : Ly) : Bool := L.ops.any (exO M)
theorem contains_any {w : World} {A : Option Addr} {l : List Int} (c : Nat) (h : RowOf IntAt 1 w A l) (hm : l.length ≤ maxLen) (x : Int) :
   Calls Tryz.prog 102 #[.slice A l.length c, .int .i64 x] w fun e w' => e = .returned (.bool (l.contains x)) ∧ w' = w := by
 by_cases h0 : 0 < l.length
 · obtain ⟨b, o, rfl, hx⟩ := h h0
   have := Tryz.slices_Contains_int b o l.length c l x w (Nat.le_refl _) (Nat.le_trans hm (by decide)) (fun j hj => by
     have := (hx j hj).2
     rw [Nat.one_mul] at this
     rw [this, List.getD_eq_getElem?_getD, List.getElem?_eq_getElem hj]; rfl)
   rwa [List.take_length] at this
 · obtain rfl : l = [] := List.eq_nil_of_length_eq_zero (by omega)
   exact Tryz.slices_Contains_int_empty A c x w
def RelX (w : World) (l : List (Cl × List Int)) (P : Cl × List Int → Bool) (ly : List Value) (i : Value) (wr : World) : Prop := ∃ j : Nat, j ≤ l.length ∧ i = .int .i64 (j : Int) ∧ Fr w wr ∧ BlkAt wr (w.heap.size + 1) ly ∧ (l.take j).any P = false
theorem any_yes {α : Type} {l : List α} {P : α → Bool} {j : Nat} (h : j < l.length) (hp : P l[j] = true) : l.any P = true := List.any_eq_true.2 ⟨l[j], List.getElem_mem h, hp⟩
theorem any_next {α : Type} {l : List α} {P : α → Bool} {j : Nat} (h : j < l.length) (ha : (l.take j).any P = false) (hp : P l[j] = false) : (l.take (j + 1)).any P = false := by
 rw [List.take_succ_eq_append_getElem h, List.any_append, ha]; simp [hp]
set_option maxHeartbeats 6400000 in
set_option maxRecDepth 100000 in
theorem excludes_any {D : Ds} {L M : Ly} (hL : LyOk D L) (hM : LyOk D M) (O P : Option Addr) (oc pc : Nat) {w : World} (hO : RowOf OpAt 8 w O L.ops) :
   Calls Tryz.prog 72 #[.agg #[.int .u64 (L.z0 : Int), .int .u64 (L.z1 : Int), .int .u64 (L.u0 : Int), .int .u64 (L.u1 : Int), .slice O L.ops.length oc], .agg #[.int .u64 (M.z0 : Int), .int .u64 (M.z1 : Int), .int .u64 (M.u0 : Int), .int .u64 (M.u1 : Int), .slice P M.ops.length pc]] w
     fun e w' => e = .returned (.bool (exB L M)) ∧ Fr w w' := by
 have HO := Lib.hid hO
 have HL := Lib.hid hL
 have HM := Lib.hid hM
 have hm6 := hL.many
 obtain ⟨res, hres⟩ : ∃ res, exB L M = res := ⟨_, rfl⟩
 rw [hres]
 have HRES := Lib.hid hres
 clear hres hO hL hM
 have HF0 := Lib.hid (show Fr w ((w.alloc (.cells #[.int .u64 (L.z0 : Int), .int .u64 (L.z1 : Int), .int .u64 (L.u0 : Int), .int .u64 (L.u1 : Int), .slice O L.ops.length oc] 116)).alloc (.cells #[.int .u64 (M.z0 : Int), .int .u64 (M.z1 : Int), .int .u64 (M.u0 : Int), .int .u64 (M.u1 : Int), .slice P M.ops.length pc] 116)) from Fr.alloc (Fr.alloc (Fr.refl w) _) _)
 have HB0 := Lib.hid (show BlkAt ((w.alloc (.cells #[.int .u64 (L.z0 : Int), .int .u64 (L.z1 : Int), .int .u64 (L.u0 : Int), .int .u64 (L.u1 : Int), .slice O L.ops.length oc] 116)).alloc (.cells #[.int .u64 (M.z0 : Int), .int .u64 (M.z1 : Int), .int .u64 (M.u0 : Int), .int .u64 (M.u1 : Int), .slice P M.ops.length pc] 116)) (w.heap.size + 1) [.int .u64 (M.z0 : Int), .int .u64 (M.z1 : Int), .int .u64 (M.u0 : Int), .int .u64 (M.u1 : Int), .slice P M.ops.length pc] from by
   have := BlkAt.alloc (w := (w.alloc (.cells #[.int .u64 (L.z0 : Int), .int .u64 (L.z1 : Int), .int .u64 (L.u0 : Int), .int .u64 (L.u1 : Int), .slice O L.ops.length oc] 116))) (t := 116) (cs := #[.int .u64 (M.z0 : Int), .int .u64 (M.z1 : Int), .int .u64 (M.u0 : Int), .int .u64 (M.u1 : Int), .slice P M.ops.length pc]); simpa using this)
 go_enter Tryz.func72, Tryz.ntmps72
 go_wp2
 go_loopw [12] (fun i wr => RelX w L.ops (exO M) [.int .u64 (M.z0 : Int), .int .u64 (M.z1 : Int), .int .u64 (M.u0 : Int), .int .u64 (M.u1 : Int), .slice P M.ops.length pc] i wr) (fun i _ => L.ops.length - (intOf i).toNat)
 case atStart => exact ⟨0, by omega, rfl, HF0.out, HB0.out, by simp⟩
 case round =>
   obtain ⟨j, hj, rfl, hf, hB, hal⟩ := hrel
   have HF := Lib.hid hf
   have HB := Lib.hid hB
   have a0 := hB 0 _ rfl
   have a1 := hB 1 _ rfl
   have a2 := hB 2 _ rfl
   have a3 := hB 3 _ rfl
   have a4 := hB 4 _ rfl
   have zw := lt_of_cell a0
   by_cases hlt : j < L.ops.length
   · obtain ⟨bo, oo, rfl, hx⟩ := (HO.out.fr fun _ _ _ x => x.fr hf).at hlt
     rw [Nat.mul_comm 8 j] at hx
     have HX := Lib.hid (fun h : exO M L.ops[j] = true => any_yes hlt h)
     have HY := Lib.hid (fun h : exO M L.ops[j] = false => any_next hlt hal h)
     have HC := Lib.hid (HL.out.cls _ (List.getElem_mem hlt))
     have HT := Lib.hid (HL.out.at_ _ (List.getElem_mem hlt))
     have hji : (j : Int) < (L.ops.length : Int) := by omega
     generalize L.ops[j] = x at *
     obtain ⟨c, at_⟩ := x
     obtain ⟨hc, A, ca, hca, g7, hr⟩ := hx
     obtain ⟨n0, A6, k6, g0, w1, g1, w2, g2, w3, g3, w4, g4, w5, g5, u6, v6, g6, r6⟩ := hc
     simp only at g0 g1 g2 g3 g4 g5 g6 g7 hr r6 u6 hca
     have g7 : wr.cell? ⟨bo, oo + j * 8 + 7, none⟩ = some (.slice A at_.length ca) := g7
     have HLB := Lib.hid (fun (w1 : World) (k : Fr wr w1) => literalBits_any M.z0 M.z1 M.u0 M.u1 HM.out.z0 HM.out.z1 HM.out.u0 HM.out.u1 P M.ops.length pc at_ HT.out HC.out.2.2 A ca (hr.fr fun _ _ _ x => x.fr k))
     have HEX := Lib.hid (show exO M (c, at_) = (match litO M.z0 M.z1 M.u0 M.u1 at_ with | none => false | some (_, b) => c.ex.contains (valI c b)) from rfl)
     have HCT := Lib.hid (fun (w1 : World) (k : Fr wr w1) (y : Int) => contains_any k6 (r6.fr fun _ _ _ x => x.fr k) (Nat.le_trans u6 v6) y)
     have HVO := Lib.hid (fun (b : Nat) (hb : b < 2 ^ c.bits.toNat) (w : World) => valueOf_any c HC.out.1 n0 A6 c.ex.length k6 b hb w)
     have zb := lt_of_cell g0
     have HBX := Lib.hid (BlkAt.alloc (w := wr) (t := 163) (cs := #[.string n0, .int .i64 c.kind, .int .i64 c.file, .int .i64 c.bits, .int .i64 c.shift, .int .i64 c.plus, .slice A6 c.ex.length k6, .slice A at_.length ca]))
     clear hf hB hal hj hr r6 w1 w2 w3 w4 w5 hca
     obtain ⟨lo, hlo⟩ : ∃ lo, litO M.z0 M.z1 M.u0 M.u1 at_ = lo := ⟨_, rfl⟩
     rw [hlo] at HLB HEX
     rcases lo with _ | ⟨nn, b⟩
     · have HN := Lib.hid (HY.out HEX.out)
       clear HX HY hlo HEX HVO HCT
       rw [show litV none = .tuple #[.int .u64 0, .bool false] from rfl] at HLB
       go_wp2_with fail
       refine (HLB.out _ (Fr.alloc (Fr.refl wr) _)).mono ?_
       rintro e w6 ⟨rfl, hf6⟩
       have HF6 := Lib.hid (Fr.call (Fr.alloc (Fr.refl wr) _) hf6)
       clear hf6
       go_wp2_with fail
       go_quiet (fail)
       go_wp2_with fail
       go_roundw
       case rel => exact ⟨j + 1, by omega, by go_num, Fr.drewN (HF.out.call HF6.out) _, HB.out.fr (Fr.drewN HF6.out _), HN.out⟩
       case measure => simp [intOf]; omega
     · have hbb : b < 2 ^ c.bits.toNat := by
         have := litF_bd at_ 0 0 nn b (by decide) hlo
         have h2 := HC.out.2.1
         have h3 : c.bits.toNat = nn := by simp only at h2; omega
         rw [h3]; exact this.2
       have HV := Lib.hid (fun w => HVO.out b hbb w)
       have HE2 := Lib.hid (show exO M (c, at_) = c.ex.contains (valI c b) from HEX.out)
       rw [show litV (some (nn, b)) = .tuple #[.int .u64 (b : Int), .bool true] from rfl] at HLB
       clear hlo hbb HVO HEX
       obtain ⟨q, hq⟩ : ∃ q, c.ex.contains (valI c b) = q := ⟨_, rfl⟩
       have HCT2 := Lib.hid (fun (w1 : World) (k : Fr wr w1) => hq ▸ HCT.out w1 k (valI c b))
       have HE3 := Lib.hid (HE2.out.trans hq)
       clear HCT HE2 hq
       generalize valI c b = vi at *
       go_wp2_with fail
       refine (HLB.out _ (Fr.alloc (Fr.refl wr) _)).mono ?_
       rintro e w6 ⟨rfl, hf6⟩
       have HF6 := Lib.hid (Fr.call (Fr.alloc (Fr.refl wr) _) hf6)
       have y0 := fun ex : Ext w6 => ex.get (HBX.out.fr hf6 0 _ rfl)
       have y1 := fun ex : Ext w6 => ex.get (HBX.out.fr hf6 1 _ rfl)
       have y2 := fun ex : Ext w6 => ex.get (HBX.out.fr hf6 2 _ rfl)
       have y3 := fun ex : Ext w6 => ex.get (HBX.out.fr hf6 3 _ rfl)
       have y4 := fun ex : Ext w6 => ex.get (HBX.out.fr hf6 4 _ rfl)
       have y5 := fun ex : Ext w6 => ex.get (HBX.out.fr hf6 5 _ rfl)
       have y6 := fun ex : Ext w6 => ex.get (HBX.out.fr hf6 6 _ rfl)
       have HCE := Lib.hid (fun ex : Ext w6 => HCT2.out ex.world (HF6.out.call ex.fr))
       clear hf6
       go_wp2_with fail
       refine wp_region_ext (by kernel_rfl) (by kernel_rfl) ?_
       repeat (go_big_quiet_step (first
         | (go_at_call 108; exact ext_of (HV.out _))
         | (go_at_call 102; exact ext_of ((HCE.out _).mono fun _ _ h => ⟨h.1, h.2 ▸ Fr.refl _⟩))))
       refine wpQuiet_nil ?_
       intro w7 hw7
       obtain ⟨v7, hv7⟩ := hw7
       have HF7 := Lib.hid (show Fr w6 w7 by rw [hv7]; exact v7.fr)
       clear hv7 v7 y0 y1 y2 y3 y4 y5 y6
       cases q with
       | true =>
         have HR := Lib.hid (show res = true by rw [← HRES.out]; exact HX.out HE3.out)
         go_wp2
         go_ret
         exact ⟨ret_bool (by rw [HR.out]), HF.out.call (HF6.out.call HF7.out)⟩
       | false =>
         have HN := Lib.hid (HY.out HE3.out)
         go_wp2_with fail
         go_roundw
         case rel => exact ⟨j + 1, by omega, by go_num, HF.out.call (HF6.out.call HF7.out), HB.out.fr (HF6.out.call HF7.out), HN.out⟩
         case measure => simp [intOf]; omega
   · obtain rfl : j = L.ops.length := by omega
     rw [List.take_length] at hal
     have HR := Lib.hid (show res = false by rw [← HRES.out]; exact hal)
     clear hf hB hal hj
     go_wp2
     go_ret
     exact ⟨ret_bool (by rw [HR.out]), HF.out⟩
def mtN (a b c d : Nat) : Bool := decide (¬ (a &&& c) = 0) || decide (¬ (b &&& d) = 0)
def apB (L M : Ly) : Bool := mtN L.z0 L.z1 M.u0 M.u1 || (mtN L.u0 L.u1 M.z0 M.z1 || (exB L M || exB M L))
set_option maxHeartbeats 6400000 in
set_option maxRecDepth 100000 in
theorem apart_any {D : Ds} {L M : Ly} (hL : LyOk D L) (hM : LyOk D M) (O P : Option Addr) (oc pc : Nat) {w : World} (hO : RowOf OpAt 8 w O L.ops) (hP : RowOf OpAt 8 w P M.ops) :
   Calls Tryz.prog 43 #[.agg #[.int .u64 (L.z0 : Int), .int .u64 (L.z1 : Int), .int .u64 (L.u0 : Int), .int .u64 (L.u1 : Int), .slice O L.ops.length oc], .agg #[.int .u64 (M.z0 : Int), .int .u64 (M.z1 : Int), .int .u64 (M.u0 : Int), .int .u64 (M.u1 : Int), .slice P M.ops.length pc]] w fun e w' => e = .returned (.bool (apB L M)) ∧ Fr w w' := by
 have HM1 := Lib.hid (fun w => meet_any L.z0 L.z1 M.u0 M.u1 hL.z0 hL.z1 hM.u0 hM.u1 w)
 have HM2 := Lib.hid (fun w => meet_any L.u0 L.u1 M.z0 M.z1 hL.u0 hL.u1 hM.z0 hM.z1 w)
 rw [show (decide (¬ (L.z0 &&& M.u0) = 0) || decide (¬ (L.z1 &&& M.u1) = 0)) = mtN L.z0 L.z1 M.u0 M.u1 from rfl] at HM1
 rw [show (decide (¬ (L.u0 &&& M.z0) = 0) || decide (¬ (L.u1 &&& M.z1) = 0)) = mtN L.u0 L.u1 M.z0 M.z1 from rfl] at HM2
 have HX1 := Lib.hid (fun (w1 : World) (k : Fr w w1) => excludes_any hL hM O P oc pc (hO.fr fun _ _ _ x => x.fr k))
 have HX2 := Lib.hid (fun (w1 : World) (k : Fr w w1) => excludes_any hM hL P O pc oc (hP.fr fun _ _ _ x => x.fr k))
 have HR := Lib.hid (show apB L M = (mtN L.z0 L.z1 M.u0 M.u1 || (mtN L.u0 L.u1 M.z0 M.z1 || (exB L M || exB M L))) from rfl)
 rw [HR.out]
 generalize mtN L.z0 L.z1 M.u0 M.u1 = m1 at *
 generalize mtN L.u0 L.u1 M.z0 M.z1 = m2 at *
 generalize exB L M = x1 at *
 generalize exB M L = x2 at *
 obtain ⟨z0, z1, u0, u1, lo⟩ := L
 obtain ⟨y0, y1, v0, v1, mo⟩ := M
 simp only at HM1 HM2 HX1 HX2 ⊢
 clear hL hM hO hP HR
 generalize lo.length = ll at *
 generalize mo.length = ml at *
 have HF0 := Lib.hid (show Fr w ((w.alloc (.cells #[.int .u64 (z0 : Int), .int .u64 (z1 : Int), .int .u64 (u0 : Int), .int .u64 (u1 : Int), .slice O ll oc] 116)).alloc (.cells #[.int .u64 (y0 : Int), .int .u64 (y1 : Int), .int .u64 (v0 : Int), .int .u64 (v1 : Int), .slice P ml pc] 116)) from Fr.alloc (Fr.alloc (Fr.refl w) _) _)
 have KB := Lib.hid (show BlkAt ((w.alloc (.cells #[.int .u64 (z0 : Int), .int .u64 (z1 : Int), .int .u64 (u0 : Int), .int .u64 (u1 : Int), .slice O ll oc] 116)).alloc (.cells #[.int .u64 (y0 : Int), .int .u64 (y1 : Int), .int .u64 (v0 : Int), .int .u64 (v1 : Int), .slice P ml pc] 116)) (w.heap.size + 1) [.int .u64 (y0 : Int), .int .u64 (y1 : Int), .int .u64 (v0 : Int), .int .u64 (v1 : Int), .slice P ml pc] from by have := BlkAt.alloc (w := (w.alloc (.cells #[.int .u64 (z0 : Int), .int .u64 (z1 : Int), .int .u64 (u0 : Int), .int .u64 (u1 : Int), .slice O ll oc] 116))) (t := 116) (cs := #[.int .u64 (y0 : Int), .int .u64 (y1 : Int), .int .u64 (v0 : Int), .int .u64 (v1 : Int), .slice P ml pc]); simpa using this)
 have KA := Lib.hid (show BlkAt ((w.alloc (.cells #[.int .u64 (z0 : Int), .int .u64 (z1 : Int), .int .u64 (u0 : Int), .int .u64 (u1 : Int), .slice O ll oc] 116)).alloc (.cells #[.int .u64 (y0 : Int), .int .u64 (y1 : Int), .int .u64 (v0 : Int), .int .u64 (v1 : Int), .slice P ml pc] 116)) w.heap.size [.int .u64 (z0 : Int), .int .u64 (z1 : Int), .int .u64 (u0 : Int), .int .u64 (u1 : Int), .slice O ll oc] from BlkAt.fr (by have := BlkAt.alloc (w := w) (t := 116) (cs := #[.int .u64 (z0 : Int), .int .u64 (z1 : Int), .int .u64 (u0 : Int), .int .u64 (u1 : Int), .slice O ll oc]); simpa using this) (Fr.alloc (Fr.refl _) _))
 go_enter Tryz.func43, Tryz.ntmps43
 go_wp2_with fail
 generalize World.alloc (World.alloc w _) _ = W at *
 refine (HM1.out _).mono ?_
 rintro e w4 ⟨rfl, hf4⟩
 have HF4 := Lib.hid hf4
 have a0 := KA.out.fr HF4.out 0 _ rfl; have a1 := KA.out.fr HF4.out 1 _ rfl; have a2 := KA.out.fr HF4.out 2 _ rfl; have a3 := KA.out.fr HF4.out 3 _ rfl; have a4 := KA.out.fr HF4.out 4 _ rfl
 have b0 := KB.out.fr HF4.out 0 _ rfl; have b1 := KB.out.fr HF4.out 1 _ rfl; have b2 := KB.out.fr HF4.out 2 _ rfl; have b3 := KB.out.fr HF4.out 3 _ rfl; have b4 := KB.out.fr HF4.out 4 _ rfl
 clear hf4
 cases m1 with
 | true =>
   go_wp2
   go_ret
   exact ⟨ret_bool (by simp), HF0.out.call HF4.out⟩
 | false =>
   go_wp2_with fail
   refine (HM2.out _).mono ?_
   rintro e w5 ⟨rfl, hf5⟩
   have HF5 := Lib.hid (HF4.out.call hf5)
   clear a0 a1 a2 a3 a4 b0 b1 b2 b3 b4 hf5
   have a0 := KA.out.fr HF5.out 0 _ rfl; have a1 := KA.out.fr HF5.out 1 _ rfl; have a2 := KA.out.fr HF5.out 2 _ rfl; have a3 := KA.out.fr HF5.out 3 _ rfl; have a4 := KA.out.fr HF5.out 4 _ rfl
   have b0 := KB.out.fr HF5.out 0 _ rfl; have b1 := KB.out.fr HF5.out 1 _ rfl; have b2 := KB.out.fr HF5.out 2 _ rfl; have b3 := KB.out.fr HF5.out 3 _ rfl; have b4 := KB.out.fr HF5.out 4 _ rfl
   cases m2 with
   | true =>
     go_wp2
     go_ret
     exact ⟨ret_bool (by simp), HF0.out.call HF5.out⟩
   | false =>
     go_wp2_with fail
     refine (HX1.out _ (HF0.out.call HF5.out)).mono ?_
     rintro e w6 ⟨rfl, hf6⟩
     have HF6 := Lib.hid (HF5.out.call hf6)
     clear a0 a1 a2 a3 a4 b0 b1 b2 b3 b4 hf6
     have a0 := KA.out.fr HF6.out 0 _ rfl; have a1 := KA.out.fr HF6.out 1 _ rfl; have a2 := KA.out.fr HF6.out 2 _ rfl; have a3 := KA.out.fr HF6.out 3 _ rfl; have a4 := KA.out.fr HF6.out 4 _ rfl
     have b0 := KB.out.fr HF6.out 0 _ rfl; have b1 := KB.out.fr HF6.out 1 _ rfl; have b2 := KB.out.fr HF6.out 2 _ rfl; have b3 := KB.out.fr HF6.out 3 _ rfl; have b4 := KB.out.fr HF6.out 4 _ rfl
     cases x1 with
     | true =>
       go_wp2
       go_ret
       exact ⟨ret_bool (by simp), HF0.out.call HF6.out⟩
     | false =>
       go_wp2_with fail
       refine (HX2.out _ (HF0.out.call HF6.out)).mono ?_
       rintro e w7 ⟨rfl, hf7⟩
       have HF7 := Lib.hid (HF6.out.call hf7)
       clear a0 a1 a2 a3 a4 b0 b1 b2 b3 b4 hf7
       go_wp2
       go_ret
       exact ⟨ret_bool (by simp), HF0.out.call HF7.out⟩
end Go.Proofs.YtdipnhghdajplaaGreatDoor
