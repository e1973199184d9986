/- The class of an operand, where both are there. -/
import Derived.Test.YtdipnhghdajplaaGreatDoorP18
import Derived.Deep.RegionHeld3
import Derived.Deep.QuietTactic
import Derived.BigQuiet
import Derived.Laws.BitsAllLaws
import Derived.Laws.BitsLemmas
import Derived.Test.YtdipnhghdajplaaGreatDoorP05
import Derived.Test.YtdipnhghdajplaaGreatDoorP03
namespace Go.Proofs.YtdipnhghdajplaaGreatDoor
open Go.RowKit
set_option linter.unusedSimpArgs false
set_option linter.unusedVariables false
set_option maxHeartbeats 3200000 in
set_option maxRecDepth 100000 in
theorem classOf_at {E : Env} {w : World} {Fa Ca Aa : Option Addr} {sb cc ac : Nat} (s5 : w.cell? ⟨sb, 5, none⟩ = some (.slice Ca E.classes.length cc)) (s13 : w.cell? ⟨sb, 13, none⟩ = some (.slice Aa E.args.length ac))
   (hE : EnvAt E w Fa Ca Aa) {j k : Nat} (hj : j < E.args.length) (hk : k < E.classes.length) (hx : E.args[j] = (k : Int)) :
   Calls Tryz.prog 142 #[.pointer (some ⟨sb, 0, none⟩), .int .i64 (j : Int)] w fun e w' => (∃ n u v x y l q, e = .returned (.tuple #[.agg #[.string n, .int .i64 E.classes[k].1, .int .i64 E.classes[k].2, .int .i64 u, .int .i64 v, .int .i64 x, .slice y l q], .bool true])) ∧ Fr w w' := by
 have hsl := lt_of_cell s5
 obtain ⟨b, o, rfl, n, h0, h1⟩ := hE.args.at hj
 rw [Nat.mul_comm 2 j] at h0 h1
 obtain ⟨b', o', rfl, n', u, v, x, y, l, q, g0, g1, g2, g3, g4, g5, g6⟩ := hE.classes.at hk
 rw [Nat.mul_comm 7 k] at g0 g1 g2 g3 g4 g5 g6
 have hbl := lt_of_cell h0
 have hbl' := lt_of_cell g0
 rw [hx] at h1
 generalize E.classes[k] = c at *
 obtain ⟨c1, c2⟩ := c
 have hji : (j : Int) < (E.args.length : Int) := by omega
 have hki : (k : Int) < (E.classes.length : Int) := by omega
 have HJ := Lib.hid (fun A c w => (show plB (j : Int) E.args.length = true by simp [plB_nat, hj]) ▸ argPlace_any (j : Int) A E.args.length c w)
 have HX := Lib.hid (fun A c w => (show plB (k : Int) E.classes.length = true by simp [plB_nat, hk]) ▸ classPlace_any (k : Int) A E.classes.length c w)
 clear hx hE
 go_enter Tryz.func142, Tryz.ntmps142
 go_wp2
 go_quiet ((first | (go_at_call 106; refine Calls.quiet_of_same (HJ.out _ _ _)) | (go_at_call 76; refine Calls.quiet_of_same (HX.out _ _ _))))
 go_wp2
 go_region_held3 (fun w' => World.cell? w' ⟨sb, 5, none⟩ = some (.slice (some ⟨b', o', none⟩) E.classes.length cc) ∧ World.cell? w' ⟨sb, 13, none⟩ = some (.slice (some ⟨b, o, none⟩) E.args.length ac) ∧ World.cell? w' ⟨b, o + j * 2 + 1, none⟩ = some (.int .i64 (k : Int)) ∧ World.cell? w' ⟨b', o' + k * 7, none⟩ = some (.string n') ∧ World.cell? w' ⟨b', o' + k * 7 + 1, none⟩ = some (.int .i64 c1) ∧ World.cell? w' ⟨b', o' + k * 7 + 2, none⟩ = some (.int .i64 c2) ∧ World.cell? w' ⟨b', o' + k * 7 + 3, none⟩ = some (.int .i64 u) ∧ World.cell? w' ⟨b', o' + k * 7 + 4, none⟩ = some (.int .i64 v) ∧ World.cell? w' ⟨b', o' + k * 7 + 5, none⟩ = some (.int .i64 x) ∧ World.cell? w' ⟨b', o' + k * 7 + 6, none⟩ = some (.slice y l q)) (simp [go_sem, *]) (fail)
 go_wp2
 exact bodyPost_ret (v := .tuple #[.agg #[.string n', .int .i64 c1, .int .i64 c2, .int .i64 u, .int .i64 v, .int .i64 x, .slice y l q], .bool true]) (by simp [results, noClass, Tryz.results142, go_sem, *]) rfl ⟨⟨n', u, v, x, y, l, q, rfl⟩, by repeat (first | with_reducible exact Fr.refl _ | with_reducible apply Fr.drewN | with_reducible apply Fr.drew | with_reducible apply Fr.alloc | (with_reducible refine Fr.set ?_ (by simp) _))⟩
end Go.Proofs.YtdipnhghdajplaaGreatDoor
namespace Go.Proofs.YtdipnhghdajplaaGreatDoor
open Go.RowKit
set_option linter.unusedSimpArgs false
set_option linter.unusedVariables false
structure Ext (W : World) where
 world : World
 fr : Fr W world
instance Ext.inst (W : World) : Nonempty (Ext W) := ⟨⟨W, Fr.refl W⟩⟩
theorem wp_region_ext {P : Program} {id : Nat} {Q : Exit → Act → World → Prop} {a : Act} {w : World} {l : List Oper} (hm : P.follows .mixedOrders = true) (hB : Region.lexB .any l.toArray = true)
   (h : wpQuiet P l.toArray (fun w' => ∃ x : Ext w, w' = x.world) (fun a' => ∀ w', (∃ x : Ext w, w' = x.world) → Q .normal a' w') l a) : (Code.region id l.toArray true).wp P Q a w :=
 wp_region_quiet (C := fun w' => ∃ x : Ext w, w' = x.world) hm hB ⟨⟨_, Fr.drew (Fr.refl w)⟩, rfl⟩ (by simpa using h)
theorem ext_of {P : Program} {f : FuncId} {args : Array Value} {W : World} {x : Ext W} {v : Value}
   (h : Calls P f args x.world fun e w' => e = .returned v ∧ Fr x.world w') : Calls P f args x.world fun e w'' => e = .returned v ∧ ∃ y : Ext W, w'' = y.world :=
 h.mono fun _ _ ⟨he, hf⟩ => ⟨he, ⟨⟨_, Fr.call x.fr hf⟩, rfl⟩⟩
theorem Ext.get {W : World} (x : Ext W) {b o : Nat} {v : Value} (h : W.cell? ⟨b, o, none⟩ = some v) : x.world.cell? ⟨b, o, none⟩ = some v := x.fr.get h
def BlkAt (w : World) (b : Nat) (l : List Value) : Prop := ∀ k v, l[k]? = some v → w.cell? ⟨b, k, none⟩ = some v
theorem BlkAt.fr {w w' : World} {b : Nat} {l : List Value} (h : BlkAt w b l) (k : Fr w w') : BlkAt w' b l := fun i v hv => k.get (h i v hv)
theorem BlkAt.alloc {w : World} {t : TypeId} {cs : Array Value} : BlkAt (w.alloc (.cells cs t)) w.heap.size cs.toList := by
 intro k v hv
 have hk : cs[k]? = some v := by simpa using hv
 rw [World.cell?_alloc_at _ _ _ _ rfl]; exact hk
theorem fileO_file {E : Env} {a : Int} {f : Int × Int × Int} (h : fileO E a = some f) : ∃ j : Nat, ∃ hj : j < E.files.length, a = j ∧ E.files[j] = f ∧ fileB f = true := by
 cases hb : plB a E.files.length with
 | false => rw [fileO_no hb] at h; cases h
 | true =>
   obtain ⟨j, rfl, hj⟩ := plB_ex hb
   rw [fileO_at hj] at h
   split at h
   · rename_i hf; injection h with h; exact ⟨j, hj, rfl, h, h ▸ hf⟩
   · cases h
theorem classOf_none {E : Env} {w : World} {Fa Ca Aa : Option Addr} {sb cc ac : Nat} (s5 : w.cell? ⟨sb, 5, none⟩ = some (.slice Ca E.classes.length cc)) (s13 : w.cell? ⟨sb, 13, none⟩ = some (.slice Aa E.args.length ac))
   (hE : EnvAt E w Fa Ca Aa) (x : Int) (h : clsO E x = none) :
   Calls Tryz.prog 142 #[.pointer (some ⟨sb, 0, none⟩), .int .i64 x] w fun e w' => e = .returned (.tuple #[noClass, .bool false]) ∧ Fr w w' := by
 cases hb : plB x E.args.length with
 | false => exact classOf_noArg s5 s13 x hb
 | true =>
   obtain ⟨j, rfl, hj⟩ := plB_ex hb
   cases hc : plB E.args[j] E.classes.length with
   | false => exact classOf_noClass s5 s13 hE hj hc
   | true =>
     obtain ⟨k, e, hk⟩ := plB_ex hc
     rw [clsO_at hj hk e] at h
     cases h
theorem classOf_some {E : Env} {w : World} {Fa Ca Aa : Option Addr} {sb cc ac : Nat} (s5 : w.cell? ⟨sb, 5, none⟩ = some (.slice Ca E.classes.length cc)) (s13 : w.cell? ⟨sb, 13, none⟩ = some (.slice Aa E.args.length ac))
   (hE : EnvAt E w Fa Ca Aa) (x : Int) {c : Int × Int} (h : clsO E x = some c) :
   Calls Tryz.prog 142 #[.pointer (some ⟨sb, 0, none⟩), .int .i64 x] w fun e w' =>
     (∃ n u v x y l q, e = .returned (.tuple #[.agg #[.string n, .int .i64 c.1, .int .i64 c.2, .int .i64 u, .int .i64 v, .int .i64 x, .slice y l q], .bool true])) ∧ Fr w w' := by
 cases hb : plB x E.args.length with
 | false => rw [clsO_noArg hb] at h; cases h
 | true =>
   obtain ⟨j, rfl, hj⟩ := plB_ex hb
   cases hc : plB E.args[j] E.classes.length with
   | false => rw [clsO_noClass hj hc] at h; cases h
   | true =>
     obtain ⟨k, e, hk⟩ := plB_ex hc
     rw [clsO_at hj hk e] at h
     injection h with h; subst h
     exact classOf_at s5 s13 hE hj hk e
section
variable {E : Env} {w : World} {Fa Ca Aa Ga Ma : Option Addr} {sb : Nat} {n0 n1 n3 n7 n8 n9 n10 n11 n12 : Value} {fc gc cc ml mc ac : Nat}
set_option maxHeartbeats 6400000 in
theorem regw_no (S : BlkAt w sb [n0, n1, .slice Fa E.files.length fc, n3, .slice Ga E.nflags gc, .slice Ca E.classes.length cc, .slice Ma ml mc, n7, n8, n9, n10, n11, n12, .slice Aa E.args.length ac])
   (hE : EnvAt E w Fa Ca Aa) (op wd a b : Int) (K : Option Addr) (kl kc : Nat) (hf : fileO E a = none) :
   Calls Tryz.prog 110 #[.pointer (some ⟨sb, 0, none⟩), .agg #[.int .i64 op, .int .i64 wd, .int .i64 a, .int .i64 b, .slice K kl kc]] w fun e w' => e = .returned (.int .i64 0) ∧ Fr w w' := by
 have HS := Lib.hid S
 have HE := Lib.hid hE
 have HN := Lib.hid (show (fileO E a).isSome = false by rw [hf]; rfl)
 clear S hE hf
 go_enter Tryz.func110, Tryz.ntmps110
 go_wp2
 have HB := Lib.hid (BlkAt.alloc (w := w) (t := 124) (cs := #[.int .i64 op, .int .i64 wd, .int .i64 a, .int .i64 b, .slice K kl kc]))
 have HF := Lib.hid (Fr.alloc (Fr.refl w) (.cells #[.int .i64 op, .int .i64 wd, .int .i64 a, .int .i64 b, .slice K kl kc] 124))
 generalize hw1 : World.alloc w _ = w1 at *
 have a0 := fun ex : Ext w1 => ex.get (HF.out.get (HS.out 0 _ rfl))
 have a1 := fun ex : Ext w1 => ex.get (HF.out.get (HS.out 1 _ rfl))
 have a2 := fun ex : Ext w1 => ex.get (HF.out.get (HS.out 2 _ rfl))
 have a3 := fun ex : Ext w1 => ex.get (HF.out.get (HS.out 3 _ rfl))
 have a4 := fun ex : Ext w1 => ex.get (HF.out.get (HS.out 4 _ rfl))
 have a5 := fun ex : Ext w1 => ex.get (HF.out.get (HS.out 5 _ rfl))
 have a6 := fun ex : Ext w1 => ex.get (HF.out.get (HS.out 6 _ rfl))
 have a7 := fun ex : Ext w1 => ex.get (HF.out.get (HS.out 7 _ rfl))
 have a8 := fun ex : Ext w1 => ex.get (HF.out.get (HS.out 8 _ rfl))
 have a9 := fun ex : Ext w1 => ex.get (HF.out.get (HS.out 9 _ rfl))
 have a10 := fun ex : Ext w1 => ex.get (HF.out.get (HS.out 10 _ rfl))
 have a11 := fun ex : Ext w1 => ex.get (HF.out.get (HS.out 11 _ rfl))
 have a12 := fun ex : Ext w1 => ex.get (HF.out.get (HS.out 12 _ rfl))
 have b2 := fun ex : Ext w1 => ex.get (HB.out 2 _ rfl)
 have HC := Lib.hid (show ∀ ex : Ext w1, Calls Tryz.prog 45 #[.agg #[n0, n1, .slice Fa E.files.length fc, n3, .slice Ga E.nflags gc, .slice Ca E.classes.length cc, .slice Ma ml mc, n7, n8, n9, n10, n11, n12], .int .i64 a] ex.world (fun e w' => e = .returned (.bool false) ∧ Fr ex.world w') from
   fun ex => HN.out ▸ fileRight_any (HE.out.fr (HF.out.call ex.fr)) a n0 n1 n3 n7 n8 n9 n10 n11 n12 fc gc cc ml mc)
 refine wp_region_ext (by kernel_rfl) (by kernel_rfl) ?_
 repeat (go_big_quiet_step ((go_at_call 45; exact ext_of (HC.out _))))
 refine wpQuiet_nil ?_
 intro w4 hw4
 obtain ⟨y4, hy4⟩ := hw4
 have hb4 : Fr w1 w4 := by rw [hy4]; exact y4.fr
 clear hy4 y4
 go_wp2
 go_ret
 exact ⟨rfl, HF.out.call hb4⟩
end
end Go.Proofs.YtdipnhghdajplaaGreatDoor
namespace Go.Proofs.YtdipnhghdajplaaGreatDoor
open Go.RowKit
set_option linter.unusedSimpArgs false
set_option linter.unusedVariables false
def lowI (n : Nat) : Nat := 2 ^ n - 1
theorem low_shr : ∀ n : Fin 65, (18446744073709551615 : Int) / 2 ^ (64 - n.val) = ((lowI n.val : Nat) : Int) := by decide +kernel
theorem lowest_any (n : Nat) (h1 : 1 ≤ n) (h2 : n ≤ 64) (w : World) : Calls Tryz.prog 70 #[.int .i64 (n : Int)] w fun e w' => e = .returned (.int .u64 ((lowI n : Nat) : Int)) ∧ w = w' := by
 have hl := low_shr ⟨n, by omega⟩
 simp only at hl
 go_enter Tryz.func70, Tryz.ntmps70
 go_wp2
 go_ret
 refine ⟨ret_int ?_, rfl⟩
 rw [← hl]
def plcI (order : Int) (written bits : Nat) : Int := if order = 1 then (bits : Int) - 1 - (written : Int) else ((written / 8 * 8 + 7 - written % 8 : Nat) : Int)
theorem placeOf_any (order : Int) (written bits : Nat) (hw : written ≤ 1000000) (hb : bits ≤ 1000000) (w : World) : Calls Tryz.prog 74 #[.int .i64 order, .int .i64 (written : Int), .int .i64 (bits : Int)] w fun e w' => e = .returned (.int .i64 (plcI order written bits)) ∧ w = w' := by
 by_cases ho : order = 1
 · subst ho
   go_enter Tryz.func74, Tryz.ntmps74
   go_wp2
   go_ret
   exact ⟨ret_int (by simp [plcI]), rfl⟩
 · have e1 : Int.tdiv (written : Int) 8 = ((written / 8 : Nat) : Int) := by simp
   have e2 : Int.tmod (written : Int) 8 = ((written % 8 : Nat) : Int) := by rw [Int.tmod_eq_emod_of_nonneg (by omega)]; simp
   go_enter Tryz.func74, Tryz.ntmps74
   go_wp2
   go_ret
   exact ⟨ret_int (by simp only [plcI, if_neg ho]; omega), rfl⟩
set_option maxHeartbeats 1600000 in
theorem meet_any (a b c d : Nat) (ha : a < 18446744073709551616) (hb : b < 18446744073709551616) (hc : c < 18446744073709551616) (hd : d < 18446744073709551616) (w : World) : Calls Tryz.prog 71 #[.agg #[.int .u64 (a : Int), .int .u64 (b : Int)], .agg #[.int .u64 (c : Int), .int .u64 (d : Int)]] w fun e w' => e = .returned (.bool (decide (¬ (a &&& c) = 0) || decide (¬ (b &&& d) = 0))) ∧ Fr w w' := by
 have e1 : bits .and .u64 (a : Int) (c : Int) = ((a &&& c : Nat) : Int) := u64_and_nat a c ha hc
 have e2 : bits .and .u64 (b : Int) (d : Int) = ((b &&& d : Nat) : Int) := u64_and_nat b d hb hd
 generalize a &&& c = x at *
 generalize b &&& d = y at *
 by_cases h1 : x = 0
 · subst h1
   by_cases h2 : y = 0
   · subst h2
     go_enter Tryz.func71, Tryz.ntmps71
     go_wp2
     go_ret
     exact ⟨ret_bool (by simp), Fr.alloc (Fr.alloc (Fr.refl w) _) _⟩
   · have h3 : ¬ (y : Int) = 0 := by omega
     go_enter Tryz.func71, Tryz.ntmps71
     go_wp2
     go_ret
     exact ⟨ret_bool (by simp [h2]), Fr.alloc (Fr.alloc (Fr.refl w) _) _⟩
 · have h3 : ¬ (x : Int) = 0 := by omega
   go_enter Tryz.func71, Tryz.ntmps71
   go_wp2
   go_ret
   exact ⟨ret_bool (by simp [h1]), Fr.alloc (Fr.alloc (Fr.refl w) _) _⟩
theorem has_bit (x p : Nat) (hx : x < 18446744073709551616) : (bits .and .u64 ((x : Int) / 2 ^ p) 1 == 1) = x.testBit p := by
 have e : ((x : Int) / 2 ^ p) = ((x / 2 ^ p : Nat) : Int) := by simp
 have hl : x / 2 ^ p < 18446744073709551616 := Nat.lt_of_le_of_lt (Nat.div_le_self _ _) hx
 have h2 : bits .and .u64 ((x / 2 ^ p : Nat) : Int) 1 = ((x / 2 ^ p % 2 : Nat) : Int) := by
   have := u64_and_nat (x / 2 ^ p) 1 hl (by decide)
   rw [Nat.and_one_is_mod] at this
   exact this
 rw [e, h2, Nat.testBit_eq_decide_div_mod_eq]
 by_cases q : x / 2 ^ p % 2 = 1
 · rw [q]; rfl
 · have h3 : ¬ ((x / 2 ^ p % 2 : Nat) : Int) = 1 := by omega
   rw [decide_eq_false q]
   simpa using h3
set_option maxHeartbeats 1600000 in
theorem has_any (x0 x1 : Nat) (h0 : x0 < 18446744073709551616) (h1 : x1 < 18446744073709551616) (p : Nat) (hp : p < 128) (w : World) : Calls Tryz.prog 141 #[.agg #[.int .u64 (x0 : Int), .int .u64 (x1 : Int)], .int .i64 (p : Int)] w fun e w' => e = .returned (.bool ((if p < 64 then x0 else x1).testBit (p % 64))) ∧ Fr w w' := by
 by_cases hq : p < 64
 · have e1 : Int.tdiv (p : Int) 64 = 0 := by rw [Int.tdiv_eq_ediv_of_nonneg (by omega)]; omega
   have e2 : Int.tmod (p : Int) 64 = (p : Int) := by rw [Int.tmod_eq_emod_of_nonneg (by omega)]; omega
   have hb := has_bit x0 p h0
   have em : p % 64 = p := by omega
   rw [if_pos hq, em]
   go_enter Tryz.func141, Tryz.ntmps141
   go_wp2
   go_ret
   exact ⟨ret_bool rfl, Fr.alloc (Fr.refl w) _⟩
 · obtain ⟨r, rfl⟩ : ∃ r, p = 64 + r := ⟨p - 64, by omega⟩
   have e1 : Int.tdiv ((64 : Int) + (r : Int)) 64 = 1 := by rw [Int.tdiv_eq_ediv_of_nonneg (by omega)]; omega
   have e2 : Int.tmod ((64 : Int) + (r : Int)) 64 = (r : Int) := by rw [Int.tmod_eq_emod_of_nonneg (by omega)]; omega
   have hr : r < 64 := by omega
   have hb := has_bit x1 r h1
   have em : (64 + r) % 64 = r := by omega
   rw [if_neg hq, em]
   go_enter Tryz.func141, Tryz.ntmps141
   go_wp2
   go_ret
   exact ⟨ret_bool rfl, Fr.alloc (Fr.refl w) _⟩
end Go.Proofs.YtdipnhghdajplaaGreatDoor
namespace Go.Proofs.YtdipnhghdajplaaGreatDoor
open Go.RowKit
set_option linter.unusedSimpArgs false
set_option linter.unusedVariables false
section
variable {E : Env} {w : World} {Fa Ca Aa Ga Ma : Option Addr} {sb : Nat} {n0 n1 n3 n7 n8 n9 n10 n11 n12 : Value} {fc gc cc ml mc ac : Nat}
set_option maxHeartbeats 6400000 in
theorem regw_pre (S : BlkAt w sb [n0, n1, .slice Fa E.files.length fc, n3, .slice Ga E.nflags gc, .slice Ca E.classes.length cc, .slice Ma ml mc, n7, n8, n9, n10, n11, n12, .slice Aa E.args.length ac])
   (hE : EnvAt E w Fa Ca Aa) (op wd a b : Int) (K : Option Addr) (kl kc : Nat) {f : Int × Int × Int} (hf : fileO E a = some f) :
   Calls Tryz.prog 110 #[.pointer (some ⟨sb, 0, none⟩), .agg #[.int .i64 op, .int .i64 wd, .int .i64 a, .int .i64 b, .slice K kl kc]] w fun e w' => e = .returned (.int .i64 (regW E a b)) ∧ Fr w w' := by
 have HS := Lib.hid S
 have HE := Lib.hid hE
 have HN := Lib.hid (show (fileO E a).isSome = true by rw [hf]; rfl)
 obtain ⟨j, hj, rfl, he, hfb⟩ := fileO_file hf
 obtain ⟨g, o, rfl, n, h0, h1, h2, h3⟩ := hE.files.at hj
 rw [Nat.mul_comm 4 j] at h0 h1 h2 h3
 rw [he] at h1 h2 h3
 have hji : (j : Int) < (E.files.length : Int) := by omega
 have H0 := Lib.hid h0
 have H1 := Lib.hid h1
 have H2 := Lib.hid h2
 have H3 := Lib.hid h3
 have HFI := Lib.hid hf
 have hng : IntKind.i64.wrap (-f.1) = -f.1 := by
   have h := hfb
   simp only [fileB, Bool.and_eq_true, decide_eq_true_eq] at h
   rw [IntKind.wrap_i64]; omega
 clear S hE hf h0 h1 h2 h3 he
 go_enter Tryz.func110, Tryz.ntmps110
 go_wp2
 have HB := Lib.hid (BlkAt.alloc (w := w) (t := 124) (cs := #[.int .i64 op, .int .i64 wd, .int .i64 (j : Int), .int .i64 b, .slice K kl kc]))
 have HF := Lib.hid (Fr.alloc (Fr.refl w) (.cells #[.int .i64 op, .int .i64 wd, .int .i64 (j : Int), .int .i64 b, .slice K kl kc] 124))
 generalize hw1 : World.alloc w _ = w1 at *
 have a0 := fun ex : Ext w1 => ex.get (HF.out.get (HS.out 0 _ rfl))
 have a1 := fun ex : Ext w1 => ex.get (HF.out.get (HS.out 1 _ rfl))
 have a2 := fun ex : Ext w1 => ex.get (HF.out.get (HS.out 2 _ rfl))
 have a3 := fun ex : Ext w1 => ex.get (HF.out.get (HS.out 3 _ rfl))
 have a4 := fun ex : Ext w1 => ex.get (HF.out.get (HS.out 4 _ rfl))
 have a5 := fun ex : Ext w1 => ex.get (HF.out.get (HS.out 5 _ rfl))
 have a6 := fun ex : Ext w1 => ex.get (HF.out.get (HS.out 6 _ rfl))
 have a7 := fun ex : Ext w1 => ex.get (HF.out.get (HS.out 7 _ rfl))
 have a8 := fun ex : Ext w1 => ex.get (HF.out.get (HS.out 8 _ rfl))
 have a9 := fun ex : Ext w1 => ex.get (HF.out.get (HS.out 9 _ rfl))
 have a10 := fun ex : Ext w1 => ex.get (HF.out.get (HS.out 10 _ rfl))
 have a11 := fun ex : Ext w1 => ex.get (HF.out.get (HS.out 11 _ rfl))
 have a12 := fun ex : Ext w1 => ex.get (HF.out.get (HS.out 12 _ rfl))
 have b2 := fun ex : Ext w1 => ex.get (HB.out 2 _ rfl)
 have HC := Lib.hid (show ∀ ex : Ext w1, Calls Tryz.prog 45 #[.agg #[n0, n1, .slice (some ⟨g, o, none⟩) E.files.length fc, n3, .slice Ga E.nflags gc, .slice Ca E.classes.length cc, .slice Ma ml mc, n7, n8, n9, n10, n11, n12], .int .i64 (j : Int)] ex.world (fun e w' => e = .returned (.bool true) ∧ Fr ex.world w') from
   fun ex => HN.out ▸ fileRight_any (HE.out.fr (HF.out.call ex.fr)) (j : Int) n0 n1 n3 n7 n8 n9 n10 n11 n12 fc gc cc ml mc)
 refine wp_region_ext (by kernel_rfl) (by kernel_rfl) ?_
 repeat (go_big_quiet_step ((go_at_call 45; exact ext_of (HC.out _))))
 refine wpQuiet_nil ?_
 intro w4 hw4
 obtain ⟨y4, hy4⟩ := hw4
 have hb4 : Fr w1 w4 := by rw [hy4]; exact y4.fr
 clear hy4 y4
 have a2 := hb4.get (HF.out.get (HS.out 2 _ rfl))
 have h0 := hb4.get (HF.out.get H0.out)
 have h1 := hb4.get (HF.out.get H1.out)
 have h2 := hb4.get (HF.out.get H2.out)
 have h3 := hb4.get (HF.out.get H3.out)
 have b2 := hb4.get (HB.out 2 _ rfl)
 have b3 := hb4.get (HB.out 3 _ rfl)
 clear a0 a1 a3 a4 a5 a6 a7 a8 a9 a10 a11 a12
 have zg := lt_of_cell h0
 have zs := lt_of_cell a2
 have zt := lt_of_cell b2
 go_wp2
 go_region_held3 (fun w' => World.cell? w' ⟨sb, 2, none⟩ = some (.slice (some ⟨g, o, none⟩) E.files.length fc) ∧ World.cell? w' ⟨w.heap.size, 2, none⟩ = some (.int .i64 (j : Int)) ∧ World.cell? w' ⟨g, o + j * 4, none⟩ = some (.string n) ∧ World.cell? w' ⟨g, o + j * 4 + 1, none⟩ = some (.int .i64 f.1) ∧ World.cell? w' ⟨g, o + j * 4 + 2, none⟩ = some (.int .i64 f.2.1) ∧ World.cell? w' ⟨g, o + j * 4 + 3, none⟩ = some (.int .i64 f.2.2)) (simp [go_sem, *]) (fail)
 have F5 : Fr w (World.drew (World.alloc w4 (.cells #[.string n, .int .i64 f.1, .int .i64 f.2.1, .int .i64 f.2.2] 166))) := Fr.drew (Fr.alloc (HF.out.call hb4) _)
 have G5 : BlkAt (World.drew (World.alloc w4 (.cells #[.string n, .int .i64 f.1, .int .i64 f.2.1, .int .i64 f.2.2] 166))) w4.heap.size [.string n, .int .i64 f.1, .int .i64 f.2.1, .int .i64 f.2.2] := BlkAt.fr BlkAt.alloc (Fr.drew (Fr.refl _))
 have T5 : BlkAt (World.drew (World.alloc w4 (.cells #[.string n, .int .i64 f.1, .int .i64 f.2.1, .int .i64 f.2.2] 166))) w.heap.size [.int .i64 op, .int .i64 wd, .int .i64 (j : Int), .int .i64 b, .slice K kl kc] := HB.out.fr (hb4.call (Fr.drew (Fr.alloc (Fr.refl _) _)))
 generalize World.drew _ = w5 at *
 clear a2 h0 h1 h2 h3 b3 zg zs zt
 have g1 := G5 1 _ rfl
 have g2 := G5 2 _ rfl
 have t2 := T5 2 _ rfl
 have t3 := T5 3 _ rfl
 have HF5 := Lib.hid F5
 have z1 := lt_of_cell g1
 have z2 := lt_of_cell t2
 cases hc : clsO E b with
 | none =>
   have HR := Lib.hid (show regW E (j : Int) b = if b < 0 ∧ -f.1 ≤ b then f.2.1 else 0 by simp [regW, HFI.out, hc])
   have HCO := Lib.hid (classOf_none (HF5.out.get (HS.out 5 _ rfl)) (HF5.out.get (HS.out 13 _ rfl)) (HE.out.fr HF5.out) b hc)
   clear G5 T5 F5 hc
   go_wp2_with (go_at_call 142; refine HCO.out.mono ?_; rintro e w6 ⟨rfl, hf6⟩; have HF6 := Lib.hid hf6; have g1' := hf6.get g1; have g2' := hf6.get g2; have t2' := hf6.get t2; have t3' := hf6.get t3; have z1' := lt_of_cell g1'; have z2' := lt_of_cell t2'; clear hf6; unfold noClass)
   all_goals (go_ret; exact ⟨ret_int (by rw [HR.out]; split <;> simp_all <;> omega), Fr.alloc (HF5.out.call HF6.out) _⟩)
 | some c =>
   have HR := Lib.hid (show regW E (j : Int) b = if c = (1, (j : Int)) then f.2.1 else if b < 0 ∧ -f.1 ≤ b then f.2.1 else 0 by simp [regW, HFI.out, hc])
   have HCO := Lib.hid (classOf_some (HF5.out.get (HS.out 5 _ rfl)) (HF5.out.get (HS.out 13 _ rfl)) (HE.out.fr HF5.out) b hc)
   clear G5 T5 F5 hc
   obtain ⟨c1, c2⟩ := c
   go_wp2_with (go_at_call 142; refine HCO.out.mono ?_; rintro e w6 ⟨⟨m0, m1, m2, m3, m4, m5, m6, rfl⟩, hf6⟩; have HF6 := Lib.hid hf6; have g1' := hf6.get g1; have g2' := hf6.get g2; have t2' := hf6.get t2; have t3' := hf6.get t3; have z1' := lt_of_cell g1'; have z2' := lt_of_cell t2'; clear hf6)
   all_goals (go_ret; exact ⟨ret_int (by rw [HR.out]; split <;> simp_all <;> omega), Fr.alloc (HF5.out.call HF6.out) _⟩)
end
end Go.Proofs.YtdipnhghdajplaaGreatDoor
namespace Go.Proofs.YtdipnhghdajplaaGreatDoor
open Go.RowKit
set_option linter.unusedSimpArgs false
set_option linter.unusedVariables false
section
variable {E : Env} {w : World} {Fa Ca Aa Ga Ma : Option Addr} {sb : Nat} {n0 n1 n3 n7 n8 n9 n10 n11 n12 : Value} {fc gc cc ml mc ac : Nat}
theorem regw_any (S : BlkAt w sb [n0, n1, .slice Fa E.files.length fc, n3, .slice Ga E.nflags gc, .slice Ca E.classes.length cc, .slice Ma ml mc, n7, n8, n9, n10, n11, n12, .slice Aa E.args.length ac])
   (hE : EnvAt E w Fa Ca Aa) (op wd a b : Int) (K : Option Addr) (kl kc : Nat) :
   Calls Tryz.prog 110 #[.pointer (some ⟨sb, 0, none⟩), .agg #[.int .i64 op, .int .i64 wd, .int .i64 a, .int .i64 b, .slice K kl kc]] w fun e w' => e = .returned (.int .i64 (regW E a b)) ∧ Fr w w' := by
 cases hf : fileO E a with
 | none =>
   have h : regW E a b = 0 := by unfold regW; rw [hf]
   rw [h]; exact regw_no S hE op wd a b K kl kc hf
 | some f => exact regw_pre S hE op wd a b K kl kc hf
set_option maxHeartbeats 6400000 in
set_option maxRecDepth 100000 in
theorem leaf20 (S : BlkAt w sb [n0, n1, .slice Fa E.files.length fc, n3, .slice Ga E.nflags gc, .slice Ca E.classes.length cc, .slice Ma ml mc, n7, n8, n9, n10, n11, n12, .slice Aa E.args.length ac])
   (hE : EnvAt E w Fa Ca Aa) (wd a b : Int) (K : Option Addr) (kl kc : Nat) :
   Calls Tryz.prog 160 #[.pointer (some ⟨sb, 0, none⟩), .agg #[.int .i64 20, .int .i64 wd, .int .i64 a, .int .i64 b, .slice K kl kc]] w fun e w' => e = .returned (.int .i64 (leafW E (20 : Int) wd a b)) ∧ Fr w w' := by
 have HS := Lib.hid S
 have HE := Lib.hid hE
 have hsl := lt_of_cell (S 5 _ rfl)
 clear S hE
 go_enter Tryz.func160, Tryz.ntmps160
 go_wp2_with (go_at_call 167; refine (wide_any _ _).mono ?_; rintro e w1 ⟨rfl, rfl⟩)
 all_goals (go_ret; exact ⟨ret_int (by simp [leafW]), Fr.alloc (Fr.refl w) _⟩)
set_option maxHeartbeats 6400000 in
set_option maxRecDepth 100000 in
theorem leaf21 (S : BlkAt w sb [n0, n1, .slice Fa E.files.length fc, n3, .slice Ga E.nflags gc, .slice Ca E.classes.length cc, .slice Ma ml mc, n7, n8, n9, n10, n11, n12, .slice Aa E.args.length ac])
   (hE : EnvAt E w Fa Ca Aa) (wd a b : Int) (K : Option Addr) (kl kc : Nat) :
   Calls Tryz.prog 160 #[.pointer (some ⟨sb, 0, none⟩), .agg #[.int .i64 21, .int .i64 wd, .int .i64 a, .int .i64 b, .slice K kl kc]] w fun e w' => e = .returned (.int .i64 (leafW E (21 : Int) wd a b)) ∧ Fr w w' := by
 have HS := Lib.hid S
 have HE := Lib.hid hE
 have hsl := lt_of_cell (S 5 _ rfl)
 have HR := Lib.hid (fun w1 (k : Fr w w1) => regw_any (S.fr k) (hE.fr k) 21 wd a b K kl kc)
 clear S hE
 go_enter Tryz.func160, Tryz.ntmps160
 go_wp2_with (go_at_call 110; refine (HR.out _ (Fr.alloc (Fr.refl w) _)).mono ?_; rintro e w1 ⟨rfl, hf⟩; have HF := Lib.hid hf; clear hf)
 all_goals (go_ret; exact ⟨ret_int (by simp [leafW]), (Fr.alloc (Fr.refl w) _).call HF.out⟩)
set_option maxHeartbeats 6400000 in
set_option maxRecDepth 100000 in
theorem leaf22n (S : BlkAt w sb [n0, n1, .slice Fa E.files.length fc, n3, .slice Ga E.nflags gc, .slice Ca E.classes.length cc, .slice Ma ml mc, n7, n8, n9, n10, n11, n12, .slice Aa E.args.length ac])
   (hE : EnvAt E w Fa Ca Aa) (wd a b : Int) (K : Option Addr) (kl kc : Nat) (hc : clsO E a = none) :
   Calls Tryz.prog 160 #[.pointer (some ⟨sb, 0, none⟩), .agg #[.int .i64 22, .int .i64 wd, .int .i64 a, .int .i64 b, .slice K kl kc]] w fun e w' => e = .returned (.int .i64 (leafW E (22 : Int) wd a b)) ∧ Fr w w' := by
 have HS := Lib.hid S
 have HE := Lib.hid hE
 have hsl := lt_of_cell (S 5 _ rfl)
 have HC := Lib.hid (fun w1 (k : Fr w w1) => classOf_none ((S.fr k) 5 _ rfl) ((S.fr k) 13 _ rfl) (hE.fr k) a hc)
 have HX := Lib.hid (show leafW E 22 wd a b = 0 by simp [leafW, hc])
 clear S hE hc
 go_enter Tryz.func160, Tryz.ntmps160
 go_wp2_with (go_at_call 142; refine (HC.out _ (Fr.alloc (Fr.refl w) _)).mono ?_; rintro e w1 ⟨rfl, hf⟩; have HF := Lib.hid hf; clear hf; unfold noClass)
 all_goals (go_ret; exact ⟨ret_int (by rw [HX.out]), Fr.alloc ((Fr.alloc (Fr.refl w) _).call HF.out) _⟩)
set_option maxHeartbeats 6400000 in
set_option maxRecDepth 100000 in
theorem leaf22s (S : BlkAt w sb [n0, n1, .slice Fa E.files.length fc, n3, .slice Ga E.nflags gc, .slice Ca E.classes.length cc, .slice Ma ml mc, n7, n8, n9, n10, n11, n12, .slice Aa E.args.length ac])
   (hE : EnvAt E w Fa Ca Aa) (wd a b : Int) (K : Option Addr) (kl kc : Nat) {c : Int × Int} (hc : clsO E a = some c) :
   Calls Tryz.prog 160 #[.pointer (some ⟨sb, 0, none⟩), .agg #[.int .i64 22, .int .i64 wd, .int .i64 a, .int .i64 b, .slice K kl kc]] w fun e w' => e = .returned (.int .i64 (leafW E (22 : Int) wd a b)) ∧ Fr w w' := by
 have HS := Lib.hid S
 have HE := Lib.hid hE
 have hsl := lt_of_cell (S 5 _ rfl)
 have HC := Lib.hid (fun w1 (k : Fr w w1) => classOf_some ((S.fr k) 5 _ rfl) ((S.fr k) 13 _ rfl) (hE.fr k) a hc)
 have HX := Lib.hid (show leafW E 22 wd a b = if c.1 = 1 then 0 else wideI wd by simp [leafW, hc])
 obtain ⟨c1, c2⟩ := c
 clear S hE hc
 go_enter Tryz.func160, Tryz.ntmps160
 go_wp2_with (first
   | (go_at_call 142; refine (HC.out _ (Fr.alloc (Fr.refl w) _)).mono ?_; rintro e w1 ⟨⟨m0, m1, m2, m3, m4, m5, m6, rfl⟩, hf⟩; have HF := Lib.hid hf; have t1 := hf.get (BlkAt.alloc (w := w) (t := 124) (cs := #[.int .i64 22, .int .i64 wd, .int .i64 a, .int .i64 b, .slice K kl kc]) 1 _ rfl); have z1 := lt_of_cell t1; clear hf)
   | (go_at_call 167; refine (wide_any _ _).mono ?_; rintro e w1 ⟨rfl, rfl⟩))
 all_goals (go_ret; exact ⟨ret_int (by rw [HX.out]; simp_all), Fr.alloc ((Fr.alloc (Fr.refl w) _).call HF.out) _⟩)
set_option maxHeartbeats 6400000 in
set_option maxRecDepth 100000 in
theorem leaf23 (S : BlkAt w sb [n0, n1, .slice Fa E.files.length fc, n3, .slice Ga E.nflags gc, .slice Ca E.classes.length cc, .slice Ma ml mc, n7, n8, n9, n10, n11, n12, .slice Aa E.args.length ac])
   (hE : EnvAt E w Fa Ca Aa) (wd a b : Int) (K : Option Addr) (kl kc : Nat) :
   Calls Tryz.prog 160 #[.pointer (some ⟨sb, 0, none⟩), .agg #[.int .i64 23, .int .i64 wd, .int .i64 a, .int .i64 b, .slice K kl kc]] w fun e w' => e = .returned (.int .i64 (leafW E (23 : Int) wd a b)) ∧ Fr w w' := by
 have HS := Lib.hid S
 have HE := Lib.hid hE
 have hsl := lt_of_cell (S 5 _ rfl)
 clear S hE
 go_enter Tryz.func160, Tryz.ntmps160
 go_wp2
 all_goals (go_ret; exact ⟨ret_int (by simp [leafW]), Fr.alloc (Fr.refl w) _⟩)
set_option maxHeartbeats 6400000 in
set_option maxRecDepth 100000 in
theorem leaf24 (S : BlkAt w sb [n0, n1, .slice Fa E.files.length fc, n3, .slice Ga E.nflags gc, .slice Ca E.classes.length cc, .slice Ma ml mc, n7, n8, n9, n10, n11, n12, .slice Aa E.args.length ac])
   (hE : EnvAt E w Fa Ca Aa) (wd a b : Int) (K : Option Addr) (kl kc : Nat) :
   Calls Tryz.prog 160 #[.pointer (some ⟨sb, 0, none⟩), .agg #[.int .i64 24, .int .i64 wd, .int .i64 a, .int .i64 b, .slice K kl kc]] w fun e w' => e = .returned (.int .i64 (leafW E (24 : Int) wd a b)) ∧ Fr w w' := by
 have HS := Lib.hid S
 have HE := Lib.hid hE
 have hsl := lt_of_cell (S 5 _ rfl)
 clear S hE
 go_enter Tryz.func160, Tryz.ntmps160
 go_wp2
 all_goals (go_ret; exact ⟨ret_int (by simp [leafW]), Fr.alloc (Fr.refl w) _⟩)
set_option maxHeartbeats 6400000 in
set_option maxRecDepth 100000 in
theorem leaf25 (S : BlkAt w sb [n0, n1, .slice Fa E.files.length fc, n3, .slice Ga E.nflags gc, .slice Ca E.classes.length cc, .slice Ma ml mc, n7, n8, n9, n10, n11, n12, .slice Aa E.args.length ac])
   (hE : EnvAt E w Fa Ca Aa) (wd a b : Int) (K : Option Addr) (kl kc : Nat) :
   Calls Tryz.prog 160 #[.pointer (some ⟨sb, 0, none⟩), .agg #[.int .i64 25, .int .i64 wd, .int .i64 a, .int .i64 b, .slice K kl kc]] w fun e w' => e = .returned (.int .i64 (leafW E (25 : Int) wd a b)) ∧ Fr w w' := by
 have HS := Lib.hid S
 have HE := Lib.hid hE
 have hsl := lt_of_cell (S 5 _ rfl)
 have s4 := S 4 _ rfl
 have HX := Lib.hid (show leafW E 25 wd a b = if plB a E.nflags then 1 else 0 by simp [leafW])
 clear S hE
 go_enter Tryz.func160, Tryz.ntmps160
 go_wp2
 go_quiet ((go_at_call 112; refine Calls.quiet_of_same (flagPlace_any _ _ _ _ _)))
 go_wp2
 all_goals (go_ret; exact ⟨ret_int (by rw [HX.out]; simp_all), Fr.drewN (Fr.alloc (Fr.refl w) _) _⟩)
theorem leaf_any (S : BlkAt w sb [n0, n1, .slice Fa E.files.length fc, n3, .slice Ga E.nflags gc, .slice Ca E.classes.length cc, .slice Ma ml mc, n7, n8, n9, n10, n11, n12, .slice Aa E.args.length ac])
   (hE : EnvAt E w Fa Ca Aa) (op wd a b : Int) (K : Option Addr) (kl kc : Nat) (hop : 20 ≤ op ∧ op ≤ 25) :
   Calls Tryz.prog 160 #[.pointer (some ⟨sb, 0, none⟩), .agg #[.int .i64 op, .int .i64 wd, .int .i64 a, .int .i64 b, .slice K kl kc]] w fun e w' => e = .returned (.int .i64 (leafW E op wd a b)) ∧ Fr w w' := by
 rcases (show op = 20 ∨ op = 21 ∨ op = 22 ∨ op = 23 ∨ op = 24 ∨ op = 25 by omega) with rfl | rfl | rfl | rfl | rfl | rfl
 · exact leaf20 S hE wd a b K kl kc
 · exact leaf21 S hE wd a b K kl kc
 · cases hc : clsO E a with
   | none => exact leaf22n S hE wd a b K kl kc hc
   | some c => exact leaf22s S hE wd a b K kl kc hc
 · exact leaf23 S hE wd a b K kl kc
 · exact leaf24 S hE wd a b K kl kc
 · exact leaf25 S hE wd a b K kl kc
end
end Go.Proofs.YtdipnhghdajplaaGreatDoor
namespace Go.Proofs.YtdipnhghdajplaaGreatDoor
open Go.RowKit
set_option linter.unusedSimpArgs false
set_option linter.unusedVariables false
theorem BlkAt.set {w : World} {b k : Nat} {l : List Value} {v : Value} (h : BlkAt w b l) (hk : k < l.length) : BlkAt (w.setCell ⟨b, k, none⟩ v) b (l.set k v) := by
 intro i u hu
 by_cases hi : i = k
 · subst hi
   rw [List.getElem?_set_self hk] at hu
   injection hu with hu; subst hu
   exact World.cell?_setCell_same w _ _ (h i _ (List.getElem?_eq_getElem hk))
 · rw [List.getElem?_set_ne (fun e => hi e.symm)] at hu
   rw [World.cell?_setCell_other (h := (by intro e; injection e with _ e _; exact hi e.symm : (⟨b, k, none⟩ : Addr) ≠ ⟨b, i, none⟩))]
   exact h i u hu
theorem BlkAt.setO {w : World} {b b' k : Nat} {l : List Value} {v : Value} (h : BlkAt w b l) (hb : b' ≠ b) : BlkAt (w.setCell ⟨b', k, none⟩ v) b l := by
 intro i u hu
 rw [World.cell?_setCell_other (h := (by intro e; injection e with e _ _; exact hb e : (⟨b', k, none⟩ : Addr) ≠ ⟨b, i, none⟩))]
 exact h i u hu
def ar (ws : List Int) : List Value := [.int .i64 (ws.getD 0 0), .int .i64 (ws.getD 1 0), .int .i64 (ws.getD 2 0)]
theorem ar_get {ws : List Int} {j : Nat} (hj : j < 3) : (ar ws)[j]? = some (.int .i64 (ws.getD j 0)) := by
 rcases (show j = 0 ∨ j = 1 ∨ j = 2 by omega) with rfl | rfl | rfl <;> rfl
theorem ar_set {ws : List Int} {j : Nat} {v : Int} (hj : j < 3) (hl : ws.length = j) : (ar ws).set j (.int .i64 v) = ar (ws ++ [v]) := by
 rcases (show j = 0 ∨ j = 1 ∨ j = 2 by omega) with rfl | rfl | rfl
 · obtain rfl := List.length_eq_zero_iff.1 hl; rfl
 · match ws, hl with
   | [x], _ => rfl
 · match ws, hl with
   | [x, y], _ => rfl
section
variable {E : Env} {Fa Ca Aa Ga Ma : Option Addr} {sb : Nat} {n0 n1 n3 n7 n8 n9 n10 n11 n12 : Value} {fc gc cc ml mc ac : Nat}
def WidC (n : Nat) : Prop := ∀ (op wd a b : Int) (ks : List Tm) (A : Option Addr) (c : Nat) (w : World) (E : Env) (Fa Ca Aa Ga Ma : Option Addr) (sb : Nat) (n0 n1 n3 n7 n8 n9 n10 n11 n12 : Value) (fc gc cc ml mc ac : Nat),
 SizeOf.sizeOf (Tm.node op wd a b ks) < n → BlkAt w sb [n0, n1, .slice Fa E.files.length fc, n3, .slice Ga E.nflags gc, .slice Ca E.classes.length cc, .slice Ma ml mc, n7, n8, n9, n10, n11, n12, .slice Aa E.args.length ac] → EnvAt E w Fa Ca Aa → TmL w A ks →
 Calls Tryz.prog 143 #[.pointer (some ⟨sb, 0, none⟩), .agg #[.int .i64 op, .int .i64 wd, .int .i64 a, .int .i64 b, .slice A ks.length c]] w fun e w' => e = .returned (.int .i64 (widT E (.node op wd a b ks))) ∧ Fr w w'
def RelWd (E : Env) (ks : List Tm) (w : World) (cs : List Value) (i : Value) (wr : World) : Prop := ∃ j : Nat, ∃ ws, j ≤ ks.length ∧ i = .int .i64 (j : Int) ∧ Fr w wr ∧ BlkAt wr w.heap.size cs ∧ widL E (ks.take j) = some ws ∧
 BlkAt wr (w.heap.size + 1) (ar ws) ∧ (∀ k, wr.frozen? ⟨w.heap.size + 1, k, none⟩ = false)
set_option maxHeartbeats 12800000 in
set_option maxRecDepth 100000 in
theorem width_step (n : Nat) (ih : WidC n) : WidC (n + 1) := by
 intro op wd a b ks A c w E Fa Ca Aa Ga Ma sb n0 n1 n3 n7 n8 n9 n10 n11 n12 fc gc cc ml mc ac hn S hE hT
 have IH := Lib.hid ih
 have HS := Lib.hid S
 have HE := Lib.hid hE
 have HT := Lib.hid hT
 have HN := Lib.hid hn
 have hsl := lt_of_cell (S 5 _ rfl)
 clear ih S hE hT hn
 by_cases hk : (ks.length : Int) = kidsI op
 · have hk3 := kids_le (op := op)
   have HK := Lib.hid hk
   have hke : ((ks.length : Int) != kidsI op) = false := by simp [hk]
   have hl3 : ks.length ≤ 3 := by omega
   clear hk hk3
   go_enter Tryz.func143, Tryz.ntmps143
   go_wp2
   go_quiet ((go_at_call 159; refine Calls.quiet_of_same (kidsOf_any _ _)))
   go_wp2
   go_loopw [19] (fun i wr => RelWd E ks w [.int .i64 op, .int .i64 wd, .int .i64 a, .int .i64 b, .slice A ks.length c] i wr) (fun i _ => ks.length - (intOf i).toNat)
   case atStart =>
     have e1 : Array.size (World.heap (World.drewN (World.alloc w (.cells #[.int .i64 op, .int .i64 wd, .int .i64 a, .int .i64 b, .slice A ks.length c] 124)) nq)) = w.heap.size + 1 := by simp
     refine ⟨0, [], by omega, rfl, Fr.alloc (Fr.drewN (Fr.alloc (Fr.refl w) _) _) _, BlkAt.fr BlkAt.alloc (Fr.alloc (Fr.drewN (Fr.refl _) _) _), by simp [widL], e1 ▸ BlkAt.alloc, fun k => by rw [← e1]; exact World.frozen?_alloc_at _ _ _ _ rfl⟩
   case round =>
     obtain ⟨j, ws, hj, rfl, hf, hB, hws, hA, hz⟩ := hrel
     have HF := Lib.hid hf
     have HWS := Lib.hid hws
     have HB := Lib.hid hB
     have HA := Lib.hid hA
     have HZ := Lib.hid hz
     have zw := lt_of_cell (hB 0 _ rfl)
     have za := lt_of_cell (hA 0 _ rfl)
     by_cases hlt : j < ks.length
     · obtain ⟨b', o', rfl, ht⟩ := (HT.out.fr hf).elem j hlt
       rw [Nat.mul_comm 5 j] at ht
       have hm := List.getElem_mem hlt
       have HTK := Lib.hid (List.take_succ_eq_append_getElem hlt)
       generalize hx : ks[j] = x at *
       obtain ⟨op2, wd2, a2, b2, ks2⟩ := x
       unfold TmT at ht
       obtain ⟨A2, c2, hc2, h0, h1, h2, h3, h4, hkk⟩ := ht
       have hsz := List.sizeOf_lt_of_mem hm
       have hji : (j : Int) < (ks.length : Int) := by omega
       have HR := Lib.hid (fun w1 (k : Fr wr w1) => IH.out op2 wd2 a2 b2 ks2 A2 c2 w1 E Fa Ca Aa Ga Ma sb n0 n1 n3 n7 n8 n9 n10 n11 n12 fc gc cc ml mc ac (by have := HN.out; simp at this; omega) (HS.out.fr (HF.out.call k)) (HE.out.fr (HF.out.call k)) (hkk.fr k))
       generalize hv : widT E (.node op2 wd2 a2 b2 ks2) = v at *
       clear hf hB hws hA hz hkk hsz hx
       by_cases hv0 : v = 0
       · have H0 := Lib.hid (show widT E (.node op wd a b ks) = 0 by unfold widT; rw [if_pos HK.out, widL_zero hm (hv.trans hv0)])
         subst hv0
         clear hm hv
         go_wp2_with (go_at_call 143; refine (HR.out _ (Fr.alloc (Fr.refl wr) _)).mono ?_; rintro e w4 ⟨rfl, hf4⟩; have HF4 := Lib.hid hf4; clear hf4)
         go_ret
         exact ⟨ret_int H0.out.symm, (Fr.alloc HF.out _).call HF4.out⟩
       · have hvn : (v == 0) = false := by simpa using hv0
         have hln : ws.length = j := by rw [widL_len HWS.out, List.length_take]; omega
         have HNX := Lib.hid (show widL E (ks.take (j + 1)) = some (ws ++ [v]) by
           rw [HTK.out]; have := widL_snoc (.node op2 wd2 a2 b2 ks2) HWS.out (by rw [hv]; exact hv0); rwa [hv] at this)
         clear hm hv HTK
         have hj3 : (j : Int) < 3 := by omega
         have hj3n : j < 3 := by omega
         have HQ := Lib.hid (ar_get (ws := ws) hj3n)
         have HP := Lib.hid (ar_set (ws := ws) (v := v) hj3n hln)
         go_wp2_with (go_at_call 143; refine (HR.out _ (Fr.alloc (Fr.refl wr) _)).mono ?_; rintro e w4 ⟨rfl, hf4⟩; have HF4 := Lib.hid (Fr.call (Fr.alloc (Fr.refl wr) _) hf4); clear hf4; have q0 := HA.out.fr HF4.out j _ HQ.out; have r0 := (HF4.out.cells.2.1 _ j za).trans (HZ.out j))
         go_roundw
         case rel =>
           exact ⟨j + 1, ws ++ [v], by omega, by go_num, Fr.set (HF.out.call HF4.out) (by simp) _, (HB.out.fr HF4.out).setO (by omega), HNX.out, HP.out ▸ (HA.out.fr HF4.out).set (k := j) (by simpa [ar] using hj3n), fun k => by rw [World.frozen?_setCell]; exact (HF4.out.cells.2.1 _ k za).trans (HZ.out k)⟩
         case measure => simp [intOf]; omega
     · obtain rfl : j = ks.length := by omega
       have hws2 : widL E ks = some ws := by have := HWS.out; rwa [List.take_of_length_le (Nat.le_refl _)] at this
       have HS4 := Lib.hid (HS.out.fr hf)
       have HE4 := Lib.hid (HE.out.fr hf)
       have t0 := hB 0 _ rfl
       have t1 := hB 1 _ rfl
       have t2 := hB 2 _ rfl
       have t3 := hB 3 _ rfl
       have t4 := hB 4 _ rfl
       have c0 := hA 0 _ rfl
       have c1 := hA 1 _ rfl
       have c2 := hA 2 _ rfl
       clear hf hB hws hA hz
       by_cases hl0 : ks.length = 0
       · have HR := Lib.hid (show widT E (.node op wd a b ks) = leafW E op wd a b by unfold widT; rw [if_pos HK.out, hws2]; simp [hl0])
         have hop := kids_zero (op := op) (by have := HK.out; omega)
         have hlz : ((ks.length : Int) == 0) = true := by simp [hl0]
         have hge : ((ks.length : Int) < (ks.length : Int)) = False := by simp
         clear hl0 hws2
         go_wp2_with (go_at_call 160; refine (leaf_any HS4.out HE4.out op wd a b A ks.length c hop).mono ?_; rintro e w4 ⟨rfl, hf4⟩; have HF4 := Lib.hid hf4; clear hf4)
         go_ret
         exact ⟨ret_int HR.out.symm, HF.out.call HF4.out⟩
       · have HR := Lib.hid (show widT E (.node op wd a b ks) = joinW op wd a b (ws.getD 0 0) (ws.getD 1 0) (ws.getD 2 0) by unfold widT; rw [if_pos HK.out, hws2]; simp [hl0])
         have hlz : ((ks.length : Int) == 0) = false := by simp [hl0]
         have HBD := Lib.hid (fun k => (show 0 ≤ ws.getD k 0 ∧ ws.getD k 0 ≤ 128 by
           rw [List.getD_eq_getElem?_getD]
           cases hk : ws[k]? with
           | none => simp
           | some x => exact widL_bd E ks ws hws2 x (List.mem_of_getElem? hk)))
         have hb0 := HBD.out 0
         have hb1 := HBD.out 1
         clear HBD
         generalize ws.getD 0 0 = x at *
         generalize ws.getD 1 0 = y at *
         generalize ws.getD 2 0 = z at *
         have HJ := Lib.hid (joined_any op wd a b x y z A ks.length c wr hb0 hb1)
         clear hl0 hws2 hb0 hb1
         go_wp2_with (go_at_call 161; refine HJ.out.mono ?_; rintro e w4 ⟨rfl, hf4⟩; have HF4 := Lib.hid hf4; clear hf4)
         go_ret
         exact ⟨ret_int HR.out.symm, HF.out.call HF4.out⟩
 · have hke : ((ks.length : Int) != kidsI op) = true := by simp [hk]
   have HZ := Lib.hid (show widT E (.node op wd a b ks) = 0 by unfold widT; rw [if_neg hk])
   clear hk
   go_enter Tryz.func143, Tryz.ntmps143
   go_wp2
   go_quiet ((go_at_call 159; refine Calls.quiet_of_same (kidsOf_any _ _)))
   go_wp2
   go_ret
   exact ⟨ret_int HZ.out.symm, Fr.drewN (Fr.alloc (Fr.refl w) _) _⟩
theorem width_all : ∀ n : Nat, WidC n
 | 0 => fun op wd a b ks A c w E Fa Ca Aa Ga Ma sb n0 n1 n3 n7 n8 n9 n10 n11 n12 fc gc cc ml mc ac h => absurd h (by omega)
 | n + 1 => width_step n (width_all n)
theorem width_any {w : World} (S : BlkAt w sb [n0, n1, .slice Fa E.files.length fc, n3, .slice Ga E.nflags gc, .slice Ca E.classes.length cc, .slice Ma ml mc, n7, n8, n9, n10, n11, n12, .slice Aa E.args.length ac]) (hE : EnvAt E w Fa Ca Aa) (op wd a b : Int) (ks : List Tm) (A : Option Addr) (c : Nat) (hT : TmL w A ks) :
   Calls Tryz.prog 143 #[.pointer (some ⟨sb, 0, none⟩), .agg #[.int .i64 op, .int .i64 wd, .int .i64 a, .int .i64 b, .slice A ks.length c]] w fun e w' => e = .returned (.int .i64 (widT E (.node op wd a b ks))) ∧ Fr w w' :=
 width_all _ op wd a b ks A c w E Fa Ca Aa Ga Ma sb n0 n1 n3 n7 n8 n9 n10 n11 n12 fc gc cc ml mc ac (Nat.lt_succ_self _) S hE hT
end
end Go.Proofs.YtdipnhghdajplaaGreatDoor
