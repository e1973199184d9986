/- A relaxing: is it right? -/
import Derived.Test.YtdipnhghdajplaaGreatDoorP21f
namespace Go.Proofs.YtdipnhghdajplaaGreatDoor
open Go.RowKit
set_option linter.unusedSimpArgs false
set_option linter.unusedVariables false
def relaxB (D : Ds) (rel form to : Int) : Bool := atB D.rels rel (fun a => decide (a.kind = 4)) && (atB D.rels to (fun a => decide (a.kind = 3)) && atB D.fms form fun f => atB D.rels to fun x => f.args.any fun c => decide (c = x.cls))
set_option maxHeartbeats 12800000 in
set_option maxRecDepth 100000 in
theorem relaxRight_a {w : World} {D : Ds} {v : Array Value} (hD : DescAt w D v) (rel form to : Int) (k1 : atB D.rels rel (fun a => decide (a.kind = 4)) = false) :
   Calls Tryz.prog 51 #[.agg v, .agg #[.int .i64 rel, .int .i64 form, .int .i64 to]] w fun e w' => e = .returned (.bool (relaxB D rel form to)) ∧ Fr w w' := by
 have HD := Lib.hid hD
 have HK1 := Lib.hid (fun w1 (k : Fr w w1) => hasKind_any (HD.out.fr k) rel 4)
 have HK2 := Lib.hid (fun w1 (k : Fr w w1) => hasKind_any (HD.out.fr k) to 3)
 obtain ⟨s0, Fa, Ba, Ga, Ca, Ma, Ra, Ua, Xa, Ka, Na, Pa, fc, bc, gc, cc, mc, rc, uc, xc, kc, nl, nc, pc, rfl, h1, h2, h3, h4, h5, h6, h7, h8, h9⟩ := hD
 have HF0 := Lib.hid (show Fr w ((w.alloc (.cells #[.string s0, .int .i64 D.order, .slice Fa D.files.length fc, .slice Ba D.als.length bc, .slice Ga D.nflags gc, .slice Ca D.cls.length cc, .slice Ma D.fms.length mc, .slice Ra D.rels.length rc, .slice Ua D.uses.length uc, .slice Xa D.rxs.length xc, .slice Ka D.mcs.length kc, .slice Na nl nc, .slice Pa D.regs.length pc] 33)).alloc (.cells #[.int .i64 rel, .int .i64 form, .int .i64 to] 132)) from Fr.alloc (Fr.alloc (Fr.refl w) _) _)
 have HB0 := Lib.hid (show BlkAt ((w.alloc (.cells #[.string s0, .int .i64 D.order, .slice Fa D.files.length fc, .slice Ba D.als.length bc, .slice Ga D.nflags gc, .slice Ca D.cls.length cc, .slice Ma D.fms.length mc, .slice Ra D.rels.length rc, .slice Ua D.uses.length uc, .slice Xa D.rxs.length xc, .slice Ka D.mcs.length kc, .slice Na nl nc, .slice Pa D.regs.length pc] 33)).alloc (.cells #[.int .i64 rel, .int .i64 form, .int .i64 to] 132)) w.heap.size [.string s0, .int .i64 D.order, .slice Fa D.files.length fc, .slice Ba D.als.length bc, .slice Ga D.nflags gc, .slice Ca D.cls.length cc, .slice Ma D.fms.length mc, .slice Ra D.rels.length rc, .slice Ua D.uses.length uc, .slice Xa D.rxs.length xc, .slice Ka D.mcs.length kc, .slice Na nl nc, .slice Pa D.regs.length pc] from BlkAt.fr (by have := BlkAt.alloc (w := w) (t := 33) (cs := #[.string s0, .int .i64 D.order, .slice Fa D.files.length fc, .slice Ba D.als.length bc, .slice Ga D.nflags gc, .slice Ca D.cls.length cc, .slice Ma D.fms.length mc, .slice Ra D.rels.length rc, .slice Ua D.uses.length uc, .slice Xa D.rxs.length xc, .slice Ka D.mcs.length kc, .slice Na nl nc, .slice Pa D.regs.length pc]); simpa using this) (Fr.alloc (Fr.refl _) _))
 have HX0 := Lib.hid (show BlkAt ((w.alloc (.cells #[.string s0, .int .i64 D.order, .slice Fa D.files.length fc, .slice Ba D.als.length bc, .slice Ga D.nflags gc, .slice Ca D.cls.length cc, .slice Ma D.fms.length mc, .slice Ra D.rels.length rc, .slice Ua D.uses.length uc, .slice Xa D.rxs.length xc, .slice Ka D.mcs.length kc, .slice Na nl nc, .slice Pa D.regs.length pc] 33)).alloc (.cells #[.int .i64 rel, .int .i64 form, .int .i64 to] 132)) (w.heap.size + 1) [.int .i64 rel, .int .i64 form, .int .i64 to] from by have := BlkAt.alloc (w := w.alloc (.cells #[.string s0, .int .i64 D.order, .slice Fa D.files.length fc, .slice Ba D.als.length bc, .slice Ga D.nflags gc, .slice Ca D.cls.length cc, .slice Ma D.fms.length mc, .slice Ra D.rels.length rc, .slice Ua D.uses.length uc, .slice Xa D.rxs.length xc, .slice Ka D.mcs.length kc, .slice Na nl nc, .slice Pa D.regs.length pc] 33)) (t := 132) (cs := #[.int .i64 rel, .int .i64 form, .int .i64 to]); simpa using this)
 have HR := Lib.hid (show relaxB D rel form to = false by simp [relaxB, k1])
 rw [k1] at HK1
 clear k1 h1 h2 h3 h4 h5 h6 h7 h8 h9
 go_enter Tryz.func51, Tryz.ntmps51
 go_wp2_with (go_at_call_of 83 (Value.int IntKind.i64 4); refine (HK1.out _ HF0.out).mono ?_; rintro e w5 ⟨rfl, hf5⟩; have b0 := HB0.out.fr hf5 0 _ rfl; have b1 := HB0.out.fr hf5 1 _ rfl; have b2 := HB0.out.fr hf5 2 _ rfl; have b3 := HB0.out.fr hf5 3 _ rfl; have b4 := HB0.out.fr hf5 4 _ rfl; have b5 := HB0.out.fr hf5 5 _ rfl; have b6 := HB0.out.fr hf5 6 _ rfl; have b7 := HB0.out.fr hf5 7 _ rfl; have b8 := HB0.out.fr hf5 8 _ rfl; have b9 := HB0.out.fr hf5 9 _ rfl; have b10 := HB0.out.fr hf5 10 _ rfl; have b11 := HB0.out.fr hf5 11 _ rfl; have b12 := HB0.out.fr hf5 12 _ rfl; have x0 := HX0.out.fr hf5 0 _ rfl; have x1 := HX0.out.fr hf5 1 _ rfl; have x2 := HX0.out.fr hf5 2 _ rfl; have HF5 := Lib.hid hf5; clear hf5)
 go_ret
 exact ⟨ret_bool (by rw [HR.out]), HF0.out.call HF5.out⟩
set_option maxHeartbeats 12800000 in
set_option maxRecDepth 100000 in
theorem relaxRight_b {w : World} {D : Ds} {v : Array Value} (hD : DescAt w D v) (rel form to : Int) (k1 : atB D.rels rel (fun a => decide (a.kind = 4)) = true) (k2 : atB D.rels to (fun a => decide (a.kind = 3)) = false) :
   Calls Tryz.prog 51 #[.agg v, .agg #[.int .i64 rel, .int .i64 form, .int .i64 to]] w fun e w' => e = .returned (.bool (relaxB D rel form to)) ∧ Fr w w' := by
 have HD := Lib.hid hD
 have HK1 := Lib.hid (fun w1 (k : Fr w w1) => hasKind_any (HD.out.fr k) rel 4)
 have HK2 := Lib.hid (fun w1 (k : Fr w w1) => hasKind_any (HD.out.fr k) to 3)
 obtain ⟨s0, Fa, Ba, Ga, Ca, Ma, Ra, Ua, Xa, Ka, Na, Pa, fc, bc, gc, cc, mc, rc, uc, xc, kc, nl, nc, pc, rfl, h1, h2, h3, h4, h5, h6, h7, h8, h9⟩ := hD
 have HF0 := Lib.hid (show Fr w ((w.alloc (.cells #[.string s0, .int .i64 D.order, .slice Fa D.files.length fc, .slice Ba D.als.length bc, .slice Ga D.nflags gc, .slice Ca D.cls.length cc, .slice Ma D.fms.length mc, .slice Ra D.rels.length rc, .slice Ua D.uses.length uc, .slice Xa D.rxs.length xc, .slice Ka D.mcs.length kc, .slice Na nl nc, .slice Pa D.regs.length pc] 33)).alloc (.cells #[.int .i64 rel, .int .i64 form, .int .i64 to] 132)) from Fr.alloc (Fr.alloc (Fr.refl w) _) _)
 have HB0 := Lib.hid (show BlkAt ((w.alloc (.cells #[.string s0, .int .i64 D.order, .slice Fa D.files.length fc, .slice Ba D.als.length bc, .slice Ga D.nflags gc, .slice Ca D.cls.length cc, .slice Ma D.fms.length mc, .slice Ra D.rels.length rc, .slice Ua D.uses.length uc, .slice Xa D.rxs.length xc, .slice Ka D.mcs.length kc, .slice Na nl nc, .slice Pa D.regs.length pc] 33)).alloc (.cells #[.int .i64 rel, .int .i64 form, .int .i64 to] 132)) w.heap.size [.string s0, .int .i64 D.order, .slice Fa D.files.length fc, .slice Ba D.als.length bc, .slice Ga D.nflags gc, .slice Ca D.cls.length cc, .slice Ma D.fms.length mc, .slice Ra D.rels.length rc, .slice Ua D.uses.length uc, .slice Xa D.rxs.length xc, .slice Ka D.mcs.length kc, .slice Na nl nc, .slice Pa D.regs.length pc] from BlkAt.fr (by have := BlkAt.alloc (w := w) (t := 33) (cs := #[.string s0, .int .i64 D.order, .slice Fa D.files.length fc, .slice Ba D.als.length bc, .slice Ga D.nflags gc, .slice Ca D.cls.length cc, .slice Ma D.fms.length mc, .slice Ra D.rels.length rc, .slice Ua D.uses.length uc, .slice Xa D.rxs.length xc, .slice Ka D.mcs.length kc, .slice Na nl nc, .slice Pa D.regs.length pc]); simpa using this) (Fr.alloc (Fr.refl _) _))
 have HX0 := Lib.hid (show BlkAt ((w.alloc (.cells #[.string s0, .int .i64 D.order, .slice Fa D.files.length fc, .slice Ba D.als.length bc, .slice Ga D.nflags gc, .slice Ca D.cls.length cc, .slice Ma D.fms.length mc, .slice Ra D.rels.length rc, .slice Ua D.uses.length uc, .slice Xa D.rxs.length xc, .slice Ka D.mcs.length kc, .slice Na nl nc, .slice Pa D.regs.length pc] 33)).alloc (.cells #[.int .i64 rel, .int .i64 form, .int .i64 to] 132)) (w.heap.size + 1) [.int .i64 rel, .int .i64 form, .int .i64 to] from by have := BlkAt.alloc (w := w.alloc (.cells #[.string s0, .int .i64 D.order, .slice Fa D.files.length fc, .slice Ba D.als.length bc, .slice Ga D.nflags gc, .slice Ca D.cls.length cc, .slice Ma D.fms.length mc, .slice Ra D.rels.length rc, .slice Ua D.uses.length uc, .slice Xa D.rxs.length xc, .slice Ka D.mcs.length kc, .slice Na nl nc, .slice Pa D.regs.length pc] 33)) (t := 132) (cs := #[.int .i64 rel, .int .i64 form, .int .i64 to]); simpa using this)
 have HR := Lib.hid (show relaxB D rel form to = false by simp [relaxB, k1, k2])
 rw [k1] at HK1
 rw [k2] at HK2
 clear k1 k2 h1 h2 h3 h4 h5 h6 h7 h8 h9
 go_enter Tryz.func51, Tryz.ntmps51
 go_wp2_with (first
   | (go_at_call_of 83 (Value.int IntKind.i64 4); refine (HK1.out _ HF0.out).mono ?_; rintro e w5 ⟨rfl, hf5⟩; have b0 := HB0.out.fr hf5 0 _ rfl; have b1 := HB0.out.fr hf5 1 _ rfl; have b2 := HB0.out.fr hf5 2 _ rfl; have b3 := HB0.out.fr hf5 3 _ rfl; have b4 := HB0.out.fr hf5 4 _ rfl; have b5 := HB0.out.fr hf5 5 _ rfl; have b6 := HB0.out.fr hf5 6 _ rfl; have b7 := HB0.out.fr hf5 7 _ rfl; have b8 := HB0.out.fr hf5 8 _ rfl; have b9 := HB0.out.fr hf5 9 _ rfl; have b10 := HB0.out.fr hf5 10 _ rfl; have b11 := HB0.out.fr hf5 11 _ rfl; have b12 := HB0.out.fr hf5 12 _ rfl; have x0 := HX0.out.fr hf5 0 _ rfl; have x1 := HX0.out.fr hf5 1 _ rfl; have x2 := HX0.out.fr hf5 2 _ rfl; have HF5 := Lib.hid hf5; clear hf5)
   | (go_at_call_of 83 (Value.int IntKind.i64 3); refine (HK2.out _ (HF0.out.call HF5.out)).mono ?_; rintro e w6 ⟨rfl, hf6⟩; have HF6 := Lib.hid (HF5.out.call hf6); have b6 := HB0.out.fr HF6.out 6 _ rfl; have b7 := HB0.out.fr HF6.out 7 _ rfl; have x1 := HX0.out.fr HF6.out 1 _ rfl; have x2 := HX0.out.fr HF6.out 2 _ rfl; clear hf6))
 go_ret
 exact ⟨ret_bool (by rw [HR.out]), HF0.out.call HF6.out⟩
set_option maxHeartbeats 12800000 in
set_option maxRecDepth 100000 in
theorem relaxRight_c {w : World} {D : Ds} {v : Array Value} (hD : DescAt w D v) (rel form to : Int) (k1 : atB D.rels rel (fun a => decide (a.kind = 4)) = true) (k2 : atB D.rels to (fun a => decide (a.kind = 3)) = true) (k3 : plB form D.fms.length = false) :
   Calls Tryz.prog 51 #[.agg v, .agg #[.int .i64 rel, .int .i64 form, .int .i64 to]] w fun e w' => e = .returned (.bool (relaxB D rel form to)) ∧ Fr w w' := by
 have HD := Lib.hid hD
 have HK1 := Lib.hid (fun w1 (k : Fr w w1) => hasKind_any (HD.out.fr k) rel 4)
 have HK2 := Lib.hid (fun w1 (k : Fr w w1) => hasKind_any (HD.out.fr k) to 3)
 obtain ⟨s0, Fa, Ba, Ga, Ca, Ma, Ra, Ua, Xa, Ka, Na, Pa, fc, bc, gc, cc, mc, rc, uc, xc, kc, nl, nc, pc, rfl, h1, h2, h3, h4, h5, h6, h7, h8, h9⟩ := hD
 have HF0 := Lib.hid (show Fr w ((w.alloc (.cells #[.string s0, .int .i64 D.order, .slice Fa D.files.length fc, .slice Ba D.als.length bc, .slice Ga D.nflags gc, .slice Ca D.cls.length cc, .slice Ma D.fms.length mc, .slice Ra D.rels.length rc, .slice Ua D.uses.length uc, .slice Xa D.rxs.length xc, .slice Ka D.mcs.length kc, .slice Na nl nc, .slice Pa D.regs.length pc] 33)).alloc (.cells #[.int .i64 rel, .int .i64 form, .int .i64 to] 132)) from Fr.alloc (Fr.alloc (Fr.refl w) _) _)
 have HB0 := Lib.hid (show BlkAt ((w.alloc (.cells #[.string s0, .int .i64 D.order, .slice Fa D.files.length fc, .slice Ba D.als.length bc, .slice Ga D.nflags gc, .slice Ca D.cls.length cc, .slice Ma D.fms.length mc, .slice Ra D.rels.length rc, .slice Ua D.uses.length uc, .slice Xa D.rxs.length xc, .slice Ka D.mcs.length kc, .slice Na nl nc, .slice Pa D.regs.length pc] 33)).alloc (.cells #[.int .i64 rel, .int .i64 form, .int .i64 to] 132)) w.heap.size [.string s0, .int .i64 D.order, .slice Fa D.files.length fc, .slice Ba D.als.length bc, .slice Ga D.nflags gc, .slice Ca D.cls.length cc, .slice Ma D.fms.length mc, .slice Ra D.rels.length rc, .slice Ua D.uses.length uc, .slice Xa D.rxs.length xc, .slice Ka D.mcs.length kc, .slice Na nl nc, .slice Pa D.regs.length pc] from BlkAt.fr (by have := BlkAt.alloc (w := w) (t := 33) (cs := #[.string s0, .int .i64 D.order, .slice Fa D.files.length fc, .slice Ba D.als.length bc, .slice Ga D.nflags gc, .slice Ca D.cls.length cc, .slice Ma D.fms.length mc, .slice Ra D.rels.length rc, .slice Ua D.uses.length uc, .slice Xa D.rxs.length xc, .slice Ka D.mcs.length kc, .slice Na nl nc, .slice Pa D.regs.length pc]); simpa using this) (Fr.alloc (Fr.refl _) _))
 have HX0 := Lib.hid (show BlkAt ((w.alloc (.cells #[.string s0, .int .i64 D.order, .slice Fa D.files.length fc, .slice Ba D.als.length bc, .slice Ga D.nflags gc, .slice Ca D.cls.length cc, .slice Ma D.fms.length mc, .slice Ra D.rels.length rc, .slice Ua D.uses.length uc, .slice Xa D.rxs.length xc, .slice Ka D.mcs.length kc, .slice Na nl nc, .slice Pa D.regs.length pc] 33)).alloc (.cells #[.int .i64 rel, .int .i64 form, .int .i64 to] 132)) (w.heap.size + 1) [.int .i64 rel, .int .i64 form, .int .i64 to] from by have := BlkAt.alloc (w := w.alloc (.cells #[.string s0, .int .i64 D.order, .slice Fa D.files.length fc, .slice Ba D.als.length bc, .slice Ga D.nflags gc, .slice Ca D.cls.length cc, .slice Ma D.fms.length mc, .slice Ra D.rels.length rc, .slice Ua D.uses.length uc, .slice Xa D.rxs.length xc, .slice Ka D.mcs.length kc, .slice Na nl nc, .slice Pa D.regs.length pc] 33)) (t := 132) (cs := #[.int .i64 rel, .int .i64 form, .int .i64 to]); simpa using this)
 have HR := Lib.hid (show relaxB D rel form to = false by simp [relaxB, k1, k2, atB_no k3])
 have HP := Lib.hid (fun A c w => k3 ▸ formPlace_any form A D.fms.length c w)
 rw [k1] at HK1
 rw [k2] at HK2
 clear k1 k2 k3 h1 h2 h3 h4 h5 h6 h7 h8 h9
 go_enter Tryz.func51, Tryz.ntmps51
 go_wp2_with (first
   | (go_at_call_of 83 (Value.int IntKind.i64 4); refine (HK1.out _ HF0.out).mono ?_; rintro e w5 ⟨rfl, hf5⟩; have b0 := HB0.out.fr hf5 0 _ rfl; have b1 := HB0.out.fr hf5 1 _ rfl; have b2 := HB0.out.fr hf5 2 _ rfl; have b3 := HB0.out.fr hf5 3 _ rfl; have b4 := HB0.out.fr hf5 4 _ rfl; have b5 := HB0.out.fr hf5 5 _ rfl; have b6 := HB0.out.fr hf5 6 _ rfl; have b7 := HB0.out.fr hf5 7 _ rfl; have b8 := HB0.out.fr hf5 8 _ rfl; have b9 := HB0.out.fr hf5 9 _ rfl; have b10 := HB0.out.fr hf5 10 _ rfl; have b11 := HB0.out.fr hf5 11 _ rfl; have b12 := HB0.out.fr hf5 12 _ rfl; have x0 := HX0.out.fr hf5 0 _ rfl; have x1 := HX0.out.fr hf5 1 _ rfl; have x2 := HX0.out.fr hf5 2 _ rfl; have HF5 := Lib.hid hf5; clear hf5)
   | (go_at_call_of 83 (Value.int IntKind.i64 3); refine (HK2.out _ (HF0.out.call HF5.out)).mono ?_; rintro e w6 ⟨rfl, hf6⟩; have HF6 := Lib.hid (HF5.out.call hf6); have b6 := HB0.out.fr HF6.out 6 _ rfl; have b7 := HB0.out.fr HF6.out 7 _ rfl; have x1 := HX0.out.fr HF6.out 1 _ rfl; have x2 := HX0.out.fr HF6.out 2 _ rfl; clear hf6)
   | (go_at_call 41; refine (HP.out _ _ _).mono ?_; rintro e w7 ⟨rfl, rfl⟩))
 go_ret
 exact ⟨ret_bool (by rw [HR.out]), HF0.out.call HF6.out⟩
def RelXr (args : List Int) (cl : Int) (W2 : World) (i : Value) (wr : World) : Prop := ∃ j : Nat, j ≤ args.length ∧ i = .int .i64 (j : Int) ∧ (args.take j).any (fun c => decide (c = cl)) = false ∧ Fr W2 wr
set_option maxHeartbeats 12800000 in
set_option maxRecDepth 100000 in
theorem relaxRight_d {w : World} {D : Ds} {v : Array Value} (hD : DescAt w D v) (rel form to : Int) (k1 : atB D.rels rel (fun a => decide (a.kind = 4)) = true) (k2 : atB D.rels to (fun a => decide (a.kind = 3)) = true) (k3 : plB form D.fms.length = true) :
   Calls Tryz.prog 51 #[.agg v, .agg #[.int .i64 rel, .int .i64 form, .int .i64 to]] w fun e w' => e = .returned (.bool (relaxB D rel form to)) ∧ Fr w w' := by
 have HD := Lib.hid hD
 have HK1 := Lib.hid (fun w1 (k : Fr w w1) => hasKind_any (HD.out.fr k) rel 4)
 have HK2 := Lib.hid (fun w1 (k : Fr w w1) => hasKind_any (HD.out.fr k) to 3)
 obtain ⟨s0, Fa, Ba, Ga, Ca, Ma, Ra, Ua, Xa, Ka, Na, Pa, fc, bc, gc, cc, mc, rc, uc, xc, kc, nl, nc, pc, rfl, h1, h2, h3, h4, h5, h6, h7, h8, h9⟩ := hD
 have HF0 := Lib.hid (show Fr w ((w.alloc (.cells #[.string s0, .int .i64 D.order, .slice Fa D.files.length fc, .slice Ba D.als.length bc, .slice Ga D.nflags gc, .slice Ca D.cls.length cc, .slice Ma D.fms.length mc, .slice Ra D.rels.length rc, .slice Ua D.uses.length uc, .slice Xa D.rxs.length xc, .slice Ka D.mcs.length kc, .slice Na nl nc, .slice Pa D.regs.length pc] 33)).alloc (.cells #[.int .i64 rel, .int .i64 form, .int .i64 to] 132)) from Fr.alloc (Fr.alloc (Fr.refl w) _) _)
 have HB0 := Lib.hid (show BlkAt ((w.alloc (.cells #[.string s0, .int .i64 D.order, .slice Fa D.files.length fc, .slice Ba D.als.length bc, .slice Ga D.nflags gc, .slice Ca D.cls.length cc, .slice Ma D.fms.length mc, .slice Ra D.rels.length rc, .slice Ua D.uses.length uc, .slice Xa D.rxs.length xc, .slice Ka D.mcs.length kc, .slice Na nl nc, .slice Pa D.regs.length pc] 33)).alloc (.cells #[.int .i64 rel, .int .i64 form, .int .i64 to] 132)) w.heap.size [.string s0, .int .i64 D.order, .slice Fa D.files.length fc, .slice Ba D.als.length bc, .slice Ga D.nflags gc, .slice Ca D.cls.length cc, .slice Ma D.fms.length mc, .slice Ra D.rels.length rc, .slice Ua D.uses.length uc, .slice Xa D.rxs.length xc, .slice Ka D.mcs.length kc, .slice Na nl nc, .slice Pa D.regs.length pc] from BlkAt.fr (by have := BlkAt.alloc (w := w) (t := 33) (cs := #[.string s0, .int .i64 D.order, .slice Fa D.files.length fc, .slice Ba D.als.length bc, .slice Ga D.nflags gc, .slice Ca D.cls.length cc, .slice Ma D.fms.length mc, .slice Ra D.rels.length rc, .slice Ua D.uses.length uc, .slice Xa D.rxs.length xc, .slice Ka D.mcs.length kc, .slice Na nl nc, .slice Pa D.regs.length pc]); simpa using this) (Fr.alloc (Fr.refl _) _))
 have HX0 := Lib.hid (show BlkAt ((w.alloc (.cells #[.string s0, .int .i64 D.order, .slice Fa D.files.length fc, .slice Ba D.als.length bc, .slice Ga D.nflags gc, .slice Ca D.cls.length cc, .slice Ma D.fms.length mc, .slice Ra D.rels.length rc, .slice Ua D.uses.length uc, .slice Xa D.rxs.length xc, .slice Ka D.mcs.length kc, .slice Na nl nc, .slice Pa D.regs.length pc] 33)).alloc (.cells #[.int .i64 rel, .int .i64 form, .int .i64 to] 132)) (w.heap.size + 1) [.int .i64 rel, .int .i64 form, .int .i64 to] from by have := BlkAt.alloc (w := w.alloc (.cells #[.string s0, .int .i64 D.order, .slice Fa D.files.length fc, .slice Ba D.als.length bc, .slice Ga D.nflags gc, .slice Ca D.cls.length cc, .slice Ma D.fms.length mc, .slice Ra D.rels.length rc, .slice Ua D.uses.length uc, .slice Xa D.rxs.length xc, .slice Ka D.mcs.length kc, .slice Na nl nc, .slice Pa D.regs.length pc] 33)) (t := 132) (cs := #[.int .i64 rel, .int .i64 form, .int .i64 to]); simpa using this)
 have HP := Lib.hid (fun A c w => k3 ▸ formPlace_any form A D.fms.length c w)
 rw [k1] at HK1
 rw [k2] at HK2
 obtain ⟨fk, rfl, hfk⟩ := plB_ex k3
 obtain ⟨tk, rfl, htk, _⟩ := atB_pl k2
 have hr0 : relaxB D rel (fk : Int) (tk : Int) = (D.fms[fk]).args.any fun c => decide (c = (D.rels[tk]).cls) := by
   simp only [relaxB, k1, k2, Bool.true_and, atB_at hfk, atB_at htk]
 have HR := Lib.hid hr0
 obtain ⟨bf, of, rfl, m0, m1, A2, q2, A3, q3, A4, q4, _, _, ua, va, f2, ra, _⟩ := h4.at hfk
 obtain ⟨bk, ok, rfl, n0, _, _, _, _, _, _, _, _, r4, _⟩ := h5.at htk
 have hal : (D.fms[fk]).args.length ≤ 9223372036854775807 := Nat.le_trans ua (Nat.le_trans va (by decide))
 clear ua va
 rw [Nat.mul_comm 5 fk] at f2
 rw [Nat.mul_comm 17 tk] at r4
 have hfi : (fk : Int) < (D.fms.length : Int) := by omega
 have hti : (tk : Int) < (D.rels.length : Int) := by omega
 have HA := Lib.hid ra
 have HF2 := Lib.hid f2
 have HR4 := Lib.hid r4
 generalize (D.fms[fk]).args = args at *
 generalize (D.rels[tk]).cls = cl at *
 have zf := lt_of_cell f2
 have zk := lt_of_cell r4
 clear k1 k2 k3 hr0 h1 h2 h3 h4 h5 h6 h7 h8 h9 f2 r4 ra
 go_enter Tryz.func51, Tryz.ntmps51
 go_wp2_with (first
   | (go_at_call_of 83 (Value.int IntKind.i64 4); refine (HK1.out _ HF0.out).mono ?_; rintro e w5 ⟨rfl, hf5⟩; have b0 := HB0.out.fr hf5 0 _ rfl; have b1 := HB0.out.fr hf5 1 _ rfl; have b2 := HB0.out.fr hf5 2 _ rfl; have b3 := HB0.out.fr hf5 3 _ rfl; have b4 := HB0.out.fr hf5 4 _ rfl; have b5 := HB0.out.fr hf5 5 _ rfl; have b6 := HB0.out.fr hf5 6 _ rfl; have b7 := HB0.out.fr hf5 7 _ rfl; have b8 := HB0.out.fr hf5 8 _ rfl; have b9 := HB0.out.fr hf5 9 _ rfl; have b10 := HB0.out.fr hf5 10 _ rfl; have b11 := HB0.out.fr hf5 11 _ rfl; have b12 := HB0.out.fr hf5 12 _ rfl; have x0 := HX0.out.fr hf5 0 _ rfl; have x1 := HX0.out.fr hf5 1 _ rfl; have x2 := HX0.out.fr hf5 2 _ rfl; have HF5 := Lib.hid hf5; clear hf5)
   | (go_at_call_of 83 (Value.int IntKind.i64 3); refine (HK2.out _ (HF0.out.call HF5.out)).mono ?_; rintro e w6 ⟨rfl, hf6⟩; have HF6 := Lib.hid (HF5.out.call hf6); have b6 := HB0.out.fr HF6.out 6 _ rfl; have b7 := HB0.out.fr HF6.out 7 _ rfl; have x1 := HX0.out.fr HF6.out 1 _ rfl; have x2 := HX0.out.fr HF6.out 2 _ rfl; have f2 := (HF0.out.call HF6.out).get HF2.out; have zf6 := lt_of_cell f2; clear hf6)
   | (go_at_call 41; refine (HP.out _ _ _).mono ?_; rintro e w7 ⟨rfl, rfl⟩))
 go_loopw [35] (fun i wr => RelXr args cl w7 i wr) (fun i _ => args.length - (intOf i).toNat)
 case atStart => exact ⟨0, by omega, rfl, by simp, Fr.refl _⟩
 case round =>
   obtain ⟨j, hj, rfl, hno, hf⟩ := hrel
   have HF := Lib.hid hf
   have HFW := Lib.hid ((HF0.out.call HF6.out).call hf)
   by_cases hlt : j < args.length
   · obtain ⟨ba, oa, rfl, nm, g0, gw, g1⟩ := (HA.out.fr (fun _ _ _ x => x.fr HFW.out)).at hlt
     rw [Nat.mul_comm 2 j] at g0 g1
     have hji : (j : Int) < (args.length : Int) := by omega
     have HN := Lib.hid (show ¬ args[j] = cl → (args.take (j + 1)).any (fun c => decide (c = cl)) = false from fun h => by rw [List.take_succ_eq_append_getElem hlt, List.any_append, hno]; simp [h])
     have HY := Lib.hid (show args[j] = cl → relaxB D rel (fk : Int) (tk : Int) = true from fun h => by rw [HR.out]; exact List.any_eq_true.2 ⟨args[j], List.getElem_mem hlt, by simp [h]⟩)
     generalize args[j] = x at *
     have zb := lt_of_cell g0
     have y7 := fun ex : Ext (wr.alloc (.cells #[.string nm, .int .i64 x] 55)) => ex.get (b := w.heap.size) (o := 7) ((Fr.alloc (Fr.refl wr) _).get (HB0.out.fr (HF6.out.call hf) 7 _ rfl))
     have yx2 := fun ex : Ext (wr.alloc (.cells #[.string nm, .int .i64 x] 55)) => ex.get (b := w.heap.size + 1) (o := 2) ((Fr.alloc (Fr.refl wr) _).get (HX0.out.fr (HF6.out.call hf) 2 _ rfl))
     have yr4 := fun ex : Ext (wr.alloc (.cells #[.string nm, .int .i64 x] 55)) => ex.get (b := bk) ((Fr.alloc (Fr.refl wr) _).get (HFW.out.get HR4.out))
     have ya := fun ex : Ext (wr.alloc (.cells #[.string nm, .int .i64 x] 55)) => ex.get (b := wr.heap.size) (o := 1) (v := .int .i64 x) (by simp)
     clear hf hno hj gw
     go_wp2_with fail
     refine wp_region_ext (by kernel_rfl) (by kernel_rfl) ?_
     repeat (go_big_quiet_step (fail))
     refine wpQuiet_nil ?_
     intro w4 hw4
     obtain ⟨y4, hy4⟩ := hw4
     have hb4 : Fr wr w4 := by rw [hy4]; exact (Fr.alloc (Fr.refl wr) _).call y4.fr
     have HB4 := Lib.hid hb4
     clear hy4 y4 hb4 y7 yx2 yr4 ya
     by_cases q : x = cl
     · have HY2 := Lib.hid (HY.out q)
       go_wp2
       go_ret
       exact ⟨ret_bool (by rw [HY2.out]), HFW.out.call HB4.out⟩
     · have HN2 := Lib.hid (HN.out q)
       go_wp2
       go_roundw
       case rel => exact ⟨j + 1, by omega, rfl, HN2.out, HF.out.call HB4.out⟩
       case measure => simp [intOf]; omega
   · obtain rfl : j = args.length := by omega
     rw [List.take_length] at hno
     have HR2 := Lib.hid (HR.out.trans hno)
     clear hf hno hj
     go_wp2
     go_ret
     exact ⟨ret_bool (by rw [HR2.out]), HFW.out⟩
theorem relaxRight_any {w : World} {D : Ds} {v : Array Value} (hD : DescAt w D v) (rel form to : Int) :
   Calls Tryz.prog 51 #[.agg v, .agg #[.int .i64 rel, .int .i64 form, .int .i64 to]] w fun e w' => e = .returned (.bool (relaxB D rel form to)) ∧ Fr w w' := by
 cases k1 : atB D.rels rel (fun a => decide (a.kind = 4)) with
 | false => exact relaxRight_a hD rel form to k1
 | true =>
   cases k2 : atB D.rels to (fun a => decide (a.kind = 3)) with
   | false => exact relaxRight_b hD rel form to k1 k2
   | true =>
     cases k3 : plB form D.fms.length with
     | false => exact relaxRight_c hD rel form to k1 k2 k3
     | true => exact relaxRight_d hD rel form to k1 k2 k3
end Go.Proofs.YtdipnhghdajplaaGreatDoor
