/- What bytes are decoded to is encoded to the same: the walk of CodecForth. -/
import Derived.Test.YtdipnhghdajplaaGreatDoorP35b
namespace Go.Proofs.YtdipnhghdajplaaGreatDoor
open Go.RowKit
set_option linter.unusedSimpArgs false
set_option linter.unusedVariables false
set_option maxHeartbeats 25600000 in
set_option maxRecDepth 100000 in
theorem forth_walk {w : World} {D : Ds} {v : Array Value} (hD : DescAt w D v) (hS : D.Small) (hL : D.Light) (hX : ∀ c ∈ D.cls, c.ex.length ≤ 1048576) {A : Option Addr} {bs : List Nat} (c : Nat) (hB : RowOf ByC 1 w A bs) (hm : bs.length ≤ 1048576) (hcap : bs.length ≤ c) (hcm : c ≤ maxLen)
   (alive : ∀ w : World, Calls Tryz.prog 10 #[] w fun e w' => e = .returned (.bool true) ∧ Fr w w') :
   Calls Tryz.prog 5 #[.agg v, .slice A bs.length c] w fun e w' => e = .returned (.bool true) ∧ Fr w w' := by
 have HAL := Lib.hid alive
 have HNW := Lib.hid (fun (w1 : World) (k : Fr w w1) => new_any (hD.fr k) hS hL hX)
 have HXL := Lib.hid hX
 have HBY := Lib.hid hB
 obtain ⟨s0, Fa, Ba, Ga, Ca, Ma, Ra, Ua, Xa, Ka, Na, Pa, fc, bc, gc, cc, mc, rc, uc, xc, kc, nl, nc, pc, rfl, h1, h2, h3, h4, h5, h6, h7, h8, h9⟩ := hD
 have HC := Lib.hid h3
 have HDV := Lib.hid (show BlkAt (w.alloc (.cells #[.string s0, .int .i64 D.order, .slice Fa D.files.length fc, .slice Ba D.als.length bc, .slice Ga D.nflags gc, .slice Ca D.cls.length cc, .slice Ma D.fms.length mc, .slice Ra D.rels.length rc, .slice Ua D.uses.length uc, .slice Xa D.rxs.length xc, .slice Ka D.mcs.length kc, .slice Na nl nc, .slice Pa D.regs.length pc] 33)) w.heap.size [.string s0, .int .i64 D.order, .slice Fa D.files.length fc, .slice Ba D.als.length bc, .slice Ga D.nflags gc, .slice Ca D.cls.length cc, .slice Ma D.fms.length mc, .slice Ra D.rels.length rc, .slice Ua D.uses.length uc, .slice Xa D.rxs.length xc, .slice Ka D.mcs.length kc, .slice Na nl nc, .slice Pa D.regs.length pc] from BlkAt.alloc)
 have HF1 := Lib.hid (show Fr w (w.alloc (.cells #[.string s0, .int .i64 D.order, .slice Fa D.files.length fc, .slice Ba D.als.length bc, .slice Ga D.nflags gc, .slice Ca D.cls.length cc, .slice Ma D.fms.length mc, .slice Ra D.rels.length rc, .slice Ua D.uses.length uc, .slice Xa D.rxs.length xc, .slice Ka D.mcs.length kc, .slice Na nl nc, .slice Pa D.regs.length pc] 33)) from Fr.alloc (Fr.refl w) _)
 clear h1 h2 h3 h4 h5 h6 h7 h8 h9 hL hS hX alive
 go_enter Tryz.func5, Tryz.ntmps5
 go_wp2_with fail
 generalize World.alloc w _ = W1 at *
 refine (HAL.out _).mono ?_
 rintro e w3 ⟨rfl, hf3⟩
 have HF3 := Lib.hid hf3
 have d0 := (HDV.out.fr HF3.out) 0 _ rfl; have d1 := (HDV.out.fr HF3.out) 1 _ rfl; have d2 := (HDV.out.fr HF3.out) 2 _ rfl; have d3 := (HDV.out.fr HF3.out) 3 _ rfl; have d4 := (HDV.out.fr HF3.out) 4 _ rfl; have d5 := (HDV.out.fr HF3.out) 5 _ rfl; have d6 := (HDV.out.fr HF3.out) 6 _ rfl; have d7 := (HDV.out.fr HF3.out) 7 _ rfl; have d8 := (HDV.out.fr HF3.out) 8 _ rfl; have d9 := (HDV.out.fr HF3.out) 9 _ rfl; have d10 := (HDV.out.fr HF3.out) 10 _ rfl; have d11 := (HDV.out.fr HF3.out) 11 _ rfl; have d12 := (HDV.out.fr HF3.out) 12 _ rfl; have zd := lt_of_cell d0
 clear hf3
 go_wp2_with fail
 refine (HNW.out _ (HF1.out.call HF3.out)).mono ?_
 rintro e w4 ⟨hnew, hf4⟩
 have HF4 := Lib.hid (HF3.out.call hf4)
 clear hf4 d0 d1 d2 d3 d4 d5 d6 d7 d8 d9 d10 d11 d12 zd
 rcases hnew with ⟨hne, rfl⟩ | ⟨h0, pb, rfl, hco⟩
 · generalize (chkN D).2 = c2 at *
   have h0n : (c2 != 0) = true := bne_iff_ne.2 hne
   go_wp2
   go_ret
   exact ⟨rfl, HF1.out.call HF4.out⟩
 · have HFO := Lib.hid (forth_any hco ⟨h0, HXL.out⟩ c (HBY.out.fr fun _ _ _ x => x.fr (HF1.out.call HF4.out)) hm hcap hcm)
   clear hco h0
   go_wp2_with fail
   refine HFO.out.mono ?_
   rintro e w5 ⟨rfl, hf5⟩
   go_wp2
   go_ret
   exact ⟨rfl, (HF1.out.call HF4.out).call hf5⟩
end Go.Proofs.YtdipnhghdajplaaGreatDoor
