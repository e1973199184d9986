/- A relocation: is it right? (its place isn't) -/
import Derived.Test.YtdipnhghdajplaaGreatDoorP24
namespace Go.Proofs.YtdipnhghdajplaaGreatDoor
open Go.RowKit
set_option linter.unusedSimpArgs false
set_option linter.unusedVariables false

set_option maxHeartbeats 12800000 in
set_option maxRecDepth 100000 in
theorem relRight_p {w : World} {D : Ds} {v : Array Value} (hD : DescAt w D v) (n0 : ByteArray) (num kind bytes cls cls2 op wd ta tb sign width align round hi lo : Int) (ks : List Tm) (A : Option Addr) (c : Nat) (hT : TmL w A ks) (ep : plcB D kind bytes cls cls2 hi lo = false) :
    Calls Tryz.prog 49 #[.agg v, .agg #[.string n0, .int .i64 num, .int .i64 kind, .int .i64 bytes, .int .i64 cls, .int .i64 cls2, .int .i64 op, .int .i64 wd, .int .i64 ta, .int .i64 tb, .slice A ks.length c, .int .i64 sign, .int .i64 width, .int .i64 align, .int .i64 round, .int .i64 hi, .int .i64 lo]] w fun e w' => e = .returned (.bool (false)) ∧ Fr w w' := by
  have HD := Lib.hid hD
  obtain ⟨s0, Fa, Ba, Ga, Ca, Ma, Ra, Ua, Xa, Ka, Na, Pa, fc, bc, gc, cc, mc, rc, uc, xc, kc, nl, nc, pc, rfl, h1, h2, h3, h4, h5, h6, h7, h8, h9⟩ := hD
  have HB := Lib.hid (show BlkAt ((w.alloc (.cells #[.string s0, .int .i64 D.order, .slice Fa D.files.length fc, .slice Ba D.als.length bc, .slice Ga D.nflags gc, .slice Ca D.cls.length cc, .slice Ma D.fms.length mc, .slice Ra D.rels.length rc, .slice Ua D.uses.length uc, .slice Xa D.rxs.length xc, .slice Ka D.mcs.length kc, .slice Na nl nc, .slice Pa D.regs.length pc] 33)).alloc (.cells #[.string n0, .int .i64 num, .int .i64 kind, .int .i64 bytes, .int .i64 cls, .int .i64 cls2, .int .i64 op, .int .i64 wd, .int .i64 ta, .int .i64 tb, .slice A ks.length c, .int .i64 sign, .int .i64 width, .int .i64 align, .int .i64 round, .int .i64 hi, .int .i64 lo] 126)) w.heap.size [.string s0, .int .i64 D.order, .slice Fa D.files.length fc, .slice Ba D.als.length bc, .slice Ga D.nflags gc, .slice Ca D.cls.length cc, .slice Ma D.fms.length mc, .slice Ra D.rels.length rc, .slice Ua D.uses.length uc, .slice Xa D.rxs.length xc, .slice Ka D.mcs.length kc, .slice Na nl nc, .slice Pa D.regs.length pc] from BlkAt.fr (by have := BlkAt.alloc (w := w) (t := 33) (cs := #[.string s0, .int .i64 D.order, .slice Fa D.files.length fc, .slice Ba D.als.length bc, .slice Ga D.nflags gc, .slice Ca D.cls.length cc, .slice Ma D.fms.length mc, .slice Ra D.rels.length rc, .slice Ua D.uses.length uc, .slice Xa D.rxs.length xc, .slice Ka D.mcs.length kc, .slice Na nl nc, .slice Pa D.regs.length pc]); simpa using this) (Fr.alloc (Fr.refl _) _))
  have HC := Lib.hid (show BlkAt ((w.alloc (.cells #[.string s0, .int .i64 D.order, .slice Fa D.files.length fc, .slice Ba D.als.length bc, .slice Ga D.nflags gc, .slice Ca D.cls.length cc, .slice Ma D.fms.length mc, .slice Ra D.rels.length rc, .slice Ua D.uses.length uc, .slice Xa D.rxs.length xc, .slice Ka D.mcs.length kc, .slice Na nl nc, .slice Pa D.regs.length pc] 33)).alloc (.cells #[.string n0, .int .i64 num, .int .i64 kind, .int .i64 bytes, .int .i64 cls, .int .i64 cls2, .int .i64 op, .int .i64 wd, .int .i64 ta, .int .i64 tb, .slice A ks.length c, .int .i64 sign, .int .i64 width, .int .i64 align, .int .i64 round, .int .i64 hi, .int .i64 lo] 126)) (w.heap.size + 1) [.string n0, .int .i64 num, .int .i64 kind, .int .i64 bytes, .int .i64 cls, .int .i64 cls2, .int .i64 op, .int .i64 wd, .int .i64 ta, .int .i64 tb, .slice A ks.length c, .int .i64 sign, .int .i64 width, .int .i64 align, .int .i64 round, .int .i64 hi, .int .i64 lo] from (by have := BlkAt.alloc (w := (w.alloc (.cells #[.string s0, .int .i64 D.order, .slice Fa D.files.length fc, .slice Ba D.als.length bc, .slice Ga D.nflags gc, .slice Ca D.cls.length cc, .slice Ma D.fms.length mc, .slice Ra D.rels.length rc, .slice Ua D.uses.length uc, .slice Xa D.rxs.length xc, .slice Ka D.mcs.length kc, .slice Na nl nc, .slice Pa D.regs.length pc] 33))) (t := 126) (cs := #[.string n0, .int .i64 num, .int .i64 kind, .int .i64 bytes, .int .i64 cls, .int .i64 cls2, .int .i64 op, .int .i64 wd, .int .i64 ta, .int .i64 tb, .slice A ks.length c, .int .i64 sign, .int .i64 width, .int .i64 align, .int .i64 round, .int .i64 hi, .int .i64 lo]); simpa using this))
  have HF0 := Lib.hid (show Fr w ((w.alloc (.cells #[.string s0, .int .i64 D.order, .slice Fa D.files.length fc, .slice Ba D.als.length bc, .slice Ga D.nflags gc, .slice Ca D.cls.length cc, .slice Ma D.fms.length mc, .slice Ra D.rels.length rc, .slice Ua D.uses.length uc, .slice Xa D.rxs.length xc, .slice Ka D.mcs.length kc, .slice Na nl nc, .slice Pa D.regs.length pc] 33)).alloc (.cells #[.string n0, .int .i64 num, .int .i64 kind, .int .i64 bytes, .int .i64 cls, .int .i64 cls2, .int .i64 op, .int .i64 wd, .int .i64 ta, .int .i64 tb, .slice A ks.length c, .int .i64 sign, .int .i64 width, .int .i64 align, .int .i64 round, .int .i64 hi, .int .i64 lo] 126)) from Fr.alloc (Fr.alloc (Fr.refl w) _) _)
  have HP := Lib.hid (fun w1 (k : Fr w w1) => placeRight_any (HD.out.fr k) n0 num kind bytes cls cls2 op wd ta tb sign width align round hi lo A ks.length c)
  have HK := Lib.hid (fun w1 => checksRight_any n0 num kind bytes cls cls2 op wd ta tb sign width align round hi lo A ks.length c w1)
  have HL := Lib.hid (fun w1 (k : Fr w w1) => formulaRight_any op wd ta tb ks A c w1 (hT.fr k))
  rw [ep] at HP
  clear ep
  generalize flaB (.node op wd ta tb ks) = qf at *
  clear h1 h2 h3 h4 h5 h6 h7 h8 h9 HD hT
  go_enter Tryz.func49, Tryz.ntmps49
  go_wp2_with fail
  generalize World.alloc (World.alloc w _) _ = W2 at *
  refine (HP.out _ HF0.out).mono ?_
  rintro e w4 ⟨rfl, hf4⟩
  have HF4 := Lib.hid hf4
  clear hf4 HP
  have b0 := HC.out.fr HF4.out 0 _ rfl; have b1 := HC.out.fr HF4.out 1 _ rfl; have b2 := HC.out.fr HF4.out 2 _ rfl; have b3 := HC.out.fr HF4.out 3 _ rfl; have b4 := HC.out.fr HF4.out 4 _ rfl; have b5 := HC.out.fr HF4.out 5 _ rfl; have b6 := HC.out.fr HF4.out 6 _ rfl; have b7 := HC.out.fr HF4.out 7 _ rfl; have b8 := HC.out.fr HF4.out 8 _ rfl; have b9 := HC.out.fr HF4.out 9 _ rfl; have b10 := HC.out.fr HF4.out 10 _ rfl; have b11 := HC.out.fr HF4.out 11 _ rfl; have b12 := HC.out.fr HF4.out 12 _ rfl; have b13 := HC.out.fr HF4.out 13 _ rfl; have b14 := HC.out.fr HF4.out 14 _ rfl; have b15 := HC.out.fr HF4.out 15 _ rfl; have b16 := HC.out.fr HF4.out 16 _ rfl
  go_wp2_with (first
      | (go_at_call 81; refine (HK.out _).mono ?_; rintro e w5 ⟨rfl, hf5⟩; have HF5 := Lib.hid (HF4.out.call hf5); clear hf5; clear b0 b1 b2 b3 b4 b5 b6 b7 b8 b9 b10 b11 b12 b13 b14 b15 b16; have g0 := HC.out.fr HF5.out 0 _ rfl; have g1 := HC.out.fr HF5.out 1 _ rfl; have g2 := HC.out.fr HF5.out 2 _ rfl; have g3 := HC.out.fr HF5.out 3 _ rfl; have g4 := HC.out.fr HF5.out 4 _ rfl; have g5 := HC.out.fr HF5.out 5 _ rfl; have g6 := HC.out.fr HF5.out 6 _ rfl; have g7 := HC.out.fr HF5.out 7 _ rfl; have g8 := HC.out.fr HF5.out 8 _ rfl; have g9 := HC.out.fr HF5.out 9 _ rfl; have g10 := HC.out.fr HF5.out 10 _ rfl; have g11 := HC.out.fr HF5.out 11 _ rfl; have g12 := HC.out.fr HF5.out 12 _ rfl; have g13 := HC.out.fr HF5.out 13 _ rfl; have g14 := HC.out.fr HF5.out 14 _ rfl; have g15 := HC.out.fr HF5.out 15 _ rfl; have g16 := HC.out.fr HF5.out 16 _ rfl)
      | (go_at_call 82; refine (HL.out _ (HF0.out.call HF5.out)).mono ?_; rintro e w6 ⟨rfl, hf6⟩; have HF6 := Lib.hid (HF5.out.call hf6); clear hf6))
  go_ret
  exact ⟨ret_bool rfl, HF0.out.call HF4.out⟩
end Go.Proofs.YtdipnhghdajplaaGreatDoor
