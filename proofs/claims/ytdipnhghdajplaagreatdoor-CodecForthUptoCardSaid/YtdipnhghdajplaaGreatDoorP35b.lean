/- What bytes are decoded to is encoded to the same: the walk of forth. -/
import Derived.Test.YtdipnhghdajplaaGreatDoorP35
namespace Go.Proofs.YtdipnhghdajplaaGreatDoor
open Go.RowKit
set_option linter.unusedSimpArgs false
set_option linter.unusedVariables false
set_option maxHeartbeats 25600000 in
set_option maxRecDepth 100000 in
theorem forth_any {w : World} {p : Nat} {D : Ds} (hC : CodecAt w p D) (hO : CdOk D) {A : Option Addr} {bs : List Nat} (c : Nat) (hB : RowOf ByC 1 w A bs) (hm : bs.length ≤ 1048576) (hcap : bs.length ≤ c) (hcm : c ≤ maxLen) :
   Calls Tryz.prog 16 #[.pointer (some ⟨p, 0, none⟩), .slice A bs.length c] w fun e w' => e = .returned (.bool true) ∧ Fr w w' := by
 have HCO := Lib.hid hC
 have HO := Lib.hid hO
 have HB := Lib.hid hB
 have HBS := Lib.hid (show ∀ b ∈ bs, b < 256 from fun b hb => by
   obtain ⟨i, hi, rfl⟩ := List.mem_iff_getElem.1 hb
   obtain ⟨_, _, _, hx⟩ := hB.at hi
   exact hx.1)
 have HDE := Lib.hid (fun (w1 : World) (k : Fr w w1) (A : Option Addr) (bs : List Nat) (c : Nat) (hb : RowOf ByC 1 w1 A bs) (hm : bs.length ≤ maxLen) => cdec_any (hC.fr k) hO.ex hO.pats (chk_lens hO.chk).2.1 c hb hm)
 have HEN := Lib.hid (fun (w1 : World) (k : Fr w w1) (j : Nat) (hj : j < D.fms.length) (V : Option Addr) (vs : List Int) (vc : Nat) (hv : RowOf IntAt 1 w1 V vs) (hm : vs.length ≤ maxLen) => cenc_in (hC.fr k) (chk_lens hO.chk).2.2 hO.ex hO.pats (chk_lens hO.chk).2.1 j hj vc hv hm)
 have hbm : (bs.length : Int) ≤ 1048576 := by omega
 clear hC hO hB
 go_enter Tryz.func16, Tryz.ntmps16
 have hnil : A = none → bs.length = 0 := fun h => by
   rcases Nat.eq_zero_or_pos bs.length with h0 | h0
   · exact h0
   · obtain ⟨b, o, e, _⟩ := HB.out h0
     rw [h] at e; cases e
 go_wp2_with (at_builtin; refine wpList_appendk _ rfl (.tmp 15) (.tmp 16) 34 rfl w.heap.size 5 1 Tryz.underlying34 Tryz.infoU8 rfl (by decide) (.slice (some ⟨w.heap.size, 0, none⟩) 0 0) 0 [] rfl ?_ A bs.length c (bs.map fun x : Nat => Value.int .u8 (x : Int)) rfl ?_ ?_ ?_ ?_ ?_ ?_ ?_ ?_)
 · exact own_new _ _
 · simp
 · exact src_of (HB.out.fr fun _ _ _ x => x.fr (Fr.alloc (Fr.refl w) _)) (fun _ _ _ h => h.2)
 · exact hnil
 · intro u hu
   obtain ⟨x, _, rfl⟩ := List.mem_map.1 hu
   rfl
 · exact Nat.le_trans (by omega : 0 + bs.length ≤ 1048576) (by decide)
 · omega
 · simp
 intro v5 w5 HG5
 have hg5 := HG5.out
 (try rw [List.nil_append] at hg5)
 have HF5 := Lib.hid (show Fr w w5 from Fr.grown (Fr.alloc (Fr.refl w) _) hg5.2.1 (fun k e => by have e2 : w.heap.size = k := Option.some.inj e; omega))
 obtain ⟨A5, c5, rfl, hrow5⟩ := grew_row (R := ByC) rfl hg5 (fun b o x hx hc => ⟨HBS.out x hx, hc⟩)
 have HR5 := Lib.hid hrow5
 clear HG5 hg5 hrow5 hnil
 go_wp2_with fail
 refine (HDE.out _ HF5.out A5 bs c5 HR5.out (Nat.le_trans hm (by decide))).mono ?_
 rintro e w6 ⟨hf6, (⟨j, hj, hfit, _, g, rfl, hrow⟩ | ⟨_, rfl⟩)⟩
 · have HF6 := Lib.hid (HF5.out.call hf6)
   have HPJ := Lib.hid (HO.out.pats _ (List.getElem_mem hj))
   have hsz := size_le HPJ.out
   have hle := (fitB_C hfit).1
   obtain ⟨hI, hhas, hcan⟩ := enc_dec HPJ.out HBS.out hfit
   have hvl : (valsW D (wordsN bs) (cfD D D.fms[j])).length = (cfD D D.fms[j]).ops.length := by unfold valsW; simp
   obtain ⟨vs, hvs⟩ : ∃ vs, valsW D (wordsN bs) (cfD D D.fms[j]) = vs := ⟨_, rfl⟩
   rw [hvs] at hrow hI hhas hcan hvl
   have HEJ := Lib.hid (fun (w1 : World) (k : Fr w w1) (g : Nat) (hv : RowOf IntC 1 w1 (some ⟨g, 0, none⟩) vs) => (show Calls Tryz.prog 12 #[.pointer (some ⟨p, 0, none⟩), .agg #[.int .i64 (j : Int), .slice (some ⟨g, 0, none⟩) (cfD D D.fms[j]).ops.length (cfD D D.fms[j]).ops.length]] w1 fun e w' => ∃ g, e = .returned (.tuple #[.slice (some ⟨g, 0, none⟩) (cfD D D.fms[j]).size (cfD D D.fms[j]).size, .int .i64 0]) ∧ w1.heap.size ≤ g ∧ RowOf ByC 1 w' (some ⟨g, 0, none⟩) (bytesW (outW (cfD D D.fms[j]) (esN D (cfD D D.fms[j]).ops vs)) (cfD D D.fms[j]).size) ∧ Fr w1 w' from by
     have h := HEN.out w1 k j hj (some ⟨g, 0, none⟩) vs (cfD D D.fms[j]).ops.length (rowAt hv hI) (by rw [hvl]; exact Nat.le_trans hsz.2.2 (by decide))
     rw [hvl] at h
     exact h.mono fun e w' h1 => encP_ok hj h1 hvl hhas))
   have hob : ∀ b ∈ bytesW (outW (cfD D D.fms[j]) (esN D (cfD D D.fms[j]).ops vs)) (cfD D D.fms[j]).size, b < 256 := fun b hb => by
     obtain ⟨i, hi, rfl⟩ := List.mem_iff_getElem.1 hb
     have hi2 : i < (cfD D D.fms[j]).size := by rw [bytesW_len] at hi; exact hi
     rw [bytesW_get _ hi2]; exact byteW_lt _ _
   obtain ⟨hf2, hv2⟩ := dec_enc HPJ.out hvl hI hhas hob (by rw [bytesW_len]; exact Nat.le_refl _) (fun p hp => bytesW_bit _ hp (by omega))
   have HDJ := Lib.hid (fun (w1 : World) (k : Fr w w1) (g : Nat) (hb : RowOf ByC 1 w1 (some ⟨g, 0, none⟩) (bytesW (outW (cfD D D.fms[j]) (esN D (cfD D D.fms[j]).ops vs)) (cfD D D.fms[j]).size)) => (show Calls Tryz.prog 14 #[.pointer (some ⟨p, 0, none⟩), .slice (some ⟨g, 0, none⟩) (cfD D D.fms[j]).size (cfD D D.fms[j]).size] w1 fun e w' => Fr w1 w' ∧ ∃ g, e = .returned (.tuple #[.agg #[.int .i64 (j : Int), .slice (some ⟨g, 0, none⟩) (cfD D D.fms[j]).ops.length (cfD D D.fms[j]).ops.length], .int .i64 ((cfD D D.fms[j]).size : Int), .int .i64 0]) ∧ RowOf IntC 1 w' (some ⟨g, 0, none⟩) vs from by
     have h := HDE.out w1 k (some ⟨g, 0, none⟩) _ (cfD D D.fms[j]).size hb (by rw [bytesW_len]; exact Nat.le_trans hsz.1 (by decide))
     rw [bytesW_len] at h
     exact h.mono fun e w' h1 => by
       obtain ⟨h2, g3, h3, h4⟩ := decP_ok HO.out h1 hj hf2
       rw [hv2] at h4
       exact ⟨h2, g3, h3, h4⟩))
   have HSA := Lib.hid (fun (w1 : World) (g g3 : Nat) (h1 : RowOf IntC 1 w1 (some ⟨g, 0, none⟩) vs) (h2 : RowOf IntC 1 w1 (some ⟨g3, 0, none⟩) vs) => (show Calls Tryz.prog 15 #[.agg #[.int .i64 (j : Int), .slice (some ⟨g, 0, none⟩) (cfD D D.fms[j]).ops.length (cfD D D.fms[j]).ops.length], .agg #[.int .i64 (j : Int), .slice (some ⟨g3, 0, none⟩) (cfD D D.fms[j]).ops.length (cfD D D.fms[j]).ops.length]] w1 fun e w' => e = .returned (.bool true) ∧ Fr w1 w' from by
     have h := same06_any (j : Int) (some ⟨g, 0, none⟩) (some ⟨g3, 0, none⟩) (cfD D D.fms[j]).ops.length (cfD D D.fms[j]).ops.length vs h1 h2 (by rw [hvl]; exact Nat.le_trans hsz.2.2 (by decide))
     rwa [hvl] at h))
   have HCA := Lib.hid (fun (w1 : World) (k : Fr w w1) => canon_any (HCO.out.fr k) j hj)
   have HSB := Lib.hid (fun (hc : (cfD D D.fms[j]).canon = true) (w1 : World) (k : Fr w w1) (g : Nat) (hb : RowOf ByC 1 w1 (some ⟨g, 0, none⟩) (bytesW (outW (cfD D D.fms[j]) (esN D (cfD D D.fms[j]).ops vs)) (cfD D D.fms[j]).size)) => same02_any (some ⟨g, 0, none⟩) A (cfD D D.fms[j]).size c (cfD D D.fms[j]).size _ w1 hb (by rw [hcan hc]; exact rowOf_take (HB.out.fr fun _ _ _ x => x.fr k) _) (bytesW_len _ _))
   generalize bytesW (outW (cfD D D.fms[j]) (esN D (cfD D D.fms[j]).ops vs)) (cfD D D.fms[j]).size = out at *
   generalize (cfD D D.fms[j]).size = sz at *
   generalize (cfD D D.fms[j]).ops.length = m at *
   generalize (cfD D D.fms[j]).canon = cn at *
   have HRV := Lib.hid hrow
   have hs1 : decide ((sz : Int) < 1) = false := decide_eq_false (by omega)
   have hs2 : decide ((bs.length : Int) < (sz : Int)) = false := decide_eq_false (by omega)
   have hs3 : decide ((15 : Int) < (sz : Int)) = false := decide_eq_false (by omega)
   have hs4 : decide (bs.length < sz) = false := decide_eq_false (by omega)
   have hs5 : decide (sz < 1) = false := decide_eq_false (by omega)
   have hs6 : decide (15 < sz) = false := decide_eq_false (by omega)
   clear hrow hI hhas hcan hvl hvs hfit hf6 hf2 hv2 hob
   go_wp2_with fail
   refine (HEJ.out _ (HF6.out.alloc _) g (HRV.out.fr fun _ _ _ x => IntC.fr x ((Fr.refl _).alloc _))).mono ?_
   rintro e w7 ⟨g2, rfl, _, hrow2, hf7⟩
   have HF7 := Lib.hid ((HF6.out.alloc (.cells #[Value.int IntKind.i64 (j : Int), Value.slice (some ⟨g, 0, none⟩) m m] 48)).call hf7)
   have HX7 := Lib.hid (((Fr.refl w6).alloc (.cells #[Value.int IntKind.i64 (j : Int), Value.slice (some ⟨g, 0, none⟩) m m] 48)).call hf7)
   have HB7 := Lib.hid (BlkAt.fr (BlkAt.alloc (w := w6) (t := 48) (cs := #[Value.int IntKind.i64 (j : Int), Value.slice (some ⟨g, 0, none⟩) m m])) hf7)
   have HR7 := Lib.hid hrow2
   clear hrow2 hf7
   go_wp2_with fail
   refine (HDJ.out _ HF7.out g2 HR7.out).mono ?_
   rintro e w8 ⟨hf8, g3, rfl, hrow3⟩
   have HF8 := Lib.hid (HF7.out.call hf8)
   have b7 := (HB7.out.fr hf8)
   have b70 := b7 0 _ rfl
   have b71 := b7 1 _ rfl
   have z7 := lt_of_cell b70
   have HA8 := Lib.hid (HRV.out.fr fun _ _ _ x => IntC.fr x ((HX7.out.call hf8).alloc (.cells #[Value.int IntKind.i64 (j : Int), Value.slice (some ⟨g3, 0, none⟩) m m] 48)))
   have HB8 := Lib.hid (hrow3.fr fun _ _ _ x => IntC.fr x ((Fr.refl w8).alloc (.cells #[Value.int IntKind.i64 (j : Int), Value.slice (some ⟨g3, 0, none⟩) m m] 48)))
   have HX8 := Lib.hid (((Fr.refl w7).call hf8).alloc (.cells #[Value.int IntKind.i64 (j : Int), Value.slice (some ⟨g3, 0, none⟩) m m] 48))
   have HF8b := Lib.hid (HF8.out.alloc (.cells #[Value.int IntKind.i64 (j : Int), Value.slice (some ⟨g3, 0, none⟩) m m] 48))
   have HY7 := Lib.hid (b7.fr ((Fr.refl w8).alloc (.cells #[Value.int IntKind.i64 (j : Int), Value.slice (some ⟨g3, 0, none⟩) m m] 48)))
   clear hf8 b7 hrow3
   go_wp2_with fail
   refine (HSA.out _ g g3 HA8.out HB8.out).mono ?_
   rintro e w9 ⟨rfl, hf9⟩
   have HF9 := Lib.hid (HF8b.out.call hf9)
   have HX9 := Lib.hid (HX8.out.call hf9)
   have b9 := (HY7.out.fr hf9) 0 _ rfl
   have z9 := lt_of_cell b9
   clear hf9 b70 b71 z7
   go_wp2_with fail
   refine (HCA.out _ HF9.out).mono ?_
   rintro e w10 ⟨rfl, rfl⟩
   cases cn
   · go_wp2
     go_ret
     exact ⟨by first | rfl | exact ret_bool (by simp), HF9.out⟩
   · go_wp2_with fail
     refine (HSB.out (by first | rfl | trivial) _ HF9.out g2 (HR7.out.fr fun _ _ _ x => x.fr HX9.out)).mono ?_
     rintro e w11 ⟨rfl, rfl⟩
     go_wp2
     go_ret
     exact ⟨by first | rfl | exact ret_bool (by simp), HF9.out⟩
 · go_wp2
   go_ret
   exact ⟨by first | rfl | exact ret_bool (by simp), (HF5.out.call hf6).alloc _⟩
end Go.Proofs.YtdipnhghdajplaaGreatDoor
