/- A relocation: is it right? -/
import Derived.Test.YtdipnhghdajplaaGreatDoorP21b
import Derived.Test.YtdipnhghdajplaaGreatDoorP21c
import Derived.Test.YtdipnhghdajplaaGreatDoorP21d
import Derived.Test.YtdipnhghdajplaaGreatDoorP21e
import Derived.Test.YtdipnhghdajplaaGreatDoorP21
namespace Go.Proofs.YtdipnhghdajplaaGreatDoor
open Go.RowKit
set_option linter.unusedSimpArgs false
set_option linter.unusedVariables false
theorem relRight_any {w : World} {D : Ds} {v : Array Value} (hD : DescAt w D v) (n0 : ByteArray) (num kind bytes cls cls2 op wd ta tb sign width align round hi lo : Int) (ks : List Tm) (A : Option Addr) (c : Nat) (hT : TmL w A ks) :
   Calls Tryz.prog 49 #[.agg v, .agg #[.string n0, .int .i64 num, .int .i64 kind, .int .i64 bytes, .int .i64 cls, .int .i64 cls2, .int .i64 op, .int .i64 wd, .int .i64 ta, .int .i64 tb, .slice A ks.length c, .int .i64 sign, .int .i64 width, .int .i64 align, .int .i64 round, .int .i64 hi, .int .i64 lo]] w fun e w' => e = .returned (.bool (relB D ⟨num, kind, bytes, cls, cls2, .node op wd ta tb ks, sign, width, align, round, hi, lo⟩)) ∧ Fr w w' := by
 have HR : relB D ⟨num, kind, bytes, cls, cls2, .node op wd ta tb ks, sign, width, align, round, hi, lo⟩ = (plcB D kind bytes cls cls2 hi lo && (chkB sign width align round && (decide (kind = 1) || flaB (.node op wd ta tb ks)))) := rfl
 rw [HR]
 cases ep : plcB D kind bytes cls cls2 hi lo with
 | false => exact relRight_p hD n0 num kind bytes cls cls2 op wd ta tb sign width align round hi lo ks A c hT ep
 | true =>
   cases ec : chkB sign width align round with
   | false => exact relRight_c hD n0 num kind bytes cls cls2 op wd ta tb sign width align round hi lo ks A c hT ep ec
   | true =>
     by_cases hk : kind = 1
     · simp only [hk, decide_true, Bool.true_or, Bool.and_true]
       subst hk
       exact relRight_n hD n0 num 1 bytes cls cls2 op wd ta tb sign width align round hi lo ks A c hT ep ec rfl
     · simp only [hk, decide_false, Bool.false_or, Bool.true_and]
       exact relRight_f hD n0 num kind bytes cls cls2 op wd ta tb sign width align round hi lo ks A c hT ep ec (by simp [hk])
def useB (D : Ds) (cls rel : Int) : Bool := plB cls D.cls.length && (atB D.rels rel (fun a => !decide (a.kind = 1)) && atB D.rels rel fun a => !decide (a.kind = 3) || decide (a.cls = cls))
theorem atB_pl {α : Type} {l : List α} {x : Int} {P : α → Bool} (h : atB l x P = true) : ∃ k : Nat, x = (k : Int) ∧ ∃ hk : k < l.length, P l[k] = true := by
 unfold atB at h
 by_cases h0 : 0 ≤ x
 · rw [if_pos h0] at h
   cases he : l[x.toNat]? with
   | none => rw [he] at h; cases h
   | some a =>
     rw [he] at h
     obtain ⟨hk, e⟩ := List.getElem?_eq_some_iff.1 he
     exact ⟨x.toNat, by omega, hk, by rw [e]; exact h⟩
 · rw [if_neg h0] at h; cases h
set_option maxHeartbeats 12800000 in
set_option maxRecDepth 100000 in
theorem useRight_any {w : World} {D : Ds} {v : Array Value} (hD : DescAt w D v) (n0 : ByteArray) (cls rel : Int) (n3 : Bool) :
   Calls Tryz.prog 50 #[.agg v, .agg #[.string n0, .int .i64 cls, .int .i64 rel, .bool n3]] w fun e w' => e = .returned (.bool (useB D cls rel)) ∧ Fr w w' := by
 have HD := Lib.hid hD
 have HPT := Lib.hid (fun w1 (k : Fr w w1) => patches_any (HD.out.fr k) rel)
 obtain ⟨s0, Fa, Ba, Ga, Ca, Ma, Ra, Ua, Xa, Ka, Na, Pa, fc, bc, gc, cc, mc, rc, uc, xc, kc, nl, nc, pc, rfl, h1, h2, h3, h4, h5, h6, h7, h8, h9⟩ := hD
 cases hp : plB cls D.cls.length with
 | false =>
   have HP := Lib.hid (fun A c w => hp ▸ classPlace_any cls A D.cls.length c w)
   have HR := Lib.hid (show useB D cls rel = false by simp [useB, hp])
   clear hp h1 h2 h3 h4 h5 h6 h7 h8 h9
   go_enter Tryz.func50, Tryz.ntmps50
   go_wp2_with (go_at_call 76; refine (HP.out _ _ _).mono ?_; rintro e w4 ⟨rfl, rfl⟩)
   go_ret
   exact ⟨ret_bool (by rw [HR.out]), Fr.alloc (Fr.alloc (Fr.refl w) _) _⟩
 | true =>
   have HP := Lib.hid (fun A c w => hp ▸ classPlace_any cls A D.cls.length c w)
   cases ha : atB D.rels rel (fun a => !decide (a.kind = 1)) with
   | false =>
     have HR := Lib.hid (show useB D cls rel = false by simp [useB, hp, ha])
     rw [ha] at HPT
     clear hp ha h1 h2 h3 h4 h5 h6 h7 h8 h9
     go_enter Tryz.func50, Tryz.ntmps50
     go_wp2_with (first
       | (go_at_call 76; refine (HP.out _ _ _).mono ?_; rintro e w4 ⟨rfl, rfl⟩)
       | (go_at_call 52; refine (HPT.out _ (Fr.alloc (Fr.alloc (Fr.refl w) _) _)).mono ?_; rintro e w5 ⟨rfl, hf5⟩; have HF5 := Lib.hid ((Fr.alloc (Fr.alloc (Fr.refl w) _) _).call hf5); clear hf5))
     go_ret
     exact ⟨ret_bool (by rw [HR.out]), HF5.out⟩
   | true =>
     obtain ⟨k, rfl, hk, _⟩ := atB_pl ha
     obtain ⟨bk, ok, rfl, m0, c0, w1, c1, w2, c2, w3, c3, w4, c4, w5, c5, c6, w7, c7, w8, c8, w9, c9, wa, ca, wb, cb, wc, cc0⟩ := h5.at hk
     have HR := Lib.hid (show useB D cls (k : Int) = (!decide ((D.rels[k]).kind = 3) || decide ((D.rels[k]).cls = cls)) by simp [useB, hp, ha, atB_at hk])
     have hki : (k : Int) < (D.rels.length : Int) := by omega
     rw [Nat.mul_comm 17 k] at c0 c1 c2 c3 c4 c5 c6 c7 c8 c9 ca cb cc0
     rw [ha] at HPT
     generalize D.rels[k] = x at *
     obtain ⟨num, kind, bytes, xcls, xcls2, fla, sign, width, align, round, hi, lo⟩ := x
     obtain ⟨op, wd, ta, tb, ks⟩ := fla
     simp only at c0 c1 c2 c3 c4 c5 c7 c8 c9 ca cb cc0 HR
     have c6 : TmT w bk (ok + k * 17 + 6) (.node op wd ta tb ks) := c6
     unfold TmT at c6
     obtain ⟨ka, kcc, _, f0, f1, f2, f3, f4, _⟩ := c6
     have f0 : w.cell? ⟨bk, ok + k * 17 + 6, none⟩ = some (.int .i64 op) := f0
     have f1 : w.cell? ⟨bk, ok + k * 17 + 7, none⟩ = some (.int .i64 wd) := f1
     have f2 : w.cell? ⟨bk, ok + k * 17 + 8, none⟩ = some (.int .i64 ta) := f2
     have f3 : w.cell? ⟨bk, ok + k * 17 + 9, none⟩ = some (.int .i64 tb) := f3
     have f4 : w.cell? ⟨bk, ok + k * 17 + 10, none⟩ = some (.slice ka ks.length kcc) := f4
     have HFR := Lib.hid (fun (w5 : World) (h : Fr w w5) => And.intro (h.get c0) (And.intro (h.get c1) (And.intro (h.get c2) (And.intro (h.get c3) (And.intro (h.get c4) (And.intro (h.get c5) (And.intro (h.get f0) (And.intro (h.get f1) (And.intro (h.get f2) (And.intro (h.get f3) (And.intro (h.get f4) (And.intro (h.get c7) (And.intro (h.get c8) (And.intro (h.get c9) (And.intro (h.get ca) (And.intro (h.get cb) (h.get cc0)))))))))))))))))
     have zb := lt_of_cell c0
     have hkl : ks.length ≤ ks.length := Nat.le_refl _
     generalize ks.length = kl at *
     clear hp ha h1 h2 h3 h4 h5 h6 h7 h8 h9 c0 c1 c2 c3 c4 c5 c7 c8 c9 ca cb cc0 f0 f1 f2 f3 f4 w1 w2 w3 w4 w5 w7 w8 w9 wa wb wc
     go_enter Tryz.func50, Tryz.ntmps50
     go_wp2_with (first
       | (go_at_call 76; refine (HP.out _ _ _).mono ?_; rintro e w4 ⟨rfl, rfl⟩)
       | (go_at_call 52; refine (HPT.out _ (Fr.alloc (Fr.alloc (Fr.refl w) _) _)).mono ?_; rintro e w5 ⟨rfl, hf5⟩; have HF5 := Lib.hid ((Fr.alloc (Fr.alloc (Fr.refl w) _) _).call hf5); have g7 := hf5.get (b := w.heap.size) (o := 7) (v := .slice (some ⟨bk, ok, none⟩) D.rels.length rc) (by simp); have u1 := hf5.get (b := w.heap.size + 1) (o := 1) (v := .int .i64 cls) (by simp); have u2 := hf5.get (b := w.heap.size + 1) (o := 2) (v := .int .i64 (k : Int)) (by simp); obtain ⟨r0, r1, r2, r3, r4, r5, r6, r7, r8, r9, r10, r11, r12, r13, r14, r15, r16⟩ := HFR.out _ HF5.out; have zu := lt_of_cell u1; have zg := lt_of_cell g7; have zr := lt_of_cell r0; clear hf5))
     all_goals
       go_ret
       refine ⟨bool_iff ?_, Fr.alloc HF5.out _⟩
       rw [HR.out]
       first | (simp; done) | (simp_all; done) | (by_cases q : kind = 3 <;> simp_all; done) | (by_cases q : kind = 3 <;> by_cases q2 : xcls = cls <;> simp_all)
end Go.Proofs.YtdipnhghdajplaaGreatDoor
