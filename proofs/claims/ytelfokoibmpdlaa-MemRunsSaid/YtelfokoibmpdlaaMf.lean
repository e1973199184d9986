/- Load: the number of bytes. -/
import Derived.Test.YtelfokoibmpdlaaMe
import Derived.Test.YtelfokoibmpdlaaLe
import Derived.RegionTactic
namespace Go.Proofs.Ytelfokoibmpdlaa
open Go.RowKit
set_option linter.unusedSimpArgs false
set_option linter.unusedVariables false

theorem leN_snoc (l : List Nat) (x : Nat) : leN (l ++ [x]) = leN l + x * 256 ^ l.length := by
  rw [leN_append]; simp [leN, Nat.mul_comm]
theorem or_byteN {y x i : Nat} (hi : i < 8) (y1 : y < 256 ^ i) (x1 : x < 256) : bits .or .u64 (y : Int) ((x : Int) * 2 ^ (8 * i) % 18446744073709551616) = ((y + x * 256 ^ i : Nat) : Int) := by
  have := or_byte (y := (y : Int)) (x := (x : Int)) hi (by omega) (by unfold p8; omega) (by omega) (by omega)
  rw [this]; unfold p8; rw [Int.natCast_add, Int.natCast_mul]
theorem wrap64 (i : Int) : IntKind.u64.wrap i = i % 18446744073709551616 := by simp [IntKind.wrap, IntKind.bits, IntKind.signed]
/-- What the reader of a number has: so many bytes of B. -/
def LdS (b8 b9 : Nat) (B : List Nat) (k : Nat) (W : World) : Prop := W.cell? ⟨b8, 0, none⟩ = some (.int .u64 (leN (B.take k) : Int)) ∧ W.frozen? ⟨b8, 0, none⟩ = false ∧ W.cell? ⟨b9, 0, none⟩ = some (.int .i64 ((8 * k : Nat) : Int)) ∧ W.frozen? ⟨b9, 0, none⟩ = false
def RelL (b8 b9 : Nat) (B : List Nat) (k m : Nat) (w : World) (x : Value) (wr : World) : Prop := ∃ j : Nat, j ≤ m ∧ x = .int .i64 (j : Int) ∧ LdS b8 b9 B (k + j) wr ∧ Kp (fun b => b = b8 ∨ b = b9) w wr
set_option maxHeartbeats 3200000 in
set_option maxRecDepth 100000 in
theorem load1_any (g off m c b8 b9 k : Nat) (B : List Nat) (w : World) (hb : Bys B) (hB : B.length ≤ 8) (hm : k + m ≤ B.length) (h8 : g ≠ b8) (h9 : g ≠ b9) (h89 : b8 ≠ b9)
    (hc : ∀ j, j < m → w.cell? ⟨g, off + j, none⟩ = some (u8n (B.getD (k + j) 0))) (hs : LdS b8 b9 B k w) :
    Calls Try.prog 28 #[.slice (some ⟨g, off, none⟩) m c, .pointer (some ⟨b8, 0, none⟩), .pointer (some ⟨b9, 0, none⟩)] w fun e w' => e = .returned (.tuple #[]) ∧ LdS b8 b9 B (k + m) w' ∧ Kp (fun b => b = b8 ∨ b = b9) w w' := by
  have HC := Lib.hid hc
  have HS := Lib.hid hs
  have HB := Lib.hid hb
  clear hc hs hb
  go_enter Try.func28, Try.ntmps28
  go_wp2
  go_loopw [8] (fun x wr => RelL b8 b9 B k m w x wr) (fun x _ => m - (intOf x).toNat)
  case atStart => exact ⟨0, by omega, rfl, HS.out, Kp.refl _ _⟩
  case round =>
    obtain ⟨j, hj, rfl, hs, hk⟩ := hrel
    have HK := Lib.hid hk
    have HL := Lib.hid hs
    by_cases hlt : j < m
    · have hcell := hk.get (S := fun b => b = b8 ∨ b = b9) (by intro h; rcases h with h | h <;> omega) (HC.out j hlt)
      have hkj : k + j < B.length := by omega
      obtain ⟨x, hx⟩ : ∃ x, B[k + j] = x := ⟨_, rfl⟩
      have hxb : x < 256 := hx ▸ HB.out _ (List.getElem_mem hkj)
      rw [show B.getD (k + j) 0 = x by simp [List.getD, hkj, hx]] at hcell
      unfold u8n at hcell
      have htk : leN (B.take (k + j + 1)) = leN (B.take (k + j)) + x * 256 ^ (k + j) := by
        rw [List.take_succ_eq_append_getElem hkj, leN_snoc, hx, List.length_take, Nat.min_eq_left (by omega)]
      have hlv : leN (B.take (k + j)) < 256 ^ (k + j) := by
        have := leN_lt (l := B.take (k + j)) fun y hy => HB.out y (List.mem_of_mem_take hy)
        rwa [List.length_take, Nat.min_eq_left (by omega)] at this
      obtain ⟨c8, f8, c9, f9⟩ := hs
      obtain ⟨q, hq⟩ : ∃ q, k + j = q := ⟨_, rfl⟩
      have hq8 : q < 8 := by omega
      rw [hq] at c8 c9 htk hlv
      have hor := or_byteN hq8 hlv hxb
      have HT := Lib.hid htk
      generalize leN (B.take q) = v at *
      have z8 := lt_of_cell c8
      have z9 := lt_of_cell c9
      have hji : (j : Int) < (m : Int) := by omega
      clear htk hlv hk hx
      go_wp2_with fail
      go_region
      go_wp2
      go_roundw
      case rel =>
        have hne : (⟨b9, 0, none⟩ : Addr) ≠ ⟨b8, 0, none⟩ := fun h => h89 (by injection h with h; exact h.symm)
        refine ⟨j + 1, by omega, rfl, ?_, ((HK.out.set (.inl (.inl rfl)) _).set (.inl (.inr rfl)) _).drew⟩
        rw [show k + (j + 1) = q + 1 by omega]
        refine ⟨?_, by simpa using f8, ?_, by simpa using f9⟩
        · show World.cell? (World.setCell _ _ _) _ = _
          rw [World.cell?_setCell_other _ _ _ _ hne, World.cell?_setCell_same _ _ _ c8, wrap64, hor]
          rw [HT.out]
        · show World.cell? (World.setCell _ _ _) _ = _
          rw [World.cell?_setCell_same _ _ _ (by rw [World.cell?_setCell_other _ _ _ _ hne.symm]; exact c9)]
          exact congrArg (fun z => some (Value.int .i64 z)) (by omega)
      case measure => simp [intOf]; omega
    · obtain rfl : j = m := by omega
      go_wp2
      go_end0
      exact ⟨rfl, HL.out, HK.out⟩
theorem got_get {l : List Rg} (hg : Good l) {a n i off j : Nat} {q : Int} {x : Nat} (hi : i < l.length) (hp : (l[i]).pl + off = a + j) (ho : off < (l[i]).bs.length) (hq : prm (l[i]).pm q = true) (h : (got (from_ l a) a n q)[j]? = some x) : (l[i]).bs[off]? = some x := by
  rw [from_run hg] at h
  have h1 := runB_get n a j x h
  rw [← hp] at h1
  have hab : ∀ r ∈ l.take i, r.top ≤ (l[i]).pl := fun r hr => by
    obtain ⟨t, ht, rfl⟩ := List.mem_take_iff_getElem.1 hr
    exact List.pairwise_iff_getElem.1 hg.rise t i (by omega) hi (by omega)
  have ed : l.drop i = l[i] :: l.drop (i + 1) := List.drop_eq_getElem_cons hi
  have e : l = l.take i ++ l.drop i := (List.take_append_drop i l).symm
  generalize l[i] = r at *
  have h2 : cel l q (r.pl + off) = r.bs[off]? := by
    rw [e, ed, cel_append_out fun s hs => by have := hab s hs; omega, cel_in (by omega) (by unfold Rg.top; omega), hq, if_pos rfl, Nat.add_sub_cancel_left]
  rw [← h2]; exact h1
/-- The number of n bytes from a on, if they are there. -/
def ldN (l : List Rg) (a : Nat) (n : Int) : Option Nat := if hldB l a n 4 then some (leN (got (from_ l a) a n.toNat 4)) else none
set_option maxHeartbeats 3200000 in
set_option maxRecDepth 100000 in
theorem load_any {w : World} {M : Lo} {l : List Rg} (hg : Good l) (hm : MemAt w M l) (hl : l.length ≤ 64) (a : Nat) (ha : a < 18446744073709551616) (n : Int) :
    Calls Try.prog 12 #[.pointer (some ⟨M.bm, 0, none⟩), .int .u64 (a : Int), .int .i64 n] w fun e w' => e = .returned (.tuple #[.int .u64 ((((ldN l a n).getD 0 : Nat)) : Int), .bool (ldN l a n).isSome]) ∧ Fr w w' := by
  have HH := Lib.hid (holds_any hg hm hl a ha n 4)
  cases hh : hldB l a n 4 with
  | false =>
    rw [hh] at HH
    have HD := Lib.hid (show ldN l a n = none by simp [ldN, hh])
    clear hm hg
    go_enter Try.func12, Try.ntmps12
    go_wp2_with (go_at_call 16; refine HH.out.mono ?_; rintro e w1 ⟨rfl, hf⟩; have HF := Lib.hid hf; clear hf)
    go_ret2
    exact ⟨by rw [HD.out]; rfl, HF.out⟩
  | true =>
    rw [hh] at HH
    have HD := Lib.hid (show ldN l a n = some (leN (got (from_ l a) a n.toNat 4)) by simp [ldN, hh])
    have hb : Bys (got (from_ l a) a n.toNat 4) := by rw [from_run hg]; exact runB_bys hg _ _ _
    have hgg := fun (i off j x : Nat) (hi : i < l.length) => got_get hg (a := a) (n := n.toNat) (i := i) (off := off) (j := j) (q := 4) (x := x) hi
    unfold hldB at hh
    simp only [Bool.and_eq_true, decide_eq_true_eq] at hh
    obtain ⟨⟨⟨hn1, hn8⟩, _⟩, hlen⟩ := hh
    have eg : ∀ args w, (callFunc 28 args).run Try.prog w = .ok (.enter 28 args) w := enters_my Try.func28 (by decide +kernel) rfl
    have HP := Lib.hid (fun (w1 : World) (hf : Fr w w1) (w2 : World) (he : w2 = (w1.alloc (.cells #[.int .u64 0] 32)).alloc (.cells #[.int .i64 0] 3)) =>
      pieces_any hg (hm.fr (hf.call (he ▸ Fr.alloc (Fr.alloc (Fr.refl w1) _) _))) hl a ha n 4 (by omega) (by omega) (by omega) (by omega) 28 #[.pointer (some ⟨w1.heap.size, 0, none⟩), .pointer (some ⟨w1.heap.size + 1, 0, none⟩)] eg (fun b => b = w1.heap.size ∨ b = w1.heap.size + 1)
        (fun b hb => by
          have e : w2.heap.size = w1.heap.size + 2 := by subst he; simp
          have h1 := hm.ltm
          have h2 := hf.size
          refine ⟨by omega, by omega, fun h0 => by have := hm.ltr h0; omega⟩)
        (LdS w1.heap.size (w1.heap.size + 1) (got (from_ l a) a n.toNat 4))
        (by subst he; exact ⟨by simp [leN], by simp, by simp, by simp⟩)
        (fun k v1 v2 _ ⟨g1, g2, g3, g4⟩ hk => by
          have e : w2.heap.size = w1.heap.size + 2 := by subst he; simp
          have n1 : ¬ (w1.heap.size = w2.heap.size ∨ w1.heap.size = w2.heap.size + 1) := by omega
          have n2 : ¬ (w1.heap.size + 1 = w2.heap.size ∨ w1.heap.size + 1 = w2.heap.size + 1) := by omega
          exact ⟨hk.get n1 g1, hk.free n1 g1 g2, hk.get n2 g3, hk.free n2 g3 g4⟩)
        (fun k i off m c v1 hi hk hs hp hm0 hle hkm hq _ _ => by
          have hlg := hm.ltg hi (by omega)
          have hsz := hf.size
          have hmv : MemAt v1 M l := (hm.fr (hf.call (he ▸ Fr.alloc (Fr.alloc (Fr.refl w1) _) _))).kp hk (by have := hm.ltm; omega) (fun h0 => by have := hm.ltr h0; omega) (fun t ht h => by have := hm.ltg ht ((hg.ok _ (List.getElem_mem ht)).some); omega)
          exact load1_any (M.G i) off m c w1.heap.size (w1.heap.size + 1) k _ v1 hb (by omega) (by omega) (by omega) (by omega) (by omega) (fun j hj => by
            have hx := List.getElem?_eq_getElem (show k + j < (got (from_ l a) a n.toNat 4).length by omega)
            have := hgg i (off + j) (k + j) _ hi (by omega : (l[i]).pl + (off + j) = a + (k + j)) (by omega) hq hx
            rw [(hmv.bytes i hi (off + j) _ this).1, List.getD, hx]; rfl) hs))
    generalize hB : got (from_ l a) a n.toNat 4 = B at *
    have hTake : B.take B.length = B := List.take_length
    clear hm hg hgg hb hB
    go_enter Try.func12, Try.ntmps12
    go_wp2_with (first
      | (go_at_call 16; refine HH.out.mono ?_; rintro e w1 ⟨rfl, hf⟩; have HF := Lib.hid hf; clear hf)
      | (go_at_call 27; refine (HP.out _ HF.out _ rfl).mono ?_; rintro e w2 ⟨rfl, ⟨c1, c2, c3, c4⟩, hk⟩; rw [hTake] at c1; have HK := Lib.hid hk; clear hk c2 c3 c4))
    go_ret2
    exact ⟨by rw [HD.out]; rfl, HF.out.call (((Kp.of (Fr.alloc (Fr.alloc (Fr.refl _) _) _)).call HK.out).to fun x hx => by omega)⟩
end Go.Proofs.Ytelfokoibmpdlaa
