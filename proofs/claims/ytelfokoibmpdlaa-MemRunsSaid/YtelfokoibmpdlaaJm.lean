/- Regions; what sorted regions are; what the walk of MemRuns has. -/
import Derived.Test.YtelfokoibmpdlaaJi
import Derived.Test.YtelfokoibmpdlaaMq
namespace Go.Proofs.Ytelfokoibmpdlaa
open Go.RowKit
set_option linter.unusedSimpArgs false
set_option linter.unusedVariables false

theorem good_num {l : List Rg} (hg : Good l) : ∀ r ∈ l, RgIn r := fun r hr => by
  have h := hg.ok r hr
  have h1 := h.top
  have h2 := h.some
  unfold Rg.top at h1
  have h3 := h.lo
  have h4 := h.hi
  exact ⟨by omega, by omega, by omega, h.bys⟩
theorem MemAt.rowsOf {w : World} {M : Lo} {l : List Rg} (h : MemAt w M l) (hg : Good l) : RowOf RgAt 3 w M.A l := fun h0 => by
  refine ⟨M.br, 0, h.addr h0, fun i hi => ⟨(some ⟨M.G i, 0, none⟩, M.C i), ⟨good_num hg _ (List.getElem_mem hi), (h.caps i hi).1, (h.caps i hi).2, fun hl => ⟨M.G i, 0, rfl, h.ltg hi hl, fun j hj => ?_⟩⟩, ?_, ?_, ?_⟩⟩
  · rw [Nat.zero_add]; exact (h.bytes i hi j _ (List.getElem?_eq_getElem hj)).1
  · rw [Nat.zero_add, Nat.mul_comm 3 i]; exact h.row0 i hi
  · rw [Nat.zero_add, Nat.mul_comm 3 i]; exact h.row1 i hi
  · rw [Nat.zero_add, Nat.mul_comm 3 i]; exact h.row2 i hi
theorem sort_eq : ∀ (l m : List Rg), l.Perm m → (l.Pairwise fun a b => a.pl ≤ b.pl) → (m.Pairwise fun a b => a.pl < b.pl) → l = m
  | [], m, h, _, _ => h.nil_eq
  | a :: l, [], h, _, _ => by have := h.length_eq; simp at this
  | a :: l, b :: m, h, hs, ht => by
    have h1 := List.pairwise_cons.1 hs
    have h2 := List.pairwise_cons.1 ht
    have hab : a = b := by
      rcases List.mem_cons.1 (h.mem_iff.1 List.mem_cons_self) with e | e
      · exact e
      · rcases List.mem_cons.1 (h.mem_iff.2 List.mem_cons_self) with e2 | e2
        · exact e2.symm
        · have q1 := h2.1 a e
          have q2 := h1.1 b e2
          omega
    subst hab
    rw [sort_eq l m (h.cons_inv) h1.2 h2.2]
theorem good_lt {l : List Rg} (hg : Good l) : l.Pairwise fun a b => a.pl < b.pl :=
  (List.Pairwise.and_mem.1 hg.rise).imp fun {a b} ⟨ha, _, h⟩ => by
    have := (hg.ok a ha).some
    unfold Rg.top at h; omega
set_option maxHeartbeats 1600000 in
theorem regions_any {w : World} {M : Lo} {l : List Rg} (hg : Good l) (hm : MemAt w M l) (hl : l.length ≤ 64) (hsm : ∀ r ∈ l, r.bs.length ≤ 67108864) (hnil : M.A = none → M.cr = 0) :
    Calls Try.prog 21 #[.pointer (some ⟨M.bm, 0, none⟩)] w fun e w' => ∃ M' : Lo, e = .returned (.slice M'.A l.length M'.cr) ∧ MRows w' w.heap.size M' l ∧ Fr w w' := by
  have HC := Lib.hid (copied_any M.A l M.cr w (hm.rowsOf hg) (fun h => ⟨hnil h, by
    refine List.eq_nil_of_length_eq_zero ?_
    rcases Nat.eq_zero_or_pos l.length with h0 | h0
    · exact h0
    · rw [hm.addr h0] at h; cases h⟩) hl fun r hr => ⟨(hg.ok r hr).some, hsm r hr⟩)
  have root := hm.root
  clear hm hg hnil hsm
  go_enter Try.func21, Try.ntmps21
  go_wp2_with (go_at_call 26; refine HC.out.mono ?_; rintro e w1 ⟨M', rfl, hm1, hf1⟩; have HM1 := Lib.hid hm1; have HF1 := Lib.hid hf1; clear hm1 hf1)
  go_ret
  exact ⟨M', rfl, HM1.out, HF1.out⟩
/-- One thing done. -/
structure Op4 where
  (kd : Int) (a : Nat) (n : Int) (v : Nat)
instance : Inhabited Op4 := ⟨⟨0, 0, 0, 0⟩⟩
structure OpC (w : World) (b o : Nat) (x : Op4) : Prop where
  kd : w.cell? ⟨b, o, none⟩ = some (.int .i64 x.kd)
  at_ : w.cell? ⟨b, o + 1, none⟩ = some (.int .u64 (x.a : Int))
  n : w.cell? ⟨b, o + 2, none⟩ = some (.int .i64 x.n)
  v : w.cell? ⟨b, o + 3, none⟩ = some (.int .u64 (x.v : Int))
  ha : x.a < 18446744073709551616
  hv : x.v < 18446744073709551616
  hn : -9223372036854775808 ≤ x.n
theorem OpC.fr {w w' : World} {b o : Nat} {x : Op4} (h : OpC w b o x) (k : Fr w w') : OpC w' b o x := ⟨k.get h.kd, k.get h.at_, k.get h.n, k.get h.v, h.ha, h.hv, h.hn⟩
/-- What a round of MemRuns has: what is wanted, and the memory. -/
structure RunS (w2 : World) (Z : Nat) (M : Lo) (n0 : Nat) (Mw : Lo) (lw lp : List Rg) (wr : World) : Prop where
  want : MRows wr Z Mw lw
  lnk : Lnk lw lp
  mem : MemAt wr M lp
  len : lp.length = n0
  low : ∀ i, i < n0 → M.G i < Z
  l64 : lw.length ≤ 64
  n64 : n0 ≤ 64
  sm : ∀ r ∈ lw, r.bs.length ≤ 67108864
  num : ∀ r ∈ lw, RgIn r
  above : ∀ i, i < n0 → w2.heap.size ≤ M.G i
  fr : Fr w2 wr
  zle : Z ≤ wr.heap.size
section
variable {w2 wr w' : World} {Z n0 : Nat} {M Mw : Lo} {lw lp : List Rg}
theorem RunS.to (h : RunS w2 Z M n0 Mw lw lp wr) (k : Fr wr w') : RunS w2 Z M n0 Mw lw lp w' := ⟨h.want.fr k, h.lnk, h.mem.fr k, h.len, h.low, h.l64, h.n64, h.sm, h.num, h.above, h.fr.call k, Nat.le_trans h.zle k.size⟩
theorem RunS.row (h : RunS w2 Z M n0 Mw lw lp wr) : RowOf RgAt 3 wr Mw.A lw := h.want.row h.num
theorem RunS.good (h : RunS w2 Z M n0 Mw lw lp wr) : Good lp := h.lnk.good
theorem RunS.p64 (h : RunS w2 Z M n0 Mw lw lp wr) : lp.length ≤ 64 := by rw [h.len]; exact h.n64
theorem RunS.psm (h : RunS w2 Z M n0 Mw lw lp wr) : ∀ r ∈ lp, r.bs.length ≤ 67108864 := fun r hr => h.sm r (h.lnk.back hr)
/-- A number is put on both sides. -/
theorem RunS.put {w5 w6 : World} {Mw' : Lo} {B a n v : Nat} (h : RunS w2 Z M n0 Mw lw lp wr) (hZ : Z ≤ B) (h5 : MRows w5 B Mw' (upd lw a (bytesN n v))) (f5 : Fr wr w5) (h6 : MemAt w6 M (upd lp a (bytesN n v))) (k6 : Kp (GS M lp.length) w5 w6) : RunS w2 Z M n0 Mw' (upd lw a (bytesN n v)) (upd lp a (bytesN n v)) w6 := by
  refine ⟨(h5.kp k6 (fun h0 ⟨i, hi, e⟩ => ?_) (fun j hj ⟨i, hi, e⟩ => ?_)).base hZ, h.lnk.upd a (bytesN_bys n v), h6, by rw [upd_len]; exact h.len, h.low, by rw [upd_len]; exact h.l64, h.n64, fun r hr => ?_, upd_num h.num a (bytesN_bys n v), h.above, ((Kp.of (h.fr.call f5)).call k6).to fun x ⟨i, hi, e⟩ => by rw [e]; exact h.above i (by rw [← h.len]; exact hi), Nat.le_trans h.zle (Nat.le_trans f5.size k6.size)⟩
  · have := h5.newr h0
    have := h.low i (by rw [← h.len]; exact hi)
    omega
  · have := (h5.newg j hj).1
    have := h.low i (by rw [← h.len]; exact hi)
    omega
  · obtain ⟨s, hs, rfl⟩ := List.mem_map.1 hr
    rw [put_len]; exact h.sm s hs
end
def RelMR (ops : List Op4) (w2 : World) (Z : Nat) (M : Lo) (n0 : Nat) (y z : Value) (wr : World) : Prop := ∃ (k : Nat) (Mw : Lo) (lw lp : List Rg), z = .int .i64 (k : Int) ∧ k ≤ ops.length ∧ y = .slice Mw.A lw.length Mw.cr ∧ RunS w2 Z M n0 Mw lw lp wr
end Go.Proofs.Ytelfokoibmpdlaa
