/- Store: a number is put. -/
import Derived.Test.YtelfokoibmpdlaaMf
import Derived.Deep.RegionHeld
namespace Go.Proofs.Ytelfokoibmpdlaa
open Go.RowKit
set_option linter.unusedSimpArgs false
set_option linter.unusedVariables false

/-- Bytes with others laid in from a place on. -/
def putB (bs : List Nat) (off : Nat) (vs : List Nat) : List Nat := bs.mapIdx fun k x => if off ≤ k then vs.getD (k - off) x else x
theorem putB_nil (bs : List Nat) (off : Nat) : putB bs off [] = bs := by
  unfold putB
  refine List.ext_getElem (by simp) fun k h1 h2 => ?_
  simp
theorem putB_len (bs : List Nat) (off : Nat) (vs : List Nat) : (putB bs off vs).length = bs.length := by simp [putB]
theorem putB_snoc {bs : List Nat} {off : Nat} {vs : List Nat} (y : Nat) (h : off + vs.length < bs.length) : (putB bs off vs).set (off + vs.length) y = putB bs off (vs ++ [y]) := by
  unfold putB
  refine List.ext_getElem (by simp) fun k h1 h2 => ?_
  simp only [List.getElem_set, List.getElem_mapIdx]
  by_cases hk : off + vs.length = k
  · subst hk
    rw [if_pos rfl, if_pos (by omega), show off + vs.length - off = vs.length by omega]
    simp [List.getD]
  · rw [if_neg hk]
    by_cases ho : off ≤ k
    · rw [if_pos ho, if_pos ho]
      simp only [List.getD]
      by_cases hl : k - off < vs.length
      · rw [List.getElem?_append_left hl]
      · rw [List.getElem?_eq_none (by omega), List.getElem?_eq_none (by simp; omega)]
    · rw [if_neg ho, if_neg ho]
theorem bytesN_add : ∀ (k m v : Nat), bytesN (k + m) v = bytesN k v ++ bytesN m (v / 256 ^ k)
  | 0, m, v => by simp [bytesN]
  | k + 1, m, v => by
    rw [show k + 1 + m = (k + m) + 1 by omega]
    simp only [bytesN, List.cons_append]
    rw [bytesN_add k m (v / 256), Nat.div_div_eq_div_mul, Nat.pow_succ, Nat.mul_comm 256]
theorem bytesN_snoc (j v : Nat) : bytesN (j + 1) v = bytesN j v ++ [v / 256 ^ j % 256] := by rw [bytesN_add]; rfl
theorem BytesAt.set {w : World} {g : Nat} {bs : List Nat} (h : BytesAt w g bs) {i : Nat} (hi : i < bs.length) (y : Nat) : BytesAt (w.setCell ⟨g, i, none⟩ (u8n y)) g (bs.set i y) := fun k x hx => by
  have hk : k < bs.length := by have := (List.getElem?_eq_some_iff.1 hx).1; simpa using this
  have h0 := h k _ (List.getElem?_eq_getElem hk)
  refine ⟨?_, by simpa using h0.2⟩
  by_cases e : i = k
  · subst e
    rw [World.cell?_setCell_same _ _ _ h0.1]
    simp [hk] at hx
    rw [hx]
  · rw [World.cell?_setCell_other _ _ _ _ (fun q => e (by injection q))]
    rw [List.getElem?_set_ne e, List.getElem?_eq_getElem hk] at hx
    injection hx with hx
    rw [← hx]; exact h0.1
def BoxAt (w : World) (b : Nat) (v : Nat) : Prop := w.cell? ⟨b, 0, none⟩ = some (.int .u64 (v : Int)) ∧ w.frozen? ⟨b, 0, none⟩ = false
def RelSt (g off b v m : Nat) (bs : List Nat) (w : World) (x : Value) (wr : World) : Prop := ∃ j : Nat, j ≤ m ∧ x = .int .i64 (j : Int) ∧ BytesAt wr g (putB bs off (bytesN j v)) ∧ BoxAt wr b (v / 256 ^ j) ∧ Kp (fun y => y = g ∨ y = b) w wr
set_option maxHeartbeats 3200000 in
set_option maxRecDepth 100000 in
theorem store1_any (g off m c b v : Nat) (bs : List Nat) (w : World) (hv : v < 18446744073709551616) (hm : off + m ≤ bs.length) (hm8 : m ≤ 100) (hgb : g ≠ b) (hb : BytesAt w g bs) (hx : BoxAt w b v) :
    Calls Try.prog 30 #[.slice (some ⟨g, off, none⟩) m c, .pointer (some ⟨b, 0, none⟩)] w fun e w' => e = .returned (.tuple #[]) ∧ BytesAt w' g (putB bs off (bytesN m v)) ∧ BoxAt w' b (v / 256 ^ m) ∧ Kp (fun y => y = g ∨ y = b) w w' := by
  have HB := Lib.hid hb
  have HX := Lib.hid hx
  clear hb hx
  go_enter Try.func30, Try.ntmps30
  go_wp2
  go_loopw [6] (fun x wr => RelSt g off b v m bs w x wr) (fun x _ => m - (intOf x).toNat)
  case atStart => exact ⟨0, by omega, rfl, by rw [show bytesN 0 v = [] from rfl, putB_nil]; exact HB.out, by simpa using HX.out, Kp.refl _ _⟩
  case round =>
    obtain ⟨j, hj, rfl, h1, h2, hk⟩ := hrel
    have H1 := Lib.hid h1
    have HK := Lib.hid hk
    by_cases hlt : j < m
    · have hl : off + j < (putB bs off (bytesN j v)).length := by rw [putB_len]; omega
      have hs := h1 (off + j) _ (List.getElem?_eq_getElem hl)
      obtain ⟨c1, f1⟩ := hs
      have HS := Lib.hid (h1.set hl (v / 256 ^ j % 256))
      have HN := Lib.hid (putB_snoc (bs := bs) (off := off) (vs := bytesN j v) (v / 256 ^ j % 256) (by rw [bytesN_length]; omega))
      rw [bytesN_length, ← bytesN_snoc] at HN
      rw [HN.out] at HS
      generalize (putB bs off (bytesN j v))[off + j] = x at c1
      unfold u8n at c1
      obtain ⟨c2, f2⟩ := h2
      have hq : v / 256 ^ j / 256 = v / 256 ^ (j + 1) := by rw [Nat.div_div_eq_div_mul, Nat.pow_succ]
      have hq2 : v / 256 ^ j ≤ v := Nat.div_le_self _ _
      have HQ := Lib.hid hq
      generalize v / 256 ^ j = q at *
      have z1 := lt_of_cell c1
      have z2 := lt_of_cell c2
      have hji : (j : Int) < (m : Int) := by omega
      clear h1 hk hl HN hq
      go_wp2
      go_roundw
      case rel =>
        have e1 : (Value.int .u8 ((q : Int) % 256)) = u8n (q % 256) := congrArg (Value.int .u8) (by omega)
        rw [e1]
        refine ⟨j + 1, by omega, rfl, HS.out.kp (S := fun y => y = b) (Kp.set (S := fun y => y = b) (Kp.refl _ _) (.inl rfl) _) hgb, ⟨?_, by simpa using f2⟩, Kp.set (Kp.set HK.out (.inl (.inl rfl)) _) (.inl (.inr rfl)) _⟩
        rw [World.cell?_setCell_same _ _ _ (by rw [World.cell?_setCell_far _ _ _ _ (show g ≠ b from hgb)]; exact c2), ← HQ.out]
        exact congrArg (fun z => some (Value.int .u64 z)) (by omega)
      case measure => simp [intOf]; omega
    · obtain rfl : j = m := by omega
      have H2 := Lib.hid h2
      clear h1 h2 hk
      go_wp2
      go_end0
      exact ⟨rfl, H1.out, H2.out, HK.out⟩
theorem upd_at {l : List Rg} {a : Nat} {vs : List Nat} {i : Nat} (h : i < l.length) (h' : i < (upd l a vs).length) : (upd l a vs)[i] = (l[i]).put a vs := by simp [upd]
theorem upd_len (l : List Rg) (a : Nat) (vs : List Nat) : (upd l a vs).length = l.length := by simp [upd]
/-- A piece of the bytes, laid into its region. -/
theorem put_in (r : Rg) (a k off m v : Nat) (h : r.pl + off = a + k) : putB (r.put a (bytesN k v)).bs off (bytesN m (v / 256 ^ k)) = (r.put a (bytesN (k + m) v)).bs := by
  rw [bytesN_add k m v]
  unfold putB
  refine List.ext_getElem (by simp [Rg.put]) fun t h1 h2 => ?_
  simp only [Rg.put, List.getElem_mapIdx]
  simp only [List.getD]
  by_cases ha : a ≤ r.pl + t
  · rw [if_pos ha]
    by_cases ht : off ≤ t
    · rw [if_pos ht, if_pos ha, List.getElem?_append_right (by rw [bytesN_length]; omega), bytesN_length, show r.pl + t - a - k = t - off by omega, List.getElem?_eq_none (l := bytesN k v) (by rw [bytesN_length]; omega)]
      rfl
    · rw [if_neg ht, if_pos ha, List.getElem?_append_left (by rw [bytesN_length]; omega)]
  · rw [if_neg ha, if_neg (by omega), if_neg ha]
/-- The bytes of another region stay. -/
theorem put_out (r : Rg) (a k m v : Nat) (h : r.top ≤ a + k ∨ a + k + m ≤ r.pl) : (r.put a (bytesN k v)).bs = (r.put a (bytesN (k + m) v)).bs := by
  rw [bytesN_add k m v]
  refine List.ext_getElem (by simp [Rg.put]) fun t h1 h2 => ?_
  have h1 : t < r.bs.length := by simpa [Rg.put] using h1
  simp only [Rg.put, List.getElem_mapIdx]
  by_cases ha : a ≤ r.pl + t
  · rw [if_pos ha, if_pos ha]
    simp only [List.getD]
    rcases h with h | h
    · unfold Rg.top at h
      rw [List.getElem?_append_left (by rw [bytesN_length]; omega)]
    · rw [List.getElem?_eq_none (by rw [bytesN_length]; omega), List.getElem?_eq_none (by simp [bytesN_length]; omega)]
  · rw [if_neg ha, if_neg ha]
/-- The blocks of a memory's bytes. -/
def GS (M : Lo) (n : Nat) (b : Nat) : Prop := ∃ i, i < n ∧ b = M.G i
set_option maxHeartbeats 3200000 in
set_option maxRecDepth 100000 in
theorem store_any {w : World} {M : Lo} {l : List Rg} (hg : Good l) (hm : MemAt w M l) (hl : l.length ≤ 64) (a : Nat) (ha : a < 18446744073709551616) (n : Int) (v : Nat) (hv : v < 18446744073709551616) :
    Calls Try.prog 15 #[.pointer (some ⟨M.bm, 0, none⟩), .int .u64 (a : Int), .int .i64 n, .int .u64 (v : Int)] w fun e w' => e = .returned (.bool (hldB l a n 2)) ∧ Kp (GS M l.length) w w' ∧ (hldB l a n 2 = false → Fr w w') ∧ MemAt w' M (if hldB l a n 2 then upd l a (bytesN n.toNat v) else l) := by
  have hW : Fr w (w.alloc (.cells #[.int .u64 (v : Int)] 32)) := Fr.alloc (Fr.refl w) _
  have HH := Lib.hid (holds_any hg (hm.fr hW) hl a ha n 2)
  cases hh : hldB l a n 2 with
  | false =>
    rw [hh] at HH
    have HM := Lib.hid hm
    have HW := Lib.hid hW
    clear hm hg hW
    go_enter Try.func15, Try.ntmps15
    go_wp2_with (go_at_call 16; refine HH.out.mono ?_; rintro e w1 ⟨rfl, hf⟩; have HF := Lib.hid hf; clear hf)
    go_ret
    exact ⟨rfl, Kp.of (HW.out.call HF.out), HW.out.call HF.out, HM.out.fr (HW.out.call HF.out)⟩
  | true =>
    rw [hh] at HH
    unfold hldB at hh
    simp only [Bool.and_eq_true, decide_eq_true_eq] at hh
    obtain ⟨⟨⟨hn1, hn8⟩, _⟩, hlen⟩ := hh
    have eg : ∀ args w, (callFunc 30 args).run Try.prog w = .ok (.enter 30 args) w := enters_my Try.func30 (by decide +kernel) rfl
    have hlg := fun (i : Nat) (hi : i < l.length) => hm.ltg hi ((hg.ok _ (List.getElem_mem hi)).some)
    have hlm := hm.ltm
    have hlr := fun h0 => hm.ltr h0
    have HP := Lib.hid (fun (w1 : World) (hf : Fr (w.alloc (.cells #[.int .u64 (v : Int)] 32)) w1) =>
      pieces_any hg (hm.fr (hW.call hf)) hl a ha n 2 (by omega) (by omega) (by omega) (by omega) 30 #[.pointer (some ⟨w.heap.size, 0, none⟩)] eg (fun b => b = w.heap.size ∨ GS M l.length b)
        (fun b hb => by
          have h1 : w.heap.size + 1 ≤ w1.heap.size := by have := hf.size; simpa using this
          rcases hb with rfl | ⟨i, hi, rfl⟩
          · exact ⟨by omega, by omega, fun h0 => by have := hlr h0; omega⟩
          · have := hlg i hi
            exact ⟨by omega, (hm.apart i hi).1, fun _ => (hm.apart i hi).2⟩)
        (fun k W => BoxAt W w.heap.size (v / 256 ^ k) ∧ MemAt W M (upd l a (bytesN k v)))
        (by
          refine ⟨?_, ?_⟩
          · have c1 : (w.alloc (.cells #[.int .u64 (v : Int)] 32)).cell? ⟨w.heap.size, 0, none⟩ = some (.int .u64 (v : Int)) := by simp
            exact ⟨by simpa using hf.get c1, hf.free c1 (by simp)⟩
          · rw [show bytesN 0 v = [] from rfl, upd_nil]; exact hm.fr (hW.call hf))
        (fun k v1 v2 hk0 ⟨⟨g1, g2⟩, g3⟩ hk => by
          have h1 : w.heap.size + 1 ≤ w1.heap.size := by have := hf.size; simpa using this
          have n1 : ¬ (w.heap.size = w1.heap.size ∨ w.heap.size = w1.heap.size + 1) := by omega
          refine ⟨⟨hk.get n1 g1, hk.free n1 g1 g2⟩, g3.kp hk (by omega) (fun h0 => ?_) fun i hi => ?_⟩
          · rw [upd_len] at h0
            have := hlr h0; omega
          · rw [upd_len] at hi; have := hlg i hi; omega)
        (fun k i off m c v1 hi hk ⟨g1, g2⟩ hp hm0 hle hkm hq _ _ => by
          have hi' : i < (upd l a (bytesN k v)).length := by rw [upd_len]; exact hi
          have hby := g2.bytes i hi'
          have hvk : v / 256 ^ k ≤ v := Nat.div_le_self _ _
          rw [upd_at hi hi'] at hby
          have hne : M.G i ≠ w.heap.size := by have := hlg i hi; omega
          refine (store1_any (M.G i) off m c w.heap.size (v / 256 ^ k) _ v1 (by omega) (by rw [put_len]; exact hle) (by omega) hne hby g1).mono fun e v2 ⟨he, q1, q2, q3⟩ => ?_
          have hsub : Kp (fun b => b = w.heap.size ∨ GS M l.length b) v1 v2 := q3.mono fun x _ hx => by
            rcases hx with rfl | rfl
            · exact .inr ⟨i, hi, rfl⟩
            · exact .inl rfl
          refine ⟨he, ⟨?_, ?_⟩, hsub⟩
          · rw [Nat.div_div_eq_div_mul, ← Nat.pow_add] at q2; exact q2
          · rw [put_in _ _ _ _ _ _ hp] at q1
            refine g2.turn q3 (fun h => ?_) (fun _ h => ?_) (by rw [upd_len, upd_len]) (fun t ht ht' => ?_) (fun t ht => ?_)
            · rcases h with h | h
              · exact (hm.apart i hi).1 h.symm
              · omega
            · rcases h with h | h
              · exact (hm.apart i hi).2 h.symm
              · have := hlr (by omega); omega
            · rw [upd_len] at ht
              rw [upd_at ht (by rw [upd_len]; exact ht), upd_at ht (by rw [upd_len]; exact ht)]
              exact ⟨rfl, rfl, by rw [put_len, put_len]⟩
            · rw [upd_len] at ht
              rw [upd_at ht (by rw [upd_len]; exact ht)]
              by_cases hti : t = i
              · subst hti; exact q1
              · have h1 := g2.bytes t (by rw [upd_len]; exact ht)
                rw [upd_at ht (by rw [upd_len]; exact ht)] at h1
                have hdis : (l[t]).top ≤ a + k ∨ a + k + m ≤ (l[t]).pl := by
                  rcases Nat.lt_or_ge t i with h | h
                  · have := List.pairwise_iff_getElem.1 hg.rise t i ht hi h; omega
                  · have := List.pairwise_iff_getElem.1 hg.rise i t hi ht (by omega)
                    unfold Rg.top at this; omega
                rw [put_out _ a k m v hdis] at h1
                refine h1.kp q3 fun h => ?_
                rcases h with h | h
                · exact hti (hm.one t i ht hi h)
                · have := hlg t ht; omega))
    have HM := Lib.hid hm
    have HW := Lib.hid hW
    have HL := Lib.hid hlg
    have hTn : (got (from_ l a) a n.toNat 2).length = n.toNat := by omega
    rw [hTn] at HP
    clear hm hg hW hlg hlr hlen hTn
    go_enter Try.func15, Try.ntmps15
    go_wp2_with (first
      | (go_at_call 16; refine HH.out.mono ?_; rintro e w1 ⟨rfl, hf⟩; have HF := Lib.hid hf; clear hf)
      | (go_at_call 27; refine (HP.out _ HF.out).mono ?_; rintro e w2 ⟨rfl, ⟨hb, hm2⟩, hk⟩; have HK := Lib.hid hk; have HM2 := Lib.hid hm2; clear hk hm2 hb))
    go_ret
    exact ⟨rfl, ((Kp.of (HW.out.call HF.out)).call HK.out).mono (fun x hx h => h.elim (fun h => by omega) id), HM2.out⟩
end Go.Proofs.Ytelfokoibmpdlaa
