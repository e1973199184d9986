/- Sums as the program reckons with them: a number, a normal sum handed in. -/
import Derived.Test.YtbnaakognnkhdaaGreatDoorZd
namespace Go.Proofs.YtbnaakognnkhdaaGreatDoor
open Go.RowKit
set_option linter.unusedSimpArgs false
set_option linter.unusedVariables false

/-- The block q holds a sum: its map, its number; nothing else but S has turned since W. -/
structure SAt (S : Nat → Prop) (W : World) (q : Nat) (mb : Option Nat) (P : List (ByteArray × Int)) (off : Int) (wr : World) : Prop where
  map : MapP wr mb P
  c0 : wr.cell? ⟨q, 0, none⟩ = some (.map mb)
  c1 : wr.cell? ⟨q, 1, none⟩ = some (.int .i64 off)
  f0 : wr.frozen? ⟨q, 0, none⟩ = false
  f1 : wr.frozen? ⟨q, 1, none⟩ = false
  new : ∀ b, mb = some b → S b ∨ W.heap.size ≤ b
  own : S q ∨ W.heap.size ≤ q
  kp : Kp S W wr
theorem SAt.count {S : Nat → Prop} {W wr w' : World} {q : Nat} {mb mb' : Option Nat} {P Q : List (ByteArray × Int)} {off : Int} (h : SAt S W q mb P off wr) (k : CntP q mb Q wr w' mb') : SAt S W q mb' Q off w' := by
  refine ⟨k.map, k.c0, k.rest.1.trans h.c1, k.f0, k.rest.2.trans h.f1, fun b e => ?_, h.own, ⟨k.kp.os.trans h.kp.os, k.kp.tape.trans h.kp.tape, k.kp.output.trans h.kp.output, Nat.le_trans h.kp.size k.kp.size, fun g hg hs => (k.kp.block g (Nat.lt_of_lt_of_le hg h.kp.size) fun hh => ?_).trans (h.kp.block g hg hs)⟩⟩
  · rcases k.same with hs | ⟨_, b', hb', hl⟩
    · exact h.new b (hs ▸ e)
    · rw [hb'] at e
      injection e with e
      subst e
      exact .inr (Nat.le_trans h.kp.size hl)
  · rcases hh with rfl | hh
    · rcases h.own with h1 | h1
      · exact hs h1
      · omega
    · rcases h.new g hh with h1 | h1
      · exact hs h1
      · omega
theorem SAt.fr {S : Nat → Prop} {W wr w' : World} {q : Nat} {mb : Option Nat} {P : List (ByteArray × Int)} {off : Int} (h : SAt S W q mb P off wr) (k : Fr wr w') : SAt S W q mb P off w' :=
  ⟨h.map.fr k, k.get h.c0, k.get h.c1, k.free h.c0 h.f0, k.free h.c1 h.f1, h.new, h.own, h.kp.fr k⟩
/-- A sum by itself: its map is new, if it has one. -/
def SumV (w w' : World) (v : Value) (P : List (ByteArray × Int)) (off : Int) : Prop := ∃ mb, v = .agg #[.map mb, .int .i64 off] ∧ MapP w' mb P ∧ ∀ b, mb = some b → w.heap.size ≤ b
set_option maxHeartbeats 400000 in
theorem number_any (n : Int) (w : World) : Calls Tryz.prog 30 #[.int .i64 n] w fun e w' => e = .returned (.agg #[.map none, .int .i64 n]) ∧ Fr w w' := by
  go_enter Tryz.func30, Tryz.ntmps30
  go_wp2
  exact bodyPost_ret (v := .agg #[.map none, .int .i64 n]) (by simp [results, Tryz.results30, go_sem]) rfl ⟨rfl, by repeat (first | exact Fr.refl _ | apply Fr.alloc)⟩
theorem box_of {w w1 : World} {A B : Option Addr} {c d n m : Nat} {off : Int} (h : Fr ((w.alloc (.cells #[.slice A n c, .slice B m d, .int .i64 off] 25)).alloc (.cells #[.map none, .int .i64 0] 46)) w1) :
    w1.cell? ⟨w.heap.size, 0, none⟩ = some (.slice A n c) ∧ w1.cell? ⟨w.heap.size, 1, none⟩ = some (.slice B m d) ∧ w1.cell? ⟨w.heap.size, 2, none⟩ = some (.int .i64 off) ∧
      (w1.cell? ⟨w.heap.size + 1, 0, none⟩ = some (.map none) ∧ w1.cell? ⟨w.heap.size + 1, 1, none⟩ = some (.int .i64 0)) ∧ (w1.frozen? ⟨w.heap.size + 1, 0, none⟩ = false ∧ w1.frozen? ⟨w.heap.size + 1, 1, none⟩ = false) ∧ Fr w w1 := by
  have e0 : ((w.alloc (.cells #[.slice A n c, .slice B m d, .int .i64 off] 25)).alloc (.cells #[.map none, .int .i64 0] 46)).cell? ⟨w.heap.size, 0, none⟩ = some (.slice A n c) := by simp [go_sem]
  have e1 : ((w.alloc (.cells #[.slice A n c, .slice B m d, .int .i64 off] 25)).alloc (.cells #[.map none, .int .i64 0] 46)).cell? ⟨w.heap.size, 1, none⟩ = some (.slice B m d) := by simp [go_sem]
  have e2 : ((w.alloc (.cells #[.slice A n c, .slice B m d, .int .i64 off] 25)).alloc (.cells #[.map none, .int .i64 0] 46)).cell? ⟨w.heap.size, 2, none⟩ = some (.int .i64 off) := by simp [go_sem]
  have e3 : ((w.alloc (.cells #[.slice A n c, .slice B m d, .int .i64 off] 25)).alloc (.cells #[.map none, .int .i64 0] 46)).cell? ⟨w.heap.size + 1, 0, none⟩ = some (.map none) := by simp [go_sem]
  have e4 : ((w.alloc (.cells #[.slice A n c, .slice B m d, .int .i64 off] 25)).alloc (.cells #[.map none, .int .i64 0] 46)).cell? ⟨w.heap.size + 1, 1, none⟩ = some (.int .i64 0) := by simp [go_sem]
  exact ⟨h.get e0, h.get e1, h.get e2, ⟨h.get e3, h.get e4⟩, ⟨h.free e3 (by simp [go_sem]), h.free e4 (by simp [go_sem])⟩, (((Fr.refl w).alloc _).alloc _).call h⟩
theorem look_app_none {x : ByteArray × Int} {t : ByteArray} : ∀ {l : List (ByteArray × Int)}, (∀ y ∈ l, y.1 ≠ t) → look (l ++ [x]) t = if x.1 = t then x.2 else 0
  | [], _ => rfl
  | y :: r, h => by
    rw [List.cons_append, look, if_neg (h y List.mem_cons_self), look_app_none fun z hz => h z (List.mem_cons_of_mem _ hz)]
theorem look_app_ne {x : ByteArray × Int} {t : ByteArray} (h : x.1 ≠ t) : ∀ {l : List (ByteArray × Int)}, look (l ++ [x]) t = look l t
  | [] => by simp [look, h]
  | y :: r => by rw [List.cons_append, look, look, look_app_ne h]
theorem asc_take : ∀ (k : Nat) {l : List (ByteArray × Int)}, ascP l → ascP (l.take k)
  | 0, _, _ => by simp [ascP]
  | _ + 1, [], _ => by simp [ascP]
  | k + 1, x :: r, h => by
    rw [List.take_succ_cons]
    exact ⟨h.1, h.2.1, fun y hy => h.2.2.1 y (List.mem_of_mem_take hy), asc_take k h.2.2.2⟩
theorem take_count {P : List (ByteArray × Int)} (h : ascP P) (hi : ∀ x ∈ P, I64 x.2) {k : Nat} (hk : k < P.length) (t : ByteArray) : look (P.take (k + 1)) t = if P[k].1 = t then add64 (look (P.take k) P[k].1) P[k].2 else look (P.take k) t := by
  have hlt : ∀ y ∈ P.take k, ltB y.1 P[k].1 = true := fun y hy => by
    obtain ⟨i, hi', e⟩ := List.getElem_of_mem hy
    have hi2 : i < k := by simp at hi'; omega
    rw [List.getElem_take] at e
    rw [← e]
    exact (ascP_get h).2 i k hk hi2
  have h0 : look (P.take k) P[k].1 = 0 := look_none fun y hy e => by have := hlt y hy; rw [e, lt_irrefl'] at this; cases this
  have e0 : P.take (k + 1) = P.take k ++ [P[k]] := by rw [List.take_succ_eq_append_getElem hk]
  rw [e0]
  by_cases e : P[k].1 = t
  · rw [if_pos e, h0, zero_add64 (hi _ (List.getElem_mem hk)), look_app_none fun y hy e2 => by
      have := hlt y hy
      rw [e2, e, lt_irrefl'] at this
      exact absurd this (by decide), if_pos e]
  · rw [if_neg e, look_app_ne e]
/-- A round of the loop over symbols. -/
def RelSu (P : List (ByteArray × Int)) (off : Int) (q : Nat) (W : World) (n : Nat) (i : Value) (wr : World) : Prop := ∃ (k : Nat) (mb : Option Nat), k ≤ n ∧ i = .int .i64 (k : Int) ∧ SAt (fun g => g = q) W q mb (P.take k) off wr
theorem SAt.start {w : World} {off : Int} {t : TypeId} : SAt (fun g => g = w.heap.size) (w.alloc (.cells #[.map none, .int .i64 off] t)) w.heap.size none [] off (w.alloc (.cells #[.map none, .int .i64 off] t)) :=
  ⟨rfl, by simp [go_sem], by simp [go_sem], by simp [go_sem], by simp [go_sem], (fun b e => by cases e), .inl rfl, Kp.refl _ _⟩
theorem fsts_get {P : List (ByteArray × Int)} {k : Nat} (h : k < P.length) : (fsts P)[k]'(by simpa [fsts] using h) = P[k].1 := by simp [fsts]
theorem snds_get {P : List (ByteArray × Int)} {k : Nat} (h : k < P.length) : (snds P)[k]'(by simpa [snds] using h) = P[k].2 := by simp [snds]
theorem load_sum {w : World} {g : Nat} {x y : Value} (h0 : w.cell? ⟨g, 0, none⟩ = some x) (h1 : w.cell? ⟨g, 1, none⟩ = some y) : (loadVar 46 ⟨g, 0, none⟩).run Tryz.prog w = .ok (.agg #[x, y]) w := by
  simp [go_sem, *]
theorem sum_end {w w4 : World} {rb : Nat} {mb : Option Nat} {P : List (ByteArray × Int)} {off : Int} {x y : Value} (hn : w.heap.size ≤ rb) (hK : Fr w w4) (z0 : w4.cell? ⟨rb, 0, none⟩ = some x) (z1 : w4.cell? ⟨rb, 1, none⟩ = some y) (f0 : w4.frozen? ⟨rb, 0, none⟩ = false) (f1 : w4.frozen? ⟨rb, 1, none⟩ = false)
    (hm : MapP w4 mb P) (hnew : ∀ b, mb = some b → w.heap.size ≤ b) :
    ∃ w5, w5 = (w4.setCell ⟨rb, 0, none⟩ (.map mb)).setCell ⟨rb, 1, none⟩ (.int .i64 off) ∧ (loadVar 46 ⟨rb, 0, none⟩).run Tryz.prog w5 = .ok (.agg #[.map mb, .int .i64 off]) w5 ∧ SumV w w5 (.agg #[.map mb, .int .i64 off]) P off ∧ Fr w w5 := by
  refine ⟨_, rfl, load_sum ?_ ?_, ⟨mb, rfl, hm.keep fun b e => ?_, hnew⟩, (hK.set (p := ⟨rb, 0, none⟩) hn _).set (p := ⟨rb, 1, none⟩) hn _⟩
  · simp [go_sem, *]
  · simp [go_sem, *]
  · have hb : b ≠ rb := fun e2 => by
      subst e e2
      obtain ⟨es, clock, hb, _⟩ := hm
      simp [World.cell?, hb] at z0
    rw [Below.heap_setCell _ ⟨rb, 1, none⟩ _ b hb, Below.heap_setCell _ ⟨rb, 0, none⟩ _ b hb]
set_option maxHeartbeats 3200000 in
set_option maxRecDepth 100000 in
theorem sumOf_any (P : List (ByteArray × Int)) (off : Int) (A B : Option Addr) (c d n : Nat) (w : World) (hn : P.length = n) (hP : ascP P) (hl : n ≤ 100000) (hi : ∀ x ∈ P, x.1.size ≤ 140737488351232 ∧ I64 x.2) (ha : Rd strv w A (fsts P)) (hb : Rd intv w B (snds P)) :
    Calls Tryz.prog 19 #[.agg #[.slice A n c, .slice B n d, .int .i64 off]] w fun e w' => ∃ v, e = .returned v ∧ SumV w w' v P off ∧ Fr w w' := by
  have hc : ∀ k w, Calls Tryz.prog 30 #[.int .i64 k] w fun e w' => e = .returned (.agg #[.map none, .int .i64 k]) ∧ Fr w w' := number_any
  have HA := Lib.hid ha
  have HB := Lib.hid hb
  have HN := Lib.hid hn
  have HI := Lib.hid hi
  have HC := Lib.hid (fun (k : Nat) (hk : k < P.length) (q : Nat) (mb : Option Nat) (W wr : World) (h : SAt (fun g => g = q) W q mb (P.take k) off wr) =>
    (count_any (P.take k) (P.take (k + 1)) P[k].1 P[k].2 q mb wr (asc_take k hP) (asc_take (k + 1) hP) (by simp; omega) (Nat.le_trans (hi _ (List.getElem_mem hk)).1 (by decide)) (take_count hP (fun x hx => (hi x hx).2) hk) h.c0 h.f0 h.map).mono
      (R' := fun e w' => (∃ v, e = .returned v) ∧ ∃ mb', SAt (fun g => g = q) W q mb' (P.take (k + 1)) off w') fun e w' ⟨h1, mb', h2⟩ => ⟨h1, mb', h.count h2⟩)
  clear ha hb hn hi hP
  go_enter Tryz.func19, Tryz.ntmps19
  go_wp2_with (go_at_call 30; refine (hc _ _).mono ?_; rintro e w1 ⟨rfl, hf1⟩; have HX := Lib.hid (box_of hf1); obtain ⟨x0, x1, x2, _, _, _⟩ := HX.out; have z0 := lt_of_cell x0)
  obtain ⟨p, hp⟩ : ∃ p, w.heap.size = p := ⟨_, rfl⟩
  rw [hp] at HX
  obtain ⟨W, hW⟩ : ∃ W, W = w1.alloc (.cells #[.map none, .int .i64 off] 46) := ⟨_, rfl⟩
  have HS0 := Lib.hid (show SAt (fun g => g = w1.heap.size) W w1.heap.size none [] off W by rw [hW]; exact SAt.start)
  have HF := Lib.hid (show Fr w1 W by rw [hW]; exact (Fr.refl w1).alloc _)
  have HZ := Lib.hid (show w1.heap.size < W.heap.size ∧ p < w1.heap.size ∧ p + 1 < w1.heap.size by
    obtain ⟨a0, _, _, ⟨a3, _⟩, _⟩ := HX.out
    exact ⟨by rw [hW]; simp, lt_of_cell a0, lt_of_cell a3⟩)
  have HK := Lib.hid (fun wr (k : Kp (fun g => g = w1.heap.size) W wr) => HX.out.2.2.2.2.2.call (((Kp.of (S := fun g => g = w1.heap.size) HF.out).call k).to (by rintro x rfl; exact Nat.le_refl _)))
  rw [← hW]
  simp only [hp]
  clear hW hf1 x0 x1 x2 z0 hc
  obtain ⟨q, hq⟩ : ∃ q, w1.heap.size = q := ⟨_, rfl⟩
  simp only [hq] at *
  go_loopw [12] (fun i wr => RelSu P off q W n i wr) (fun i _ => n - (intOf i).toNat)
  case atStart => exact ⟨0, none, Nat.zero_le _, rfl, HS0.out⟩
  case round =>
    obtain ⟨k, mb, hk, rfl, hs⟩ := hrel
    have HS := Lib.hid hs
    obtain ⟨y0, y1, y2, ⟨y3, y4⟩, ⟨g3, g4⟩, yf⟩ := HX.out
    obtain ⟨zq, zp, zr⟩ := HZ.out
    have kpW := hs.kp
    have k0 : wr.cell? ⟨p, 0, none⟩ = some (.slice A n c) := kpW.get (show ¬ p = q by omega) (HF.out.get y0)
    have k1 : wr.cell? ⟨p, 1, none⟩ = some (.slice B n d) := kpW.get (show ¬ p = q by omega) (HF.out.get y1)
    have k2 : wr.cell? ⟨p, 2, none⟩ = some (.int .i64 off) := kpW.get (show ¬ p = q by omega) (HF.out.get y2)
    have HR := Lib.hid (show wr.cell? ⟨p + 1, 0, none⟩ = some (.map none) ∧ wr.cell? ⟨p + 1, 1, none⟩ = some (.int .i64 0) ∧ wr.frozen? ⟨p + 1, 0, none⟩ = false ∧ wr.frozen? ⟨p + 1, 1, none⟩ = false from
      ⟨kpW.get (show ¬ p + 1 = q by omega) (HF.out.get y3), kpW.get (show ¬ p + 1 = q by omega) (HF.out.get y4), kpW.free (show ¬ p + 1 = q by omega) (HF.out.get y3) (HF.out.free y3 g3), kpW.free (show ¬ p + 1 = q by omega) (HF.out.get y4) (HF.out.free y4 g4)⟩)
    have HFR := Lib.hid (HK.out wr kpW)
    clear kpW y0 y1 y2 y3 y4 g3 g4 yf hs
    have zq' := lt_of_cell HS.out.c0
    have zp' := lt_of_cell k0
    by_cases hlt : k < n
    · have hka : k < P.length := by rw [HN.out]; exact hlt
      obtain ⟨ga, oa, rfl, hga, hca⟩ := HA.out (by simp [fsts]; omega)
      obtain ⟨gb, ob, rfl, hgb, hcb⟩ := HB.out (by simp [snds]; omega)
      have a1 : wr.cell? ⟨ga, oa + k, none⟩ = some (.string P[k].1) := by have := HFR.out.get (hca k (by simp [fsts]; omega)); rw [fsts_get hka] at this; exact this
      have b1 : wr.cell? ⟨gb, ob + k, none⟩ = some (.int .i64 P[k].2) := by have := HFR.out.get (hcb k (by simp [snds]; omega)); rw [snds_get hka] at this; exact this
      have hga' : ga < wr.heap.size := lt_of_cell a1
      have hgb' : gb < wr.heap.size := lt_of_cell b1
      have HCk := Lib.hid (HC.out k hka q mb W wr HS.out)
      clear hca hcb
      generalize P[k].1 = x at *
      generalize P[k].2 = y at *
      go_wp2_with (go_at_call 31; refine (HCk.out).mono ?_; rintro e w2 ⟨⟨v, rfl⟩, mb', hs2⟩)
      go_roundw
      case rel => exact ⟨k + 1, mb', by omega, by go_num, hs2⟩
      case measure => simp [intOf]; omega
    · obtain rfl : k = n := by omega
      have hs1 : SAt (fun g => g = q) W q mb P off wr := by have := HS.out; rw [List.take_of_length_le (by rw [HN.out]; exact Nat.le_refl _)] at this; exact this
      have c0 := hs1.c0
      have c1 := hs1.c1
      obtain ⟨r0, r1, r2, r3⟩ := HR.out
      have zr' := lt_of_cell r0
      have HE := Lib.hid hs1
      clear hs1
      go_wp2
      obtain ⟨w5, hw5, hl5, hv5, hf5⟩ := sum_end (off := off) (show w.heap.size ≤ p + 1 by omega) HFR.out r0 r1 r2 r3 HE.out.map (fun b e => by rcases HE.out.new b e with h | h <;> omega)
      rw [← hw5]
      exact bodyPost_ret (v := .agg #[.map mb, .int .i64 off]) (results_cell Tryz.results19 _ rfl hl5) rfl ⟨_, rfl, hv5, hf5⟩
end Go.Proofs.YtbnaakognnkhdaaGreatDoor
