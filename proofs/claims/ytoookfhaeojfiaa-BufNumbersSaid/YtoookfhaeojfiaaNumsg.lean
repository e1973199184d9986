/- BufNumbers answers true where the size is one from 1 to 8. -/
import Derived.Test.YtoookfhaeojfiaaNums
namespace Go.Proofs.Ytoookfhaeojfiaa
open Go.RowKit

theorem Mine.fr {w wa wb : World} {A : Option Addr} {L : List Int} (h : Mine w A L wa) (k : Fr wa wb) : Mine w A L wb := fun hl => by
  obtain ⟨g, M, e, hg, hM, hb⟩ := h hl
  exact ⟨g, M, e, hg, hM, hb.fr k⟩
theorem len_app (l : List Int) (k : Nat) (v : Int) : (l ++ litI k v).length = l.length + k := by rw [List.length_append, litI_length]
theorem litI_two (a b : List Int) : ([] ++ a) ++ b = a ++ b := rfl
/-- An append that a guard lets through. -/
theorem step_append_if {P : Program} {α : Type} {f : α → Value} (h1 : ∀ x, (f x).oneCell' = true) (w : World) {ops : Array Oper} {o : Oper} {a : Act} {K : Act → World → Prop} {Q : Exit → Act → World → Prop} {E : Prop} (hw : Region.wanted o (yielded ops a.tmps) = true) (s x : Operand) (t : TypeId)
    (ho : o.op = .call { callee := .builtin .append, args := #[s, x], argTypes := #[t, t] })
    (base : Nat) (e : TypeId) {z : Value} {bytes : Nat} (ht : P.underlying t = some (.slice e))
    (hi : (P.info? e).map (fun i => (i.zero, i.size, i.bytes)) = some (some z, 1, bytes)) (hz : z.cells.size = 1)
    (v : Value) (l : List α) (hs : a.eval s = v) (hown : Own f w base e v l) (A : Option Addr) (m c : Nat) (news : List α) (hx : a.eval x = .slice A m c) (hm : news.length = m) (hr : Rd f w A news)
    (h63 : l.length + m ≤ maxLen) (hbytes : (l.length + m) * bytes ≤ 140737488355328) (hbase : base ≤ w.heap.size)
    (h : ∀ v' w', Hid (Grew f w base e v (l ++ news) v' w') → K (a.put o.dst v') w') :
    if Region.wanted o (yielded ops a.tmps) = true then Oper.wp P o a w K Q else E := by
  rw [if_pos hw]
  exact wp_append_rd h1 w s x t ho base e ht hi hz v l hs hown A m c news hx hm hr h63 hbytes hbase h
theorem Blk.far {w : World} {g : Nat} {l : List Int} (h : Blk w g l) {p : Addr} (hp : g ≠ p.block) (u : Value) : Blk (w.setCell p u) g l := (Below.heap_setCell w p u g hp).trans h
theorem one_keep {w w' : World} {g : Nat} {p : Value} (h : Fr w w') (h0 : w.cell? ⟨g, 1, none⟩ = some p) : Fr w w' ∧ w'.cell? ⟨g, 1, none⟩ = some p := ⟨h, h.get h0⟩
def RelP (m : Nat) (wB : World) (A : Option Addr) (L : List Int) (ga n : Nat) (i : Value) (wr : World) : Prop :=
  ∃ j : Nat, j ≤ m ∧ i = .int .i64 (j : Int) ∧ Mine wB A L wr ∧ (∃ M, M.length = n ∧ Blk wr ga M) ∧ Fr wB wr
def RelQ (wB : World) (ga n : Nat) (i : Value) (wr : World) : Prop := ∃ j : Nat, j ≤ n ∧ i = .int .i64 (j : Int) ∧ (∃ M, M.length = n ∧ Blk wr ga M) ∧ Fr wB wr
set_option maxHeartbeats 6400000 in
set_option maxRecDepth 100000 in
theorem nums_good (A : Option Addr) (c : Nat) (p n v : Int) (l : List Int) (hb : By l) (hm : l.length ≤ 140737488351232) (hlc : l.length ≤ c) (hcm : c ≤ maxLen) (v0 : 0 ≤ v) (v1 : v < 18446744073709551616) (n0 : 1 ≤ n) (n8 : n ≤ 8) (w : World) (hr : Rd u8v w A l) :
    Calls Try.prog 3 #[.slice A l.length c, .agg #[.int .i64 p, .int .i64 n], .int .u64 v] w fun e w' => e = .returned (.bool true) ∧ Fr w w' := by
  have hmm : l.length ≤ maxLen := by unfold maxLen; omega
  have HA := Lib.hid alive
  have HR := Lib.hid hr
  have HG := Lib.hid (fun A c wx hr => get_any A c p n l hb hmm wx hr)
  have HG' := Lib.hid (fun wx hr => rget_any A c p n l hb hmm wx hr)
  have HP := Lib.hid (fun A c wx hr => put_any A c p n v l hm v0 v1 wx hr)
  have HP' := Lib.hid (fun wx hr => rput_any A c p n v l hm hlc hcm v0 v1 wx hr)
  have HSp := Lib.hid (fun A B c d wx ha hb' => same_any A B c d (putL l p n v) (putL l p n v) (putL_by hb p n v) (putL_by hb p n v) wx ha hb')
  have HS := Lib.hid (fun A B c d wx ha hb' => same_any A B c d l l hb hb wx ha hb')
  have HAP := Lib.hid (fun A c wx hr => app_any A c n v l hm v0 v1 n0 n8 wx hr)
  obtain ⟨k, rfl⟩ := Int.eq_ofNat_of_zero_le (show 0 ≤ n by omega)
  rw [Int.toNat_natCast] at HAP
  have HLI := Lib.hid (fun wx => little_any k v v0 v1 (by omega) wx)
  have HSa := Lib.hid (fun A B c d wx ha hb' => same_any A B c d (l ++ litI k v) (l ++ litI k v) (hb.app (litI_by k v)) (hb.app (litI_by k v)) wx ha hb')
  rw [List.length_append] at HSa
  have HPL := Lib.hid (putL_len (l := l) p k v)
  have HLL := Lib.hid (litI_length k v)
  have HLA := Lib.hid (len_app l k v)
  generalize getG l p k = G at *
  generalize errE l p k = er at *
  generalize putL l p k v = L at *
  generalize litI k v = T at *
  clear hr hb
  go_enter Try.func3, Try.ntmps3
  go_wp2_with (first
    | (go_at_call 7; refine (HA.out _).mono ?_; rintro e w1 ⟨rfl, hf1⟩; have HF1 := Lib.hid hf1; clear hf1)
    | (at_builtin; refine wpList_append_rd one_u8' _ rfl (.tmp 22) (.tmp 23) 22 rfl w1.heap.size 5 Try.underlying22 Try.info5 rfl (.slice (some ⟨w1.heap.size, 0, none⟩) 0 0) [] rfl (own_new w1) A l.length c l rfl rfl (((HR.out.alloc _).fr HF1.out).alloc _) ?_ ?_ ?_ ?_))
  · simp; unfold maxLen; omega
  · simp; omega
  · simp
  intro x2 w2 HGr
  have HF2 := Lib.hid (HGr.out.fr ((Fr.refl w1).alloc _) (Nat.le_refl _) (own_new w1).base_le)
  have hc0 : w2.cell? ⟨w.heap.size, 0, none⟩ = some (.int .i64 p) := HF2.out.get (HF1.out.get (pair_cells w _ _ _).1)
  have hc1 : w2.cell? ⟨w.heap.size, 1, none⟩ = some (.int .i64 k) := HF2.out.get (HF1.out.get (pair_cells w _ _ _).2)
  obtain ⟨A2, c2, rfl, h1, h2, hr2⟩ := HGr.out.own.val
  have HC0 := Lib.hid hc0
  have HC1 := Lib.hid hc1
  have HR2 := Lib.hid hr2
  have HRw := Lib.hid (((HR.out.alloc (.cells #[.int .i64 p, .int .i64 k] 23)).fr HF1.out).fr HF2.out)
  have HFB := Lib.hid ((((Fr.refl w).alloc (.cells #[.int .i64 p, .int .i64 k] 23)).call HF1.out).call HF2.out)
  clear hr2 HGr
  go_wp2_with (first
    | (go_at_call 8; refine (HG.out _ _ _ HR2.out).mono ?_; rintro e wy ⟨rfl, rfl⟩)
    | (go_at_call 9; refine (HG'.out _ HRw.out).mono ?_; rintro e wy ⟨rfl, rfl⟩)
    | (go_at_call 10
       refine (HP.out _ _ _ HR2.out).mono ?_
       rintro e w3 ⟨B3, d3, rfl, hr3, hmi, hf3⟩
       have HR3 := Lib.hid hr3
       have HM3 := Lib.hid hmi
       have HF3 := Lib.hid hf3
       have hd0 := HF3.out.get HC0.out
       have hd1 := HF3.out.get HC1.out
       clear hr3 hmi hf3)
    | (go_at_call 11
       refine (HP'.out _ (HRw.out.fr HF3.out)).mono ?_
       rintro e w4 ⟨B4, d4, rfl, hr4, hf4⟩
       have HR4 := Lib.hid hr4
       have HF4 := Lib.hid hf4
       have he0 := (HF3.out.call HF4.out).get HC0.out
       have he1 := (HF3.out.call HF4.out).get HC1.out
       clear hr4 hf4)
    | (go_at_call 12; refine (HSp.out _ _ _ _ _ (HR3.out.fr HF4.out) HR4.out).mono ?_; rintro e wy ⟨rfl, rfl⟩)
    | (go_at_call 13
       refine (HAP.out _ _ _ ((HR2.out.fr HF3.out).fr HF4.out)).mono ?_
       rintro e w5 ⟨g5, rfl, hg5, hb5, hf5⟩
       have HG5 := Lib.hid hg5
       have HB5 := Lib.hid hb5
       have HF5 := Lib.hid hf5
       have hh0 := ((HF3.out.call HF4.out).call HF5.out).get HC0.out
       have hh1 := ((HF3.out.call HF4.out).call HF5.out).get HC1.out
       clear hg5 hb5 hf5))
  clear hc0 hc1 hd0 hd1 he0 he1 hh0 hh1
  have HH1 := Lib.hid (((HF3.out.call HF4.out).call HF5.out).get HC1.out)
  have HRl := Lib.hid (((HRw.out.fr HF3.out).fr HF4.out).fr HF5.out)
  go_cut [124] (fun s wx => s = .bool false ∧ Fr w5 wx)
  case first =>
    go_region_held3 (fun wx => Fr w5 wx ∧ wx.cell? ⟨w.heap.size, 1, none⟩ = some (.int .i64 (k : Int))) ((refine one_keep ?_ HH1.out; first | exact (Fr.refl _).drew | exact ((Fr.refl _).alloc _).drew | exact HF6.out | exact HF7.out | exact HF8.out)) (first
      | (go_at_call 14; refine (HLI.out _).mono ?_; rintro e w7 ⟨x7, rfl, HO7, hf7⟩; have HF7 := Lib.hid (HF6.out.call hf7); have HO6' := Lib.hid (HO6.out.fr hf7); obtain ⟨A7, c7, rfl, _, _, hr7⟩ := HO7.val; have HR7 := Lib.hid hr7; clear hr7 HO7 hf7)
      | (go_at_call 12; refine (HSa.out _ _ _ _ _ (HB5.out.fr HF8.out).rd HR8.out).mono ?_; rintro e wy ⟨rfl, rfl⟩)
      | (refine step_append_if one_u8' _ (by kernel_rfl) (.tmp 114) (.tmp 115) 22 rfl w5.heap.size 5 Try.underlying22 Try.info5 rfl (.slice (some ⟨w5.heap.size, 0, none⟩) 0 0) [] rfl (own_new w5).drew A l.length c l rfl rfl (HRl.out.alloc _).drew (by simp; unfold maxLen; omega) (by simp; omega) (by simp) ?_; intro x6 w6 HG6; have HF6 := Lib.hid (HG6.out.fr ((Fr.refl w5).alloc _).drew (Nat.le_refl _) (own_new w5).base_le); have HO6 := Lib.hid HG6.out.own; clear HG6)
      | (refine step_append_if one_u8' _ (by kernel_rfl) (.tmp 116) (.tmp 120) 22 rfl w5.heap.size 5 Try.underlying22 Try.info5 rfl x6 ([] ++ l) rfl HO6'.out A7 T.length c7 T rfl rfl HR7.out (by rw [HLL.out]; simp; unfold maxLen; omega) (by rw [HLL.out]; simp; omega) HF7.out.size ?_; intro x8 w8 HG8; have HF8 := Lib.hid (HG8.out.fr HF7.out (Nat.le_refl _) HO6'.out.base_le); obtain ⟨A8, c8, rfl, _, _, hr8⟩ := HG8.out.own.val; have HR8 := Lib.hid hr8; clear HG8 hr8))
    go_wp2_with fail
    go_meet
    exact ⟨by simp, HF8.out⟩
  case rest =>
    obtain ⟨rfl, hfx⟩ := hcut
    have HMx := Lib.hid ((((HM3.out).fr HF4.out).fr HF5.out).fr hfx)
    have HBx := Lib.hid (HB5.out.fr hfx)
    have HFall := Lib.hid (((HF3.out.call HF4.out).call HF5.out).call hfx)
    have HG5' := Lib.hid (show w2.heap.size ≤ g5 from Nat.le_trans (HF3.out.call HF4.out).size HG5.out)
    have HNE := Lib.hid (show ∀ g, B3 = some ⟨g, 0, none⟩ → 0 < L.length → g5 ≠ g from fun g hB hl => by
      obtain ⟨g', M, hB', _, _, hbl⟩ := HM3.out hl
      rw [hB] at hB'
      injection hB' with hB'
      injection hB' with hB'
      subst hB'
      have h1 := hbl.lt
      have h2 := HF4.out.size
      have h3 := HG5.out
      omega)
    have HLlen := Lib.hid (show L.length ≤ maxLen by have := HPL.out; omega)
    have hLl := HLlen.out
    unfold maxLen at hLl
    clear hfx
    go_wp2
    go_loopw [127] (fun i wr => RelP L.length w2 B3 L g5 (l.length + T.length) i wr) (fun i _ => L.length - (intOf i).toNat)
    case atStart => exact ⟨0, by omega, rfl, HMx.out, ⟨_, by simp, HBx.out⟩, HFall.out⟩
    case round =>
      obtain ⟨j, hj, rfl, hmi, ⟨M, hM, hbM⟩, hfr⟩ := hrel
      have HMM := Lib.hid hM
      have HBM := Lib.hid hbM
      have HFR := Lib.hid hfr
      have HMI := Lib.hid hmi
      clear hM hbM hfr hmi
      by_cases hlt : j < L.length
      · obtain ⟨g, N, rfl, hgw, hN, hbN⟩ := HMI.out (by omega)
        obtain ⟨x, hx⟩ : ∃ x, wr.cell? ⟨g, j, none⟩ = some (.int .u8 x) := ⟨_, hbN.cell (i := j) (by omega)⟩
        have hfree := hbN.free j
        have HNN := Lib.hid hN
        have HBN := Lib.hid hbN
        have HGW := Lib.hid hgw
        have HNE2 := Lib.hid (HNE.out g rfl (by omega))
        clear hN hbN hgw
        go_wp2
        go_roundw
        case rel => exact ⟨j + 1, by omega, by go_num, fun _ => ⟨g, N.set j _, rfl, HGW.out, by rw [List.length_set]; exact HNN.out, HBN.out.set _ _⟩, ⟨M, HMM.out, HBM.out.far HNE2.out _⟩, HFR.out.set HGW.out _⟩
        case measure => simp [intOf]; omega
      · have hge : (L.length : Int) ≤ (j : Int) := by omega
        have hla : l.length + T.length ≤ 9223372036854775807 := by have := HLL.out; omega
        go_wp2
        obtain ⟨wo, rfl⟩ : ∃ wo : World, wo = wr := ⟨_, rfl⟩
        go_loopw [139] (fun i wz => RelQ w2 g5 (l.length + T.length) i wz) (fun i _ => l.length + T.length - (intOf i).toNat)
        case atStart => exact ⟨0, by omega, rfl, ⟨M, HMM.out, HBM.out⟩, HFR.out⟩
        case round =>
          obtain ⟨t, ht, rfl, ⟨M2, hM2, hbM2⟩, hfz⟩ := hrel
          have HM2 := Lib.hid hM2
          have HBM2 := Lib.hid hbM2
          have HFZ := Lib.hid hfz
          by_cases hlt2 : t < l.length + T.length
          · obtain ⟨x, hx⟩ : ∃ x, wr.cell? ⟨g5, t, none⟩ = some (.int .u8 x) := ⟨_, hbM2.cell (i := t) (by omega)⟩
            have hfree := hbM2.free t
            clear hM2 hbM2 hfz
            go_wp2
            go_roundw
            case rel => exact ⟨t + 1, by omega, by go_num, ⟨M2.set t _, by rw [List.length_set]; exact HM2.out, HBM2.out.set _ _⟩, HFZ.out.set HG5'.out _⟩
            case measure => simp [intOf]; omega
          · have hge2 : ((l.length : Int) + (T.length : Int)) ≤ (t : Int) := by omega
            clear hM2 hbM2 hfz
            go_wp2_with (first | (go_at_call 12; refine (HS.out _ _ _ _ _ (HR2.out.fr HFZ.out) (HRw.out.fr HFZ.out)).mono ?_; rintro e wy ⟨rfl, rfl⟩))
            go_ret
            exact ⟨ret_bool (by simp), HFB.out.call HFZ.out⟩
theorem nums_walk (A : Option Addr) (c : Nat) (p n v : Int) (l : List Int) (hb : By l) (hm : l.length ≤ 140737488351232) (hlc : l.length ≤ c) (hcm : c ≤ maxLen) (v0 : 0 ≤ v) (v1 : v < 18446744073709551616) (w : World) (hr : Rd u8v w A l) :
    Calls Try.prog 3 #[.slice A l.length c, .agg #[.int .i64 p, .int .i64 n], .int .u64 v] w fun e w' => e = .returned (.bool true) ∧ Fr w w' := by
  by_cases h : 1 ≤ n ∧ n ≤ 8
  · exact nums_good A c p n v l hb hm hlc hcm v0 v1 h.1 h.2 w hr
  · exact nums_bad A c p n v l hb hm hlc hcm v0 v1 h w hr
end Go.Proofs.Ytoookfhaeojfiaa
