/- The document's Sorted: those that have bytes, by rising places. -/
import Derived.Test.YtelfokoibmpdlaaMc
import Derived.Test.YtelfokoibmpdlaaMl
namespace Go.Proofs.Ytelfokoibmpdlaa
open Go.RowKit
set_option linter.unusedSimpArgs false
set_option linter.unusedVariables false

theorem RowsAt.rowJ {w : World} {B : Nat} {v : Value} {ps : List (Rg × Sl)} (h : RowsAt w B v ps) {l : List Rg} (hl : ps.map (·.1) = l) : ∃ A c, v = .slice A l.length c ∧ RowOf RgAt 3 w A l := by
  have hlen : ps.length = l.length := by rw [← hl]; simp
  obtain ⟨A, c, hv, h1, h2, h3, h4⟩ := h.val
  refine ⟨A, c, by rw [hv, hlen], fun h0 => ?_⟩
  rcases A with _ | a
  · have := h3 rfl; omega
  · obtain ⟨g, rfl, _, _, hg⟩ := h4 a rfl
    refine ⟨g, 0, rfl, fun i hi => ?_⟩
    have hp : ps[i]? = some (ps[i]'(by omega)) := List.getElem?_eq_getElem _
    have hx : (ps[i]'(by omega)).1 = l[i] := by
      have : (ps.map (·.1))[i]? = some (ps[i]'(by omega)).1 := by simp [hp]
      rw [hl, List.getElem?_eq_getElem hi] at this
      injection this with this; exact this.symm
    refine ⟨(ps[i]'(by omega)).2, by rw [← hx]; exact h.sl _ (List.getElem_mem _), ?_, ?_, ?_⟩
    · have := h.cell hg (t := 0) hp (by omega) rfl; rw [Nat.zero_add, Nat.mul_comm 3 i, ← hx]; exact this
    · have := h.cell hg (t := 1) hp (by omega) rfl; rw [Nat.zero_add, Nat.mul_comm 3 i, ← hx]; exact this
    · have := h.cell hg (t := 2) hp (by omega) rfl; rw [Nat.zero_add, Nat.mul_comm 3 i, ← hx]; exact this
theorem flatR_set3 : ∀ (ps : List (Rg × Sl)) (i : Nat) (z : Rg × Sl), i < ps.length → (((flatR ps).set (i * 3) (.int .u64 (z.1.pl : Int))).set (i * 3 + 1) (.int .i64 z.1.pm)).set (i * 3 + 2) (.slice z.2.1 z.1.bs.length z.2.2) = flatR (ps.set i z)
  | [], _, _, h => by simp at h
  | x :: r, 0, z, _ => by simp [flatR, rgCells]
  | x :: r, i + 1, z, h => by
    have := flatR_set3 r i z (by simpa using h)
    simp only [flatR, List.flatMap_cons] at this ⊢
    simp only [List.set_cons_succ, List.flatMap_cons]
    rw [← this]
    have e1 : (i + 1) * 3 = i * 3 + 3 := by omega
    have e2 : (i + 1) * 3 + 1 = i * 3 + 1 + 3 := by omega
    have e3 : (i + 1) * 3 + 2 = i * 3 + 2 + 3 := by omega
    rw [e2, e3, e1]
    simp [rgCells]
/-- A row's region is set. -/
def set3 (w : World) (g i : Nat) (z : Rg × Sl) : World := ((w.setCell ⟨g, i * 3, none⟩ (.int .u64 (z.1.pl : Int))).setCell ⟨g, i * 3 + 1, none⟩ (.int .i64 z.1.pm)).setCell ⟨g, i * 3 + 2, none⟩ (.slice z.2.1 z.1.bs.length z.2.2)
theorem set3_kp (w : World) (g i : Nat) (z : Rg × Sl) : Kp (fun x => x = g) w (set3 w g i z) := by
  unfold set3
  exact ((Kp.set (S := fun x => x = g) (p := ⟨g, i * 3, none⟩) (Kp.refl _ _) (.inl rfl) _).set (p := ⟨g, i * 3 + 1, none⟩) (.inl rfl) _).set (p := ⟨g, i * 3 + 2, none⟩) (.inl rfl) _
theorem RowsAt.set3 {w : World} {B g n cap : Nat} {ps : List (Rg × Sl)} (h : RowsAt w B (.slice (some ⟨g, 0, none⟩) n cap) ps) {i : Nat} (hi : i < ps.length) {z : Rg × Sl} (hz : z ∈ ps) :
    RowsAt (set3 w g i z) B (.slice (some ⟨g, 0, none⟩) n cap) (ps.set i z) := by
  have hn : n = ps.length := by
    obtain ⟨A, c, hv, _⟩ := h.val
    injection hv
  subst hn
  have h1 := (h.own.stored (i * 3) (.int .u64 (z.1.pl : Int))).1
  have h2 := (h1.stored (i * 3 + 1) (.int .i64 z.1.pm)).1
  have h3 := (h2.stored (i * 3 + 2) (.slice z.2.1 z.1.bs.length z.2.2)).1
  rw [flatR_set3 ps i z hi] at h3
  have hmem : ∀ x ∈ ps.set i z, x ∈ ps := fun x hx => by
    rcases List.mem_or_eq_of_mem_set hx with q | q
    · exact q
    · subst q; exact hz
  refine ⟨by rw [List.length_set]; exact h3, fun x hx => ?_, fun x hx => h.off x (hmem x hx)⟩
  exact (h.sl x (hmem x hx)).kp (set3_kp w g i z) fun h0 a ha e => h.off x (hmem x hx) h0 a ha (by rw [← e]; rfl)
theorem RowsAt.frz {w : World} {B g n cap : Nat} {ps : List (Rg × Sl)} (h : RowsAt w B (.slice (some ⟨g, 0, none⟩) n cap) ps) (k : Nat) : w.frozen? ⟨g, k, none⟩ = false := by
  have hn : n = ps.length := by
    obtain ⟨A, c, hv, _⟩ := h.val
    injection hv
  subst hn
  exact h.own.frozenAt k
/-- Two neighbours change places. -/
theorem RowsAt.swap {w : World} {B g n cap : Nat} {pre suf : List (Rg × Sl)} {x y : Rg × Sl} (h : RowsAt w B (.slice (some ⟨g, 0, none⟩) n cap) (pre ++ y :: x :: suf)) :
    RowsAt (Go.Proofs.Ytelfokoibmpdlaa.set3 (Go.Proofs.Ytelfokoibmpdlaa.set3 w g (pre.length + 1) y) g pre.length x) B (.slice (some ⟨g, 0, none⟩) n cap) (pre ++ x :: y :: suf) := by
  have h1 := h.set3 (i := pre.length + 1) (z := y) (by simp) (by simp)
  have e1 : (pre ++ y :: x :: suf).set (pre.length + 1) y = pre ++ y :: y :: suf := by
    rw [List.set_append_right _ _ (by omega)]; simp
  rw [e1] at h1
  have hsx : SlAt (Go.Proofs.Ytelfokoibmpdlaa.set3 w g (pre.length + 1) y) x ∧ (0 < x.1.bs.length → ∀ a, x.2.1 = some a → (Value.slice (some ⟨g, 0, none⟩) n cap).ownBlock ≠ some a.block) := by
    have hx : x ∈ pre ++ y :: x :: suf := by simp
    exact ⟨(h.sl x hx).kp (set3_kp w g _ y) fun h0 a ha e => h.off x hx h0 a ha (by rw [← e]; rfl), h.off x hx⟩
  have hn : n = (pre ++ y :: y :: suf).length := by
    obtain ⟨A, c, hv, _⟩ := h1.val
    injection hv
  subst hn
  have q1 := (h1.own.stored (pre.length * 3) (.int .u64 (x.1.pl : Int))).1
  have q2 := (q1.stored (pre.length * 3 + 1) (.int .i64 x.1.pm)).1
  have q3 := (q2.stored (pre.length * 3 + 2) (.slice x.2.1 x.1.bs.length x.2.2)).1
  rw [flatR_set3 _ pre.length x (by simp)] at q3
  have e2 : (pre ++ y :: y :: suf).set pre.length x = pre ++ x :: y :: suf := by
    rw [List.set_append_right _ _ (by omega)]; simp
  rw [e2] at q3
  have hmem : ∀ u ∈ pre ++ x :: y :: suf, u = x ∨ u ∈ pre ++ y :: y :: suf := fun u hu => by
    simp only [List.mem_append, List.mem_cons] at hu ⊢
    rcases hu with q | q | q | q
    · exact .inr (.inl q)
    · exact .inl q
    · exact .inr (.inr (.inl q))
    · exact .inr (.inr (.inr (.inr q)))
  refine ⟨?_, fun u hu => ?_, fun u hu => ?_⟩
  · have e3 : (pre ++ x :: y :: suf).length = (pre ++ y :: y :: suf).length := by simp
    rw [e3]; exact q3
  · have hkp := set3_kp (Go.Proofs.Ytelfokoibmpdlaa.set3 w g (pre.length + 1) y) g pre.length x
    rcases hmem u hu with rfl | hu
    · exact hsx.1.kp hkp fun h0 a ha e => hsx.2 h0 a ha (by rw [← e]; rfl)
    · exact (h1.sl u hu).kp hkp fun h0 a ha e => h1.off u hu h0 a ha (by rw [← e]; rfl)
  · rcases hmem u hu with rfl | hu
    · exact hsx.2
    · exact h1.off u hu
/-- Rising. -/
def Ris (l : List (Rg × Sl)) : Prop := l.Pairwise fun a b => a.1.pl ≤ b.1.pl
theorem ris_ins {pre suf : List (Rg × Sl)} {x : Rg × Sl} (h : Ris (pre ++ suf)) (hs : ∀ s ∈ suf, x.1.pl < s.1.pl) (hp : ∀ y ∈ pre, y.1.pl ≤ x.1.pl) : Ris (pre ++ x :: suf) := by
  unfold Ris at *
  rw [List.pairwise_append] at h ⊢
  refine ⟨h.1, List.pairwise_cons.2 ⟨fun s q => Nat.le_of_lt (hs s q), h.2.1⟩, fun a ha b hb => ?_⟩
  rcases List.mem_cons.1 hb with rfl | hb
  · exact hp a ha
  · exact h.2.2 a ha b hb
def RelSq (l : List Rg) (w : World) (v i : Value) (wr : World) : Prop := ∃ (k : Nat) (ps : List (Rg × Sl)), i = .int .i64 (k : Int) ∧ k ≤ l.length ∧ (ps.map (·.1)).Perm ((l.take k).filter neB) ∧ Ris ps ∧ RowsAt wr w.heap.size v ps ∧ Fr w wr
def RelSo (prev : List (Rg × Sl)) (x : Rg × Sl) (v : Value) (w : World) (i : Value) (wr : World) : Prop := ∃ pre suf : List (Rg × Sl), i = .int .i64 (pre.length : Int) ∧ pre ++ suf = prev ∧ (∀ s ∈ suf, x.1.pl < s.1.pl) ∧ RowsAt wr w.heap.size v (pre ++ x :: suf) ∧ Fr w wr
set_option maxHeartbeats 6400000 in
set_option maxRecDepth 100000 in
theorem rsorted_any (A : Option Addr) (l : List Rg) (c : Nat) (w : World) (hA : RowOf RgAt 3 w A l) (hlen : l.length ≤ 64) :
    Calls Try.prog 22 #[.slice A l.length c] w fun e w' => ∃ (A' : Option Addr) (c' : Nat) (l' : List Rg), e = .returned (.slice A' l'.length c') ∧ RowOf RgAt 3 w' A' l' ∧ l'.Perm (l.filter neB) ∧ l'.Pairwise (fun a b => a.pl ≤ b.pl) ∧ Fr w w' := by
  have HA := Lib.hid hA
  clear hA
  go_enter Try.func22, Try.ntmps22
  go_wp2
  go_loopw [3, 11] (fun v i wr => RelSq l w v i wr) (fun _ i _ => l.length - (intOf i).toNat)
  case atStart => exact ⟨0, [], rfl, by omega, by simp, List.Pairwise.nil, ⟨World.ownsRow_made _ #[] 0 (Nat.le_refl _) (by decide) rfl, fun x hx => by simp at hx, fun x hx => by simp at hx⟩, Fr.alloc (Fr.refl w) _⟩
  case round =>
    obtain ⟨k, ps, rfl, hk, hps, hris, hrows, hf⟩ := hrel
    have HF := Lib.hid hf
    have HR := Lib.hid hrows
    have HI := Lib.hid hris
    have HPS := Lib.hid hps
    have hpl : ps.length ≤ k := by
      have h1 := hps.length_eq
      have h2 := List.length_filter_le neB (l.take k)
      simp at h1 h2; omega
    by_cases hlt : k < l.length
    · obtain ⟨b, o, rfl, hx0⟩ := HA.out.at hlt
      obtain ⟨s0, hs0, d0, d1, d2⟩ := hx0
      have hsb := hs0.rd
      obtain ⟨s, hs, c0, c1, c2⟩ : RgAt wr b (o + 3 * k) l[k] := RgAt.fr ⟨s0, hs0, d0, d1, d2⟩ hf
      have hs1 : s = s0 := by
        have h1 := hf.get d2
        rw [h1] at c2; injection c2 with c2; injection c2 with e1 e2 e3
        exact Prod.ext e1.symm e3.symm
      subst hs1
      rw [Nat.mul_comm 3 k] at c0 c1 c2
      have HS := Lib.hid hs
      have HN := Lib.hid (List.take_succ_eq_append_getElem hlt)
      have zb := lt_of_cell c0
      have hki : (k : Int) < (l.length : Int) := by omega
      have hold : 0 < (l[k]).bs.length → ∀ a, s.1 = some a → a.block < w.heap.size := fun h0 a ha => by
        obtain ⟨g, o', e, hgl, _⟩ := hsb h0
        rw [ha] at e; injection e with e; subst e; exact hgl
      have HO := Lib.hid hold
      generalize l[k] = r at *
      obtain ⟨pl, pm, bs⟩ := r
      obtain ⟨sa, sc⟩ := s
      simp only at c0 c1 c2
      have hml : bs.length ≤ 9223372036854775807 := Nat.le_trans (Nat.le_trans HS.out.cap HS.out.capm) (by decide)
      clear hrows hs hf hs0 d0 d1 d2 hsb hold hps hris
      by_cases hne : 0 < bs.length
      · have hfl : (l.take (k + 1)).filter neB = (l.take k).filter neB ++ [⟨pl, pm, bs⟩] := by rw [HN.out, List.filter_append]; simp [neB, hne]
        have HFL := Lib.hid hfl
        clear hfl HN
        go_wp2_with (at_builtin; refine wpList_appendk _ rfl (.tmp 19) (.tmp 21) 23 rfl w.heap.size 49 3 Try.underlying23 Try.infoR rfl (by decide) _ ps.length (flatR ps) rfl ?_ (some ⟨wr.heap.size + 1, 0, none⟩) 1 1 (rgCells (⟨pl, pm, bs⟩, (sa, sc))) rfl ?_ ?_ ?_ ?_ ?_ ?_ ?_ ?_)
        · exact (HR.out.fr (Fr.alloc (Fr.alloc (Fr.refl wr) _) _)).own
        · rfl
        · intro _
          refine ⟨_, rfl, fun j u hj => ?_⟩
          rw [add_zero_k]
          simp only [rgCells] at hj
          match j, hj with
          | 0, hj => obtain rfl : _ = u := Option.some.inj hj; rw [World.cell?_alloc_at _ _ _ _ (by simp)]; rfl
          | 1, hj => obtain rfl : _ = u := Option.some.inj hj; rw [World.cell?_alloc_at _ _ _ _ (by simp)]; rfl
          | 2, hj => obtain rfl : _ = u := Option.some.inj hj; rw [World.cell?_alloc_at _ _ _ _ (by simp)]; rfl
        · intro u hu; simp [rgCells] at hu; rcases hu with rfl | rfl | rfl <;> rfl
        · unfold maxLen; omega
        · omega
        · have := HF.out.size; simp; omega
        intro v6 w6 HG6
        have hW := fun (o1 o2 : Obj) => Fr.alloc (Fr.alloc (Fr.refl wr) o1) o2
        have hrows6 := (HR.out.fr (hW _ _)).grow (HS.out.fr (hW _ _)) (fun h0 a ha h => by have h1 := HO.out h0 a ha; have h2 := (HR.out.base _ h).1; omega) HG6.out
        have hf6 : Fr w w6 := ((Kp.of (HF.out.call (hW _ _))).call HG6.out.kp).to fun x hx => (HR.out.base x hx).1
        obtain ⟨n1, hn1⟩ : ∃ n1, n1 = ps.length + 1 := ⟨_, rfl⟩
        have hv6 : ∃ g cap, v6 = .slice (some ⟨g, 0, none⟩) n1 cap := by
          rcases hrows6.own.2 with ⟨_, hn⟩ | ⟨g, cap, cur, hv, _⟩
          · simp at hn
          · exact ⟨g, cap, by rw [hv, hn1]; simp⟩
        obtain ⟨g, cap, rfl⟩ := hv6
        have hcapx : n1 ≤ 9223372036854775807 := by omega
        have HN1 := Lib.hid hn1
        clear hn1
        have HF6 := Lib.hid hf6
        have HR6 := Lib.hid hrows6
        clear hf6 hrows6 HG6 hW c0 c1 c2 zb hml
        go_wp2
        go_loopw [6] (fun i wr2 => RelSo ps (⟨pl, pm, bs⟩, (sa, sc)) (.slice (some ⟨g, 0, none⟩) n1 cap) w i wr2) (fun i _ => (intOf i).toNat)
        case atStart => exact ⟨ps, [], congrArg (Value.int .i64) (by have := HN1.out; omega), by simp, fun s hs => by simp at hs, HR6.out, HF6.out⟩
        case round =>
          clear HF6 HR6 HR HF
          obtain ⟨pre, suf, rfl, hpre, hsuf, hrows, hf⟩ := hrel
          have HF := Lib.hid hf
          have HR := Lib.hid hrows
          have HSU := Lib.hid hsuf
          have HPR := Lib.hid hpre
          have hplen : pre.length + suf.length = ps.length := by rw [← hpre]; simp
          clear hsuf hpre
          have hdone : (∀ y ∈ pre, y.1.pl ≤ pl) → ∃ ps' : List (Rg × Sl), (ps'.map (·.1)).Perm ((l.take (k + 1)).filter neB) ∧ Ris ps' ∧ ∀ W, Fr wr W → RowsAt W w.heap.size (.slice (some ⟨g, 0, none⟩) n1 cap) ps' := fun hy => by
            refine ⟨pre ++ (⟨pl, pm, bs⟩, (sa, sc)) :: suf, ?_, ris_ins (by rw [HPR.out]; exact HI.out) HSU.out hy, fun W hW => HR.out.fr hW⟩
            rw [HFL.out]
            have h1 : ((pre ++ (⟨pl, pm, bs⟩, (sa, sc)) :: suf).map (·.1)).Perm ((⟨pl, pm, bs⟩ : Rg) :: (ps.map (·.1))) := by
              rw [← HPR.out]
              simp only [List.map_append, List.map_cons]
              exact List.perm_middle
            exact h1.trans ((List.Perm.cons _ HPS.out).trans (List.perm_append_singleton _ _).symm)
          have HD := Lib.hid hdone
          clear hdone
          have hnext : ∀ W : World, True := fun _ => trivial
          rcases List.eq_nil_or_concat pre with rfl | ⟨pr, y, rfl⟩
          · obtain ⟨ps', q1, q2, q3⟩ := HD.out (fun y hy => by simp at hy)
            have Q1 := Lib.hid q1
            have Q2 := Lib.hid q2
            have Q3 := Lib.hid q3
            clear q1 q2 q3 HD hrows hf
            go_wp2_with fail
            refine wp_region_ext (by kernel_rfl) (by kernel_rfl) ?_
            repeat (go_big_quiet_step (fail))
            refine wpQuiet_nil ?_
            intro w4 hw4
            obtain ⟨y4, hy4⟩ := hw4
            have hb4 : Fr wr w4 := by rw [hy4]; exact y4.fr
            have HB4 := Lib.hid hb4
            clear hy4 y4 hb4
            go_wp2
            go_roundw
            case rel => exact ⟨k + 1, ps', rfl, by omega, Q1.out, Q2.out, Q3.out _ HB4.out, HF.out.call HB4.out⟩
            case measure => simp [intOf]; omega
          · rw [List.concat_eq_append] at *
            have hx : (pr ++ [y] ++ (⟨pl, pm, bs⟩, (sa, sc)) :: suf) = pr ++ y :: (⟨pl, pm, bs⟩, (sa, sc)) :: suf := by simp
            rw [hx] at hrows
            have HRX := Lib.hid hrows
            have hyi : (pr ++ y :: ((⟨pl, pm, bs⟩ : Rg), ((sa, sc) : Sl)) :: suf)[pr.length]? = some y := by simp
            have hxi : (pr ++ y :: ((⟨pl, pm, bs⟩ : Rg), ((sa, sc) : Sl)) :: suf)[pr.length + 1]? = some (⟨pl, pm, bs⟩, (sa, sc)) := by
              rw [List.getElem?_append_right (by omega)]; simp
            have y0 := hrows.cell rfl (t := 0) hyi (by omega) rfl
            have y1 := hrows.cell rfl (t := 1) hyi (by omega) rfl
            have y2 := hrows.cell rfl (t := 2) hyi (by omega) rfl
            have x0 := hrows.cell rfl (t := 0) hxi (by omega) rfl
            have x1 := hrows.cell rfl (t := 1) hxi (by omega) rfl
            have x2 := hrows.cell rfl (t := 2) hxi (by omega) rfl
            have HFZ := Lib.hid (fun (W : World) (hW : Fr wr W) (k : Nat) => RowsAt.frz (hrows.fr hW) k)
            have hpi : (pr.length : Int) + 1 < (n1 : Int) := by have := HN1.out; simp at hplen; omega
            have hpi2 : (pr.length : Int) < (n1 : Int) := by omega
            have hpl1 : (pr ++ [y]).length = pr.length + 1 := by simp
            rw [hpl1]
            have HSW := Lib.hid (fun (W : World) (hW : Fr wr W) => And.intro (RowsAt.swap (hrows.fr hW)) ((set3_kp W g (pr.length + 1) y).call (set3_kp _ g pr.length (⟨pl, pm, bs⟩, (sa, sc)))))
            have zg := lt_of_cell y0
            have hgb := (hrows.base g rfl).1
            have hlast : y.1.pl ≤ pl → ∀ z ∈ pr ++ [y], z.1.pl ≤ pl := fun h z hz => by
              have hr := HI.out
              rw [← HPR.out] at hr
              unfold Ris at hr
              rcases List.mem_append.1 hz with q | q
              · have h2 := (List.pairwise_append.1 (List.pairwise_append.1 hr).1).2.2 z q y (by simp)
                omega
              · rw [List.mem_singleton.1 q]; exact h
            have HLT := Lib.hid hlast
            have hnx : pl < y.1.pl → ∀ s ∈ y :: suf, pl < s.1.pl := fun h s hs => by
              rcases List.mem_cons.1 hs with rfl | q
              · exact h
              · exact HSU.out s q
            have HNX := Lib.hid hnx
            have HPR2 := Lib.hid (show pr ++ y :: suf = ps by rw [← HPR.out]; simp)
            clear hlast hnx hrows hf hx hyi hxi hpl1
            have hyl : ∃ yl ym yn ya yc, y.1.pl = yl ∧ y.1.pm = ym ∧ y.1.bs.length = yn ∧ y.2.1 = ya ∧ y.2.2 = yc := ⟨_, _, _, _, _, rfl, rfl, rfl, rfl, rfl⟩
            obtain ⟨yl, ym, yn, ya, yc, e1, e2, e3, e4, e5⟩ := hyl
            unfold set3 at HSW
            rw [e1, e2, e3, e4, e5] at HSW
            rw [e1] at y0 HLT HNX
            rw [e2] at y1
            rw [e3, e4, e5] at y2
            simp only [Nat.add_zero] at y0 x0 HSW
            clear e1 e2 e3 e4 e5
            have hdn := HD.out
            have HDN := Lib.hid (fun h : yl ≤ pl => HD.out (HLT.out h))
            clear hdn HD HLT hplen
            obtain ⟨p, hp⟩ : ∃ p, pr.length = p := ⟨_, rfl⟩
            rw [hp] at hpi hpi2 y0 y1 y2 x0 x1 x2 HSW ⊢
            have HP := Lib.hid hp
            clear hp
            have ay0 := fun ex : Ext wr => ex.get y0
            have ax0 := fun ex : Ext wr => ex.get x0
            by_cases hc : pl < yl
            · go_wp2_with fail
              refine wp_region_ext (by kernel_rfl) (by kernel_rfl) ?_
              repeat (go_big_quiet_step (fail))
              refine wpQuiet_nil ?_
              intro w4 hw4
              obtain ⟨y4, hy4⟩ := hw4
              have hb4 : Fr wr w4 := by rw [hy4]; exact y4.fr
              have HB4 := Lib.hid hb4
              clear hy4 y4 ay0 ax0
              have y0 := hb4.get y0
              have y1 := hb4.get y1
              have y2 := hb4.get y2
              have x0 := hb4.get x0
              have x1 := hb4.get x1
              have x2 := hb4.get x2
              have zg4 := lt_of_cell y0
              have fy0 := HFZ.out _ hb4 (p * 3)
              have fy1 := HFZ.out _ hb4 (p * 3 + 1)
              have fy2 := HFZ.out _ hb4 (p * 3 + 2)
              have fx0 := HFZ.out _ hb4 ((p + 1) * 3)
              have fx1 := HFZ.out _ hb4 ((p + 1) * 3 + 1)
              have fx2 := HFZ.out _ hb4 ((p + 1) * 3 + 2)
              clear hb4
              go_wp2
              go_roundw
              case rel =>
                have hb5 := HB4.out
                have hp := HP.out
                have hsw := HSW.out w4 hb5
                have hfr := ((Kp.of (HF.out.call hb5)).call hsw.2).to fun x hx => by subst hx; exact hgb
                refine ⟨pr, y :: suf, ?_, HPR2.out, HNX.out hc, ?_, ?_⟩
                · exact congrArg (Value.int .i64) (by rw [hp])
                · with_reducible exact hsw.1.fr (Fr.alloc (Fr.refl _) _)
                · with_reducible exact Fr.alloc hfr _
              case measure => first | (simp [intOf]; done) | (simp [intOf]; omega)
            · go_wp2_with fail
              refine wp_region_ext (by kernel_rfl) (by kernel_rfl) ?_
              repeat (go_big_quiet_step (fail))
              refine wpQuiet_nil ?_
              intro w4 hw4
              obtain ⟨y4, hy4⟩ := hw4
              have hb4 : Fr wr w4 := by rw [hy4]; exact y4.fr
              have HB4 := Lib.hid hb4
              clear hy4 y4 ay0 ax0 hb4
              obtain ⟨ps', q1, q2, q3⟩ := HDN.out (by omega)
              have Q1 := Lib.hid q1
              have Q2 := Lib.hid q2
              have Q3 := Lib.hid q3
              clear q1 q2 q3
              go_wp2
              go_roundw
              case rel => exact ⟨k + 1, ps', rfl, by omega, Q1.out, Q2.out, Q3.out _ HB4.out, HF.out.call HB4.out⟩
              case measure => simp [intOf]; omega
      · have hfl : (l.take (k + 1)).filter neB = (l.take k).filter neB := by rw [HN.out, List.filter_append]; simp [neB, hne]
        have hb0 : bs.length = 0 := by omega
        have HFL := Lib.hid hfl
        clear hfl HN hne
        go_wp2
        go_roundw
        case rel => exact ⟨k + 1, ps, rfl, by omega, by rw [HFL.out]; exact HPS.out, HI.out, HR.out.fr (Fr.alloc (Fr.refl wr) _), Fr.alloc HF.out _⟩
        case measure => simp [intOf]; omega
    · obtain rfl : k = l.length := by omega
      rw [List.take_length] at hps
      obtain ⟨A', c', hv, hrow⟩ := HR.out.rowJ rfl
      have HROW := Lib.hid hrow
      have HPS2 := Lib.hid hps
      clear hrows hf hps hrow
      subst hv
      go_wp2
      go_ret
      exact ⟨A', c', ps.map (·.1), rfl, HROW.out, HPS2.out, List.pairwise_map.2 (show ps.Pairwise (fun a b => a.1.pl ≤ b.1.pl) from HI.out), HF.out⟩
end Go.Proofs.Ytelfokoibmpdlaa
