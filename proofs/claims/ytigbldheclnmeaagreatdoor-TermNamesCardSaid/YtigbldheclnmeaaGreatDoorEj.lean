/- What the reckoner says of a call is so. -/
import Derived.Test.YtigbldheclnmeaaGreatDoorEi
namespace Go.Proofs.YtigbldheclnmeaaGreatDoor
open Go.RowKit
set_option linter.unusedSimpArgs false
set_option linter.unusedVariables false

theorem least {J : Nat → Prop} (h : ∃ m, J m) : ∃ m, J m ∧ ∀ m', m' < m → ¬ J m' := by
  obtain ⟨m, hm⟩ := h
  induction m using Nat.strongRecOn with
  | _ m ih =>
    by_cases hx : ∃ m', m' < m ∧ J m'
    · obtain ⟨m', h1, h2⟩ := hx; exact ih m' h1 h2
    · exact ⟨m, hm, fun m' h1 h2 => hx ⟨m', h1, h2⟩⟩
/-- A loop whose rounds are counted. -/
theorem wp_loop_n {P : Program} {c : Code} {Q : Exit → Act → World → Prop} {a : Act} {w : World} {J : Nat → Act → World → Prop} {n : Nat} (h0 : J n a w)
    (round : ∀ m a w, J m a w → c.wp P (Exit.then (fun a' w' => ∃ m', m' < m ∧ J m' a' w') Q) a w) : (Code.loop c).wp P Q a w := by
  classical
  refine wp_loop (fun a w => ∃ m, J m a w) (fun a w => if h : ∃ m, J m a w then Classical.choose (least h) else 0) ⟨n, h0⟩ fun a w hI => ?_
  have hl := Classical.choose_spec (least hI)
  refine wp_mono (round _ a w hl.1) fun e a' w' q => ?_
  cases e with
  | normal =>
    obtain ⟨m', h1, h2⟩ := q
    refine ⟨⟨m', h2⟩, ?_⟩
    rw [dif_pos ⟨m', h2⟩, dif_pos hI]
    have h3 := Classical.choose_spec (least (J := fun m => J m a' w') ⟨m', h2⟩)
    rcases Nat.lt_or_ge m' (Classical.choose (least (J := fun m => J m a' w') ⟨m', h2⟩)) with h4 | h4
    · exact absurd h2 (h3.2 m' h4)
    · omega
  | _ => exact q
theorem runA_ok {P : Program} {ext : CallF} (hm : P.follows .mixedOrders = true) (hext : CallOK P ext) (n : Nat) : RunOK P (runA P ext n) := by
  induction n using Nat.strongRecOn with
  | _ n ih =>
    cases n with
    | zero => intro L c T H out T' H' p w a he; cases he
    | succ n =>
      have hr := ih n (Nat.lt_succ_self n)
      have hcall := alt_ok hext (callA_ok hr)
      intro L c T H out T' H' p w a he h hT
      have hd : runA P ext (n + 1) L c T H = codeA P ext (runA P ext n) L c T H := rfl
      cases c with
      | skip =>
        injection he with he; injection he with e1 e2; injection e2 with e2 e3; subst e1 e2 e3
        exact wp_skip ⟨rfl, p, Stp.refl h, hT, rfl⟩
      | label l =>
        injection he with he; injection he with e1 e2; injection e2 with e2 e3; subst e1 e2 e3
        exact wp_label ⟨rfl, p, Stp.refl h, hT, rfl⟩
      | exit id =>
        injection he with he; injection he with e1 e2; injection e2 with e2 e3; subst e1 e2 e3
        exact wp_exit ⟨rfl, p, Stp.refl h, hT, rfl⟩
      | ret =>
        injection he with he; injection he with e1 e2; injection e2 with e2 e3; subst e1 e2 e3
        exact wp_ret ⟨rfl, p, Stp.refl h, hT, rfl⟩
      | region id ops draw =>
        rw [hd] at he
        simp only [codeA] at he
        split at he
        · rename_i T1 H1 hq
          injection he with he; injection he with e1 e2; injection e2 with e2 e3; subst e1 e2 e3
          cases draw with
          | true =>
            rw [if_pos rfl] at hq
            refine wp_mono (drawA_ok hm hcall hq h hT) fun e a1 w1 hh => ?_
            cases e with
            | normal => obtain ⟨p1, h1, h2, h3⟩ := hh; exact ⟨rfl, p1, h1, h2, h3⟩
            | _ => exact hh.elim
          | false =>
            rw [if_neg (by simp)] at hq
            exact wp_region_list (opsA_ok hcall hq h hT fun p1 a1 w1 h1 h2 h3 => ⟨rfl, p1, h1, h2, h3⟩)
        · cases he
      | seq x y =>
        rw [hd] at he
        simp only [codeA] at he
        split at he
        · rename_i T1 H1 hq
          refine wp_seq (wp_mono (hr _ _ _ _ _ _ _ _ _ _ hq h hT) fun e a1 w1 hh => ?_)
          obtain ⟨h1, p1, h2, h3, h4⟩ := hh
          obtain rfl : e = .normal := h1
          exact wp_mono (hr _ _ _ _ _ _ _ _ _ _ he h2.rel h3) fun e a2 w2 hh => Post.step h2 h4 hh
        · rename_i r hne
          refine wp_seq (wp_mono (hr _ _ _ _ _ _ _ _ _ _ he h hT) fun e a1 w1 hh => ?_)
          cases e with
          | normal =>
            exfalso
            cases out with
            | normal => exact hne T' H' he
            | exit id => cases hh.1
            | ret => cases hh.1
          | _ => exact hh
      | cond b x y =>
        rw [hd] at he
        simp only [codeA] at he
        split at he
        · rename_i hb
          exact wp_cond_true (ev_sc hT hb rfl) (hr _ _ _ _ _ _ _ _ _ _ he h hT)
        · rename_i hb
          exact wp_cond_false (ev_sc hT hb rfl) (hr _ _ _ _ _ _ _ _ _ _ he h hT)
        · cases he
      | block id x =>
        rw [hd] at he
        simp only [codeA] at he
        split at he
        · rename_i id' T1 H1 hq
          refine wp_block (wp_mono (hr _ _ _ _ _ _ _ _ _ _ hq h hT) fun e a1 w1 hh => ?_)
          obtain ⟨h1, p1, h2, h3, h4⟩ := hh
          obtain rfl : e = .exit id' := h1
          simp only [Exit.inBlock]
          split at he
          · rename_i hid
            rw [if_pos hid]
            injection he with he; injection he with e1 e2; injection e2 with e2 e3; subst e1 e2 e3
            exact ⟨rfl, p1, h2, h3, h4⟩
          · rename_i hid
            rw [if_neg hid]
            injection he with he; injection he with e1 e2; injection e2 with e2 e3; subst e1 e2 e3
            exact ⟨rfl, p1, h2, h3, h4⟩
        · rename_i r hne
          refine wp_block (wp_mono (hr _ _ _ _ _ _ _ _ _ _ he h hT) fun e a1 w1 hh => ?_)
          cases e with
          | exit id' =>
            exfalso
            cases out with
            | exit id2 => exact hne id2 T' H' he
            | normal => cases hh.1
            | ret => cases hh.1
          | _ => exact hh
      | loop x =>
        refine wp_loop_n (J := fun m a1 w1 => m ≤ n + 1 ∧ ∃ T1 H1 p1, runA P ext m L (.loop x) T1 H1 = some (out, T', H') ∧ Stp L p H w p1 H1 w1 ∧ TR H1.al p1 T1 a1.tmps ∧ a1.defers = a.defers)
          (n := n + 1) ⟨Nat.le_refl _, T, H, p, he, Stp.refl h, hT, rfl⟩ fun m a1 w1 ⟨hmn, T1, H1, p1, k1, k2, k3, k4⟩ => ?_
        cases m with
        | zero => cases k1
        | succ m =>
          have hdm : runA P ext (m + 1) L (.loop x) T1 H1 = codeA P ext (runA P ext m) L (.loop x) T1 H1 := rfl
          rw [hdm] at k1
          simp only [codeA] at k1
          have hrm := ih m (by omega)
          split at k1
          · rename_i T2 H2 hq
            refine wp_mono (hrm _ _ _ _ _ _ _ _ _ _ hq k2.rel k3) fun e a2 w2 hh => ?_
            obtain ⟨h1, p2, h2, h3, h4⟩ := hh
            obtain rfl : e = .normal := h1
            exact ⟨m, Nat.lt_succ_self m, by omega, T2, H2, p2, k1, k2.trans h2, h3, h4.trans k4⟩
          · rename_i r hne
            refine wp_mono (hrm _ _ _ _ _ _ _ _ _ _ k1 k2.rel k3) fun e a2 w2 hh => ?_
            have hp := Post.step k2 k4 hh
            cases e with
            | normal =>
              exfalso
              cases out with
              | normal => exact hne T' H' k1
              | exit id => cases hh.1
              | ret => cases hh.1
            | _ => exact hp
      | rangeFunc f params assign body => cases he
      | scope b => cases he
      | goto l => cases he
      | refuse why => cases he
/-- A call that the reckoner reckons, in whatever world that holds what its heap says. -/
theorem calls_of_run {P : Program} {ext : CallF} (hm : P.follows .mixedOrders = true) (hext : CallOK P ext) (n : Nat) {L : Lim} {f : FuncId} {vs : List Value} {H H' : Hp} {v : Value} {p : Nat → Pla} {w : World} {args : Array Value}
    (he : callA P (runA P ext n) L f vs H = some (v, H')) (h : Rel p H w) (hv : VL H.al p vs args.toList) :
    Calls P f args w (fun e w' => ∃ v' p', e = .returned v' ∧ Stp L p H w p' H' w' ∧ VR H'.al p' v v') :=
  callA_ok (runA_ok hm hext n) L f vs H v H' p w args he h hv
theorem Rel.empty (p : Nat → Pla) (w : World) : Rel p ⟨0, []⟩ w := by
  have hg : ∀ i b, (⟨0, []⟩ : Hp).get i = some b → False := fun i b h => by unfold Hp.get Hp.ent at h; simp at h
  exact ⟨rfl, fun i b h => (hg i b h).elim, fun i b h => (hg i b h).elim, fun i b h => (hg i b h).elim, fun i b h => (hg i b h).elim, fun i j b c h => (hg i b h).elim⟩
end Go.Proofs.YtigbldheclnmeaaGreatDoor
