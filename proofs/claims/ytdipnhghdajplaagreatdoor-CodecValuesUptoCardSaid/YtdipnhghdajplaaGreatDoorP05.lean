/- The reckoner's regions that draw their order: what only reads is taken first; of the rest one at a time may come up. The reckoner's functions. -/
import Derived.Test.YtdipnhghdajplaaGreatDoorP04
namespace Go.Proofs.YtdipnhghdajplaaGreatDoor
open Go.RowKit
set_option linter.unusedSimpArgs false
set_option linter.unusedVariables false

/-- May it be taken first? -/
def takeK (o : Oper) : Bool :=
  match o.op with
  | .move _ | .assign _ | .pick .. | .binOp .. | .unOp .. | .convert .. | .extract .. | .field .. | .fieldAddr .. | .index .. | .indexAddr .. | .slice .. | .build .. | .nilCheck _ | .load .. => true
  | .call { callee := .builtin .len, .. } => true
  | .call { callee := .builtin .min, .. } => true
  | .call { callee := .builtin .max, .. } => true
  | _ => false
/-- In what order a region goes: one is taken first; one comes up; one of two or of three comes up. -/
inductive Pl where
  | done
  | take (i : Nat) (r : Pl)
  | one (i : Nat) (r : Pl)
  | two (i j : Nat) (ri rj : Pl)
  | three (i j k : Nat) (ri rj rk : Pl)
def planA (ops : Array Oper) : Nat → Array Bool → Pl
  | 0, _ => .done
  | n + 1, listed =>
    match (Region.ready .any ops listed).find? (fun i => (ops[i]?).any takeK && Region.free .any ops listed i) with
    | some i => .take i (planA ops n (listed.setIfInBounds i true))
    | none => match Region.ready .any ops listed with
      | [] => .done
      | [i, j] => .two i j (planA ops n (listed.setIfInBounds i true)) (planA ops n (listed.setIfInBounds j true))
      | [i, j, k] => .three i j k (planA ops n (listed.setIfInBounds i true)) (planA ops n (listed.setIfInBounds j true)) (planA ops n (listed.setIfInBounds k true))
      | i :: _ => .one i (planA ops n (listed.setIfInBounds i true))
def planOk (ops : Array Oper) : Pl → Nat → Array Bool → Bool
  | .done, 0, listed => (Region.ready .any ops listed).isEmpty
  | .take i r, n + 1, listed => (Region.ready .any ops listed).contains i && Region.free .any ops listed i && planOk ops r n (listed.setIfInBounds i true)
  | .one i r, n + 1, listed => Region.ready .any ops listed == [i] && planOk ops r n (listed.setIfInBounds i true)
  | .two i j ri rj, n + 1, listed => Region.ready .any ops listed == [i, j] && planOk ops ri n (listed.setIfInBounds i true) && planOk ops rj n (listed.setIfInBounds j true)
  | .three i j k ri rj rk, n + 1, listed => Region.ready .any ops listed == [i, j, k] && planOk ops ri n (listed.setIfInBounds i true) && planOk ops rj n (listed.setIfInBounds j true) && planOk ops rk n (listed.setIfInBounds k true)
  | _, _, _ => false
def Pl.forks : Pl → Bool
  | .done => false
  | .take _ r => r.forks
  | .one _ r => r.forks
  | .two .. => true
  | .three .. => true
/-- What an operation waits for, some steps far. -/
def anc (ops : Array Oper) : Nat → Nat → List Nat
  | 0, _ => []
  | n + 1, j => match ops[j]? with
    | some oj => oj.after.toList.flatMap fun e => if Region.binds .any e then e.on :: anc ops n e.on else []
    | none => []
/-- Must an operation leave alone what is loaded? (It need not, if it waits for every load.) -/
def early (ops : Array Oper) (j : Nat) : Bool :=
  match ops[j]? with
  | some oj => !((List.range ops.size).all fun i => match ops[i]? with
    | some oi => match oi.op with
      | .load .. => (oj.after.any fun e => Region.binds .any e && e.on == i) || (anc ops 4 j).contains i
      | _ => true
    | none => true)
  | none => true
/-- j waits for i. -/
inductive Waits (ops : Array Oper) (i : Nat) : Nat → Prop
  | one {j : Nat} {oj : Oper} (hj : ops[j]? = some oj) {e : Edge} (he : e ∈ oj.after) (hb : Region.binds .any e = true) (h : e.on = i) : Waits ops i j
  | far {j : Nat} {oj : Oper} (hj : ops[j]? = some oj) {e : Edge} (he : e ∈ oj.after) (hb : Region.binds .any e = true) (h : Waits ops i e.on) : Waits ops i j
theorem anc_waits {ops : Array Oper} {i : Nat} : ∀ {n j : Nat}, i ∈ anc ops n j → Waits ops i j
  | 0, j, h => by simp [anc] at h
  | n + 1, j, h => by
    simp only [anc] at h
    split at h
    · rename_i oj hj
      obtain ⟨e, he, hi⟩ := List.mem_flatMap.1 h
      have he := Array.mem_toList_iff.1 he
      split at hi
      · rename_i hb
        rcases List.mem_cons.1 hi with h1 | h1
        · exact .one hj he hb h1.symm
        · exact .far hj he hb (anc_waits h1)
      · cases hi
    · cases h
/-- What is behind, all that it waits for is behind. -/
def Closed (ops : Array Oper) (l : Array Bool) : Prop := ∀ k ok, ops[k]? = some ok → l.getD k false = true → ∀ e ∈ ok.after, Region.binds .any e = true → l.getD e.on false = true
theorem Closed.set {ops : Array Oper} {l : Array Bool} {j : Nat} (h : Closed ops l) (hj : j ∈ Region.ready .any ops l) : Closed ops (l.setIfInBounds j true) := by
  obtain ⟨h0, oj, hoj, hall⟩ := mem_ready.1 hj
  intro k ok hk hl e he hb
  by_cases hjk : j = k
  · subst hjk
    rw [hoj] at hk; injection hk with hk; subst hk
    exact getD_set_true (hall e he hb)
  · rw [getD_set_ne false hjk] at hl
    exact getD_set_true (h k ok hk hl e he hb)
theorem Closed.start {ops : Array Oper} {n : Nat} : Closed ops (Array.replicate n false) := by
  intro k ok hk hl
  exfalso
  rw [Array.getD_eq_getD_getElem?] at hl
  by_cases h : k < n
  · simp [h] at hl
  · simp [h] at hl
theorem Waits.back {ops : Array Oper} {l : Array Bool} {i j : Nat} (hc : Closed ops l) (h : Waits ops i j) : l.getD j false = true → l.getD i false = true := by
  induction h with
  | one hj he hb h => intro hl; have := hc _ _ hj hl _ he hb; rwa [h] at this
  | far hj he hb _ ih => intro hl; exact ih (hc _ _ hj hl _ he hb)
theorem Waits.not_ready {ops : Array Oper} {l : Array Bool} {i j : Nat} (hc : Closed ops l) (hi : i ∈ Region.ready .any ops l) (h : Waits ops i j) (hj : j ∈ Region.ready .any ops l) : False := by
  have key : l.getD i false = true := by
    obtain ⟨_, oj, hoj, hall⟩ := mem_ready.1 hj
    cases h with
    | one hj2 he hb h => rw [hj2] at hoj; injection hoj with hoj; subst hoj; have := hall _ he hb; rwa [h] at this
    | far hj2 he hb h => rw [hj2] at hoj; injection hoj with hoj; subst hoj; exact h.back hc (hall _ he hb)
  have g0 := (mem_ready.1 hi).1
  by_cases hil : i < l.size
  · simp [hil] at g0 key; rw [g0] at key; cases key
  · simp [Array.getElem?_eq_none (Nat.le_of_not_lt hil)] at key
/-- The plan of a region, if it has one. -/
def planOf (ops : Array Oper) : Option Pl :=
  let pl := planA ops ops.size (Array.replicate ops.size false)
  if planOk ops pl ops.size (Array.replicate ops.size false) ∧ Region.noSelect ops then some pl else none
/-- What an operation yields that is taken first; H0: the heap ahead of the region. -/
def takeV (P : Program) (L : Lim) (m : Bool) (H0 H : Hp) (T : List Value) (ops : Array Oper) (o : Oper) : Option Value :=
  if Region.wanted o (yielded ops T.toArray) then
    match pureA P H (ev T) o with
    | some v => some v
    | none => match o.op with
      | .load t x => match loadA P H (ev T) t x with
        | some (b, v) => match H0.get b with
          | some blk => if !m || (blk.own && L.ok b) then none else some v
          | none => none
        | none => none
      | _ => none
  else some undef
open Classical in
/-- L1: what may be written while loads may come up; L: what may be written at last; m: loads may come up yet. -/
noncomputable def followA (P : Program) (call : CallF) (L L1 : Lim) (ops : Array Oper) (base : Option Nat) (H0 : Hp) : Bool → Pl → List Value → Hp → Option (List Value × Hp)
  | _, .done, T, H => some (T, H)
  | m, .take i r, T, H => match ops[i]? with
    | some o => match takeV P L1 m H0 H T ops o with
      | some v => followA P call L L1 ops base H0 m r (putT T o.dst v) H
      | none => none
    | none => none
  | m, .one i r, T, H => match ops[i]? with
    | some o => match m && early ops i, early ops i with
      | true, _ => match stepA P call L1 ops (base.map (· + i)) o T H with
        | some (T', H') => followA P call L L1 ops base H0 true r T' H'
        | none => none
      | false, false => match stepA P call L ops (base.map (· + i)) o T H with
        | some (T', H') => followA P call L L1 ops base H0 false r T' H'
        | none => none
      | false, true => none
    | none => none
  | m, .two i j ri rj, T, H => match ops[i]?, ops[j]? with
    | some oi, some oj => match m with
      | true => match stepA P call L1 ops (base.map (· + i)) oi T H, stepA P call L1 ops (base.map (· + j)) oj T H with
        | some (T1, H1), some (T2, H2) => match followA P call L L1 ops base H0 true ri T1 H1, followA P call L L1 ops base H0 true rj T2 H2 with
          | some s1, some s2 => if s1 = s2 then some s1 else none
          | _, _ => none
        | _, _ => none
      | false => none
    | _, _ => none
  | m, .three i j k ri rj rk, T, H => match ops[i]?, ops[j]?, ops[k]? with
    | some oi, some oj, some ok => match m with
      | true => match stepA P call L1 ops (base.map (· + i)) oi T H, stepA P call L1 ops (base.map (· + j)) oj T H, stepA P call L1 ops (base.map (· + k)) ok T H with
        | some (T1, H1), some (T2, H2), some (T3, H3) => match followA P call L L1 ops base H0 true ri T1 H1, followA P call L L1 ops base H0 true rj T2 H2, followA P call L L1 ops base H0 true rk T3 H3 with
          | some s1, some s2, some s3 => if s1 = s2 ∧ s1 = s3 then some s1 else none
          | _, _, _ => none
        | _, _, _ => none
      | false => none
    | _, _, _ => none
/-- The blocks that a region loads, by a first look at it (a guess: what it is makes no difference to what is so). -/
def guessT (P : Program) (H : Hp) (T : List Value) : List Oper → List Value
  | [] => T
  | o :: r => match pureA P H (ev T) o with
    | some v => guessT P H (putT T o.dst v) r
    | none => match o.op with
      | .load t x => match loadA P H (ev T) t x with
        | some (_, v) => guessT P H (putT T o.dst v) r
        | none => guessT P H T r
      | _ => guessT P H T r
def blkOf : Option Value → List Nat
  | some (.pointer (some a)) => [a.block]
  | _ => []
def slcOf : Option Value → List Nat
  | some (.slice (some a) _ _) => [a.block]
  | _ => []
def guessW (T : List Value) (ops : Array Oper) : Nat → List Oper → List Nat
  | _, [] => []
  | n, o :: r => (match o.op with
    | .load _ x => blkOf (ev T x)
    | _ => []) ++ guessW T ops (n + 1) r
/-- Places are kept for new blocks. -/
def Hp.keep (H : Hp) : Nat → Hp
  | 0 => H
  | n + 1 => (H.push .fresh).keep n
noncomputable def drawA (P : Program) (call : CallF) (L : Lim) (ops : Array Oper) (T : List Value) (H : Hp) : Option (List Value × Hp) :=
  match planOf ops with
  | some pl => if pl.forks then followA P call L ((H.n, guessW (guessT P H T ops.toList) ops 0 ops.toList) :: L) ops (some H.n) (H.keep ops.size) true pl T (H.keep ops.size)
    else followA P call L ((H.n, guessW (guessT P H T ops.toList) ops 0 ops.toList) :: L) ops none H true pl T H
  | none => none
/-- A post that is said of the normal way out alone. -/
def Qn (R : Act → World → Prop) : Exit → Act → World → Prop
  | .normal, a, w => R a w
  | _, _, _ => False
section
variable {P : Program} {call : CallF} {p p' p0 : Nat → Pla} {H H' H0 : Hp} {w w' w0 : World} {T T' : List Value} {a : Act} {v : Value} {L : Lim} {ops : Array Oper} {o : Oper} {x : Nat × List Nat}
theorem Rel.drew (h : Rel p H w) : Rel p H { w with drawn := w.drawn + 1 } := ⟨h.len, h.cell, h.own, h.esz, h.lt, h.apart⟩
theorem Stp.less (h : Stp (x :: L) p H { w with drawn := w.drawn + 1 } p' H' w') : Stp L p H w p' H' w' := by
  have hl : ∀ i, Lim.ok (x :: L) i = true → L.ok i = true := fun i hi => by
    unfold Lim.ok at hi ⊢
    simp only [List.all_cons, Bool.and_eq_true] at hi
    exact hi.2
  refine ⟨h.same, h.rel, h.os, h.tape, h.output, h.size, fun b hb hn => h.frame b hb fun i ⟨c, h1, h2, h3⟩ => hn i ⟨c, h1, h2, hl i h3⟩, fun j c hc ho => ?_⟩
  rcases h.mine j c hc ho with h1 | ⟨i, h1, h2, h3⟩
  · exact .inl h1
  · refine .inr ⟨i, ?_, h2, h3⟩
    rcases h1 with rfl | h1
    · exact .inl rfl
    · exact .inr (hl i h1)
theorem Hp.keep_ent (H : Hp) (n : Nat) : (∀ j, (H.keep n).ent j = H.ent j) ∧ (H.l.length = H.n → (H.keep n).l.length = (H.keep n).n) := by
  induction n generalizing H with
  | zero => exact ⟨fun j => rfl, id⟩
  | succ n ih =>
    obtain ⟨h1, h2⟩ := ih (H.push .fresh)
    refine ⟨fun j => ?_, fun h => h2 (by simp [Hp.push, h])⟩
    show ((H.push .fresh).keep n).ent j = H.ent j
    rw [h1, Hp.ent_push]
    by_cases hj : j = H.n
    · subst hj; rw [if_pos rfl]; unfold Hp.ent; rw [if_neg (by omega)]
    · rw [if_neg hj]
theorem Rel.keep (h : Rel p H w) (n : Nat) : Rel p (H.keep n) w := by
  obtain ⟨h1, h2⟩ := Hp.keep_ent H n
  have hg : ∀ j, (H.keep n).get j = H.get j := fun j => by unfold Hp.get; rw [h1]
  have ha : (H.keep n).al = H.al := by funext j; unfold Hp.al; rw [h1]
  refine ⟨h2 h.len, ?_, ?_, ?_, ?_, ?_⟩
  · intro i b hb; rw [ha]; exact h.cell i b (by rw [← hg]; exact hb)
  · intro i b hb; exact h.own i b (by rw [← hg]; exact hb)
  · intro i b hb; exact h.esz i b (by rw [← hg]; exact hb)
  · intro i b hb; exact h.lt i b (by rw [← hg]; exact hb)
  · intro i j b c hb hc; exact h.apart i j b c (by rw [← hg]; exact hb) (by rw [← hg]; exact hc)
theorem Stp.keep (h : Rel p H w) (n : Nat) : Stp L p H w p (H.keep n) w := by
  obtain ⟨h1, h2⟩ := Hp.keep_ent H n
  have hg : ∀ j, (H.keep n).get j = H.get j := fun j => by unfold Hp.get; rw [h1]
  exact ⟨fun b hb => ⟨by unfold Hp.al; rw [h1]; exact hb, rfl⟩, h.keep n, rfl, rfl, rfl, Nat.le_refl _, fun _ _ _ => rfl, fun j c hc ho => .inr ⟨j, .inl rfl, ⟨c, by rw [← hg]; exact hc, ho⟩, rfl⟩⟩
/-- What no operation of the region writes is as it was. -/
def Still (L : Lim) (p : Nat → Pla) (H : Hp) (w : World) (w2 : World) : Prop := ∀ b, b < w.heap.size → (∀ i, Wr1 L H i → (p i).blk ≠ b) → w2.heap[b]? = w.heap[b]?
/-- Whatever order is picked from here on; behind those operations that K names, S holds. -/
def wpAnyK (P : Program) (ops : Array Oper) (Q : Exit → Act → World → Prop) (S : World → Prop) (K : Nat → Bool) : Nat → Array Bool → Act → World → Prop
  | 0, l, a, w => Region.ready .any ops l = [] ∧ Q .normal a w
  | n + 1, l, a, w => (Region.ready .any ops l = [] → Q .normal a w) ∧ ∀ i ∈ Region.ready .any ops l, wpOp P ops Q i (fun a' w' => (K i = true → S w → S w') ∧ wpAnyK P ops Q S K n (l.setIfInBounds i true) a' w') a w
section
variable {Q : Exit → Act → World → Prop} {S S' : World → Prop} {K : Nat → Bool}
theorem wpAny_of_K : ∀ (n : Nat) (l : Array Bool) (a : Act) (w : World), wpAnyK P ops Q S K n l a w → wpAny P .any ops Q n l a w
  | 0, _, _, _, h => h
  | n + 1, _, _, _, h => ⟨h.1, fun i hi => wpOp_mono (fun a' w' k => wpAny_of_K n _ a' w' k.2) (h.2 i hi)⟩
theorem wpAnyK_end {l : Array Bool} (hr : Region.ready .any ops l = []) (h : Q .normal a w) : ∀ (n : Nat), wpAnyK P ops Q S K n l a w
  | 0 => And.intro hr h
  | n + 1 => And.intro (fun _ => h) (fun i hi => by rw [hr] at hi; cases hi)
/-- What yields in every world that meets S' may be taken first, if all that may come ahead of it leaves S'. -/
theorem wpAnyK_first {i : Nat} {oi : Oper} (hi : ops[i]? = some oi) (hsel : Region.noSelect ops = true) (hQ : ∀ c a w, Q (.panic c) (a.put oi.dst v) w → Q (.panic c) a w)
    (hK : ∀ j oj, ops[j]? = some oj → (∀ w w', S' w → (K j = true → S w → S w') → S' w') ∨ Waits ops i j) (n : Nat) :
    ∀ (l : Array Bool) (a : Act) (w : World), Closed ops l → (∀ j oj, ops[j]? = some oj → j ≠ i → l.getD j true = false → (∀ e ∈ oj.after, Region.binds .any e = true → e.on ≠ i) → oi.apart ops oj = true) →
      i ∈ Region.ready .any ops l → YieldsIf P ops S' oi v a → S' w → wpAnyK P ops Q S K n (l.setIfInBounds i true) (a.put oi.dst v) w → wpAnyK P ops Q S K (n + 1) l a w := by
  have none_sel := Region.noSelect_spec hsel
  induction n with
  | zero =>
    intro l a w _ _ hr hy hS H
    refine ⟨fun h => (by rw [h] at hr; cases hr), fun j hj => ?_⟩
    rcases Nat.decEq j i with hji | hji
    · have := ready_mono hj hji
      rw [H.1] at this
      cases this
    · rw [hji]; exact hy.wpOp hi hS ⟨fun _ h => h, H⟩
  | succ n ih =>
    intro l a w hcl hf hr hy hS H
    refine ⟨fun h => (by rw [h] at hr; cases hr), fun j hj => ?_⟩
    rcases Nat.decEq j i with hji | hji
    · obtain ⟨hju, oj, hoj, hall⟩ := mem_ready.1 hj
      have hno : ∀ e ∈ oj.after, Region.binds .any e = true → e.on ≠ i := fun e he hb heq => by
        have g1 := hall e he hb
        have g0 := (mem_ready.1 hr).1
        rw [heq] at g1
        by_cases hil : i < l.size
        · simp [hil] at g0 g1; rw [g0] at g1; cases g1
        · simp [Array.getElem?_eq_none (Nat.le_of_not_lt hil)] at g1
      have g2 := wpOp_putIf hoj (hf j oj hoj hji hju hno) (fun cs b => none_sel i oi cs b hi) (fun cs b => none_sel j oj cs b hoj) hQ hy (H.2 j (ready_mono hj hji))
      refine wpOp_mono (fun a' w' g3 => ?_) g2
      have g4 : S' w' := by
        rcases hK j oj hoj with g5 | hwt
        · exact g5 w w' hS g3.2.1
        · exact (hwt.not_ready hcl hr hj).elim
      refine ⟨g3.2.1, ih (l.setIfInBounds j true) a' w' (hcl.set hj) (fun k ok hk hki hun hnk => hf k ok hk hki ?_ hnk) (ready_mono hr (Ne.symm hji)) g3.1 g4 (by rw [Array.setIfInBounds_comm _ _ hji]; exact g3.2.2)⟩
      by_cases hjk : j = k
      · rw [← hjk]; exact hju
      · rw [getD_set_ne true hjk] at hun; exact hun
    · rw [hji]; exact hy.wpOp hi hS ⟨fun _ h => h, H⟩
end
/-- What is taken first yields in whatever world, or, a load, in every world that leaves alone what is loaded. -/
theorem takeV_ok {m : Bool} (h0 : Rel p0 H0 w0) (hr : Rel p H w) (h : m = true → Stp L p0 H0 w0 p H w) (hT : TR H.al p T a.tmps) (he : takeV P L m H0 H T ops o = some v) :
    ∃ v', VR H.al p v v' ∧ (YieldsIf P ops (fun _ => True) o v' a ∨ (m = true ∧ (∃ t x, o.op = .load t x) ∧ YieldsIf P ops (Still L p0 H0 w0) o v' a)) := by
  unfold takeV at he
  rw [wanted_ok hT] at he
  split at he
  · rename_i hw
    cases hp : pureA P H (ev T) o with
    | some u =>
      rw [hp] at he; injection he with he; subst he
      obtain ⟨v', h1, h2⟩ := pureA_ok (a := a) hr hT hp
      exact ⟨v', h1, .inl (.inl ⟨hw, fun w2 _ => h2 w2⟩)⟩
    | none =>
      rw [hp] at he
      simp only at he
      split at he
      · rename_i t x ho
        split at he
        · rename_i b u hl
          split at he
          · rename_i blk hg
            split at he
            · cases he
            · rename_i hown
              simp only [Bool.or_eq_true, Bool.not_eq_true', not_or, Bool.not_eq_false] at hown
              injection he with he; subst he
              have hm := hown.1
              have h := h hm
              obtain ⟨_, v', h1, h2⟩ := loadA_ok (a := a) hr hT hl
              have hp0 : p b = p0 b := (h.same b (Hp.al_of_get hg)).2
              have hq : ∀ i, Wr1 L H0 i → (p0 i).blk ≠ (p0 b).blk := fun i ⟨c, g1, g2, g3⟩ e => by
                have := h0.apart i b c blk g1 hg g2 e
                subst this
                rw [hg] at g1; injection g1 with g1; subst g1
                exact hown.2 (by simp [g2, g3])
              have hS := h.frame _ (h0.lt b blk hg) hq
              refine ⟨v', h1, .inr ⟨hm, ⟨t, x, ho⟩, .inl ⟨hw, fun w2 hw2 => ?_⟩⟩⟩
              have e2 := hw2 _ (h0.lt b blk hg) hq
              unfold execOp; simp only [ho]
              rw [Sem.run_bind, h2 w2 (fun off => by unfold World.cell?; simp only [hp0, e2, hS])]
              rfl
          · cases he
        · cases he
      · cases he
  · rename_i hw
    injection he with he; subst he
    exact ⟨undef, VR.undef, .inl (.inr ⟨by simpa using hw, rfl⟩)⟩
theorem early_load {i j : Nat} {oi oj : Oper} (hi : ops[i]? = some oi) (hj : ops[j]? = some oj) (hl : ∃ t x, oi.op = .load t x) (he : early ops j = false) : Waits ops i j := by
  unfold early at he
  rw [hj] at he
  simp only [Bool.not_eq_false', List.all_eq_true, List.mem_range] at he
  have h1 := he i (by
    rcases Nat.lt_or_ge i ops.size with h | h
    · exact h
    · rw [Array.getElem?_eq_none h] at hi; cases hi)
  obtain ⟨t, x, ho⟩ := hl
  simp only [hi, ho, Bool.or_eq_true, Array.any_eq_true, List.contains_iff_mem] at h1
  rcases h1 with ⟨k, hk, h2⟩ | h1
  · simp only [Bool.and_eq_true, beq_iff_eq] at h2
    exact .one hj (Array.getElem_mem hk) h2.1 h2.2
  · exact anc_waits h1
theorem wpAnyK_all {Q : Exit → Act → World → Prop} {S : World → Prop} {K : Nat → Bool} {n : Nat} {l : Array Bool} {rs : List Nat} (hr : Region.ready .any ops l = rs) (hne : rs ≠ [])
    (h : ∀ i ∈ rs, wpOp P ops Q i (fun a' w' => (K i = true → S w → S w') ∧ wpAnyK P ops Q S K n (l.setIfInBounds i true) a' w') a w) : wpAnyK P ops Q S K (n + 1) l a w :=
  ⟨fun h0 => absurd (hr ▸ h0) hne, hr ▸ h⟩
theorem followA_ok {L1 : Lim} (hcall : CallOK P call) (hsel : Region.noSelect ops = true) (h0 : Rel p0 H0 w0) (hlim : ∀ {p' : Nat → Pla} {H' : Hp} {w' : World}, Stp L1 p0 H0 w0 p' H' w' → Stp L p0 H0 w0 p' H' w') {d : List Deferred} {base : Option Nat} {R : Act → World → Prop} : ∀ {pl : Pl} {m : Bool} {n : Nat} {listed : Array Bool} {T : List Value} {H : Hp} {p : Nat → Pla} {a : Act} {w : World},
    planOk ops pl n listed = true → Closed ops listed → followA P call L L1 ops base H0 m pl T H = some (T', H') → Stp L p0 H0 w0 p H w → (m = true → Stp L1 p0 H0 w0 p H w) → TR H.al p T a.tmps → a.defers = d →
    (∀ p' a' w', Stp L p0 H0 w0 p' H' w' → TR H'.al p' T' a'.tmps → a'.defers = d → R a' w') →
    wpAnyK P ops (Qn R) (Still L1 p0 H0 w0) (early ops) n listed a w
  | .done, m, 0, listed, T, H, p, a, w, hpl, hcl, he, h, h1, hT, hd, hR => by
    simp only [followA, Option.some.injEq, Prod.mk.injEq] at he
    obtain ⟨rfl, rfl⟩ := he
    exact wpAnyK_end (by simpa [planOk] using hpl) (hR p a w h hT hd) _
  | .done, m, n + 1, listed, T, H, p, a, w, hpl, hcl, he, h, h1, hT, hd, hR => by simp [planOk] at hpl
  | .take i r, m, 0, listed, T, H, p, a, w, hpl, hcl, he, h, h1, hT, hd, hR => by simp [planOk] at hpl
  | .one i r, m, 0, listed, T, H, p, a, w, hpl, hcl, he, h, h1, hT, hd, hR => by simp [planOk] at hpl
  | .two i j ri rj, m, 0, listed, T, H, p, a, w, hpl, hcl, he, h, h1, hT, hd, hR => by simp [planOk] at hpl
  | .three i j k ri rj rk, m, 0, listed, T, H, p, a, w, hpl, hcl, he, h, h1, hT, hd, hR => by simp [planOk] at hpl
  | .take i r, m, n + 1, listed, T, H, p, a, w, hpl, hcl, he, h, h1, hT, hd, hR => by
    simp only [planOk, Bool.and_eq_true] at hpl
    simp only [followA] at he
    split at he
    · rename_i o ho
      split at he
      · rename_i v hv
        obtain ⟨v', g1, g2⟩ := takeV_ok h0 h.rel h1 hT hv
        have hrd : i ∈ Region.ready .any ops listed := by simpa using hpl.1.1
        have rest := followA_ok hcall hsel h0 hlim hpl.2 (hcl.set hrd) he h h1 (TR.put hT g1 _) ((put_defers _ _).trans hd) hR
        rcases g2 with g2 | ⟨g3, g4, g2⟩
        · exact wpAnyK_first (S' := fun _ => True) ho hsel (fun _ _ _ hf => hf) (fun _ _ _ => .inl fun _ _ _ _ => trivial) n listed a w hcl (Region.free_spec ho hpl.1.2) hrd g2 trivial rest
        · refine wpAnyK_first ho hsel (fun _ _ _ hf => hf) (fun j oj hj => ?_) n listed a w hcl (Region.free_spec ho hpl.1.2) hrd g2 (h1 g3).frame rest
          cases he2 : early ops j with
          | true => exact .inl fun w1 w2 k1 k2 => k2 rfl k1
          | false => exact .inr (early_load ho hj g4 he2)
      · cases he
    · cases he
  | .one i r, m, n + 1, listed, T, H, p, a, w, hpl, hcl, he, h, h1, hT, hd, hR => by
    simp only [planOk, Bool.and_eq_true, beq_iff_eq] at hpl
    simp only [followA] at he
    split at he
    · rename_i o ho
      refine wpAnyK_all hpl.1 (by simp) fun j hj => ?_
      obtain rfl : j = i := by simpa using hj
      split at he
      · rename_i hme
        simp only [Bool.and_eq_true] at hme
        split at he
        · rename_i T1 H1 hs
          refine wpOp_step ho fun K hK => stepA_ok hcall hs h.rel hT fun p1 a1 w1 k1 k2 k3 => hK _ _ ?_
          have h3 := (h1 hme.1).trans k1
          exact ⟨fun _ _ => h3.frame, followA_ok hcall hsel h0 hlim hpl.2 (hcl.set (by rw [hpl.1]; simp)) he (hlim h3) (fun _ => h3) k2 (k3.trans hd) hR⟩
        · cases he
      · rename_i hme hne
        split at he
        · rename_i T1 H1 hs
          refine wpOp_step ho fun K hK => stepA_ok hcall hs h.rel hT fun p1 a1 w1 k1 k2 k3 => hK _ _ ?_
          exact ⟨fun hf => (by rw [hne] at hf; cases hf), followA_ok hcall hsel h0 hlim hpl.2 (hcl.set (by rw [hpl.1]; simp)) he (h.trans k1) (fun hf => by cases hf) k2 (k3.trans hd) hR⟩
        · cases he
      · cases he
    · cases he
  | .two i j ri rj, m, n + 1, listed, T, H, p, a, w, hpl, hcl, he, h, h1, hT, hd, hR => by
    simp only [planOk, Bool.and_eq_true, beq_iff_eq] at hpl
    simp only [followA] at he
    split at he
    · rename_i oi oj hoi hoj
      split at he
      · split at he
        · rename_i T1 H1 T2 H2 hs1 hs2
          split at he
          · rename_i s1 s2 hf1 hf2
            split at he
            · rename_i hss
              injection he with he
              subst hss he
              refine wpAnyK_all hpl.1.1 (by simp) fun m hm => ?_
              have hm2 : m = i ∨ m = j := by simpa using hm
              rcases hm2 with rfl | rfl
              · refine wpOp_step hoi fun K hK => stepA_ok hcall hs1 h.rel hT fun p1 a1 w1 k1 k2 k3 => hK _ _ ?_
                have h3 := (h1 rfl).trans k1
                exact ⟨fun _ _ => h3.frame, followA_ok hcall hsel h0 hlim hpl.1.2 (hcl.set (by rw [hpl.1.1]; simp)) hf1 (hlim h3) (fun _ => h3) k2 (k3.trans hd) hR⟩
              · refine wpOp_step hoj fun K hK => stepA_ok hcall hs2 h.rel hT fun p1 a1 w1 k1 k2 k3 => hK _ _ ?_
                have h3 := (h1 rfl).trans k1
                exact ⟨fun _ _ => h3.frame, followA_ok hcall hsel h0 hlim hpl.2 (hcl.set (by rw [hpl.1.1]; simp)) hf2 (hlim h3) (fun _ => h3) k2 (k3.trans hd) hR⟩
            · cases he
          · cases he
        · cases he
      · cases he
    · cases he
  | .three i j k ri rj rk, m, n + 1, listed, T, H, p, a, w, hpl, hcl, he, h, h1, hT, hd, hR => by
    simp only [planOk, Bool.and_eq_true, beq_iff_eq] at hpl
    simp only [followA] at he
    split at he
    · rename_i oi oj ok hoi hoj hok
      split at he
      · split at he
        · rename_i T1 H1 T2 H2 T3 H3 hs1 hs2 hs3
          split at he
          · rename_i s1 s2 s3 hf1 hf2 hf3
            split at he
            · rename_i hss
              obtain ⟨hss, hss3⟩ := hss
              injection he with he
              subst hss hss3 he
              refine wpAnyK_all hpl.1.1.1 (by simp) fun m hm => ?_
              have hm2 : m = i ∨ m = j ∨ m = k := by simpa using hm
              rcases hm2 with rfl | rfl | rfl
              · refine wpOp_step hoi fun K hK => stepA_ok hcall hs1 h.rel hT fun p1 a1 w1 k1 k2 k3 => hK _ _ ?_
                have h3 := (h1 rfl).trans k1
                exact ⟨fun _ _ => h3.frame, followA_ok hcall hsel h0 hlim hpl.1.1.2 (hcl.set (by rw [hpl.1.1.1]; simp)) hf1 (hlim h3) (fun _ => h3) k2 (k3.trans hd) hR⟩
              · refine wpOp_step hoj fun K hK => stepA_ok hcall hs2 h.rel hT fun p1 a1 w1 k1 k2 k3 => hK _ _ ?_
                have h3 := (h1 rfl).trans k1
                exact ⟨fun _ _ => h3.frame, followA_ok hcall hsel h0 hlim hpl.1.2 (hcl.set (by rw [hpl.1.1.1]; simp)) hf2 (hlim h3) (fun _ => h3) k2 (k3.trans hd) hR⟩
              · refine wpOp_step hok fun K hK => stepA_ok hcall hs3 h.rel hT fun p1 a1 w1 k1 k2 k3 => hK _ _ ?_
                have h3 := (h1 rfl).trans k1
                exact ⟨fun _ _ => h3.frame, followA_ok hcall hsel h0 hlim hpl.2 (hcl.set (by rw [hpl.1.1.1]; simp)) hf3 (hlim h3) (fun _ => h3) k2 (k3.trans hd) hR⟩
            · cases he
          · cases he
        · cases he
      · cases he
    · cases he
theorem Stp.drew (h : Stp L p H { w with drawn := w.drawn + 1 } p' H' w') : Stp L p H w p' H' w' := ⟨h.same, h.rel, h.os, h.tape, h.output, h.size, h.frame, h.mine⟩
theorem Stp.wide (h : Stp (x :: L) p H w p' H' w') : Stp L p H w p' H' w' := by
  have hl : ∀ i, Lim.ok (x :: L) i = true → L.ok i = true := fun i hi => by
    unfold Lim.ok at hi ⊢
    simp only [List.all_cons, Bool.and_eq_true] at hi
    exact hi.2
  refine ⟨h.same, h.rel, h.os, h.tape, h.output, h.size, fun b hb hn => h.frame b hb fun i ⟨c, h1, h2, h3⟩ => hn i ⟨c, h1, h2, hl i h3⟩, fun j c hc ho => ?_⟩
  rcases h.mine j c hc ho with h1 | ⟨i, h1, h2, h3⟩
  · exact .inl h1
  · refine .inr ⟨i, ?_, h2, h3⟩
    rcases h1 with rfl | h1
    · exact .inl rfl
    · exact .inr (hl i h1)
theorem drawA_ok (hm : P.follows .mixedOrders = true) (hcall : CallOK P call) {id : Nat} (he : drawA P call L ops T H = some (T', H')) (h : Rel p H w) (hT : TR H.al p T a.tmps) :
    (Code.region id ops true).wp P (Qn fun a' w' => ∃ p', Stp L p H w p' H' w' ∧ TR H'.al p' T' a'.tmps ∧ a'.defers = a.defers) a w := by
  unfold drawA at he
  split at he
  · rename_i pl hpl
    unfold planOf at hpl
    simp only at hpl
    split at hpl
    · rename_i hc
      injection hpl with hpl
      rw [hpl] at hc
      refine wp_region_any hm (wpAny_of_K (S := Still ((H.n, guessW (guessT P H T ops.toList) ops 0 ops.toList) :: L) p (if pl.forks then H.keep ops.size else H) { w with drawn := w.drawn + 1 }) (K := early ops) _ _ _ _ ?_)
      split at he
      · rename_i hf
        rw [if_pos hf]
        have hk := Hp.keep_ent H ops.size
        have hal : (H.keep ops.size).al = H.al := by funext j; unfold Hp.al; rw [hk.1]
        exact followA_ok (R := fun a' w' => ∃ p', Stp L p H w p' H' w' ∧ TR H'.al p' T' a'.tmps ∧ a'.defers = a.defers) hcall hc.2 (h.drew.keep _) (fun k => k.wide) hc.1 Closed.start he (Stp.refl (h.drew.keep _)) (fun _ => Stp.refl (h.drew.keep _)) (by rw [hal]; exact hT) rfl
          fun p' a' w' k1 k2 k3 => ⟨p', ((Stp.keep h.drew ops.size).trans k1).drew, k2, k3⟩
      · rename_i hf
        rw [if_neg hf]
        exact followA_ok (R := fun a' w' => ∃ p', Stp L p H w p' H' w' ∧ TR H'.al p' T' a'.tmps ∧ a'.defers = a.defers) hcall hc.2 h.drew (fun k => k.wide) hc.1 Closed.start he (Stp.refl h.drew) (fun _ => Stp.refl h.drew) hT rfl
          fun p' a' w' k1 k2 k3 => ⟨p', k1.drew, k2, k3⟩
    · cases hpl
  · cases he
end
end Go.Proofs.YtdipnhghdajplaaGreatDoor
namespace Go.Proofs.YtdipnhghdajplaaGreatDoor
open Go.RowKit
set_option linter.unusedSimpArgs false
set_option linter.unusedVariables false

inductive Out where
  | normal
  | exit (id : Nat)
  | ret
abbrev Run := Lim → Code → List Value → Hp → Option (Out × List Value × Hp)
def resA (P : Program) (H : Hp) (T : List Value) : List ResultVar → Option (List Value)
  | [] => some []
  | .tmp t :: r => match resA P H T r with
    | some l => some (T.getD t undef :: l)
    | none => none
  | .cell x t :: r => match loadA P H (ev T) t (.tmp x), resA P H T r with
    | some (_, v), some l => some (v :: l)
    | _, _ => none
def oneOf (l : List Value) : Value := match l with
  | [v] => v
  | l => .tuple l.toArray
/-- A call, by what is known of code. -/
def callA (P : Program) (run : Run) : CallF := fun L f vs H =>
  match P.funcs[f]? with
  | some fn => match fn.body with
    | some c => match run L c (vs ++ List.replicate (fn.ntmps - vs.length) undef) H with
      | some (.normal, T, H') => match resA P H' T fn.results.toList with
        | some l => some (oneOf l, H')
        | none => none
      | some (.ret, T, H') => match resA P H' T fn.results.toList with
        | some l => some (oneOf l, H')
        | none => none
      | _ => none
    | none => none
  | none => none
/-- Calls of which something is known besides. -/
def alt (c1 c2 : CallF) : CallF := fun L f vs H => match c1 L f vs H with
  | some q => some q
  | none => c2 L f vs H
theorem alt_ok {P : Program} {c1 c2 : CallF} (h1 : CallOK P c1) (h2 : CallOK P c2) : CallOK P (alt c1 c2) := by
  intro L f vs H v H' p w args he h hv
  unfold alt at he
  split at he
  · rename_i q hq
    injection he with he; subst he
    exact h1 _ _ _ _ _ _ _ _ _ hq h hv
  · exact h2 _ _ _ _ _ _ _ _ _ he h hv
noncomputable def codeA (P : Program) (ext : CallF) (run : Run) : Run := fun L c T H =>
  match c with
  | .skip => some (.normal, T, H)
  | .label _ => some (.normal, T, H)
  | .exit id => some (.exit id, T, H)
  | .ret => some (.ret, T, H)
  | .region _ ops draw => match (if draw then drawA P (alt ext (callA P run)) L ops T H else opsA P (alt ext (callA P run)) L ops ops.toList T H) with
    | some (T', H') => some (.normal, T', H')
    | none => none
  | .seq x y => match run L x T H with
    | some (.normal, T', H') => run L y T' H'
    | r => r
  | .cond b x y => match ev T b with
    | some (.bool true) => run L x T H
    | some (.bool false) => run L y T H
    | _ => none
  | .block id x => match run L x T H with
    | some (.exit id', T', H') => if id' = id then some (.normal, T', H') else some (.exit id', T', H')
    | r => r
  | .loop x => match run L x T H with
    | some (.normal, T', H') => run L (.loop x) T' H'
    | r => r
  | _ => none
noncomputable def runA (P : Program) (ext : CallF) (n : Nat) : Run := Nat.rec (fun _ _ _ _ => none) (fun _ ih => codeA P ext ih) n
/-- The way out is what the reckoner says. -/
def OutIs : Out → Exit → Prop
  | .normal, e => e = .normal
  | .exit id, e => e = .exit id
  | .ret, e => e = .ret
section
variable {P : Program} {run : Run} {p p' : Nat → Pla} {H H' : Hp} {w w' : World} {T T' : List Value} {a : Act} {v : Value} {L : Lim}
def Post (L : Lim) (p : Nat → Pla) (H : Hp) (w : World) (d : List Deferred) (out : Out) (T' : List Value) (H' : Hp) : Exit → Act → World → Prop :=
  fun e a' w' => OutIs out e ∧ ∃ p', Stp L p H w p' H' w' ∧ TR H'.al p' T' a'.tmps ∧ a'.defers = d
def RunOK (P : Program) (run : Run) : Prop := ∀ L c T H out T' H' p w a, run L c T H = some (out, T', H') → Rel p H w → TR H.al p T a.tmps → c.wp P (Post L p H w a.defers out T' H') a w
theorem resA_ok {g : ResultVar → Sem Value} (h : Rel p H w) (hT : TR H.al p T a.tmps) (g1 : ∀ t, g (.tmp t) = pure (a.tmps.getD t undef)) (g2 : ∀ x t, g (.cell x t) = (do loadVar t (← asAddr (a.tmps.getD x undef)))) :
    ∀ {l : List ResultVar} {r : List Value}, resA P H T l = some r → ∃ ys : List Value, VL H.al p r ys ∧ (l.mapM g).run P w = .ok ys w
  | [], r, he => by simp [resA] at he; subst he; exact ⟨[], VL.nil, by simp⟩
  | .tmp t :: l, r, he => by
    simp only [resA] at he
    split at he
    · rename_i m hm
      injection he with he; subst he
      obtain ⟨ys, h1, h2⟩ := resA_ok h hT g1 g2 hm
      refine ⟨a.tmps.getD t undef :: ys, h1.cons (ev_ok (x := .tmp t) hT rfl), ?_⟩
      simp only [List.mapM_cons, g1, Sem.run_bind, Sem.run_pure, Result.andThen_ok, h2]
    · cases he
  | .cell x t :: l, r, he => by
    simp only [resA] at he
    split at he
    · rename_i b v m hl hm
      injection he with he; subst he
      obtain ⟨ys, h1, h2⟩ := resA_ok h hT g1 g2 hm
      obtain ⟨_, v', h3, h4⟩ := loadA_ok (a := a) h hT hl
      have h5 := h4 w (fun _ => rfl)
      have hx : ∃ ad, a.tmps.getD x undef = .pointer (some ad) := by
        unfold loadA at hl
        split at hl
        · rename_i b0 o hx
          have hv := ev_ok hT hx
          simp only [Act.eval] at hv
          generalize a.tmps.getD x undef = u at hv
          cases hv; exact ⟨_, rfl⟩
        · cases hl
      obtain ⟨ad, hx⟩ := hx
      refine ⟨v' :: ys, h1.cons h3, ?_⟩
      simp only [Instr.loadAt, Act.eval, hx, Instr.sureAddr, Sem.run_bind, Sem.run_pure, Result.andThen_ok] at h5
      have h6 : (asAddr (a.tmps.getD x undef)).run P w = .ok ad w := by rw [hx]; rfl
      simp only [List.mapM_cons, g2, Sem.run_bind, Sem.run_pure, Result.andThen_ok, h6, h5, h2]
    · cases he
theorem oneOf_ok {A : Nat → Prop} {l ys : List Value} (h : VL A p l ys) : VR A p (oneOf l) (if h : ys.toArray.size = 1 then ys.toArray[0] else .tuple ys.toArray) := by
  rcases l with _ | ⟨x, _ | ⟨y, r⟩⟩
  · rw [dif_neg (by have := h.1; simp at this; simp [← this])]
    exact h.tup
  · obtain ⟨v', h1, h2⟩ := h.2 0 x rfl
    have hl := h.1
    rcases ys with _ | ⟨z, _ | ⟨z2, s⟩⟩
    · simp at hl
    · simp at h1; subst h1
      simpa [oneOf] using h2
    · simp at hl
  · rw [dif_neg (by have := h.1; simp at this; simp [← this])]
    exact h.tup
theorem res_run {g : ResultVar → Sem Value} (h : Rel p H w) (hT : TR H.al p T a.tmps) (g1 : ∀ t, g (.tmp t) = pure (a.tmps.getD t undef)) (g2 : ∀ x t, g (.cell x t) = (do loadVar t (← asAddr (a.tmps.getD x undef))))
    {rs : Array ResultVar} {l : List Value} (hr : resA P H T rs.toList = some l) :
    ∃ v', ((do let vs ← rs.mapM g; pure (if h : vs.size = 1 then vs[0] else .tuple vs) : Sem Value)).run P w = .ok v' w ∧ VR H.al p (oneOf l) v' := by
  obtain ⟨ys, h3, h4⟩ := resA_ok h hT g1 g2 hr
  refine ⟨_, ?_, oneOf_ok h3⟩
  rw [Sem.run_bind, Array.mapM_eq_mapM_toList, Sem.run_map, h4]
  rfl
theorem callA_ok (hrun : RunOK P run) : CallOK P (callA P run) := by
  intro L f vs H v H' p w args he h hv
  unfold callA at he
  split at he
  · rename_i fn hfn
    split at he
    · rename_i c hb
      refine calls_of_wp hfn hb ?_
      have hsz : args.size = vs.length := by have := hv.1; simpa using this.symm
      have hT : TR H.al p (vs ++ List.replicate (fn.ntmps - vs.length) undef) (args ++ Array.replicate (fn.ntmps - args.size) undef) := by
        unfold TR
        rw [Array.toList_append, Array.toList_replicate, hsz]
        refine hv.append ⟨rfl, fun i u hu => ⟨u, hu, ?_⟩⟩
        obtain rfl : u = undef := by
          rw [List.getElem?_replicate] at hu
          split at hu
          · injection hu with hu; exact hu.symm
          · cases hu
        exact VR.undef
      have fin : ∀ {T' : List Value} {H1 : Hp} {l : List Value}, resA P H1 T' fn.results.toList = some l → ∀ {p1 : Nat → Pla} {w1 : World} {a1 : Act}, Stp L p H w p1 H1 w1 → TR H1.al p1 T' a1.tmps → ∃ v', (results fn a1.tmps).run P w1 = .ok v' w1 ∧ VR H1.al p1 (oneOf l) v' := by
        intro T' H1 l hr p1 w1 a1 h1 h2
        unfold results
        exact res_run h1.rel h2 (fun _ => rfl) (fun _ _ => rfl) hr
      split at he
      · rename_i T' H1 hr
        split at he
        · rename_i l hl
          injection he with he; injection he with e1 e2; subst e1 e2
          refine wp_mono (hrun _ _ _ _ _ _ _ _ _ _ hr h hT) fun e a1 w1 ⟨h1, p1, h2, h3, h4⟩ => ?_
          obtain rfl : e = .normal := h1
          obtain ⟨v', h5, h6⟩ := fin hl h2 h3
          exact ⟨h4, v', h5, v', p1, rfl, h2, h6⟩
        · cases he
      · rename_i T' H1 hr
        split at he
        · rename_i l hl
          injection he with he; injection he with e1 e2; subst e1 e2
          refine wp_mono (hrun _ _ _ _ _ _ _ _ _ _ hr h hT) fun e a1 w1 ⟨h1, p1, h2, h3, h4⟩ => ?_
          obtain rfl : e = .ret := h1
          obtain ⟨v', h5, h6⟩ := fin hl h2 h3
          exact ⟨h4, v', h5, v', p1, rfl, h2, h6⟩
        · cases he
      · cases he
    · cases he
  · cases he
theorem Post.step {d : List Deferred} {out : Out} {T1 : List Value} {H1 : Hp} (hq : Stp L p H w p' H' w') (hd : a.defers = d) {e : Exit} {a1 : Act} {w1 : World} (h : Post L p' H' w' a.defers out T1 H1 e a1 w1) : Post L p H w d out T1 H1 e a1 w1 := by
  obtain ⟨h1, p1, h2, h3, h4⟩ := h
  exact ⟨h1, p1, hq.trans h2, h3, h4.trans hd⟩
end
end Go.Proofs.YtdipnhghdajplaaGreatDoor
