/- The document's tokens, and its reading of them with a stack, against the machine; nothing of the program. The document's text between quotes. The reader's tree at a token that is a tree by itself. The reader's tree at a run. The reader's tree, whole; a list of trees in the making. Rows of tokens in memory. The document's Number. -/
import Derived.Test.YtdipnhghdajplaaGreatDoorP01
import Derived.Maps.AppendAt
import Derived.Deep.AppendLies
namespace Go.Proofs.YtdipnhghdajplaaGreatDoor
open Go.RowKit
set_option linter.unusedSimpArgs false
set_option linter.unusedVariables false

/-- A token: where it begins, its kind, its number, where it is wrong, its word. -/
structure Tk where
  pos : Nat
  kind : Int
  num : Int
  wrong : Nat
  word : ByteArray
def tokT (j : Nat) : T → Tk
  | .node k s n _ => ⟨j, k, n, 0, s⟩
/-- The tokens from a place on, up to a wrong one. -/
def toks : Nat → List UInt8 → Nat → List Tk
  | 0, _, _ => []
  | f + 1, L, i =>
    match L.drop (i + skN false (L.drop i)) with
    | [] => []
    | c :: r =>
      if c.toNat = 41 then ⟨i + skN false (L.drop i), 5, 0, 0, ⟨#[]⟩⟩ :: toks f L (i + skN false (L.drop i) + 1)
      else if c.toNat = 40 then ⟨i + skN false (L.drop i), 4, 0, 0, ⟨#[]⟩⟩ :: toks f L (i + skN false (L.drop i) + 1)
      else match leaf c r with
        | .inl d => [⟨i + skN false (L.drop i), 6, 0, i + skN false (L.drop i) + d, ⟨#[]⟩⟩]
        | .inr (t, n) => tokT (i + skN false (L.drop i)) t :: toks f L (i + skN false (L.drop i) + n)
def tokens (L : List UInt8) (i : Nat) : List Tk := toks (L.length + 1 - i) L i
/-- The document's reading: the tokens, the lists that are open (the innermost first), how many trees. -/
def pgo (z : Nat) : List Tk → List (List T) → Nat → Res
  | [], st, _ => match st with
    | [top] => .ok top
    | _ => .err z 31
  | t :: r, st, k =>
    if t.kind = 6 then .err t.wrong 31
    else if t.kind = 5 then
      match st with
      | cur :: par :: rest => pgo z r ((par ++ [.node 4 ⟨#[]⟩ 0 cur]) :: rest) k
      | _ => .err t.pos 31
    else if 65536 < k + 1 ∨ (t.kind = 4 ∧ 32 < st.length) then .err t.pos 33
    else if t.kind = 4 then pgo z r ([] :: st) (k + 1)
    else match st with
      | cur :: rest => pgo z r ((cur ++ [.node t.kind t.word t.num []]) :: rest) (k + 1)
      | [] => .err t.pos 0

theorem leaf_kd {c : UInt8} {r : List UInt8} {k m : Int} {s : ByteArray} {ks : List T} {n : Nat} (h : leaf c r = .inr (.node k s m ks, n)) : (k = 1 ∨ k = 2 ∨ k = 3) ∧ ks = [] := by
  unfold leaf at h
  split at h
  · split at h
    · injection h with h; injection h with h _; injection h with h1 h2 h3 h4; exact ⟨.inr (.inr h1.symm), h4.symm⟩
    · cases h
    · cases h
  · split at h
    · split at h
      · split at h
        · injection h with h; injection h with h _; injection h with h1 h2 h3 h4; exact ⟨.inr (.inl h1.symm), h4.symm⟩
        · cases h
      · injection h with h; injection h with h _; injection h with h1 h2 h3 h4; exact ⟨.inl h1.symm, h4.symm⟩
    · cases h
theorem drop_nil_le {L : List UInt8} {j : Nat} (hj : j ≤ L.length) (h : L.drop j = []) : j = L.length := by
  have := congrArg List.length h
  simp at this; omega
theorem pgo_go (f : Nat) : ∀ (L : List UInt8) (i : Nat) (st : List (List T)) (k : Nat), L.length < i + f → i ≤ L.length → st ≠ [] → pgo L.length (toks f L i) st k = go f L i st k := by
  induction f with
  | zero => intro L i st k h h2; omega
  | succ f ih =>
    intro L i st k h h2 hst
    have hs := skN_le false (L.drop i)
    simp at hs
    unfold toks go
    generalize hj : i + skN false (L.drop i) = j at *
    cases hd : L.drop j with
    | nil =>
      obtain rfl := drop_nil_le (by omega) hd
      unfold pgo
      rcases st with _ | ⟨a, _ | ⟨b, rest⟩⟩
      · exact absurd rfl hst
      · rfl
      · rfl
    | cons c r =>
      have hjl : j < L.length := drop_len hd
      have hrl : r.length = L.length - (j + 1) := by
        have := congrArg List.length hd; simp at this; omega
      simp only
      by_cases h41 : c.toNat = 41
      · rw [if_pos h41, if_pos h41]
        unfold pgo
        rw [if_neg (by simp), if_pos rfl]
        rcases st with _ | ⟨a, _ | ⟨b, rest⟩⟩
        · rfl
        · rfl
        · exact ih L (j + 1) _ _ (by omega) (by omega) (by simp)
      · rw [if_neg h41, if_neg h41]
        by_cases h40 : c.toNat = 40
        · rw [if_pos h40, if_pos h40]
          unfold pgo
          rw [if_neg (by simp), if_neg (by simp)]
          simp only [true_and, if_true]
          by_cases hm : 65536 < k + 1 ∨ 32 < st.length
          · rw [if_pos hm, if_pos hm]
          · rw [if_neg hm, if_neg hm]
            exact ih L (j + 1) _ _ (by omega) (by omega) (by simp)
        · rw [if_neg h40, if_neg h40]
          rcases hl : leaf c r with d | ⟨⟨kd, sd, nd, ks⟩, n⟩
          · simp only
            unfold pgo
            rw [if_pos rfl]
          · obtain ⟨hk, rfl⟩ := leaf_kd hl
            have hn := leaf_len hl
            simp only
            unfold pgo tokT
            simp only
            rw [if_neg (by omega), if_neg (by omega)]
            have e4 : ¬ kd = 4 := by omega
            simp only [e4, false_and, or_false, if_false]
            by_cases hm : 65536 < k + 1
            · rw [if_pos hm, if_pos hm]
            · rw [if_neg hm, if_neg hm]
              rcases st with _ | ⟨a, rest⟩
              · exact absurd rfl hst
              · exact ih L (j + n) _ _ (by omega) (by omega) (by simp)
/-- The document reads as the machine does. -/
theorem pgo_run (L : List UInt8) (st : List (List T)) (k : Nat) (hst : st ≠ []) : pgo L.length (tokens L 0) st k = run L 0 st k := pgo_go _ L 0 st k (by omega) (by omega) hst

theorem toks_fuel (f : Nat) : ∀ (f' : Nat) (L : List UInt8) (i : Nat), L.length < i + f → L.length < i + f' → i ≤ L.length → toks f L i = toks f' L i := by
  induction f with
  | zero => intro f' L i h _ h2; omega
  | succ f ih =>
    intro f' L i h h' h2
    obtain ⟨g, rfl⟩ : ∃ g, f' = g + 1 := ⟨f' - 1, by omega⟩
    have hs := skN_le false (L.drop i)
    simp at hs
    unfold toks
    generalize hj : i + skN false (L.drop i) = j at *
    cases hd : L.drop j with
    | nil => rfl
    | cons c r =>
      have hjl : j < L.length := drop_len hd
      have hrl : r.length = L.length - (j + 1) := by
        have := congrArg List.length hd; simp at this; omega
      simp only
      rcases hl : leaf c r with d | ⟨⟨kd, sd, nd, ks⟩, n⟩
      · rw [ih g L (j + 1) (by omega) (by omega) (by omega)]
      · have hn := leaf_len hl
        rw [ih g L (j + 1) (by omega) (by omega) (by omega)]
        simp only
        rw [ih g L (j + n) (by omega) (by omega) (by omega)]
/-- Blanks and remarks make no difference. -/
theorem tokens_skip {L : List UInt8} {i j : Nat} (hi : i ≤ L.length) (hj : j ≤ L.length) (h : i + skN false (L.drop i) = j + skN false (L.drop j)) : tokens L i = tokens L j := by
  unfold tokens
  obtain ⟨a, ha⟩ : ∃ a, L.length + 1 - i = a + 1 := ⟨L.length - i, by omega⟩
  obtain ⟨b, hb⟩ : ∃ b, L.length + 1 - j = b + 1 := ⟨L.length - j, by omega⟩
  have hs := skN_le false (L.drop i)
  simp at hs
  rw [ha, hb]
  unfold toks
  rw [← h]
  generalize hjj : i + skN false (L.drop i) = m at *
  cases hd : L.drop m with
  | nil => rfl
  | cons c r =>
    have hjl : m < L.length := drop_len hd
    have hrl : r.length = L.length - (m + 1) := by
      have := congrArg List.length hd; simp at this; omega
    simp only
    rcases hl : leaf c r with d | ⟨⟨kd, sd, nd, ks⟩, n⟩
    · rw [toks_fuel a b L (m + 1) (by omega) (by omega) (by omega)]
    · have hn := leaf_len hl
      rw [toks_fuel a b L (m + 1) (by omega) (by omega) (by omega)]
      simp only
      rw [toks_fuel a b L (m + n) (by omega) (by omega) (by omega)]
section
variable {L : List UInt8} {j : Nat} {c : UInt8} {r : List UInt8}
theorem tokens_end : tokens L L.length = [] := by
  unfold tokens
  rw [show L.length + 1 - L.length = 0 + 1 by omega]
  unfold toks
  simp [skN]
theorem tokens_body (hd : L.drop j = c :: r) (h : Nb c) : tokens L j = (if c.toNat = 41 then ⟨j, 5, 0, 0, ⟨#[]⟩⟩ :: tokens L (j + 1)
      else if c.toNat = 40 then ⟨j, 4, 0, 0, ⟨#[]⟩⟩ :: tokens L (j + 1)
      else match leaf c r with
        | .inl d => [⟨j, 6, 0, j + d, ⟨#[]⟩⟩]
        | .inr (t, n) => tokT j t :: tokens L (j + n)) := by
  have hjl : j < L.length := drop_len hd
  have hrl : r.length = L.length - (j + 1) := by
    have := congrArg List.length hd; simp at this; omega
  have e : tokens L j = toks (L.length - j + 1) L j := by unfold tokens; rw [show L.length + 1 - j = L.length - j + 1 by omega]
  rw [e]
  unfold toks
  rw [hd, skN_nb h, Nat.add_zero, hd]
  simp only
  unfold tokens
  rcases hl : leaf c r with d | ⟨⟨kd, sd, nd, ks⟩, n⟩
  · rw [toks_fuel (L.length - j) (L.length + 1 - (j + 1)) L (j + 1) (by omega) (by omega) (by omega)]
  · have hn := leaf_len hl
    rw [toks_fuel (L.length - j) (L.length + 1 - (j + 1)) L (j + 1) (by omega) (by omega) (by omega)]
    simp only
    rw [toks_fuel (L.length - j) (L.length + 1 - (j + n)) L (j + n) (by omega) (by omega) (by omega)]
end
/-- There are no more of them than bytes. -/
theorem toks_len (f : Nat) : ∀ (L : List UInt8) (i : Nat), i ≤ L.length → (toks f L i).length + i ≤ L.length := by
  induction f with
  | zero => intro L i h; simp [toks]; exact h
  | succ f ih =>
    intro L i h
    have hs := skN_le false (L.drop i)
    simp at hs
    unfold toks
    generalize hj : i + skN false (L.drop i) = j at *
    cases hd : L.drop j with
    | nil => simp; exact h
    | cons c r =>
      have hjl : j < L.length := drop_len hd
      have hrl : r.length = L.length - (j + 1) := by
        have := congrArg List.length hd; simp at this; omega
      have h1 := ih L (j + 1) (by omega)
      simp only
      split
      · simp; omega
      · split
        · simp; omega
        · split
          · simp; omega
          · next t n hl =>
            have hn := leaf_len hl
            have h2 := ih L (j + n) (by omega)
            simp; omega
end Go.Proofs.YtdipnhghdajplaaGreatDoor
namespace Go.Proofs.YtdipnhghdajplaaGreatDoor
open Go.RowKit
set_option linter.unusedSimpArgs false
set_option linter.unusedVariables false

/-- A token, as a value. -/
abbrev tkv (j : Nat) (k n : Int) (wr : Nat) (s : ByteArray) : Value := .agg #[.int .i64 (j : Int), .int .i64 k, .int .i64 n, .int .i64 (wr : Int), .string s]
def tkE (j : Nat) (k n : Int) (wr : Nat) (s : ByteArray) (x : Nat) : Ending := .returned (.tuple #[tkv j k n wr s, .int .i64 (x : Int)])
def TxPost (s : ByteArray) (j : Nat) (w : World) (q : Q) (e : Ending) (w' : World) : Prop :=
  match q with
  | .closed m => e = tkE j 3 0 0 (s.extract (j + 1) (j + 1 + m)) (j + (m + 2)) ∧ Fr w w'
  | .wrong m => e = tkE j 6 0 (j + (m + 1)) ⟨#[]⟩ 0 ∧ Fr w w'
  | .unclosed => e = tkE j 6 0 j ⟨#[]⟩ 0 ∧ Fr w w'
section
variable {s : ByteArray} {j m : Nat} {w w' : World} {q : Q} {e : Ending}
theorem tx_closed (h : q = .closed m) (he : e = tkE j 3 0 0 (s.extract (j + 1) (j + 1 + m)) (j + (m + 2))) (hw : Fr w w') : TxPost s j w q e w' := by subst h; exact ⟨he, hw⟩
theorem tx_wrong (h : q = .wrong m) (he : e = tkE j 6 0 (j + (m + 1)) ⟨#[]⟩ 0) (hw : Fr w w') : TxPost s j w q e w' := by subst h; exact ⟨he, hw⟩
theorem tx_open (h : q = .unclosed) (he : e = tkE j 6 0 j ⟨#[]⟩ 0) (hw : Fr w w') : TxPost s j w q e w' := by subst h; exact ⟨he, hw⟩
end
section
variable {c : UInt8} {r : List UInt8} {m : Nat}
theorem txl_nl (h : (c.toNat : Int) = 10) : textL (c :: r) m = .unclosed := by rw [textL_cons, if_pos (by omega)]
theorem txl_quo (h : (c.toNat : Int) = 34) : textL (c :: r) m = .closed m := by rw [textL_cons, if_neg (by omega), if_pos (by omega)]
theorem txl_bad (h : (c.toNat : Int) ≠ 10) (h2 : (c.toNat : Int) < 32 ∨ 126 < (c.toNat : Int)) : textL (c :: r) m = .wrong m := by
  rw [textL_cons, if_neg (by omega), if_neg (by omega), if_neg]
  unfold txB; simp; omega
theorem txl_next (h : (c.toNat : Int) ≠ 34) (h2 : 32 ≤ (c.toNat : Int)) (h3 : (c.toNat : Int) ≤ 126) : textL (c :: r) m = textL r (m + 1) := by
  rw [textL_cons, if_neg (by omega), if_neg (by omega), if_pos]
  unfold txB; simp; omega
end
theorem tk_e {a b : Int} {k n wr : Int} {s : ByteArray} {x y : Nat} {z : Nat} (h1 : a = (x : Int)) (h2 : wr = (z : Int)) (h3 : b = (y : Int)) : Ending.returned (.tuple #[.agg #[.int .i64 a, .int .i64 k, .int .i64 n, .int .i64 wr, .string s], .int .i64 b]) = tkE x k n z s y := by
  subst h1 h2 h3; rfl
abbrev tkz : Obj := .cells #[.int .i64 0, .int .i64 0, .int .i64 0, .int .i64 0, .string ⟨#[]⟩] 181
set_option maxHeartbeats 6400000 in
set_option maxRecDepth 100000 in
theorem text_any (j : Nat) (s : ByteArray) (w : World) (hj : j < s.size) (hs : s.size ≤ 281474976710656) :
    Calls Tryz.prog 117 #[.string s, .int .i64 (j : Int)] w fun e w' => TxPost s j w (textL (s.data.toList.drop (j + 1)) 0) e w' := by
  have HF := Lib.hid ((Fr.refl w).alloc tkz)
  have HS := Lib.hid hs
  have hs2 : (s.size : Int) ≤ 281474976710656 := by omega
  go_enter Tryz.func117, Tryz.ntmps117
  go_wp2
  go_loop [6] (fun i => QuRel s j i) (fun i => s.size - (intOf i).toNat)
  case atStart => exact ⟨0, by omega, rfl, rfl⟩
  case round =>
    obtain ⟨m, hm, rfl, hq⟩ := hrel
    have HQ := Lib.hid hq
    clear hq
    by_cases hlt : j + 1 + m < s.size
    · have hD := Lib.hid (drop_at s (j + 1 + m) hlt)
      have b2 : (j : Int) + 1 + (m : Int) ≤ (s.size : Int) := by omega
      have hsl := slice_at s (j + 1) (j + 1 + m) (by omega) (by omega)
      have e1 : ((j + 1 : Nat) : Int) = (j : Int) + 1 := by omega
      have e2 : ((j + 1 + m : Nat) : Int) = (j : Int) + 1 + (m : Int) := by omega
      rw [e1, e2] at hsl
      clear e1 e2
      go_wp2
      all_goals first
        | (have t1 : ((s[j + 1 + m].toNat : Int) == 34) = true := by assumption
           refine bodyPost_ret (by simp [results, Tryz.results117, go_sem]; rfl) rfl (tx_closed (m := m) ?_ ?_ ((Fr.refl w).alloc _))
           · rw [HQ.out, hD.out]; exact txl_quo (by simp at t1; omega)
           · exact tk_e rfl rfl (by omega))
        | (have t1 : ((s[j + 1 + m].toNat : Int) != 10) = false := by assumption
           refine bodyPost_ret (by simp [results, Tryz.results117, go_sem]; rfl) rfl (tx_open ?_ ?_ ((Fr.refl w).alloc _))
           · rw [HQ.out, hD.out]; exact txl_nl (by simp at t1; omega)
           · exact tk_e rfl rfl rfl)
        | (have t2 : ((s[j + 1 + m].toNat : Int) == 34) = false := by assumption
           simp at t2
           go_round
           case rel => exact ⟨m + 1, by omega, by go_num, by rw [HQ.out, hD.out, txl_next (by omega) (by omega) (by omega)]; rfl⟩
           case measure => simp [intOf]; omega)
        | (have t1 : ((s[j + 1 + m].toNat : Int) != 10) = true := by assumption
           simp at t1
           refine bodyPost_ret (by simp [results, Tryz.results117, go_sem]; rfl) rfl (tx_wrong (m := m) ?_ ?_ ((Fr.refl w).alloc _))
           · rw [HQ.out, hD.out]; exact txl_bad (by omega) (by omega)
           · exact tk_e rfl (by omega) rfl)
    · have hsz : j + 1 + m = s.size := by omega
      go_wp2
      refine bodyPost_ret (by simp [results, Tryz.results117, go_sem]; rfl) rfl (tx_open ?_ ?_ ((Fr.refl w).alloc _))
      · rw [HQ.out, hsz, drop_all, textL_nil]
      · exact tk_e rfl rfl rfl
end Go.Proofs.YtdipnhghdajplaaGreatDoor
namespace Go.Proofs.YtdipnhghdajplaaGreatDoor
open Go.RowKit
set_option linter.unusedSimpArgs false
set_option linter.unusedVariables false

theorem Bk.set4 {w : World} {g : Nat} {t : TypeId} {a b c d : Value} (h : Bk w g t #[a, b, c, d]) (x0 x1 x2 x3 : Value) : Bk ((((w.setCell ⟨g, 0, none⟩ x0).setCell ⟨g, 1, none⟩ x1).setCell ⟨g, 2, none⟩ x2).setCell ⟨g, 3, none⟩ x3) g t #[x0, x1, x2, x3] := (((h.set 0 x0).set 1 x1).set 2 x2).set 3 x3
theorem Bk.far4 {w : World} {g' : Nat} {t : TypeId} {cs : Array Value} {g : Nat} (h : Bk w g' t cs) (hn : g' ≠ g) (x0 x1 x2 x3 : Value) : Bk ((((w.setCell ⟨g, 0, none⟩ x0).setCell ⟨g, 1, none⟩ x1).setCell ⟨g, 2, none⟩ x2).setCell ⟨g, 3, none⟩ x3) g' t cs := by
  unfold Bk at *; rw [heap_set4 _ _ _ hn]; exact h
theorem Wr.set4 {p : Nat} {a b : World} (h : Wr p a b) {g : Nat} (hg : a.heap.size ≤ g) (x0 x1 x2 x3 : Value) : Wr p a ((((b.setCell ⟨g, 0, none⟩ x0).setCell ⟨g, 1, none⟩ x1).setCell ⟨g, 2, none⟩ x2).setCell ⟨g, 3, none⟩ x3) :=
  (((h.setn (q := ⟨g, 0, none⟩) hg x0).setn (q := ⟨g, 1, none⟩) hg x1).setn (q := ⟨g, 2, none⟩) hg x2).setn (q := ⟨g, 3, none⟩) hg x3
end Go.Proofs.YtdipnhghdajplaaGreatDoor
namespace Go.Proofs.YtdipnhghdajplaaGreatDoor
open Go.RowKit
set_option linter.unusedSimpArgs false
set_option linter.unusedVariables false

end Go.Proofs.YtdipnhghdajplaaGreatDoor
namespace Go.Proofs.YtdipnhghdajplaaGreatDoor
open Go.RowKit
set_option linter.unusedSimpArgs false
set_option linter.unusedVariables false

theorem Tryz.infoTree : (Tryz.prog.info? 144).map (fun i => (i.zero, i.size, i.bytes)) = some (some (.agg #[.int .i64 0, .string ⟨#[]⟩, .int .i64 0, .slice none 0 0]), 4, 56) := by kernel_rfl
/-- A row of the call's own that reads as the trees l, all in memory made since w0. -/
def Trs (w0 wr : World) (v : Value) (l : List T) : Prop := ∃ vs, wr.ownsRow w0.heap.size 144 4 v l.length vs ∧ Fits wr (fun b => New w0 wr b ∧ v.ownBlock ≠ some b) l vs
theorem Trs.nil (w0 wr : World) : Trs w0 wr (.slice none 0 0) [] := ⟨[], World.ownsRow_nil _ _ _ _, rfl⟩
theorem own_lt {w : World} {base : Nat} {e : TypeId} {size : Nat} {v : Value} {n : Nat} {xs : List Value} (h : w.ownsRow base e size v n xs) {g : Nat} (hg : v.ownBlock = some g) : base ≤ g ∧ g < w.heap.size := World.ownsRow.lt h g hg
theorem Trs.wr {w0 wr w' : World} {p : Nat} {v : Value} {l : List T} (h : Trs w0 wr v l) (k : Wr p wr w') (hp : p < w0.heap.size) : Trs w0 w' v l := by
  obtain ⟨vs, ho, hf⟩ := h
  have hne : v.ownBlock ≠ some p := fun e => by have := (own_lt ho e).1; omega
  refine ⟨vs, ho.kept k (.inr hne), hf.mono (fun b hb => ⟨⟨hb.1.1, Nat.lt_of_lt_of_le hb.1.2 k.size⟩, hb.2⟩) (fun b hb => k.blk hb.1.2 (fun e => by have := hb.1.1; omega))⟩
theorem Trs.fr {w0 wr w' : World} {v : Value} {l : List T} (h : Trs w0 wr v l) (k : Fr wr w') : Trs w0 w' v l := by
  obtain ⟨vs, ho, hf⟩ := h
  refine ⟨vs, ho.kept (row := none) ⟨k.os, k.tape, k.output, k.size, fun i hi _ => k.block i hi⟩ ?_, hf.mono (fun b hb => ⟨⟨hb.1.1, Nat.lt_of_lt_of_le hb.1.2 k.size⟩, hb.2⟩) (fun b hb => k.block b hb.1.2)⟩
  cases hv : v.ownBlock
  · exact .inl rfl
  · exact .inr (by simp)
theorem Trs.push {w0 w5 w6 w' : World} {v v' : Value} {l : List T} {kd nd : Int} {sd : ByteArray} {ks : List T} {A : Option Addr} {c : Nat} {o : Obj} {vs : List Value} (ho : w6.ownsRow w0.heap.size 144 4 v l.length vs) (hf : Fits w6 (fun b => New w0 w6 b ∧ v.ownBlock ≠ some b) l vs)
    (h5 : ∀ g, v.ownBlock = some g → g < w5.heap.size) (h05 : w0.heap.size ≤ w5.heap.size) (hc : ks.length ≤ c) (hrd : RdL w6 (New w5 w6) A ks)
    (hn : w'.ownsRow w0.heap.size 144 4 v' (l.length + 1) (vs ++ [.int .i64 kd, .string sd, .int .i64 nd, .slice A ks.length c])) (hg : (w6.alloc o).grownBy w' v.ownBlock) (hb : v'.ownBlock = v.ownBlock ∨ v'.ownBlock = some (w6.alloc o).heap.size) : Trs w0 w' v' (l ++ [.node kd sd nd ks]) := by
  have hsz : w6.heap.size ≤ w'.heap.size := by have := hg.size; simp at this; omega
  have hblk : ∀ b, b < w6.heap.size → v.ownBlock ≠ some b → w'.heap[b]? = w6.heap[b]? := fun b h1 h2 =>
    (hg.block b (by simp; omega) (fun e => h2 e.symm)).trans (((Fr.refl w6).alloc o).block b h1)
  have hF : ∀ b, b < w6.heap.size → v.ownBlock ≠ some b → v'.ownBlock ≠ some b := fun b h1 h2 e => by
    rcases hb with k | k
    · exact h2 (k ▸ e)
    · rw [k] at e; injection e with e; simp at e; omega
  refine ⟨_, by rw [List.length_append, List.length_singleton]; exact hn, Fits.snoc hc ?_ ?_⟩
  · refine hrd.mono (fun b hb => ?_) (fun b hb => ?_)
    · have h2 : v.ownBlock ≠ some b := fun e => by have := h5 b e; have := hb.1; omega
      exact ⟨⟨by have := hb.1; omega, Nat.lt_of_lt_of_le hb.2 hsz⟩, hF b hb.2 h2⟩
    · exact hblk b hb.2 (fun e => by have := h5 b e; have := hb.1; omega)
  · exact hf.mono (fun b hb => ⟨⟨hb.1.1, Nat.lt_of_lt_of_le hb.1.2 hsz⟩, hF b hb.1.2 hb.2⟩) (fun b hb => hblk b hb.1.2 hb.2)
theorem Trs.close {w0 wr : World} {v : Value} {l : List T} (h : Trs w0 wr v l) : ∃ A c, v = .slice A l.length c ∧ l.length ≤ c ∧ RdL wr (New w0 wr) A l := by
  obtain ⟨vs, ho, hf⟩ := h
  have ho0 := ho
  rcases ho.2 with ⟨hv, hn⟩ | ⟨g, cap, cur, hv, hb, hg, hnc, _⟩
  · have hl : l = [] := List.eq_nil_of_length_eq_zero hn
    subst hv hl
    exact ⟨none, 0, rfl, Nat.le_refl _, by unfold RdL; trivial⟩
  · subst hv
    have hlt := own_lt ho0 (g := g) rfl
    refine ⟨_, cap, rfl, hnc, ?_⟩
    have hf2 := hf.mono (F' := New w0 wr) (fun b hb => hb.1) (fun _ _ => rfl)
    refine RdL.of_fits hlt hf2 fun i u hu => ?_
    have h := ho0.cells (g := g) rfl i u hu
    rw [Nat.zero_add]
    rw [show (⟨g, i, none⟩ : Addr) = (⟨g, 0, none⟩ : Addr).add i by unfold Addr.add; by_cases h0 : i = 0 <;> simp [h0]]
    exact h
end Go.Proofs.YtdipnhghdajplaaGreatDoor
namespace Go.Proofs.YtdipnhghdajplaaGreatDoor
open Go.RowKit
set_option linter.unusedSimpArgs false
set_option linter.unusedVariables false

def tkA (t : Tk) : Array Value := #[.int .i64 (t.pos : Int), .int .i64 t.kind, .int .i64 t.num, .int .i64 (t.wrong : Int), .string t.word]
def tkC (ts : List Tk) : List Value := ts.flatMap fun t => (tkA t).toList
theorem tkC_len (ts : List Tk) : (tkC ts).length = ts.length * 5 := by
  induction ts with
  | nil => rfl
  | cons t r ih => unfold tkC at *; rw [List.flatMap_cons, List.length_append, ih]; simp [tkA]; omega
theorem tkC_snoc (ts : List Tk) (t : Tk) : tkC (ts ++ [t]) = tkC ts ++ (tkA t).toList := by simp [tkC, List.flatMap_append]
theorem tkC_at : ∀ (ts : List Tk) (i j : Nat) (h : i < ts.length), j < 5 → (tkC ts)[i * 5 + j]? = (tkA ts[i]).toList[j]?
  | t :: r, 0, j, _, hj => by
    unfold tkC; rw [List.flatMap_cons, List.getElem?_append_left (by simp [tkA]; omega)]; simp
  | t :: r, i + 1, j, h, hj => by
    have ih := tkC_at r i j (by simpa using h) hj
    have e : tkC (t :: r) = (tkA t).toList ++ tkC r := by unfold tkC; rw [List.flatMap_cons]
    rw [e, List.getElem?_append_right (by simp [tkA]; omega)]
    simp only [tkA, List.getElem_cons_succ]
    rw [show (i + 1) * 5 + j - #[Value.int .i64 (t.pos : Int), .int .i64 t.kind, .int .i64 t.num, .int .i64 (t.wrong : Int), .string t.word].toList.length = i * 5 + j by simp; omega]
    exact ih
/-- A row of tokens of the call's own. -/
def Tok (w : World) (base : Nat) (v : Value) (ts : List Tk) : Prop := w.ownsRow base 181 5 v ts.length (tkC ts)
section
variable {w w' : World} {base : Nat} {v : Value} {ts : List Tk}
theorem Tok.fr (h : Tok w base v ts) (k : Fr w w') : Tok w' base v ts := by
  refine World.ownsRow.kept h (row := none) ⟨k.os, k.tape, k.output, k.size, fun i hi _ => k.block i hi⟩ ?_
  cases hv : v.ownBlock
  · exact .inl rfl
  · exact .inr (by simp)
theorem Tok.alloc (h : Tok w base v ts) (o : Obj) : Tok (w.alloc o) base v ts := h.fr ((Fr.refl w).alloc o)
theorem Tok.lt (h : Tok w base v ts) : ∀ b, v.ownBlock = some b → base ≤ b ∧ b < w.heap.size := fun b hb => World.ownsRow.lt h b hb
theorem Tok.new (w : World) : Tok (w.alloc (.cells #[] 181)) w.heap.size (.slice (some ⟨w.heap.size, 0, none⟩) 0 0) [] :=
  ⟨rfl, .inr ⟨w.heap.size, 0, #[], rfl, Nat.le_refl _, heap_alloc_new w _, Nat.le_refl _, Nat.zero_le _, rfl, rfl⟩⟩
end
theorem Tryz.infoTok : (Tryz.prog.info? 181).map (fun i => (i.zero, i.size, i.bytes)) = some (some (.agg #[.int .i64 0, .int .i64 0, .int .i64 0, .int .i64 0, .string ⟨#[]⟩]), 5, 48) := by kernel_rfl
/-- What an append of one token leaves. -/
structure Push (w : World) (base : Nat) (v : Value) (ts : List Tk) (t : Tk) (v' : Value) (w' : World) : Prop where
  tok : Tok w' base v' (ts ++ [t])
  fr : ∀ W, Fr W w → W.heap.size ≤ base → Fr W w'
  size : w.heap.size ≤ w'.heap.size
  blk : ∀ b, b < w.heap.size → v.ownBlock ≠ some b → w'.heap[b]? = w.heap[b]?
theorem run_push_tok (w : World) (base : Nat) (ty : TypeId) (v : Value) (ts : List Tk) (t : Tk) (g : Nat) (hown : Tok w base v ts) (hblk : w.heap[g]? = some (.cells (tkA t) 181 (0, 0))) (hlen : ts.length ≤ 300000) (hb : base ≤ w.heap.size) :
    ∃ v' w', (Builtin.append_ #[178, 178] ty #[v, .slice (some ⟨g, 0, none⟩) 1 1]).run Tryz.prog w = .ok v' w' ∧ Push w base v ts t v' w' := by
  obtain ⟨i, hi', hz0, hz1, hz2⟩ := info_parts Tryz.infoTok
  obtain ⟨v', w', hrun, h2, h3, _, _⟩ := run_append_own_at (P := Tryz.prog) w base 178 ty 181 i _ 5 48 Tryz.underlying178 hi' hz0 hz1 hz2 rfl (by omega) v ts.length (tkC ts) hown ⟨g, 0, none⟩ 1 1 (tkA t).toList rfl (World.news_of_block hblk) (by simp [tkA, Value.oneCell']) (by unfold maxLen; omega) (by omega) hb
  refine ⟨v', w', hrun, ?_, fun W hW hWb => Below.grown hW h3 hW.size (fun k hk => Nat.le_trans hWb (hown.lt k hk).1), h3.size, fun b hb hn => h3.block b hb (fun e => hn e.symm)⟩
  unfold Tok
  rw [List.length_append, List.length_singleton, tkC_snoc]
  exact h2
theorem wpList_push_tok {w : World} {ops : Array Oper} {rest : List Oper} {o : Oper} {a : Act} {Q : Exit → Act → World → Prop} (hw : Region.wanted o (yielded ops a.tmps) = true) (s x : Operand)
    (ho : o.op = .call { callee := .builtin .append, args := #[s, x], argTypes := #[178, 178] }) (base : Nat) (v : Value) (ts : List Tk) (t : Tk) (g : Nat) (hs : a.eval s = v) (hx : a.eval x = .slice (some ⟨g, 0, none⟩) 1 1)
    (hown : Tok w base v ts) (hblk : w.heap[g]? = some (.cells (tkA t) 181 (0, 0))) (hlen : ts.length ≤ 300000) (hb : base ≤ w.heap.size)
    (h : ∀ v' w', Hid (Push w base v ts t v' w') → wpList Tryz.prog ops Q rest (a.put o.dst v') w') : wpList Tryz.prog ops Q (o :: rest) a w := by
  refine wpList_step fun K hK => ?_
  rw [if_pos hw]
  obtain ⟨v', w', hrun, hp⟩ := run_push_tok w base o.type v ts t g hown hblk hlen hb
  unfold Oper.wp execOp
  simp only [ho, resolve, invoke, builtin, Sem.run_bind, Sem.run_pure, Result.andThen_ok, List.map_toArray, List.map_cons, List.map_nil, hs, hx, hrun]
  exact hK _ _ (h v' w' (Lib.hid hp))
/-- The token's own block, behind an append. -/
theorem Push.bk {w : World} {base : Nat} {v v' : Value} {ts : List Tk} {t : Tk} {w' : World} {b : Nat} {ty : TypeId} {cs : Array Value} (h : Push w base v ts t v' w') (hb : Bk w b ty cs) (hn : v.ownBlock ≠ some b) : Bk w' b ty cs := by
  have := hb.lt
  unfold Bk at *
  rw [h.blk b this hn]; exact hb
end Go.Proofs.YtdipnhghdajplaaGreatDoor
namespace Go.Proofs.YtdipnhghdajplaaGreatDoor
open Go.RowKit
set_option linter.unusedSimpArgs false
set_option linter.unusedVariables false

theorem digL_app (l m : List UInt8) : ∀ a : Int, digL a (l ++ m) = (digL a l).bind fun v => digL v m := by
  induction l with
  | nil => intro a; rfl
  | cons c r ih =>
    intro a
    rw [List.cons_append, digL_cons, digL_cons]
    by_cases h : 48 ≤ c.toNat ∧ c.toNat ≤ 57
    · rw [if_pos h, if_pos h, ih]
    · rw [if_neg h, if_neg h]; rfl
def numE : Option Int → Ending
  | some n => .returned (.tuple #[.int .i64 n, .bool true])
  | none => .returned (.tuple #[.int .i64 0, .bool false])
def RelN (d : ByteArray) (n i : Value) : Prop := ∃ (k : Nat) (v : Int), k ≤ d.size ∧ i = .int .i64 (k : Int) ∧ n = .int .i64 v ∧ digL 0 (d.data.toList.take k) = some v
theorem take_at (d : ByteArray) (k : Nat) (h : k < d.size) : d.data.toList.take (k + 1) = d.data.toList.take k ++ [d[k]] := by
  have h2 : k < d.data.toList.length := by simpa using h
  rw [List.take_succ_eq_append_getElem h2]; rfl
theorem digL_next (d : ByteArray) (k : Nat) (v : Int) (h : k < d.size) (hv : digL 0 (d.data.toList.take k) = some v) (h1 : 48 ≤ (d[k].toNat : Int)) (h2 : (d[k].toNat : Int) ≤ 57) : digL 0 (d.data.toList.take (k + 1)) = some (v * 10 + ((d[k].toNat : Int) - 48)) := by
  rw [take_at d k h, digL_snoc, hv]
  simp only [Option.bind_some]
  rw [if_pos (by omega)]
theorem digL_bad (d : ByteArray) (k : Nat) (v : Int) (h : k < d.size) (hv : digL 0 (d.data.toList.take k) = some v) (h1 : ¬ (48 ≤ (d[k].toNat : Int) ∧ (d[k].toNat : Int) ≤ 57)) : digL 0 d.data.toList = none := by
  rw [← List.take_append_drop k d.data.toList, digL_app, hv]
  simp only [Option.bind_some]
  rw [drop_at d k h, digL_cons, if_neg (by omega)]
theorem digL_small {d : ByteArray} {k : Nat} {v : Int} (hk : k ≤ d.size) (h : k ≤ 17) (hv : digL 0 (d.data.toList.take k) = some v) : 0 ≤ v ∧ v < 100000000000000000 := by
  refine ⟨digL_some hv, Int.lt_of_lt_of_le (digL_lt hv) ?_⟩
  have hl : (d.data.toList.take k).length ≤ 17 := by simp; omega
  have : (10 : Nat) ^ (d.data.toList.take k).length ≤ 10 ^ 17 := Nat.pow_le_pow_right (by decide) hl
  have h2 : ((10 ^ (d.data.toList.take k).length : Nat) : Int) ≤ ((10 ^ 17 : Nat) : Int) := by exact_mod_cast this
  rw [Int.natCast_pow] at h2
  exact h2
theorem digL_less {d : ByteArray} {v : Int} (h : d.size ≤ 18) (hv : digL 0 d.data.toList = some v) : 0 ≤ v ∧ v < 1000000000000000000 := by
  refine ⟨digL_some hv, Int.lt_of_lt_of_le (digL_lt hv) ?_⟩
  have hl : d.data.toList.length ≤ 18 := by simp; omega
  have : (10 : Nat) ^ d.data.toList.length ≤ 10 ^ 18 := Nat.pow_le_pow_right (by decide) hl
  have h2 : ((10 ^ d.data.toList.length : Nat) : Int) ≤ ((10 ^ 18 : Nat) : Int) := by exact_mod_cast this
  rw [Int.natCast_pow] at h2
  exact h2
theorem list_at0 (d : ByteArray) (h : 0 < d.size) : d.data.toList = d[0] :: d.data.toList.drop 1 := by
  have := drop_at d 0 h
  simpa using this
theorem magL_none {d : ByteArray} {neg : Bool} (h : d.size = 0 ∨ 18 < d.size) : magL neg d.data.toList = none := by
  rcases Nat.eq_zero_or_pos d.size with h0 | h0
  · have : d.data.toList = [] := List.eq_nil_of_length_eq_zero (by simpa using h0)
    rw [this]; rfl
  · have hl : d.data.toList.length = d.size := by simp
    rw [list_at0 d h0] at hl ⊢
    unfold magL
    simp only
    rw [if_pos (.inl (by omega))]
theorem magL_zero {d : ByteArray} {neg : Bool} (h : 0 < d.size) (h48 : (d[0].toNat : Int) = 48) (hn : neg = true ∨ 1 < d.size) : magL neg d.data.toList = none := by
  have hl : d.data.toList.length = d.size := by simp
  rw [list_at0 d h] at hl ⊢
  have hc : neg = true ∨ d.data.toList.drop 1 ≠ [] := by
    rcases hn with hn | hn
    · exact .inl hn
    · refine .inr fun e => ?_
      rw [e] at hl; simp at hl; omega
  unfold magL
  simp only
  rw [if_pos (.inr ⟨by omega, hc⟩)]
theorem magL_dig {d : ByteArray} {neg : Bool} (h : 0 < d.size) (h18 : d.size ≤ 18) (hz : ¬ ((d[0].toNat : Int) = 48 ∧ (neg = true ∨ 1 < d.size))) : magL neg d.data.toList = (digL 0 d.data.toList).map (fun n => if neg then -n else n) := by
  have hl : d.data.toList.length = d.size := by simp
  rw [list_at0 d h] at hl ⊢
  rw [magL]
  rw [if_neg]
  rintro (k | ⟨k1, k2⟩)
  · omega
  · refine hz ⟨by omega, ?_⟩
    rcases k2 with k2 | k2
    · exact .inl k2
    · rcases Nat.lt_or_ge 1 d.size with k3 | k3
      · exact .inr k3
      · exact absurd (List.eq_nil_of_length_eq_zero (by simp at hl ⊢; omega)) k2
theorem numL_neg {s : ByteArray} (h : 0 < s.size) (h45 : (s[0].toNat : Int) = 45) : numL s.data.toList = magL true (s.data.toList.drop 1) := by
  rw [list_at0 s h, numL, if_pos (by omega)]; simp
theorem numL_pos {s : ByteArray} (h : 0 < s.size) (h45 : ¬ (s[0].toNat : Int) = 45) : numL s.data.toList = magL false s.data.toList := by
  conv => lhs; rw [list_at0 s h, numL, if_neg (by omega), ← list_at0 s h]
set_option maxHeartbeats 3200000 in
set_option maxRecDepth 100000 in
theorem number_pos (s : ByteArray) (w : World) (hs : s.size ≤ 281474976710656) (h0 : 0 < s.size) (h45 : ¬ (s[0].toNat : Int) = 45) :
    Calls Tryz.prog 119 #[.string s] w fun e w' => e = numE (numL s.data.toList) ∧ w = w' := by
  have HN := Lib.hid (numL_pos h0 h45)
  have hb : ((s[0].toNat : Int) == 45) = false := by simp; omega
  clear h45
  have hdp : 0 < s.size := h0
  have hd1 : decide ((s.size : Int) < 1) = false := by simp; omega
  by_cases h18 : 18 < s.size
  · have hd2 : decide ((18 : Int) < (s.size : Int)) = true := by simp; omega
    have HQ := Lib.hid (show numL s.data.toList = none from HN.out.trans (magL_none (.inr h18)))
    go_enter Tryz.func119, Tryz.ntmps119
    go_wp2
    go_ret2
    exact ⟨by rw [HQ.out]; rfl, rfl⟩
  have hd2 : decide ((18 : Int) < (s.size : Int)) = false := by simp; omega
  by_cases hz : (s[0].toNat : Int) = 48 ∧ (false = true ∨ 1 < s.size)
  · have hz1 : ((s[0].toNat : Int) == 48) = true := by rw [hz.1]; rfl
    have hz2 : decide ((1 : Int) < (s.size : Int)) = true := by rw [decide_eq_true_eq]; have := hz.2; simp at this; omega
    have HQ := Lib.hid (show numL s.data.toList = none from HN.out.trans (magL_zero hdp hz.1 hz.2))
    clear hz
    go_enter Tryz.func119, Tryz.ntmps119
    go_wp2
    go_ret2
    exact ⟨by rw [HQ.out]; rfl, rfl⟩
  have HG := Lib.hid (show numL s.data.toList = (digL 0 s.data.toList).map (fun n => if false then -n else n) from HN.out.trans (magL_dig hdp (by omega) hz))
  have hzz : ((s[0].toNat : Int) == 48) = false ∨ (((s[0].toNat : Int) == 48) = true ∧ decide ((1 : Int) < (s.size : Int)) = false) := by
    by_cases k : (s[0].toNat : Int) = 48
    · refine .inr ⟨by rw [k]; rfl, ?_⟩
      rw [decide_eq_false_iff_not]
      intro k2
      exact hz ⟨k, .inr (by omega)⟩
    · exact .inl (by simpa using k)
  clear hz
  have h18' : s.size ≤ 18 := by omega
  have h18i : (s.size : Int) ≤ 18 := by omega
  rcases hzz with hzz | ⟨hzz, hz2⟩
  all_goals
    go_enter Tryz.func119, Tryz.ntmps119
    go_wp2
    go_loop [5, 6] (fun n i => RelN s n i) (fun _ i => s.size - (intOf i).toNat)
    case atStart => exact ⟨0, 0, Nat.zero_le _, rfl, rfl, rfl⟩
    case round =>
      obtain ⟨k, v, hk, rfl, rfl, hv⟩ := hrel
      by_cases hlt2 : k < s.size
      · have hb1 := digL_small hk (by omega) hv
        obtain ⟨hv0, hv1⟩ := hb1
        have HNX := Lib.hid (digL_next s k v hlt2 hv)
        have HBD := Lib.hid (digL_bad s k v hlt2 hv)
        have hc8 := s[k].toNat_lt
        clear hv
        go_wp2
        · go_ret2
          exact ⟨by rw [HG.out, HBD.out (by omega)]; rfl, rfl⟩
        · go_round
          case rel => exact ⟨k + 1, v * 10 + ((s[k].toNat : Int) - 48), by omega, by go_num, by go_num, HNX.out (by omega) (by omega)⟩
          case measure => simp [intOf]; omega
        · go_ret2
          exact ⟨by rw [HG.out, HBD.out (by omega)]; rfl, rfl⟩
      · obtain rfl : k = s.size := by omega
        rw [List.take_of_length_le (by simp)] at hv
        have hb1 := digL_less h18' hv
        obtain ⟨hv0, hv1⟩ := hb1
        have HV := Lib.hid hv
        clear hv
        go_wp2
        go_ret2
        exact ⟨by rw [HG.out, HV.out]; rfl, rfl⟩
set_option maxHeartbeats 3200000 in
set_option maxRecDepth 100000 in
theorem number_neg (s d : ByteArray) (w : World) (hs : s.size ≤ 281474976710656) (h0 : 0 < s.size) (h45 : (s[0].toNat : Int) = 45) (hx : s.extract 1 s.size = d) :
    Calls Tryz.prog 119 #[.string s] w fun e w' => e = numE (numL s.data.toList) ∧ w = w' := by
  have hds : d.size = s.size - 1 := by rw [← hx]; simp
  have hdl : s.data.toList.drop 1 = d.data.toList := by rw [← hx]; simp [List.take_of_length_le]
  have HN := Lib.hid (show numL s.data.toList = magL true d.data.toList from by rw [numL_neg h0 h45, hdl])
  have hx2 : s.extract 1 (s.size) = d := hx
  have hb : ((s[0].toNat : Int) == 45) = true := by rw [h45]; rfl
  have hlt : decide (d.size < s.size) = true := by rw [decide_eq_true_eq]; omega
  have HDS := Lib.hid hds
  clear h45 hdl hds
  by_cases hd0 : d.size = 0
  · have hd1 : decide ((d.size : Int) < 1) = true := by simp; omega
    have hd2 : (d.size : Int) < 1 := by omega
    have HD0 := Lib.hid hd0
    clear hd0
    have HQ := Lib.hid (show numL s.data.toList = none from HN.out.trans (magL_none (.inl HD0.out)))
    go_enter Tryz.func119, Tryz.ntmps119
    go_wp2
    go_ret2
    exact ⟨by rw [HQ.out]; rfl, rfl⟩
  have hdp : 0 < d.size := by omega
  have hd1 : decide ((d.size : Int) < 1) = false := by simp; omega
  by_cases h18 : 18 < d.size
  · have hd2 : decide ((18 : Int) < (d.size : Int)) = true := by simp; omega
    have HQ := Lib.hid (show numL s.data.toList = none from HN.out.trans (magL_none (.inr h18)))
    go_enter Tryz.func119, Tryz.ntmps119
    go_wp2
    go_ret2
    exact ⟨by rw [HQ.out]; rfl, rfl⟩
  have hd2 : decide ((18 : Int) < (d.size : Int)) = false := by simp; omega
  by_cases hz : (d[0].toNat : Int) = 48 ∧ (true = true ∨ 1 < d.size)
  · have hz1 : ((d[0].toNat : Int) == 48) = true := by rw [hz.1]; rfl
    have hz2 : decide ((1 : Int) < (s.size : Int)) = true := by rw [decide_eq_true_eq]; have := HDS.out; omega
    have HQ := Lib.hid (show numL s.data.toList = none from HN.out.trans (magL_zero hdp hz.1 hz.2))
    clear hz
    go_enter Tryz.func119, Tryz.ntmps119
    go_wp2
    go_ret2
    exact ⟨by rw [HQ.out]; rfl, rfl⟩
  have HG := Lib.hid (show numL s.data.toList = (digL 0 d.data.toList).map (fun n => if true then -n else n) from HN.out.trans (magL_dig hdp (by omega) hz))
  have hzz : ((d[0].toNat : Int) == 48) = false ∨ (((d[0].toNat : Int) == 48) = true ∧ decide ((1 : Int) < (s.size : Int)) = false) := by
    by_cases k : (d[0].toNat : Int) = 48
    · refine .inr ⟨by rw [k]; rfl, ?_⟩
      rw [decide_eq_false_iff_not]
      intro k2
      exact hz ⟨k, .inl rfl⟩
    · exact .inl (by simpa using k)
  clear hz
  have h18' : d.size ≤ 18 := by omega
  have h18i : (d.size : Int) ≤ 18 := by omega
  rcases hzz with hzz | ⟨hzz, hz2⟩
  all_goals
    go_enter Tryz.func119, Tryz.ntmps119
    go_wp2
    go_loop [5, 6] (fun n i => RelN d n i) (fun _ i => d.size - (intOf i).toNat)
    case atStart => exact ⟨0, 0, Nat.zero_le _, rfl, rfl, rfl⟩
    case round =>
      obtain ⟨k, v, hk, rfl, rfl, hv⟩ := hrel
      by_cases hlt2 : k < d.size
      · have hb1 := digL_small hk (by omega) hv
        obtain ⟨hv0, hv1⟩ := hb1
        have HNX := Lib.hid (digL_next d k v hlt2 hv)
        have HBD := Lib.hid (digL_bad d k v hlt2 hv)
        have hc8 := d[k].toNat_lt
        clear hv
        go_wp2
        · go_ret2
          exact ⟨by rw [HG.out, HBD.out (by omega)]; rfl, rfl⟩
        · go_round
          case rel => exact ⟨k + 1, v * 10 + ((d[k].toNat : Int) - 48), by omega, by go_num, by go_num, HNX.out (by omega) (by omega)⟩
          case measure => simp [intOf]; omega
        · go_ret2
          exact ⟨by rw [HG.out, HBD.out (by omega)]; rfl, rfl⟩
      · obtain rfl : k = d.size := by omega
        rw [List.take_of_length_le (by simp)] at hv
        have hb1 := digL_less h18' hv
        obtain ⟨hv0, hv1⟩ := hb1
        have HV := Lib.hid hv
        clear hv
        go_wp2
        go_ret2
        exact ⟨by rw [HG.out, HV.out]; rfl, rfl⟩
theorem number_any (s : ByteArray) (w : World) (hs : s.size ≤ 281474976710656) (h0 : 0 < s.size) :
    Calls Tryz.prog 119 #[.string s] w fun e w' => e = numE (numL s.data.toList) ∧ w = w' := by
  by_cases h45 : (s[0].toNat : Int) = 45
  · exact number_neg s _ w hs h0 h45 rfl
  · exact number_pos s w hs h0 h45
end Go.Proofs.YtdipnhghdajplaaGreatDoor
