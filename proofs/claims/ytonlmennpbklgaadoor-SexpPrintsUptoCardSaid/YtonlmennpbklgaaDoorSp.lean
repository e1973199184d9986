/- What the reader's tree and trees answer, said by the machine. -/
import Derived.Test.YtonlmennpbklgaaDoorSf
import Derived.Test.YtonlmennpbklgaaDoorSg
import Derived.Test.YtonlmennpbklgaaDoorSh
import Derived.Test.YtonlmennpbklgaaDoorSi
import Derived.Test.YtonlmennpbklgaaDoorSj
namespace Go.Proofs.YtonlmennpbklgaaDoor
open Go.RowKit
set_option linter.unusedSimpArgs false
set_option linter.unusedVariables false

theorem run_any (p j k : Nat) (s : ByteArray) (w : World) (hp : Pa w p s j k) (hj : j < s.size) (hs : s.size ≤ 281474976710656) (hq : s[j].toNat ≠ 34) (hp5 : 5 < p) (hla : Laid w) :
    Calls Tryd.prog 40 #[.pointer (some ⟨p, 0, none⟩)] w fun e w' => LfPost p s j k w (leaf s[j] (s.data.toList.drop (j + 1))) e w' := by
  cases hc : inB s[j]
  · exact run_none p j k s w hp hj hs hc hq
  · cases hnu : nuB s[j]
    · exact run_word p j k s w hp hj hs hc hq hnu
    · cases hat : Lib.atoiAll ((s.data.toList.drop j).take (ruN (s.data.toList.drop j))) with
      | ok v =>
        by_cases hv : okN v
        · by_cases he : Lib.itoa v = (s.data.toList.drop j).take (ruN (s.data.toList.drop j))
          · exact run_num p j k s w hp hj hs hc hq hnu hp5 hla v hv he
          · exact run_nnot p j k s w hp hj hs hc hq hnu hp5 hla v hat hv he
        · exact run_nbig p j k s w hp hj hs hc hq hnu hp5 hla v hat hv
      | range => exact run_nbad p j k s w hp hj hs hc hq hnu hp5 hla (fun v h => by rw [hat] at h; cases h)
      | _ => exact run_nbad p j k s w hp hj hs hc hq hnu hp5 hla (fun v h => by rw [hat] at h; cases h)
/-- Blocks that a call made. -/
def New (w w' : World) (b : Nat) : Prop := w.heap.size ≤ b ∧ b < w'.heap.size
def TreePost (p : Nat) (s : ByteArray) (d i k : Nat) (w : World) (e : Ending) (w' : World) : Prop :=
  (∃ (a : Nat) (er : Int), PanW a er e ∧ Wr p w w' ∧ ∀ (cur : List T) (rest : List (List T)), rest.length = d → run s.data.toList i (cur :: rest) k = .err a er) ∨
  (∃ (kd : Int) (sd : ByteArray) (nd : Int) (ks : List T) (A : Option Addr) (c j k' : Nat), e = .returned (.agg #[.int .i64 kd, .string sd, .int .i64 nd, .slice A ks.length c]) ∧ ks.length ≤ c ∧ RdL w' (New w w') A ks ∧
    Pa w' p s j k' ∧ i < j ∧ j ≤ s.size ∧ k' ≤ 65536 ∧ Wr p w w' ∧ ∀ (cur : List T) (rest : List (List T)), rest.length = d → run s.data.toList i (cur :: rest) k = run s.data.toList j ((cur ++ [.node kd sd nd ks]) :: rest) k')
def TreesPost (p : Nat) (s : ByteArray) (d i k : Nat) (w : World) (e : Ending) (w' : World) : Prop :=
  (∃ (a : Nat) (er : Int), PanW a er e ∧ Wr p w w' ∧ ∀ rest : List (List T), rest.length = d → run s.data.toList i ([] :: rest) k = .err a er) ∨
  (∃ (l : List T) (A : Option Addr) (c : Nat), e = .returned (.slice A l.length c) ∧ l.length ≤ c ∧ RdL w' (New w w') A l ∧ Wr p w w' ∧ (d = 0 → run s.data.toList i [[]] k = .ok l) ∧
    (0 < d → ∃ j k', Pa w' p s j k' ∧ i < j ∧ j ≤ s.size ∧ k' ≤ 65536 ∧ ∀ (par : List T) (rest : List (List T)), rest.length + 1 = d → run s.data.toList i ([] :: par :: rest) k = run s.data.toList j ((par ++ [.node 4 ⟨#[]⟩ 0 l]) :: rest) k'))
def TreeC (p : Nat) (s : ByteArray) (N : Nat) : Prop := ∀ (d i k : Nat) (w : World) (hi : i < s.size), s.size - i ≤ N → d ≤ 32 → k ≤ 65536 → Pa w p s i k → Laid w → Nb s[i] → s[i].toNat ≠ 41 →
  Calls Tryd.prog 28 #[.pointer (some ⟨p, 0, none⟩), .int .i64 (d : Int)] w fun e w' => TreePost p s d i k w e w'
def TreesC (p : Nat) (s : ByteArray) (N : Nat) : Prop := ∀ (d i k : Nat) (w : World), i ≤ s.size → s.size - i ≤ N → d ≤ 32 → k ≤ 65536 → Pa w p s i k → Laid w →
  Calls Tryd.prog 15 #[.pointer (some ⟨p, 0, none⟩), .int .i64 (d : Int)] w fun e w' => TreesPost p s d i k w e w'
theorem tree_pan {p d i k a : Nat} {er : Int} {s : ByteArray} {w w' : World} {e : Ending} (he : PanW a er e) (hw : Wr p w w') (hr : ∀ (cur : List T) (rest : List (List T)), rest.length = d → run s.data.toList i (cur :: rest) k = .err a er) : TreePost p s d i k w e w' := .inl ⟨a, er, he, hw, hr⟩
theorem tree_leaf {p d i k n k' : Nat} {kd nd : Int} {sd s : ByteArray} {w w' : World} {e : Ending} (he : e = .returned (tv kd sd nd)) (hp : Pa w' p s (i + n) k') (hn : 0 < n) (hl : i + n ≤ s.size) (hk : k' ≤ 65536) (hw : Wr p w w')
    (hr : ∀ (cur : List T) (rest : List (List T)), rest.length = d → run s.data.toList i (cur :: rest) k = run s.data.toList (i + n) ((cur ++ [.node kd sd nd []]) :: rest) k') : TreePost p s d i k w e w' :=
  .inr ⟨kd, sd, nd, [], none, 0, i + n, k', he, Nat.le_refl _, by unfold RdL; trivial, hp, by omega, hl, hk, hw, hr⟩
theorem tree_list {p d i k j k' c : Nat} {A : Option Addr} {l : List T} {s : ByteArray} {w w' : World} {e : Ending} (he : e = .returned (.agg #[.int .i64 4, .string ⟨#[]⟩, .int .i64 0, .slice A l.length c])) (hc : l.length ≤ c) (hrd : RdL w' (New w w') A l) (hp : Pa w' p s j k') (hj : i < j) (hl : j ≤ s.size) (hk : k' ≤ 65536) (hw : Wr p w w')
    (hr : ∀ (cur : List T) (rest : List (List T)), rest.length = d → run s.data.toList i (cur :: rest) k = run s.data.toList j ((cur ++ [.node 4 ⟨#[]⟩ 0 l]) :: rest) k') : TreePost p s d i k w e w' :=
  .inr ⟨4, ⟨#[]⟩, 0, l, A, c, j, k', he, hc, hrd, hp, hj, hl, hk, hw, hr⟩
end Go.Proofs.YtonlmennpbklgaaDoor
