/- The document's text between quotes. -/
import Derived.Test.YtigbldheclnmeaaGreatDoorKSq
import Derived.Test.YtigbldheclnmeaaGreatDoorKPa
namespace Go.Proofs.YtigbldheclnmeaaGreatDoor
open Go.RowKit
set_option linter.unusedSimpArgs false
set_option linter.unusedVariables false

/-- A token, as a value. -/
abbrev tkv (j : Nat) (k n : Int) (wr : Nat) (s : ByteArray) : Value := .agg #[.int .i64 (j : Int), .int .i64 k, .int .i64 n, .int .i64 (wr : Int), .string s]
def tkE (j : Nat) (k n : Int) (wr : Nat) (s : ByteArray) (x : Nat) : Ending := .returned (.tuple #[tkv j k n wr s, .int .i64 (x : Int)])
def TxPost (s : ByteArray) (j : Nat) (w : World) (q : Q) (e : Ending) (w' : World) : Prop :=
  match q with
  | .closed m => e = tkE j 3 0 0 (s.extract (j + 1) (j + 1 + m)) (j + (m + 2)) ∧ Fr w w'
  | .wrong m => e = tkE j 6 0 (j + (m + 1)) ⟨#[]⟩ 0 ∧ Fr w w'
  | .unclosed => e = tkE j 6 0 j ⟨#[]⟩ 0 ∧ Fr w w'
section
variable {s : ByteArray} {j m : Nat} {w w' : World} {q : Q} {e : Ending}
theorem tx_closed (h : q = .closed m) (he : e = tkE j 3 0 0 (s.extract (j + 1) (j + 1 + m)) (j + (m + 2))) (hw : Fr w w') : TxPost s j w q e w' := by subst h; exact ⟨he, hw⟩
theorem tx_wrong (h : q = .wrong m) (he : e = tkE j 6 0 (j + (m + 1)) ⟨#[]⟩ 0) (hw : Fr w w') : TxPost s j w q e w' := by subst h; exact ⟨he, hw⟩
theorem tx_open (h : q = .unclosed) (he : e = tkE j 6 0 j ⟨#[]⟩ 0) (hw : Fr w w') : TxPost s j w q e w' := by subst h; exact ⟨he, hw⟩
end
section
variable {c : UInt8} {r : List UInt8} {m : Nat}
theorem txl_nl (h : (c.toNat : Int) = 10) : textL (c :: r) m = .unclosed := by rw [textL_cons, if_pos (by omega)]
theorem txl_quo (h : (c.toNat : Int) = 34) : textL (c :: r) m = .closed m := by rw [textL_cons, if_neg (by omega), if_pos (by omega)]
theorem txl_bad (h : (c.toNat : Int) ≠ 10) (h2 : (c.toNat : Int) < 32 ∨ 126 < (c.toNat : Int)) : textL (c :: r) m = .wrong m := by
  rw [textL_cons, if_neg (by omega), if_neg (by omega), if_neg]
  unfold txB; simp; omega
theorem txl_next (h : (c.toNat : Int) ≠ 34) (h2 : 32 ≤ (c.toNat : Int)) (h3 : (c.toNat : Int) ≤ 126) : textL (c :: r) m = textL r (m + 1) := by
  rw [textL_cons, if_neg (by omega), if_neg (by omega), if_pos]
  unfold txB; simp; omega
end
theorem tk_e {a b : Int} {k n wr : Int} {s : ByteArray} {x y : Nat} {z : Nat} (h1 : a = (x : Int)) (h2 : wr = (z : Int)) (h3 : b = (y : Int)) : Ending.returned (.tuple #[.agg #[.int .i64 a, .int .i64 k, .int .i64 n, .int .i64 wr, .string s], .int .i64 b]) = tkE x k n z s y := by
  subst h1 h2 h3; rfl
abbrev tkz : Obj := .cells #[.int .i64 0, .int .i64 0, .int .i64 0, .int .i64 0, .string ⟨#[]⟩] 271
set_option maxHeartbeats 6400000 in
set_option maxRecDepth 100000 in
theorem text_any (j : Nat) (s : ByteArray) (w : World) (hj : j < s.size) (hs : s.size ≤ 281474976710656) :
    Calls Tryz.prog 229 #[.string s, .int .i64 (j : Int)] w fun e w' => TxPost s j w (textL (s.data.toList.drop (j + 1)) 0) e w' := by
  have HF := Lib.hid ((Fr.refl w).alloc tkz)
  have HS := Lib.hid hs
  have hs2 : (s.size : Int) ≤ 281474976710656 := by omega
  go_enter Tryz.func229, Tryz.ntmps229
  go_wp2
  go_loop [6] (fun i => QuRel s j i) (fun i => s.size - (intOf i).toNat)
  case atStart => exact ⟨0, by omega, rfl, rfl⟩
  case round =>
    obtain ⟨m, hm, rfl, hq⟩ := hrel
    have HQ := Lib.hid hq
    clear hq
    by_cases hlt : j + 1 + m < s.size
    · have hD := Lib.hid (drop_at s (j + 1 + m) hlt)
      have b2 : (j : Int) + 1 + (m : Int) ≤ (s.size : Int) := by omega
      have hsl := slice_at s (j + 1) (j + 1 + m) (by omega) (by omega)
      have e1 : ((j + 1 : Nat) : Int) = (j : Int) + 1 := by omega
      have e2 : ((j + 1 + m : Nat) : Int) = (j : Int) + 1 + (m : Int) := by omega
      rw [e1, e2] at hsl
      clear e1 e2
      go_wp2
      all_goals first
        | (have t1 : ((s[j + 1 + m].toNat : Int) == 34) = true := by assumption
           refine bodyPost_ret (by simp [results, Tryz.results229, go_sem]; rfl) rfl (tx_closed (m := m) ?_ ?_ ((Fr.refl w).alloc _))
           · rw [HQ.out, hD.out]; exact txl_quo (by simp at t1; omega)
           · exact tk_e rfl rfl (by omega))
        | (have t1 : ((s[j + 1 + m].toNat : Int) != 10) = false := by assumption
           refine bodyPost_ret (by simp [results, Tryz.results229, go_sem]; rfl) rfl (tx_open ?_ ?_ ((Fr.refl w).alloc _))
           · rw [HQ.out, hD.out]; exact txl_nl (by simp at t1; omega)
           · exact tk_e rfl rfl rfl)
        | (have t2 : ((s[j + 1 + m].toNat : Int) == 34) = false := by assumption
           simp at t2
           go_round
           case rel => exact ⟨m + 1, by omega, by go_num, by rw [HQ.out, hD.out, txl_next (by omega) (by omega) (by omega)]; rfl⟩
           case measure => simp [intOf]; omega)
        | (have t1 : ((s[j + 1 + m].toNat : Int) != 10) = true := by assumption
           simp at t1
           refine bodyPost_ret (by simp [results, Tryz.results229, go_sem]; rfl) rfl (tx_wrong (m := m) ?_ ?_ ((Fr.refl w).alloc _))
           · rw [HQ.out, hD.out]; exact txl_bad (by omega) (by omega)
           · exact tk_e rfl (by omega) rfl)
    · have hsz : j + 1 + m = s.size := by omega
      go_wp2
      refine bodyPost_ret (by simp [results, Tryz.results229, go_sem]; rfl) rfl (tx_open ?_ ?_ ((Fr.refl w).alloc _))
      · rw [HQ.out, hsz, drop_all, textL_nil]
      · exact tk_e rfl rfl rfl
end Go.Proofs.YtigbldheclnmeaaGreatDoor
