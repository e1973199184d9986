/- Rows of tokens in memory. -/
import Derived.Test.YtigbldheclnmeaaGreatDoorKPc
import Derived.Test.YtigbldheclnmeaaGreatDoorKSv
import Derived.Deep.AppendLies
namespace Go.Proofs.YtigbldheclnmeaaGreatDoor
open Go.RowKit
set_option linter.unusedSimpArgs false
set_option linter.unusedVariables false

def tkA (t : Tk) : Array Value := #[.int .i64 (t.pos : Int), .int .i64 t.kind, .int .i64 t.num, .int .i64 (t.wrong : Int), .string t.word]
def tkC (ts : List Tk) : List Value := ts.flatMap fun t => (tkA t).toList
theorem tkC_len (ts : List Tk) : (tkC ts).length = ts.length * 5 := by
  induction ts with
  | nil => rfl
  | cons t r ih => unfold tkC at *; rw [List.flatMap_cons, List.length_append, ih]; simp [tkA]; omega
theorem tkC_snoc (ts : List Tk) (t : Tk) : tkC (ts ++ [t]) = tkC ts ++ (tkA t).toList := by simp [tkC, List.flatMap_append]
theorem tkC_at : ∀ (ts : List Tk) (i j : Nat) (h : i < ts.length), j < 5 → (tkC ts)[i * 5 + j]? = (tkA ts[i]).toList[j]?
  | t :: r, 0, j, _, hj => by
    unfold tkC; rw [List.flatMap_cons, List.getElem?_append_left (by simp [tkA]; omega)]; simp
  | t :: r, i + 1, j, h, hj => by
    have ih := tkC_at r i j (by simpa using h) hj
    have e : tkC (t :: r) = (tkA t).toList ++ tkC r := by unfold tkC; rw [List.flatMap_cons]
    rw [e, List.getElem?_append_right (by simp [tkA]; omega)]
    simp only [tkA, List.getElem_cons_succ]
    rw [show (i + 1) * 5 + j - #[Value.int .i64 (t.pos : Int), .int .i64 t.kind, .int .i64 t.num, .int .i64 (t.wrong : Int), .string t.word].toList.length = i * 5 + j by simp; omega]
    exact ih
/-- A row of tokens of the call's own. -/
def Tok (w : World) (base : Nat) (v : Value) (ts : List Tk) : Prop := w.ownsRow base 271 5 v ts.length (tkC ts)
section
variable {w w' : World} {base : Nat} {v : Value} {ts : List Tk}
theorem Tok.fr (h : Tok w base v ts) (k : Fr w w') : Tok w' base v ts := by
  refine World.ownsRow.kept h (row := none) ⟨k.os, k.tape, k.output, k.size, fun i hi _ => k.block i hi⟩ ?_
  cases hv : v.ownBlock
  · exact .inl rfl
  · exact .inr (by simp)
theorem Tok.alloc (h : Tok w base v ts) (o : Obj) : Tok (w.alloc o) base v ts := h.fr ((Fr.refl w).alloc o)
theorem Tok.lt (h : Tok w base v ts) : ∀ b, v.ownBlock = some b → base ≤ b ∧ b < w.heap.size := fun b hb => World.ownsRow.lt h b hb
theorem Tok.new (w : World) : Tok (w.alloc (.cells #[] 271)) w.heap.size (.slice (some ⟨w.heap.size, 0, none⟩) 0 0) [] :=
  ⟨rfl, .inr ⟨w.heap.size, 0, #[], rfl, Nat.le_refl _, heap_alloc_new w _, Nat.le_refl _, Nat.zero_le _, rfl, rfl⟩⟩
end
theorem Tryz.infoTok : (Tryz.prog.info? 271).map (fun i => (i.zero, i.size, i.bytes)) = some (some (.agg #[.int .i64 0, .int .i64 0, .int .i64 0, .int .i64 0, .string ⟨#[]⟩]), 5, 48) := by kernel_rfl
/-- What an append of one token leaves. -/
structure Push (w : World) (base : Nat) (v : Value) (ts : List Tk) (t : Tk) (v' : Value) (w' : World) : Prop where
  tok : Tok w' base v' (ts ++ [t])
  fr : ∀ W, Fr W w → W.heap.size ≤ base → Fr W w'
  size : w.heap.size ≤ w'.heap.size
  blk : ∀ b, b < w.heap.size → v.ownBlock ≠ some b → w'.heap[b]? = w.heap[b]?
theorem run_push_tok (w : World) (base : Nat) (ty : TypeId) (v : Value) (ts : List Tk) (t : Tk) (g : Nat) (hown : Tok w base v ts) (hblk : w.heap[g]? = some (.cells (tkA t) 271 (0, 0))) (hlen : ts.length ≤ 300000) (hb : base ≤ w.heap.size) :
    ∃ v' w', (Builtin.append_ #[268, 268] ty #[v, .slice (some ⟨g, 0, none⟩) 1 1]).run Tryz.prog w = .ok v' w' ∧ Push w base v ts t v' w' := by
  obtain ⟨i, hi', hz0, hz1, hz2⟩ := info_parts Tryz.infoTok
  obtain ⟨v', w', hrun, h2, h3, _, _⟩ := run_append_own_at (P := Tryz.prog) w base 268 ty 271 i _ 5 48 Tryz.underlying268 hi' hz0 hz1 hz2 rfl (by omega) v ts.length (tkC ts) hown ⟨g, 0, none⟩ 1 1 (tkA t).toList rfl (World.news_of_block hblk) (by simp [tkA, Value.oneCell']) (by unfold maxLen; omega) (by omega) hb
  refine ⟨v', w', hrun, ?_, fun W hW hWb => Below.grown hW h3 hW.size (fun k hk => Nat.le_trans hWb (hown.lt k hk).1), h3.size, fun b hb hn => h3.block b hb (fun e => hn e.symm)⟩
  unfold Tok
  rw [List.length_append, List.length_singleton, tkC_snoc]
  exact h2
theorem wpList_push_tok {w : World} {ops : Array Oper} {rest : List Oper} {o : Oper} {a : Act} {Q : Exit → Act → World → Prop} (hw : Region.wanted o (yielded ops a.tmps) = true) (s x : Operand)
    (ho : o.op = .call { callee := .builtin .append, args := #[s, x], argTypes := #[268, 268] }) (base : Nat) (v : Value) (ts : List Tk) (t : Tk) (g : Nat) (hs : a.eval s = v) (hx : a.eval x = .slice (some ⟨g, 0, none⟩) 1 1)
    (hown : Tok w base v ts) (hblk : w.heap[g]? = some (.cells (tkA t) 271 (0, 0))) (hlen : ts.length ≤ 300000) (hb : base ≤ w.heap.size)
    (h : ∀ v' w', Hid (Push w base v ts t v' w') → wpList Tryz.prog ops Q rest (a.put o.dst v') w') : wpList Tryz.prog ops Q (o :: rest) a w := by
  refine wpList_step fun K hK => ?_
  rw [if_pos hw]
  obtain ⟨v', w', hrun, hp⟩ := run_push_tok w base o.type v ts t g hown hblk hlen hb
  unfold Oper.wp execOp
  simp only [ho, resolve, invoke, builtin, Sem.run_bind, Sem.run_pure, Result.andThen_ok, List.map_toArray, List.map_cons, List.map_nil, hs, hx, hrun]
  exact hK _ _ (h v' w' (Lib.hid hp))
/-- The token's own block, behind an append. -/
theorem Push.bk {w : World} {base : Nat} {v v' : Value} {ts : List Tk} {t : Tk} {w' : World} {b : Nat} {ty : TypeId} {cs : Array Value} (h : Push w base v ts t v' w') (hb : Bk w b ty cs) (hn : v.ownBlock ≠ some b) : Bk w' b ty cs := by
  have := hb.lt
  unfold Bk at *
  rw [h.blk b this hn]; exact hb
end Go.Proofs.YtigbldheclnmeaaGreatDoor
