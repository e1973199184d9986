/- The document's Copy of a sum: new memory that reads as the same. -/
import Derived.Test.YtbnaakognnkhdaaDoorNcd
import Derived.Test.YtbnaakognnkhdaaDoorItd
import Derived.Deep.RegionHeld3
namespace Go.Proofs.YtbnaakognnkhdaaDoor
open Go.RowKit
set_option linter.unusedSimpArgs false
set_option linter.unusedVariables false

theorem Tryd.infoStr : (Tryd.prog.info? 9).map (fun i => (i.zero, i.size, i.bytes)) = some (some (.string ⟨#[]⟩), 1, 16) := by kernel_rfl
theorem Tryd.infoInt : (Tryd.prog.info? 3).map (fun i => (i.zero, i.size, i.bytes)) = some (some (.int .i64 0), 1, 8) := by kernel_rfl
theorem results_cell {P : Program} {fn : Func} {t : Tmp} {ty : TypeId} (h : fn.results = #[.cell t ty]) (tmps : Array Value) {w : World} {p : Addr} {v : Value} (hp : tmps.getD t undef = .pointer (some p)) (hl : (loadVar ty p).run P w = .ok v w) : (results fn tmps).run P w = .ok v w := by
  rw [Array.getD_eq_getD_getElem?] at hp
  simp [results, h, hp, asAddr, hl]
/-- What lies at A, if anything does, lies in a block of F. -/
def InF (F : Nat → Prop) (A : Option Addr) (n : Nat) : Prop := 0 < n → ∃ g o s, A = some ⟨g, o, s⟩ ∧ F g
/-- A sum in memory: its value, and its rows, in blocks of F. -/
def LnF (F : Nat → Prop) (w : World) (v : Value) (ss : List ByteArray) (ts : List Int) (off : Int) : Prop := ∃ A B c d, v = .agg #[.slice A ss.length c, .slice B ts.length d, .int .i64 off] ∧ Rd strv w A ss ∧ Rd intv w B ts ∧ InF F A ss.length ∧ InF F B ts.length
theorem LnF.fr {F : Nat → Prop} {w w' : World} {v : Value} {ss : List ByteArray} {ts : List Int} {off : Int} (h : LnF F w v ss ts off) (k : Fr w w') : LnF F w' v ss ts off := by
  obtain ⟨A, B, c, d, e, h1, h2, h3⟩ := h
  exact ⟨A, B, c, d, e, h1.fr k, h2.fr k, h3⟩
theorem rd_keep {α : Type} {f : α → Value} {F : Nat → Prop} {w w' : World} {A : Option Addr} {l : List α} (h : Rd f w A l) (hF : InF F A l.length) (k : ∀ g, F g → w'.heap[g]? = w.heap[g]?) : Rd f w' A l := fun hl => by
  obtain ⟨g, o, e, hg, hc⟩ := h hl
  obtain ⟨g', o', s', e', hf⟩ := hF hl
  rw [e] at e'
  injection e' with e'
  injection e' with e1
  subst e1
  have hk := k g hf
  have hcell : ∀ i, w'.cell? ⟨g, o + i, none⟩ = w.cell? ⟨g, o + i, none⟩ := fun i => by simp [World.cell?, hk]
  exact ⟨g, o, e, lt_of_cell ((hcell 0).trans (hc 0 hl)), fun i hi => (hcell i).trans (hc i hi)⟩
theorem InF.mono {F G : Nat → Prop} {A : Option Addr} {n : Nat} (h : InF F A n) (k : ∀ g, F g → G g) : InF G A n := fun hn => by
  obtain ⟨g, o, s, e, hf⟩ := h hn
  exact ⟨g, o, s, e, k g hf⟩
theorem LnF.mono {F G : Nat → Prop} {w : World} {v : Value} {ss : List ByteArray} {ts : List Int} {off : Int} (h : LnF F w v ss ts off) (k : ∀ g, F g → G g) : LnF G w v ss ts off := by
  obtain ⟨A, B, c, d, e, h1, h2, h3, h4⟩ := h
  exact ⟨A, B, c, d, e, h1, h2, h3.mono k, h4.mono k⟩
theorem LnF.keep {F : Nat → Prop} {w w' : World} {v : Value} {ss : List ByteArray} {ts : List Int} {off : Int} (h : LnF F w v ss ts off) (k : ∀ g, F g → w'.heap[g]? = w.heap[g]?) : LnF F w' v ss ts off := by
  obtain ⟨A, B, c, d, e, h1, h2, h3, h4⟩ := h
  exact ⟨A, B, c, d, e, rd_keep h1 h3 k, rd_keep h2 h4 k, h3, h4⟩
theorem own_inF {α : Type} {f : α → Value} {w : World} {base c n : Nat} {e : TypeId} {A : Option Addr} {l : List α} (h : Own f w base e (.slice A n c) l) : InF (fun g => base ≤ g ∧ g < w.heap.size) A n := fun hn => by
  obtain ⟨A', c', e', _, _, hr⟩ := h.val
  injection e' with e1 e2 e3
  subst e1
  have hl : 0 < l.length := by omega
  obtain ⟨g, o, rfl, hg, _⟩ := hr hl
  exact ⟨g, o, none, rfl, h.base_le g rfl, hg⟩
/-- New memory. -/
def New (w w' : World) (g : Nat) : Prop := w.heap.size ≤ g ∧ g < w'.heap.size
theorem grew_kept {α β : Type} {f : α → Value} {g : β → Value} {w w' : World} {base base' : Nat} {e e' : TypeId} {v v' x : Value} {l : List α} {m : List β} (h : Grew f w base e v l v' w') (ho : Own g w base' e' x m) (hne : x.ownBlock = none ∨ x.ownBlock ≠ v.ownBlock) : Own g w' base' e' x m :=
  ho.kept h.2.1 hne
theorem own_other {α : Type} {f : α → Value} {w w' : World} {base b : Nat} {e : TypeId} {v : Value} {l : List α} (h : Own f w base e v l) (hb : b < base) (hg : w.grownBy w' (some b)) : Own f w' base e v l := by
  refine h.kept hg ?_
  cases hv : v.ownBlock with
  | none => exact .inl rfl
  | some k => exact .inr (fun e => by have := h.base_le k hv; injection e with e; omega)
theorem grown_set {w w' : World} {b : Nat} (h : w.grownBy w' (some b)) {o : Nat} {v : Value} : w.grownBy (w'.setCell ⟨b, o, none⟩ v) (some b) :=
  ⟨h.os, h.tape, h.output, by have := h.size; simpa using this, fun i hi hn => (Below.heap_setCell w' ⟨b, o, none⟩ v i (fun e => hn (by rw [e]))).trans (h.block i hi hn)⟩
theorem load_lin {w : World} {b : Nat} {x y z : Value} (h0 : w.cell? ⟨b, 0, none⟩ = some x) (h1 : w.cell? ⟨b, 1, none⟩ = some y) (h2 : w.cell? ⟨b, 2, none⟩ = some z) : (loadVar 26 ⟨b, 0, none⟩).run Tryd.prog w = .ok (.agg #[x, y, z]) w := by
  simp [go_sem, *]
/-- The end: the sum is put into the block of the result. -/
theorem lin_end {w w4 : World} {rb base c3 c7 : Nat} {ss : List ByteArray} {ts : List Int} {off : Int} {A3 A7 : Option Addr} {x y z : Value} (hn : w.heap.size ≤ rb) (hK : Fr w w4) (hbase : rb < base)
    (h3 : Own strv w4 base 9 (.slice A3 ss.length c3) ss) (h7 : Own intv w4 base 3 (.slice A7 ts.length c7) ts) (z0 : w4.cell? ⟨rb, 0, none⟩ = some x) (z1 : w4.cell? ⟨rb, 1, none⟩ = some y) (z2 : w4.cell? ⟨rb, 2, none⟩ = some z) :
    ∃ w5, w5 = ((w4.setCell ⟨rb, 0, none⟩ (.slice A3 ss.length c3)).setCell ⟨rb, 1, none⟩ (.slice A7 ts.length c7)).setCell ⟨rb, 2, none⟩ (.int .i64 off) ∧
      (loadVar 26 ⟨rb, 0, none⟩).run Tryd.prog w5 = .ok (.agg #[.slice A3 ss.length c3, .slice A7 ts.length c7, .int .i64 off]) w5 ∧ LnF (New w w5) w5 (.agg #[.slice A3 ss.length c3, .slice A7 ts.length c7, .int .i64 off]) ss ts off ∧ Fr w w5 := by
  have zz := lt_of_cell z0
  have hg : w4.grownBy (((w4.setCell ⟨rb, 0, none⟩ (.slice A3 ss.length c3)).setCell ⟨rb, 1, none⟩ (.slice A7 ts.length c7)).setCell ⟨rb, 2, none⟩ (.int .i64 off)) (some (rb)) :=
    grown_set (grown_set (grown_set (World.grownBy.refl w4 _)))
  refine ⟨_, rfl, load_lin ?_ ?_ ?_, ?_, ?_⟩
  · simp [go_sem, *]
  · simp [go_sem, *]
  · simp [go_sem, *]
  · have o3 := own_other h3 hbase hg
    have o7 := own_other h7 hbase hg
    obtain ⟨_, _, e3, _, _, r3⟩ := o3.val
    obtain ⟨_, _, e7, _, _, r7⟩ := o7.val
    injection e3 with e3
    injection e7 with e7
    subst e3 e7
    exact ⟨_, _, _, _, rfl, r3, r7, (own_inF o3).mono fun g h => ⟨by have := h.1; omega, h.2⟩, (own_inF o7).mono fun g h => ⟨by have := h.1; omega, h.2⟩⟩
  · exact ((hK.set (p := ⟨rb, 0, none⟩) (hn) _).set (p := ⟨rb, 1, none⟩) (hn) _).set (p := ⟨rb, 2, none⟩) (hn) _
end Go.Proofs.YtbnaakognnkhdaaDoor
