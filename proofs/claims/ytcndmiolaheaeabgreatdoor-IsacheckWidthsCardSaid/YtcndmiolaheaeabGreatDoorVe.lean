/- The width of a register that a term names, of the program. -/
import Derived.Test.YtcndmiolaheaeabGreatDoorVda
namespace Go.Proofs.YtcndmiolaheaeabGreatDoor
open Go.RowKit
set_option linter.unusedSimpArgs false
set_option linter.unusedVariables false

/-- A world that keeps all of W's memory. -/
structure Ext (W : World) where
  world : World
  fr : Fr W world
instance Ext.inst (W : World) : Nonempty (Ext W) := ⟨⟨W, Fr.refl W⟩⟩
theorem wp_region_ext {P : Program} {id : Nat} {Q : Exit → Act → World → Prop} {a : Act} {w : World} {l : List Oper} (hm : P.follows .mixedOrders = true) (hB : Region.lexB .any l.toArray = true)
    (h : wpQuiet P l.toArray (fun w' => ∃ x : Ext w, w' = x.world) (fun a' => ∀ w', (∃ x : Ext w, w' = x.world) → Q .normal a' w') l a) : (Code.region id l.toArray true).wp P Q a w :=
  wp_region_quiet (C := fun w' => ∃ x : Ext w, w' = x.world) hm hB ⟨⟨_, Fr.drew (Fr.refl w)⟩, rfl⟩ (by simpa using h)
theorem ext_of {P : Program} {f : FuncId} {args : Array Value} {W : World} {x : Ext W} {v : Value}
    (h : Calls P f args x.world fun e w' => e = .returned v ∧ Fr x.world w') : Calls P f args x.world fun e w'' => e = .returned v ∧ ∃ y : Ext W, w'' = y.world :=
  h.mono fun _ _ ⟨he, hf⟩ => ⟨he, ⟨⟨_, Fr.call x.fr hf⟩, rfl⟩⟩
theorem Ext.get {W : World} (x : Ext W) {b o : Nat} {v : Value} (h : W.cell? ⟨b, o, none⟩ = some v) : x.world.cell? ⟨b, o, none⟩ = some v := x.fr.get h

/-- The cells of a block, from its first on. -/
def BlkAt (w : World) (b : Nat) (l : List Value) : Prop := ∀ k v, l[k]? = some v → w.cell? ⟨b, k, none⟩ = some v
theorem BlkAt.fr {w w' : World} {b : Nat} {l : List Value} (h : BlkAt w b l) (k : Fr w w') : BlkAt w' b l := fun i v hv => k.get (h i v hv)
theorem BlkAt.alloc {w : World} {t : TypeId} {cs : Array Value} : BlkAt (w.alloc (.cells cs t)) w.heap.size cs.toList := by
  intro k v hv
  have hk : cs[k]? = some v := by simpa using hv
  rw [World.cell?_alloc_at _ _ _ _ rfl]; exact hk
theorem fileO_file {E : Env} {a : Int} {f : Int × Int × Int} (h : fileO E a = some f) : ∃ j : Nat, ∃ hj : j < E.files.length, a = j ∧ E.files[j] = f ∧ fileB f = true := by
  cases hb : plB a E.files.length with
  | false => rw [fileO_no hb] at h; cases h
  | true =>
    obtain ⟨j, rfl, hj⟩ := plB_ex hb
    rw [fileO_at hj] at h
    split at h
    · rename_i hf; injection h with h; exact ⟨j, hj, rfl, h, h ▸ hf⟩
    · cases h
theorem classOf_none {E : Env} {w : World} {Fa Ca Aa : Option Addr} {sb cc ac : Nat} (s5 : w.cell? ⟨sb, 5, none⟩ = some (.slice Ca E.classes.length cc)) (s13 : w.cell? ⟨sb, 13, none⟩ = some (.slice Aa E.args.length ac))
    (hE : EnvAt E w Fa Ca Aa) (x : Int) (h : clsO E x = none) :
    Calls Tryz.prog 94 #[.pointer (some ⟨sb, 0, none⟩), .int .i64 x] w fun e w' => e = .returned (.tuple #[noClass, .bool false]) ∧ Fr w w' := by
  cases hb : plB x E.args.length with
  | false => exact classOf_noArg s5 s13 x hb
  | true =>
    obtain ⟨j, rfl, hj⟩ := plB_ex hb
    cases hc : plB E.args[j] E.classes.length with
    | false => exact classOf_noClass s5 s13 hE hj hc
    | true =>
      obtain ⟨k, e, hk⟩ := plB_ex hc
      rw [clsO_at hj hk e] at h
      cases h
theorem classOf_some {E : Env} {w : World} {Fa Ca Aa : Option Addr} {sb cc ac : Nat} (s5 : w.cell? ⟨sb, 5, none⟩ = some (.slice Ca E.classes.length cc)) (s13 : w.cell? ⟨sb, 13, none⟩ = some (.slice Aa E.args.length ac))
    (hE : EnvAt E w Fa Ca Aa) (x : Int) {c : Int × Int} (h : clsO E x = some c) :
    Calls Tryz.prog 94 #[.pointer (some ⟨sb, 0, none⟩), .int .i64 x] w fun e w' =>
      (∃ n u v x y l q, e = .returned (.tuple #[.agg #[.string n, .int .i64 c.1, .int .i64 c.2, .int .i64 u, .int .i64 v, .int .i64 x, .slice y l q], .bool true])) ∧ Fr w w' := by
  cases hb : plB x E.args.length with
  | false => rw [clsO_noArg hb] at h; cases h
  | true =>
    obtain ⟨j, rfl, hj⟩ := plB_ex hb
    cases hc : plB E.args[j] E.classes.length with
    | false => rw [clsO_noClass hj hc] at h; cases h
    | true =>
      obtain ⟨k, e, hk⟩ := plB_ex hc
      rw [clsO_at hj hk e] at h
      injection h with h; subst h
      exact classOf_at s5 s13 hE hj hk e
section
variable {E : Env} {w : World} {Fa Ca Aa Ga Ma : Option Addr} {sb : Nat} {n0 n1 n3 n7 n8 n9 n10 n11 n12 : Value} {fc gc cc ml mc ac : Nat}
set_option maxHeartbeats 6400000 in
theorem regw_no (S : BlkAt w sb [n0, n1, .slice Fa E.files.length fc, n3, .slice Ga E.nflags gc, .slice Ca E.classes.length cc, .slice Ma ml mc, n7, n8, n9, n10, n11, n12, .slice Aa E.args.length ac])
    (hE : EnvAt E w Fa Ca Aa) (op wd a b : Int) (K : Option Addr) (kl kc : Nat) (hf : fileO E a = none) :
    Calls Tryz.prog 93 #[.pointer (some ⟨sb, 0, none⟩), .agg #[.int .i64 op, .int .i64 wd, .int .i64 a, .int .i64 b, .slice K kl kc]] w fun e w' => e = .returned (.int .i64 0) ∧ Fr w w' := by
  have HS := Lib.hid S
  have HE := Lib.hid hE
  have HN := Lib.hid (show (fileO E a).isSome = false by rw [hf]; rfl)
  clear S hE hf
  go_enter Tryz.func93, Tryz.ntmps93
  go_wp2
  have HB := Lib.hid (BlkAt.alloc (w := w) (t := 42) (cs := #[.int .i64 op, .int .i64 wd, .int .i64 a, .int .i64 b, .slice K kl kc]))
  have HF := Lib.hid (Fr.alloc (Fr.refl w) (.cells #[.int .i64 op, .int .i64 wd, .int .i64 a, .int .i64 b, .slice K kl kc] 42))
  generalize hw1 : World.alloc w _ = w1 at *
  have a0 := fun ex : Ext w1 => ex.get (HF.out.get (HS.out 0 _ rfl))
  have a1 := fun ex : Ext w1 => ex.get (HF.out.get (HS.out 1 _ rfl))
  have a2 := fun ex : Ext w1 => ex.get (HF.out.get (HS.out 2 _ rfl))
  have a3 := fun ex : Ext w1 => ex.get (HF.out.get (HS.out 3 _ rfl))
  have a4 := fun ex : Ext w1 => ex.get (HF.out.get (HS.out 4 _ rfl))
  have a5 := fun ex : Ext w1 => ex.get (HF.out.get (HS.out 5 _ rfl))
  have a6 := fun ex : Ext w1 => ex.get (HF.out.get (HS.out 6 _ rfl))
  have a7 := fun ex : Ext w1 => ex.get (HF.out.get (HS.out 7 _ rfl))
  have a8 := fun ex : Ext w1 => ex.get (HF.out.get (HS.out 8 _ rfl))
  have a9 := fun ex : Ext w1 => ex.get (HF.out.get (HS.out 9 _ rfl))
  have a10 := fun ex : Ext w1 => ex.get (HF.out.get (HS.out 10 _ rfl))
  have a11 := fun ex : Ext w1 => ex.get (HF.out.get (HS.out 11 _ rfl))
  have a12 := fun ex : Ext w1 => ex.get (HF.out.get (HS.out 12 _ rfl))
  have b2 := fun ex : Ext w1 => ex.get (HB.out 2 _ rfl)
  have HC := Lib.hid (show ∀ ex : Ext w1, Calls Tryz.prog 48 #[.agg #[n0, n1, .slice Fa E.files.length fc, n3, .slice Ga E.nflags gc, .slice Ca E.classes.length cc, .slice Ma ml mc, n7, n8, n9, n10, n11, n12], .int .i64 a] ex.world (fun e w' => e = .returned (.bool false) ∧ Fr ex.world w') from
    fun ex => HN.out ▸ fileRight_any (HE.out.fr (HF.out.call ex.fr)) a n0 n1 n3 n7 n8 n9 n10 n11 n12 fc gc cc ml mc)
  refine wp_region_ext (by kernel_rfl) (by kernel_rfl) ?_
  repeat (go_big_quiet_step ((go_at_call 48; exact ext_of (HC.out _))))
  refine wpQuiet_nil ?_
  intro w4 hw4
  obtain ⟨y4, hy4⟩ := hw4
  have hb4 : Fr w1 w4 := by rw [hy4]; exact y4.fr
  clear hy4 y4
  go_wp2
  go_ret
  exact ⟨rfl, HF.out.call hb4⟩
end
end Go.Proofs.YtcndmiolaheaeabGreatDoor
