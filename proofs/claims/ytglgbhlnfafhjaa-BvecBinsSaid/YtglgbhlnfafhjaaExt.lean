/- A region that draws its order and whose operations read and call what leaves old memory alone: one walk, in the order of the text. -/
import Derived.Test.YtglgbhlnfafhjaaNum
import Derived.Deep.QuietTactic
import Derived.BigQuiet
namespace Go.Proofs.Ytglgbhlnfafhjaa
open Go.RowKit

/-- A world that keeps all of W's memory. -/
structure Ext (W : World) where
  world : World
  fr : Fr W world

instance Ext.inst (W : World) : Nonempty (Ext W) := ⟨⟨W, Fr.refl W⟩⟩

theorem wp_region_ext {P : Program} {id : Nat} {Q : Exit → Act → World → Prop} {a : Act} {w : World} {l : List Oper} (hm : P.follows .mixedOrders = true) (hB : Region.lexB .any l.toArray = true)
    (h : wpQuiet P l.toArray (fun w' => ∃ x : Ext w, w' = x.world) (fun a' => ∀ w', (∃ x : Ext w, w' = x.world) → Q .normal a' w') l a) : (Code.region id l.toArray true).wp P Q a w :=
  wp_region_quiet (C := fun w' => ∃ x : Ext w, w' = x.world) hm hB ⟨⟨_, Fr.drew (Fr.refl w)⟩, rfl⟩ (by simpa using h)

theorem ext_of {P : Program} {f : FuncId} {args : Array Value} {W : World} {x : Ext W} {v : Value}
    (h : Calls P f args x.world fun e w' => e = .returned v ∧ Fr x.world w') : Calls P f args x.world fun e w'' => e = .returned v ∧ ∃ y : Ext W, w'' = y.world :=
  h.mono fun _ _ ⟨he, hf⟩ => ⟨he, ⟨⟨_, Fr.call x.fr hf⟩, rfl⟩⟩

theorem Ext.get {W : World} (x : Ext W) {b o : Nat} {v : Value} (h : W.cell? ⟨b, o, none⟩ = some v) : x.world.cell? ⟨b, o, none⟩ = some v := x.fr.get h
end Go.Proofs.Ytglgbhlnfafhjaa
