/-
strconv.Atoi of a word that is no number; memory behind Itoa.
-/
import Derived.Test.YtmbjhhpnckfppaaDoorVars
import Derived.Test.YtmbjhhpnckfppaaDoorShelf
import Derived.Lib.AtoiAllCases
namespace Go.Proofs.YtmbjhhpnckfppaaDoor
open Go.RowKit Go.Sort
set_option maxRecDepth 20000
theorem below_grow' (w : World) (k : Nat) (os : Array Obj) : Below w.heap.size w (grow (w.drewN k) os) :=
  ⟨rfl, rfl, rfl, by show w.heap.size ≤ (w.heap ++ os).size; rw [Array.size_append]; omega, fun j hj => by show (w.heap ++ os)[j]? = w.heap[j]?; exact Array.getElem?_append_left hj⟩
/-- a word that is no number -/
theorem atoi_none (s : ByteArray) (h : s.size ≤ 300) (h1 : ∀ v, Lib.atoiAll s.data.toList ≠ .ok v) (h2 : Lib.atoiAll s.data.toList ≠ .range) (t : TypeId) (p : Value) (w : World) (hc : w.cell? ⟨1, 0, none⟩ = some (.iface t p)) :
    Calls Tryd.prog 23 #[.string s] w fun e w' => ∃ u q, e = .returned (.tuple #[.int .i64 0, .iface u q]) ∧ Below w.heap.size w w' :=
  (Any.strconv_Atoi_syntax Tryd.laysC172 s (by omega) (by
    cases hA : Lib.atoiAll s.data.toList
    · exact absurd hA (h1 _)
    · rfl
    · exact absurd hA h2) (.iface t p) w hc (Or.inr ⟨t, p, rfl⟩)).mono fun _ _ ⟨_, he, _, _, hb⟩ => ⟨_, _, he, hb⟩
end Go.Proofs.YtmbjhhpnckfppaaDoor
