/-
What is handed in: a slice of ints, a slice of bytes.
-/
import Derived.Test.YtljmdpkbedmkmaaOpenList
import Derived.Test.YtljmdpkbedmkmaaInts
namespace Go.Proofs.Ytljmdpkbedmkmaa
open Go.ChangeShapes Go.WideShapes Go.ChangeAt Go.RowKit Go.Joins Go.Deep
theorem open_ints {H : Type} {enc : TypeId × Value → H} {w : World} {fuel : Nat} {a0 : Option Addr} {len cap : Nat} {x : DataW H × List MemPlace} (h : DataW.trod enc Try.prog w 0 (fun _ => true) true fuel 22 [.slice a0 len cap] = some x) :
    ∃ L : List Int, L.length = len ∧ AtL encI w a0 L ∧ ∀ y ∈ L, -9223372036854775808 ≤ y ∧ y ≤ 9223372036854775807 :=
  open_list encI _ Try.underlying22 (by kernel_rfl) (fun _ _ _ _ ht => int_cells Try.underlying3 ht) h
theorem open_bytes {H : Type} {enc : TypeId × Value → H} {w : World} {fuel : Nat} {a0 : Option Addr} {len cap : Nat} {x : DataW H × List MemPlace} (h : DataW.trod enc Try.prog w 0 (fun _ => true) true fuel 36 [.slice a0 len cap] = some x) :
    ∃ L : List Nat, L.length = len ∧ AtL encB w a0 L ∧ ∀ y ∈ L, y < 256 :=
  open_list encB _ Try.underlying36 (by kernel_rfl) (fun _ _ _ _ ht => byte_cells Try.underlying5 ht) h
end Go.Proofs.Ytljmdpkbedmkmaa
