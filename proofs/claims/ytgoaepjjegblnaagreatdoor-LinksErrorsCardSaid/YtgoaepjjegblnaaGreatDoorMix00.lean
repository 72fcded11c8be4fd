/-
Blocks of memory: what every layer's walks use.
Bytes in slices, as texts (behind the text of blocks).
-/
import Derived.Test.YtgoaepjjegblnaaGreatDoorProg
import Derived.WalkKit
import Derived.WalkSpells
import Derived.WalkLawsBesides
import Derived.Laws.BitsAllLaws
import Derived.Laws.ShiftsVarLaws
import Derived.Lib.Hide
import Derived.Lib.Strings
import Derived.BigQuiet
import Derived.Deep.QuietTactic
import Derived.Lib.QuietBelow
import Derived.BigRegion
import Derived.IntWalk
import Derived.Lib.SmallJoins
import Derived.Lib.IndexBytes
namespace Go.Proofs.YtgoaepjjegblnaaGreatDoor
set_option maxRecDepth 20000
open Go.RowKit
/-- a small number stays as it is -/
theorem i64_near (n : Int) (h0 : -1000000 ≤ n) (h1 : n ≤ 1000000) : IntKind.i64.wrap n = n := IntWalk.i64_in _ (by omega)
theorem bytes_ext' {a b : ByteArray} (h : a.data.toList = b.data.toList) : a = b := ByteArray.ext (Array.toList_inj.1 h)
/-- bytes as cells -/
def bytesV (l : List UInt8) : List Value := l.map fun c => Value.int .u8 ((c.toNat : Nat) : Int)
theorem bytesV_get (l : List UInt8) (i : Nat) (h : i < l.length) : (bytesV l)[i]? = some (.int .u8 ((l[i].toNat : Nat) : Int)) := by simp [bytesV, h]
/-- v is a slice of the call's own that holds these bytes -/
def OwnB (w : World) (B : Nat) (v : Value) (l : List UInt8) : Prop := w.ownsRow B 5 1 v l.length (bytesV l)
theorem OwnB.cell {w : World} {B g n cap : Nat} {l : List UInt8} (h : OwnB w B (.slice (some ⟨g, 0, none⟩) n cap) l) (i : Nat) (hi : i < l.length) : w.cell? ⟨g, i, none⟩ = some (.int .u8 ((l[i].toNat : Nat) : Int)) := by
  have hn : n = l.length := by
    rcases h.2 with ⟨h', _⟩ | ⟨_, _, _, hv, _⟩
    · simp at h'
    · simp at hv; omega
  subst hn
  have h2 := World.ownsRow.cellAt h i (by omega)
  rw [h2, bytesV_get l i hi]
theorem OwnB.start (w : World) (B n : Nat) (x : Int) (c : UInt8) (hx : x = ((c.toNat : Nat) : Int)) (hn : n = w.heap.size) (hB : B ≤ n) : OwnB (w.alloc (.cells #[.int .u8 x] 5)) B (.slice (some ⟨n, 0, none⟩) 1 1) [c] := by
  subst hn
  have h := World.ownsRow_lit (base := B) (e := 5) (size := 1) w #[.int .u8 x] 1 hB (by decide) rfl
  rw [hx] at h ⊢
  exact h
theorem grown_refl (w : World) (r : Option Nat) : w.grownBy w r := ⟨rfl, rfl, rfl, Nat.le_refl _, fun _ _ _ => rfl⟩
theorem grown_trans {a b c : World} {r : Option Nat} (h : a.grownBy b r) (k : b.grownBy c r) : a.grownBy c r :=
  ⟨k.os.trans h.os, k.tape.trans h.tape, k.output.trans h.output, Nat.le_trans h.size k.size, fun i hi hr => (k.block i (Nat.lt_of_lt_of_le hi h.size) hr).trans (h.block i hi hr)⟩
theorem grown_set {a b : World} {g o : Nat} (h : a.grownBy b (some g)) (v : Value) : a.grownBy (b.setCell ⟨g, o, none⟩ v) (some g) :=
  grown_trans h ⟨rfl, rfl, rfl, by simp [World.setCell], fun k _ hk => Below.heap_setCell _ _ _ _ (fun e => hk (by rw [e]))⟩
theorem set_here {w : World} {b o : Nat} {u v : Value} (h : w.cell? ⟨b, o, none⟩ = some u) : (w.setCell ⟨b, o, none⟩ v).cell? ⟨b, o, none⟩ = some v := World.cell?_setCell_same w _ v h
theorem set_off (w : World) (b o p : Nat) (v : Value) (h : o ≠ p) : (w.setCell ⟨b, o, none⟩ v).cell? ⟨b, p, none⟩ = w.cell? ⟨b, p, none⟩ :=
  World.cell?_setCell_other (w := w) (a := ⟨b, o, none⟩) (b := ⟨b, p, none⟩) (v := v) (h := fun he => h (Addr.mk.inj he).2.1)
theorem set_block (w : World) (b g o p : Nat) (v : Value) (h : b ≠ g) : (w.setCell ⟨b, o, none⟩ v).cell? ⟨g, p, none⟩ = w.cell? ⟨g, p, none⟩ :=
  World.cell?_setCell_other (w := w) (a := ⟨b, o, none⟩) (b := ⟨g, p, none⟩) (v := v) (h := fun he => h (Addr.mk.inj he).1)
theorem grown_new {a b : World} {r : Option Nat} {n o : Nat} (h : a.grownBy b r) (hn : a.heap.size ≤ n) (v : Value) : a.grownBy (b.setCell ⟨n, o, none⟩ v) r :=
  ⟨h.os, h.tape, h.output, by simpa [World.setCell] using h.size, fun k hk hr => (Below.heap_setCell _ _ _ _ (by show k ≠ n; omega)).trans (h.block k hk hr)⟩
theorem list_at (b : ByteArray) (k : Nat) (h : k < b.size) : b.data.toList[k]'(by simpa using h) = b[k] := by
  rw [Array.getElem_toList]; rfl
theorem back_bytes (b : ByteArray) : (⟨b.data.toList.toArray⟩ : ByteArray) = b := bytes_ext' (by simp)
theorem stored2 {W : World} {n : Nat} {x0 x1 : Value} (u0 u1 : Value) (r0 : W.cell? ⟨n, 0, none⟩ = some x0) (r1 : W.cell? ⟨n, 1, none⟩ = some x1) :
    ((W.setCell ⟨n, 0, none⟩ u0).setCell ⟨n, 1, none⟩ u1).cell? ⟨n, 0, none⟩ = some u0 ∧ ((W.setCell ⟨n, 0, none⟩ u0).setCell ⟨n, 1, none⟩ u1).cell? ⟨n, 1, none⟩ = some u1 := by
  refine ⟨?_, ?_⟩
  · rw [set_off _ _ _ _ _ (by omega), set_here r0]
  · rw [set_here (by rw [set_off _ _ _ _ _ (by omega)]; exact r1)]
theorem set2_below {B n : Nat} {a W : World} (h : Below B a W) (hn : B ≤ n) (u0 u1 : Value) : Below B a ((W.setCell ⟨n, 0, none⟩ u0).setCell ⟨n, 1, none⟩ u1) := (h.setCell (p := ⟨n, 0, none⟩) hn u0).setCell (p := ⟨n, 1, none⟩) hn u1
/-- a cell that stays -/
structure KeepAt (W : World) (m o : Nat) (u : Value) : Prop where
  cell : W.cell? ⟨m, o, none⟩ = some u
  free : W.frozen? ⟨m, o, none⟩ = false
  lt : m < W.heap.size
theorem KeepAt.block {W W' : World} {m o : Nat} {u : Value} (h : KeepAt W m o u) (hb : W'.heap[m]? = W.heap[m]?) (hs : W.heap.size ≤ W'.heap.size) : KeepAt W' m o u := by
  refine ⟨?_, ?_, Nat.lt_of_lt_of_le h.lt hs⟩
  · have := h.cell
    unfold World.cell? at this ⊢
    rw [hb]; exact this
  · have := h.free
    unfold World.frozen? at this ⊢
    rw [hb]; exact this
theorem KeepAt.below {W W' : World} {m o : Nat} {u : Value} (h : KeepAt W m o u) (hb : Below W.heap.size W W') : KeepAt W' m o u := h.block (hb.block m h.lt) hb.size
theorem KeepAt.alloc {W : World} {m o : Nat} {u : Value} (h : KeepAt W m o u) (x : Obj) : KeepAt (W.alloc x) m o u := h.below ((Below.refl _ W).alloc (Nat.le_refl _) _)
theorem KeepAt.set {W : World} {m o p : Nat} {u : Value} (h : KeepAt W m o u) (v : Value) (hp : p ≠ o) : KeepAt (W.setCell ⟨m, p, none⟩ v) m o u :=
  ⟨(set_off _ _ _ _ _ hp).trans h.cell, by rw [World.frozen?_setCell]; exact h.free, by simpa [World.setCell] using h.lt⟩
theorem KeepAt.put {W : World} {m o : Nat} {u : Value} (h : KeepAt W m o u) (v : Value) : KeepAt (W.setCell ⟨m, o, none⟩ v) m o v :=
  ⟨set_here h.cell, by rw [World.frozen?_setCell]; exact h.free, by simpa [World.setCell] using h.lt⟩
theorem KeepAt.other {W : World} {m o g p : Nat} {u : Value} (h : KeepAt W m o u) (v : Value) (hg : g ≠ m) : KeepAt (W.setCell ⟨g, p, none⟩ v) m o u :=
  ⟨(set_block _ _ _ _ _ _ hg).trans h.cell, by rw [World.frozen?_setCell]; exact h.free, by simpa [World.setCell] using h.lt⟩
theorem KeepAt.drew {W : World} {m o : Nat} {u : Value} (h : KeepAt W m o u) : KeepAt W.drew m o u := ⟨h.cell, h.free, h.lt⟩
/-- bytes that lie in a block from its beginning on -/
def BytesAt (w : World) (g : Nat) (l : List UInt8) : Prop := g < w.heap.size ∧ ∀ i (h : i < l.length), w.cell? ⟨g, i, none⟩ = some (.int .u8 ((l[i].toNat : Nat) : Int))
theorem BytesAt.below {w w' : World} {g : Nat} {l : List UInt8} (h : BytesAt w g l) (hb : Below w.heap.size w w') : BytesAt w' g l := ⟨Nat.lt_of_lt_of_le h.1 hb.size, fun i hi => (hb.cell (p := ⟨g, i, none⟩) h.1).trans (h.2 i hi)⟩
theorem BytesAt.one (w : World) (g : Nat) (F : Int) (x : UInt8) (hF : F = ((x.toNat : Nat) : Int)) (hg : g = w.heap.size) : BytesAt (w.alloc (.cells #[.int .u8 F] 5)) g [x] := by
  subst hF hg
  refine ⟨by simp, fun i hi => ?_⟩
  obtain rfl : i = 0 := by simpa using hi
  exact World.cell?_alloc_at _ _ _ _ rfl
theorem BytesAt.two (w : World) (g : Nat) (F G : Int) (x y : UInt8) (hF : F = ((x.toNat : Nat) : Int)) (hG : G = ((y.toNat : Nat) : Int)) (hg : g = w.heap.size) : BytesAt (w.alloc (.cells #[.int .u8 F, .int .u8 G] 5)) g [x, y] := by
  subst hF hG hg
  refine ⟨by simp, fun i hi => ?_⟩
  have hi2 : i < 2 := hi
  obtain rfl | rfl : i = 0 ∨ i = 1 := by omega
  · exact World.cell?_alloc_at _ _ _ _ rfl
  · exact World.cell?_alloc_at _ _ _ _ rfl
end Go.Proofs.YtgoaepjjegblnaaGreatDoor
namespace Go.Proofs.YtgoaepjjegblnaaGreatDoor
set_option maxRecDepth 20000
open Go.RowKit
theorem OwnB.text {w : World} {B g n cap : Nat} {l : List UInt8} (h : OwnB w B (.slice (some ⟨g, 0, none⟩) n cap) l) (hn : n = l.length) :
    (convert 194 9 (.slice (some ⟨g, 0, none⟩) n cap)).run Tryz.prog w = .ok (.string ⟨l.toArray⟩) w := by
  subst hn
  rw [run_convert_bytes_arg w 194 5 Tryz.underlying194 Tryz.underlying5 g 0 l.length cap (l.map fun b => ((b.toNat : Nat) : Int)) (by simp) (fun i hi => by
    rw [Nat.zero_add, h.cell i hi, List.getD_eq_getElem?_getD, List.getElem?_map, List.getElem?_eq_getElem hi]; rfl) 9 Tryz.underlying9]
  congr 2
  apply bytes_ext'
  rw [strOfNums_data, List.map_map]
  show List.map _ l = l
  conv => rhs; rw [← List.map_id l]
  apply List.map_congr_left
  intro x _
  simp
theorem BytesAt.conv {w : World} {g cap : Nat} {l : List UInt8} (h : BytesAt w g l) :
    (convert 194 9 (.slice (some ⟨g, 0, none⟩) l.length cap)).run Tryz.prog w = .ok (.string ⟨l.toArray⟩) w := by
  rw [run_convert_bytes_arg w 194 5 Tryz.underlying194 Tryz.underlying5 g 0 l.length cap (l.map fun b => ((b.toNat : Nat) : Int)) (by simp) (fun i hi => by
    rw [Nat.zero_add, h.2 i hi, List.getD_eq_getElem?_getD, List.getElem?_map, List.getElem?_eq_getElem hi]; rfl) 9 Tryz.underlying9]
  congr 2
  apply bytes_ext'
  rw [strOfNums_data, List.map_map]
  show List.map _ l = l
  conv => rhs; rw [← List.map_id l]
  apply List.map_congr_left
  intro x _
  simp
end Go.Proofs.YtgoaepjjegblnaaGreatDoor
