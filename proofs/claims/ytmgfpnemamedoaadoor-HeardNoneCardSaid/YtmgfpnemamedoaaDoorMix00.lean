/-
Blocks of memory: what every layer's walks use.
Any number of cells in a row, in a block of their own, as a list of what they hold.
What a call wrote: some blocks, and new ones. For a thing that keeps its state in blocks of its own.
Slices of anything that takes so many cells: of the call's own, and as one may read them; one more behind them.
-/
import Derived.Test.YtmgfpnemamedoaaDoorProg
import Derived.WalkKit
import Derived.WalkSpells
import Derived.WalkLawsBesides
import Derived.Laws.BitsAllLaws
import Derived.Laws.ShiftsVarLaws
import Derived.Lib.Hide
import Derived.Lib.Strings
import Derived.BigQuiet
import Derived.Deep.QuietTactic
import Derived.Lib.QuietBelow
import Derived.BigRegion
import Derived.IntWalk
import Derived.Lib.SmallJoins
import Derived.Lib.IndexBytes
import Derived.Maps.AppendAt
namespace Go.Proofs.YtmgfpnemamedoaaDoor
set_option maxRecDepth 20000
open Go.RowKit
/-- a small number stays as it is -/
theorem i64_near (n : Int) (h0 : -1000000 ≤ n) (h1 : n ≤ 1000000) : IntKind.i64.wrap n = n := IntWalk.i64_in _ (by omega)
theorem blt' (c : UInt8) : c.toNat < 256 := c.toNat_lt
theorem bytes_ext' {a b : ByteArray} (h : a.data.toList = b.data.toList) : a = b := ByteArray.ext (Array.toList_inj.1 h)
/-- bytes as cells -/
def bytesV (l : List UInt8) : List Value := l.map fun c => Value.int .u8 ((c.toNat : Nat) : Int)
theorem bytesV_length (l : List UInt8) : (bytesV l).length = l.length := by simp [bytesV]
theorem bytesV_append (a b : List UInt8) : bytesV (a ++ b) = bytesV a ++ bytesV b := by simp [bytesV]
theorem bytesV_one (l : List UInt8) : ∀ u ∈ bytesV l, u.oneCell' = true := by
  intro u hu
  obtain ⟨c, _, rfl⟩ := List.mem_map.1 hu
  rfl
theorem bytesV_get (l : List UInt8) (i : Nat) (h : i < l.length) : (bytesV l)[i]? = some (.int .u8 ((l[i].toNat : Nat) : Int)) := by simp [bytesV, h]
/-- v is a slice of the call's own that holds these bytes -/
def OwnB (w : World) (B : Nat) (v : Value) (l : List UInt8) : Prop := w.ownsRow B 5 1 v l.length (bytesV l)
theorem OwnB.slice {w : World} {B : Nat} {v : Value} {l : List UInt8} (h : OwnB w B v l) (hl : 0 < l.length) : ∃ g cap, v = .slice (some ⟨g, 0, none⟩) l.length cap := by
  rcases h.2 with ⟨_, h0⟩ | ⟨g, cap, _, hv, _⟩
  · omega
  · exact ⟨g, cap, hv⟩
theorem OwnB.cell {w : World} {B g n cap : Nat} {l : List UInt8} (h : OwnB w B (.slice (some ⟨g, 0, none⟩) n cap) l) (i : Nat) (hi : i < l.length) : w.cell? ⟨g, i, none⟩ = some (.int .u8 ((l[i].toNat : Nat) : Int)) := by
  have hn : n = l.length := by
    rcases h.2 with ⟨h', _⟩ | ⟨_, _, _, hv, _⟩
    · simp at h'
    · simp at hv; omega
  subst hn
  have h2 := World.ownsRow.cellAt h i (by omega)
  rw [h2, bytesV_get l i hi]
theorem OwnB.cap {w : World} {B g n cap : Nat} {l : List UInt8} (h : OwnB w B (.slice (some ⟨g, 0, none⟩) n cap) l) : l.length ≤ cap := by
  rcases h.2 with ⟨h', _⟩ | ⟨_, _, _, hv, _, _, hc, _⟩
  · simp at h'
  · simp at hv; omega
theorem OwnB.start (w : World) (B n : Nat) (x : Int) (c : UInt8) (hx : x = ((c.toNat : Nat) : Int)) (hn : n = w.heap.size) (hB : B ≤ n) : OwnB (w.alloc (.cells #[.int .u8 x] 5)) B (.slice (some ⟨n, 0, none⟩) 1 1) [c] := by
  subst hn
  have h := World.ownsRow_lit (base := B) (e := 5) (size := 1) w #[.int .u8 x] 1 hB (by decide) rfl
  rw [hx] at h ⊢
  exact h
theorem OwnB.alloc {w : World} {B : Nat} {v : Value} {l : List UInt8} (h : OwnB w B v l) (o : Obj) : OwnB (w.alloc o) B v l := World.ownsRow.alloc h o
/-- cells that have just been laid -/
theorem cells_new (w : World) (cs : Array Value) (t : TypeId) : ∀ j u, cs.toList[j]? = some u → (w.alloc (.cells cs t)).cell? ((⟨w.heap.size, 0, none⟩ : Addr).add j) = some u := by
  intro j u h
  have e : (⟨w.heap.size, 0, none⟩ : Addr).add j = ⟨w.heap.size, j, none⟩ := by unfold Addr.add; split <;> simp_all
  rw [e, World.cell?_alloc_new]
  simpa using h
/-- behind an append of bytes that were laid in a block of their own -/
theorem OwnB.appended {w0 wr w1 : World} {b0 B : Nat} {v v' : Value} {L news : List UInt8} {o : Obj} (h : OwnB wr B v L) (hb : Below b0 w0 wr) (hbB : b0 ≤ B) (hB : B ≤ wr.heap.size)
    (h1 : w1.ownsRow B 5 1 v' (L.length + news.length) (bytesV L ++ bytesV news)) (hg : (wr.alloc o).grownBy w1 v.ownBlock) : OwnB w1 B v' (L ++ news) ∧ Below b0 w0 w1 ∧ B ≤ w1.heap.size := by
  refine ⟨?_, ?_, ?_⟩
  · unfold OwnB; rw [List.length_append, bytesV_append]; exact h1
  · exact (hb.alloc (by omega) o).grown hg (by simp; omega) (fun k hk => by have := (World.ownsRow.lt h k hk).1; omega)
  · have := hg.size; simp at this; omega
theorem info8 : (Tryd.prog.info? 5).map (fun i => (i.zero, i.size, i.bytes)) = some (some (.int .u8 0), 1, 1) := by kernel_rfl
theorem grown_refl (w : World) (r : Option Nat) : w.grownBy w r := ⟨rfl, rfl, rfl, Nat.le_refl _, fun _ _ _ => rfl⟩
theorem grown_trans {a b c : World} {r : Option Nat} (h : a.grownBy b r) (k : b.grownBy c r) : a.grownBy c r :=
  ⟨k.os.trans h.os, k.tape.trans h.tape, k.output.trans h.output, Nat.le_trans h.size k.size, fun i hi hr => (k.block i (Nat.lt_of_lt_of_le hi h.size) hr).trans (h.block i hi hr)⟩
theorem grown_alloc {a b : World} {r : Option Nat} (h : a.grownBy b r) (o : Obj) : a.grownBy (b.alloc o) r := grown_trans h (World.grownBy_alloc b o r)
theorem grown_drew {a b : World} {r : Option Nat} (h : a.grownBy b r) : a.grownBy b.drew r := ⟨h.os, h.tape, h.output, h.size, h.block⟩
theorem grown_set {a b : World} {g o : Nat} (h : a.grownBy b (some g)) (v : Value) : a.grownBy (b.setCell ⟨g, o, none⟩ v) (some g) :=
  grown_trans h ⟨rfl, rfl, rfl, by simp [World.setCell], fun k _ hk => Below.heap_setCell _ _ _ _ (fun e => hk (by rw [e]))⟩
theorem grown_own {a b c : World} {g : Nat} {r : Option Nat} (h : a.grownBy b (some g)) (k : b.grownBy c r) (hr : ∀ i, r = some i → a.heap.size ≤ i) : a.grownBy c (some g) :=
  ⟨k.os.trans h.os, k.tape.trans h.tape, k.output.trans h.output, Nat.le_trans h.size k.size, fun i hi hg => (k.block i (Nat.lt_of_lt_of_le hi h.size) (fun e => by have := hr i e.symm; omega)).trans (h.block i hi hg)⟩
theorem set_here {w : World} {b o : Nat} {u v : Value} (h : w.cell? ⟨b, o, none⟩ = some u) : (w.setCell ⟨b, o, none⟩ v).cell? ⟨b, o, none⟩ = some v := World.cell?_setCell_same w _ v h
theorem set_off (w : World) (b o p : Nat) (v : Value) (h : o ≠ p) : (w.setCell ⟨b, o, none⟩ v).cell? ⟨b, p, none⟩ = w.cell? ⟨b, p, none⟩ :=
  World.cell?_setCell_other (w := w) (a := ⟨b, o, none⟩) (b := ⟨b, p, none⟩) (v := v) (h := fun he => h (Addr.mk.inj he).2.1)
theorem set_block (w : World) (b g o p : Nat) (v : Value) (h : b ≠ g) : (w.setCell ⟨b, o, none⟩ v).cell? ⟨g, p, none⟩ = w.cell? ⟨g, p, none⟩ :=
  World.cell?_setCell_other (w := w) (a := ⟨b, o, none⟩) (b := ⟨g, p, none⟩) (v := v) (h := fun he => h (Addr.mk.inj he).1)
theorem grown_drewN {a b : World} {r : Option Nat} (h : a.grownBy b r) (n : Nat) : a.grownBy (b.drewN n) r := ⟨h.os, h.tape, h.output, h.size, h.block⟩
theorem grown_new {a b : World} {r : Option Nat} {n o : Nat} (h : a.grownBy b r) (hn : a.heap.size ≤ n) (v : Value) : a.grownBy (b.setCell ⟨n, o, none⟩ v) r :=
  ⟨h.os, h.tape, h.output, by simpa [World.setCell] using h.size, fun k hk hr => (Below.heap_setCell _ _ _ _ (by show k ≠ n; omega)).trans (h.block k hk hr)⟩
theorem grown_below {a b c : World} {r : Option Nat} (h : a.grownBy b r) (k : Below b.heap.size b c) : a.grownBy c r :=
  ⟨k.os.trans h.os, k.tape.trans h.tape, k.output.trans h.output, Nat.le_trans h.size k.size, fun i hi hr => (k.block i (Nat.lt_of_lt_of_le hi h.size)).trans (h.block i hi hr)⟩
/-- bytes that lie in a row, as an append reads them -/
theorem row_news {w : World} {g : Nat} {l : List UInt8} (hc : ∀ i (h : i < l.length), w.cell? ⟨g, i, none⟩ = some (.int .u8 ((l[i].toNat : Nat) : Int))) : ∀ j u, (bytesV l)[j]? = some u → w.cell? ((⟨g, 0, none⟩ : Addr).add j) = some u := by
  intro j u h
  have hj : j < l.length := by
    have := (List.getElem?_eq_some_iff.1 h).1
    rwa [bytesV_length] at this
  have e : (⟨g, 0, none⟩ : Addr).add j = ⟨g, j, none⟩ := by unfold Addr.add; split <;> simp_all
  rw [bytesV_get l j hj] at h
  rw [e, hc j hj, Option.some.inj h]
theorem stored3 {W : World} {n : Nat} {x0 x1 x2 : Value} (u0 u1 u2 : Value) (r0 : W.cell? ⟨n, 0, none⟩ = some x0) (r1 : W.cell? ⟨n, 1, none⟩ = some x1) (r2 : W.cell? ⟨n, 2, none⟩ = some x2) :
    (((W.setCell ⟨n, 0, none⟩ u0).setCell ⟨n, 1, none⟩ u1).setCell ⟨n, 2, none⟩ u2).cell? ⟨n, 0, none⟩ = some u0 ∧ (((W.setCell ⟨n, 0, none⟩ u0).setCell ⟨n, 1, none⟩ u1).setCell ⟨n, 2, none⟩ u2).cell? ⟨n, 1, none⟩ = some u1 ∧
    (((W.setCell ⟨n, 0, none⟩ u0).setCell ⟨n, 1, none⟩ u1).setCell ⟨n, 2, none⟩ u2).cell? ⟨n, 2, none⟩ = some u2 := by
  refine ⟨?_, ?_, ?_⟩
  · rw [set_off _ _ _ _ _ (by omega), set_off _ _ _ _ _ (by omega), set_here r0]
  · rw [set_off _ _ _ _ _ (by omega), set_here (by rw [set_off _ _ _ _ _ (by omega)]; exact r1)]
  · rw [set_here (by rw [set_off _ _ _ _ _ (by omega), set_off _ _ _ _ _ (by omega)]; exact r2)]
theorem cells_new' (w : World) (n : Nat) (hn : n = w.heap.size) (cs : Array Value) (t : TypeId) : ∀ j u, cs.toList[j]? = some u → (w.alloc (.cells cs t)).cell? ((⟨n, 0, none⟩ : Addr).add j) = some u := by
  subst hn; exact cells_new w cs t
theorem list_at (b : ByteArray) (k : Nat) (h : k < b.size) : b.data.toList[k]'(by simpa using h) = b[k] := by
  rw [Array.getElem_toList]; rfl
theorem back_bytes (b : ByteArray) : (⟨b.data.toList.toArray⟩ : ByteArray) = b := bytes_ext' (by simp)
theorem stored2 {W : World} {n : Nat} {x0 x1 : Value} (u0 u1 : Value) (r0 : W.cell? ⟨n, 0, none⟩ = some x0) (r1 : W.cell? ⟨n, 1, none⟩ = some x1) :
    ((W.setCell ⟨n, 0, none⟩ u0).setCell ⟨n, 1, none⟩ u1).cell? ⟨n, 0, none⟩ = some u0 ∧ ((W.setCell ⟨n, 0, none⟩ u0).setCell ⟨n, 1, none⟩ u1).cell? ⟨n, 1, none⟩ = some u1 := by
  refine ⟨?_, ?_⟩
  · rw [set_off _ _ _ _ _ (by omega), set_here r0]
  · rw [set_here (by rw [set_off _ _ _ _ _ (by omega)]; exact r1)]
theorem set2_below {B n : Nat} {a W : World} (h : Below B a W) (hn : B ≤ n) (u0 u1 : Value) : Below B a ((W.setCell ⟨n, 0, none⟩ u0).setCell ⟨n, 1, none⟩ u1) := (h.setCell (p := ⟨n, 0, none⟩) hn u0).setCell (p := ⟨n, 1, none⟩) hn u1
/-- a cell that stays -/
structure KeepAt (W : World) (m o : Nat) (u : Value) : Prop where
  cell : W.cell? ⟨m, o, none⟩ = some u
  free : W.frozen? ⟨m, o, none⟩ = false
  lt : m < W.heap.size
theorem KeepAt.block {W W' : World} {m o : Nat} {u : Value} (h : KeepAt W m o u) (hb : W'.heap[m]? = W.heap[m]?) (hs : W.heap.size ≤ W'.heap.size) : KeepAt W' m o u := by
  refine ⟨?_, ?_, Nat.lt_of_lt_of_le h.lt hs⟩
  · have := h.cell
    unfold World.cell? at this ⊢
    rw [hb]; exact this
  · have := h.free
    unfold World.frozen? at this ⊢
    rw [hb]; exact this
theorem KeepAt.below {W W' : World} {m o : Nat} {u : Value} (h : KeepAt W m o u) (hb : Below W.heap.size W W') : KeepAt W' m o u := h.block (hb.block m h.lt) hb.size
theorem KeepAt.alloc {W : World} {m o : Nat} {u : Value} (h : KeepAt W m o u) (x : Obj) : KeepAt (W.alloc x) m o u := h.below ((Below.refl _ W).alloc (Nat.le_refl _) _)
theorem KeepAt.set {W : World} {m o p : Nat} {u : Value} (h : KeepAt W m o u) (v : Value) (hp : p ≠ o) : KeepAt (W.setCell ⟨m, p, none⟩ v) m o u :=
  ⟨(set_off _ _ _ _ _ hp).trans h.cell, by rw [World.frozen?_setCell]; exact h.free, by simpa [World.setCell] using h.lt⟩
theorem KeepAt.put {W : World} {m o : Nat} {u : Value} (h : KeepAt W m o u) (v : Value) : KeepAt (W.setCell ⟨m, o, none⟩ v) m o v :=
  ⟨set_here h.cell, by rw [World.frozen?_setCell]; exact h.free, by simpa [World.setCell] using h.lt⟩
theorem KeepAt.other {W : World} {m o g p : Nat} {u : Value} (h : KeepAt W m o u) (v : Value) (hg : g ≠ m) : KeepAt (W.setCell ⟨g, p, none⟩ v) m o u :=
  ⟨(set_block _ _ _ _ _ _ hg).trans h.cell, by rw [World.frozen?_setCell]; exact h.free, by simpa [World.setCell] using h.lt⟩
theorem KeepAt.drew {W : World} {m o : Nat} {u : Value} (h : KeepAt W m o u) : KeepAt W.drew m o u := ⟨h.cell, h.free, h.lt⟩
/-- bytes that lie in a block from its beginning on -/
def BytesAt (w : World) (g : Nat) (l : List UInt8) : Prop := g < w.heap.size ∧ ∀ i (h : i < l.length), w.cell? ⟨g, i, none⟩ = some (.int .u8 ((l[i].toNat : Nat) : Int))
theorem BytesAt.below {w w' : World} {g : Nat} {l : List UInt8} (h : BytesAt w g l) (hb : Below w.heap.size w w') : BytesAt w' g l := ⟨Nat.lt_of_lt_of_le h.1 hb.size, fun i hi => (hb.cell (p := ⟨g, i, none⟩) h.1).trans (h.2 i hi)⟩
theorem BytesAt.one (w : World) (g : Nat) (F : Int) (x : UInt8) (hF : F = ((x.toNat : Nat) : Int)) (hg : g = w.heap.size) : BytesAt (w.alloc (.cells #[.int .u8 F] 5)) g [x] := by
  subst hF hg
  refine ⟨by simp, fun i hi => ?_⟩
  obtain rfl : i = 0 := by simpa using hi
  exact World.cell?_alloc_at _ _ _ _ rfl
theorem BytesAt.two (w : World) (g : Nat) (F G : Int) (x y : UInt8) (hF : F = ((x.toNat : Nat) : Int)) (hG : G = ((y.toNat : Nat) : Int)) (hg : g = w.heap.size) : BytesAt (w.alloc (.cells #[.int .u8 F, .int .u8 G] 5)) g [x, y] := by
  subst hF hG hg
  refine ⟨by simp, fun i hi => ?_⟩
  have hi2 : i < 2 := hi
  obtain rfl | rfl : i = 0 ∨ i = 1 := by omega
  · exact World.cell?_alloc_at _ _ _ _ rfl
  · exact World.cell?_alloc_at _ _ _ _ rfl
theorem below_alloc2 (w : World) (a b : Obj) : Below w.heap.size w ((w.alloc a).alloc b) := ((Below.refl w.heap.size w).alloc (Nat.le_refl _) a).alloc ((Below.refl w.heap.size w).alloc (Nat.le_refl _) a).size b
end Go.Proofs.YtmgfpnemamedoaaDoor
namespace Go.Proofs.YtmgfpnemamedoaaDoor
set_option maxRecDepth 20000
open Go.RowKit
def RowAt (W : World) (m : Nat) (L : List Value) : Prop := ∀ i v, L[i]? = some v → KeepAt W m i v
theorem RowAt.new (w : World) (m : Nat) (hm : m = w.heap.size) (L : List Value) (T : TypeId) : RowAt (w.alloc (.cells L.toArray T)) m L := by
  subst hm
  intro i v h
  exact ⟨(World.cell?_alloc_at _ _ _ _ rfl).trans (by simpa using h), World.frozen?_alloc_at _ _ _ _ rfl, by simp⟩
theorem RowAt.get {W : World} {m : Nat} {L : List Value} (h : RowAt W m L) (i : Nat) {v : Value} (e : L[i]? = some v) : KeepAt W m i v := h i v e
theorem RowAt.cell {W : World} {m : Nat} {L : List Value} (h : RowAt W m L) (i : Nat) {v : Value} (e : L[i]? = some v) : W.cell? ⟨m, i, none⟩ = some v := (h i v e).cell
theorem RowAt.block {W W' : World} {m : Nat} {L : List Value} (h : RowAt W m L) (hb : W'.heap[m]? = W.heap[m]?) (hs : W.heap.size ≤ W'.heap.size) : RowAt W' m L := fun i v e => (h i v e).block hb hs
theorem RowAt.below {W W' : World} {m : Nat} {L : List Value} (h : RowAt W m L) (hb : Below W.heap.size W W') : RowAt W' m L := fun i v e => (h i v e).below hb
theorem RowAt.drew {W : World} {m : Nat} {L : List Value} (h : RowAt W m L) : RowAt W.drew m L := fun i v e => (h i v e).drew
theorem RowAt.alloc {W : World} {m : Nat} {L : List Value} (h : RowAt W m L) (x : Obj) : RowAt (W.alloc x) m L := fun i v e => (h i v e).alloc x
theorem RowAt.other {W : World} {m g p : Nat} {L : List Value} (h : RowAt W m L) (v : Value) (hg : g ≠ m) : RowAt (W.setCell ⟨g, p, none⟩ v) m L := fun i u e => (h i u e).other v hg
theorem RowAt.put {W : World} {m : Nat} {L : List Value} (h : RowAt W m L) (p : Nat) (v : Value) (L' : List Value) (e : L' = L.set p v) : RowAt (W.setCell ⟨m, p, none⟩ v) m L' := by
  subst e
  intro i u e
  rw [List.getElem?_set] at e
  by_cases hp : p = i
  · subst hp
    by_cases hl : p < L.length
    · rw [if_pos rfl, if_pos hl] at e
      obtain rfl := Option.some.inj e
      exact (h p L[p] (List.getElem?_eq_getElem hl)).put _
    · rw [if_pos rfl, if_neg hl] at e
      cases e
  · rw [if_neg hp] at e
    exact (h i u e).set v hp
end Go.Proofs.YtmgfpnemamedoaaDoor
namespace Go.Proofs.YtmgfpnemamedoaaDoor
set_option maxRecDepth 20000
open Go.RowKit
/-- of the blocks that were there those of F alone were written -/
structure Turn (F : Nat → Prop) (w w' : World) : Prop where
  os : w'.os = w.os
  tape : w'.tape = w.tape
  output : w'.output = w.output
  size : w.heap.size ≤ w'.heap.size
  block : ∀ k, k < w.heap.size → ¬ F k → w'.heap[k]? = w.heap[k]?
/-- the blocks of a state behind a call: those of before, or new ones -/
def Grew (F F' : Nat → Prop) (w : World) : Prop := ∀ k, F' k → F k ∨ w.heap.size ≤ k
theorem Turn.refl (F : Nat → Prop) (w : World) : Turn F w w := ⟨rfl, rfl, rfl, Nat.le_refl _, fun _ _ _ => rfl⟩
theorem Turn.of_below {F : Nat → Prop} {w w' : World} (h : Below w.heap.size w w') : Turn F w w' := ⟨h.os, h.tape, h.output, h.size, fun k hk _ => h.block k hk⟩
theorem Turn.trans {F F' : Nat → Prop} {a b c : World} (h : Turn F a b) (k : Turn F' b c) (hg : Grew F F' a) : Turn F a c :=
  ⟨k.os.trans h.os, k.tape.trans h.tape, k.output.trans h.output, Nat.le_trans h.size k.size, fun i hi hF => (k.block i (Nat.lt_of_lt_of_le hi h.size) (fun hf => (hg i hf).elim hF (fun hge => by omega))).trans (h.block i hi hF)⟩
theorem Grew.refl (F : Nat → Prop) (w : World) : Grew F F w := fun _ h => Or.inl h
theorem Grew.trans {F F' F'' : Nat → Prop} {a b : World} (h : Grew F F' a) (k : Grew F' F'' b) (hs : a.heap.size ≤ b.heap.size) : Grew F F'' a := fun i hi => (k i hi).elim (h i) (fun hge => Or.inr (Nat.le_trans hs hge))
theorem Grew.other {F F' : Nat → Prop} {w : World} {k : Nat} (h : Grew F F' w) (hk : ¬ F k) (hw : k < w.heap.size) : ¬ F' k := fun hf => (h k hf).elim hk (fun hge => by omega)
theorem Grew.ge {F F' : Nat → Prop} {w : World} {B : Nat} (h : Grew F F' w) (hF : ∀ k, F k → B ≤ k) (hw : B ≤ w.heap.size) : ∀ k, F' k → B ≤ k := fun k hk => (h k hk).elim (hF k) (fun hge => Nat.le_trans hw hge)
/-- as 'below' -/
theorem Turn.below {F : Nat → Prop} {w w' : World} {B : Nat} (h : Turn F w w') (hB : B ≤ w.heap.size) (hF : ∀ k, F k → B ≤ k) : Below B w w' :=
  ⟨h.os, h.tape, h.output, h.size, fun k hk => h.block k (Nat.lt_of_lt_of_le hk hB) (fun hf => by have := hF k hf; omega)⟩
theorem Turn.cell {F : Nat → Prop} {w w' : World} {p : Addr} (h : Turn F w w') (hp : p.block < w.heap.size) (hF : ¬ F p.block) : w'.cell? p = w.cell? p := World.cell?_of_block (a := p) (h.block p.block hp hF)
theorem Turn.set {F : Nat → Prop} {a W : World} (h : Turn F a W) {p : Addr} (hp : F p.block ∨ a.heap.size ≤ p.block) (v : Value) : Turn F a (W.setCell p v) :=
  ⟨h.os, h.tape, h.output, by simpa [World.setCell] using h.size, fun k hk hF => (Below.heap_setCell _ _ _ _ (fun e => hp.elim (fun hf => hF (by rw [e]; exact hf)) (fun hge => by omega))).trans (h.block k hk hF)⟩
theorem Turn.then_ {F : Nat → Prop} {a W W' : World} (h : Turn F a W) (hb : Below W.heap.size W W') : Turn F a W' :=
  ⟨hb.os.trans h.os, hb.tape.trans h.tape, hb.output.trans h.output, Nat.le_trans h.size hb.size, fun k hk hF => (hb.block k (Nat.lt_of_lt_of_le hk h.size)).trans (h.block k hk hF)⟩
theorem Turn.alloc {F : Nat → Prop} {a W : World} (h : Turn F a W) (o : Obj) : Turn F a (W.alloc o) := h.then_ ((Below.refl _ W).alloc (Nat.le_refl _) o)
theorem Turn.drew {F : Nat → Prop} {a W : World} (h : Turn F a W) : Turn F a W.drew := ⟨h.os, h.tape, h.output, h.size, h.block⟩
theorem RowAt.turn {F : Nat → Prop} {w w' : World} {m : Nat} {L : List Value} (h : RowAt w m L) (ht : Turn F w w') (hF : ¬ F m) : RowAt w' m L := fun i v e => (h i v e).block (ht.block m (h i v e).lt hF) ht.size
theorem RowAt.lt {w : World} {m : Nat} {v : Value} {L : List Value} (h : RowAt w m (v :: L)) : m < w.heap.size := (h 0 v rfl).lt
/-- what is told of blocks stays, if they do -/
def SameOn (F : Nat → Prop) (w w' : World) : Prop := w.heap.size ≤ w'.heap.size ∧ ∀ k, F k → w'.heap[k]? = w.heap[k]?
theorem SameOn.of_below {F : Nat → Prop} {w w' : World} (h : Below w.heap.size w w') (hF : ∀ k, F k → k < w.heap.size) : SameOn F w w' := ⟨h.size, fun k hk => h.block k (hF k hk)⟩
theorem SameOn.of_set {F : Nat → Prop} {w : World} {p : Addr} (hF : ¬ F p.block) (v : Value) : SameOn F w (w.setCell p v) :=
  ⟨by simp [World.setCell], fun k hk => Below.heap_setCell _ _ _ _ (fun e => hF (e ▸ hk))⟩
theorem SameOn.trans {F : Nat → Prop} {a b c : World} (h : SameOn F a b) (k : SameOn F b c) : SameOn F a c := ⟨Nat.le_trans h.1 k.1, fun i hi => (k.2 i hi).trans (h.2 i hi)⟩
end Go.Proofs.YtmgfpnemamedoaaDoor
namespace Go.Proofs.YtmgfpnemamedoaaDoor
set_option maxRecDepth 20000
open Go.RowKit
/-- how a thing lies: so many cells -/
structure Enc (α : Type) where
  n : Nat
  pos : 0 < n
  enc : α → List Value
  len : ∀ a, (enc a).length = n
  one : ∀ a, ∀ u ∈ enc a, u.oneCell' = true
variable {α : Type}
def flatE (E : Enc α) (L : List α) : List Value := L.flatMap E.enc
theorem flatE_length (E : Enc α) : ∀ L : List α, (flatE E L).length = L.length * E.n
  | [] => by simp [flatE]
  | a :: L => by
    have ih := flatE_length E L
    unfold flatE at ih ⊢
    rw [List.flatMap_cons, List.length_append, E.len, ih, List.length_cons, Nat.add_mul]
    omega
theorem flatE_append (E : Enc α) (L M : List α) : flatE E (L ++ M) = flatE E L ++ flatE E M := by simp [flatE]
theorem flatE_single (E : Enc α) (a : α) : flatE E [a] = E.enc a := by simp [flatE]
theorem flatE_at (E : Enc α) : ∀ (L : List α) (k : Nat) (hk : k < L.length) (j : Nat), j < E.n → (flatE E L)[k * E.n + j]? = (E.enc L[k])[j]?
  | a :: L, 0, _, j, hj => by
    unfold flatE
    rw [List.flatMap_cons, List.getElem?_append_left (by rw [E.len]; omega)]
    simp
  | a :: L, k + 1, hk, j, hj => by
    have ih := flatE_at E L k (by simpa using hk) j hj
    unfold flatE at ih ⊢
    rw [List.flatMap_cons, List.getElem?_append_right (by rw [E.len, Nat.add_mul]; omega), E.len]
    rw [show (k + 1) * E.n + j - E.n = k * E.n + j by rw [Nat.add_mul]; omega]
    simpa using ih
/-- a slice of the call's own -/
def OwnL (E : Enc α) (T : TypeId) (w : World) (B : Nat) (v : Value) (L : List α) : Prop := w.ownsRow B T E.n v L.length (flatE E L)
theorem OwnL.nil (E : Enc α) (T : TypeId) (w : World) (B : Nat) : OwnL E T w B (.slice none 0 0) [] := ⟨by simp [flatE], Or.inl ⟨rfl, rfl⟩⟩
theorem OwnL.ge {E : Enc α} {T : TypeId} {w : World} {B g : Nat} {v : Value} {L : List α} (h : OwnL E T w B v L) (hv : v.ownBlock = some g) : B ≤ g ∧ g < w.heap.size := World.ownsRow.lt h g hv
theorem OwnL.base {E : Enc α} {T : TypeId} {w : World} {B B' : Nat} {v : Value} {L : List α} (h : OwnL E T w B v L) (hB : B' ≤ B) : OwnL E T w B' v L := by
  refine ⟨h.1, ?_⟩
  rcases h.2 with h0 | ⟨g, cap, cur, hv, hbg, rest⟩
  · exact Or.inl h0
  · exact Or.inr ⟨g, cap, cur, hv, Nat.le_trans hB hbg, rest⟩
theorem OwnL.same {E : Enc α} {T : TypeId} {w w' : World} {B : Nat} {v : Value} {L : List α} (h : OwnL E T w B v L) (hb : ∀ g, v.ownBlock = some g → w'.heap[g]? = w.heap[g]?) : OwnL E T w' B v L := by
  refine ⟨h.1, ?_⟩
  rcases h.2 with h0 | ⟨g, cap, cur, hv, hbg, hg, rest⟩
  · exact Or.inl h0
  · exact Or.inr ⟨g, cap, cur, hv, hbg, by rw [hb g (by rw [hv]; rfl)]; exact hg, rest⟩
theorem OwnL.below {E : Enc α} {T : TypeId} {w w' : World} {B : Nat} {v : Value} {L : List α} (h : OwnL E T w B v L) (hb : Below w.heap.size w w') : OwnL E T w' B v L := h.same fun g hv => hb.block g (h.ge hv).2
theorem OwnL.turn {E : Enc α} {T : TypeId} {F : Nat → Prop} {w w' : World} {B : Nat} {v : Value} {L : List α} (h : OwnL E T w B v L) (hb : Turn F w w') (hF : ∀ g, v.ownBlock = some g → ¬ F g) : OwnL E T w' B v L := h.same fun g hv => hb.block g (h.ge hv).2 (hF g hv)
theorem OwnL.alloc {E : Enc α} {T : TypeId} {w : World} {B : Nat} {v : Value} {L : List α} (h : OwnL E T w B v L) (o : Obj) : OwnL E T (w.alloc o) B v L := World.ownsRow.alloc h o
theorem OwnL.drew {E : Enc α} {T : TypeId} {w : World} {B : Nat} {v : Value} {L : List α} (h : OwnL E T w B v L) : OwnL E T w.drew B v L := h
theorem OwnL.grown {E : Enc α} {T : TypeId} {w w' : World} {B : Nat} {v : Value} {L : List α} {row : Option Nat} (h : OwnL E T w B v L) (hg : w.grownBy w' row) (hr : ∀ g, v.ownBlock = some g → row ≠ some g) : OwnL E T w' B v L :=
  World.ownsRow.kept h hg (by
    cases hv : v.ownBlock with
    | none => exact Or.inl rfl
    | some g => exact Or.inr (fun e => hr g hv e.symm))
/-- as one may read it -/
def AtL (E : Enc α) (w : World) (a : Option Addr) (L : List α) : Prop :=
  ∀ k (hk : k < L.length), ∃ g o, a = some ⟨g, o, none⟩ ∧ g < w.heap.size ∧ ∀ j u, (E.enc L[k])[j]? = some u → w.cell? ⟨g, o + k * E.n + j, none⟩ = some u
def SeeL (E : Enc α) (w : World) (v : Value) (L : List α) : Prop := ∃ a cap, v = .slice a L.length cap ∧ AtL E w a L
theorem AtL.nil (E : Enc α) (w : World) (a : Option Addr) : AtL E w a ([] : List α) := fun k hk => by simp at hk
theorem AtL.same {E : Enc α} {w w' : World} {a : Option Addr} {L : List α} (h : AtL E w a L) (hb : ∀ p, a = some p → w'.heap[p.block]? = w.heap[p.block]?) (hs : w.heap.size ≤ w'.heap.size) : AtL E w' a L := by
  intro k hk
  obtain ⟨g, o, ha, hg, hc⟩ := h k hk
  refine ⟨g, o, ha, Nat.lt_of_lt_of_le hg hs, fun j u hj => ?_⟩
  exact (World.cell?_of_block (a := ⟨g, o + k * E.n + j, none⟩) (hb ⟨g, o, none⟩ ha)).trans (hc j u hj)
theorem AtL.below {E : Enc α} {w w' : World} {a : Option Addr} {L : List α} (h : AtL E w a L) (hb : Below w.heap.size w w') : AtL E w' a L := by
  intro k hk
  obtain ⟨g, o, ha, hg, hc⟩ := h k hk
  refine ⟨g, o, ha, Nat.lt_of_lt_of_le hg hb.size, fun j u hj => ?_⟩
  exact (World.cell?_of_block (a := ⟨g, o + k * E.n + j, none⟩) (hb.block g hg)).trans (hc j u hj)
theorem AtL.turn {E : Enc α} {F : Nat → Prop} {w w' : World} {a : Option Addr} {L : List α} (h : AtL E w a L) (hb : Turn F w w') (hF : ∀ p, a = some p → ¬ F p.block) : AtL E w' a L := by
  intro k hk
  obtain ⟨g, o, ha, hg, hc⟩ := h k hk
  refine ⟨g, o, ha, Nat.lt_of_lt_of_le hg hb.size, fun j u hj => ?_⟩
  exact (World.cell?_of_block (a := ⟨g, o + k * E.n + j, none⟩) (hb.block g hg (hF ⟨g, o, none⟩ ha))).trans (hc j u hj)
theorem AtL.set {E : Enc α} {w : World} {a : Option Addr} {L : List α} (h : AtL E w a L) {p : Addr} (v : Value) (hp : ∀ q, a = some q → q.block ≠ p.block) : AtL E (w.setCell p v) a L :=
  h.same (fun q hq => Below.heap_setCell _ _ _ _ (hp q hq)) (by simp [World.setCell])
theorem AtL.alloc {E : Enc α} {w : World} {a : Option Addr} {L : List α} (h : AtL E w a L) (o : Obj) : AtL E (w.alloc o) a L := h.below ((Below.refl _ w).alloc (Nat.le_refl _) o)
theorem AtL.drew {E : Enc α} {w : World} {a : Option Addr} {L : List α} (h : AtL E w a L) : AtL E w.drew a L := h
theorem AtL.some_ {E : Enc α} {w : World} {a : Option Addr} {L : List α} (h : AtL E w a L) (h0 : 0 < L.length) : ∃ g o, a = some ⟨g, o, none⟩ ∧ g < w.heap.size := by
  obtain ⟨g, o, ha, hg, _⟩ := h 0 h0
  exact ⟨g, o, ha, hg⟩
/-- a cell of one of them -/
theorem AtL.get {E : Enc α} {w : World} {g o : Nat} {L : List α} (h : AtL E w (some ⟨g, o, none⟩) L) (k : Nat) (hk : k < L.length) (j : Nat) {u : Value} (e : (E.enc L[k])[j]? = some u) : w.cell? ⟨g, o + k * E.n + j, none⟩ = some u := by
  obtain ⟨g', o', ha, _, hc⟩ := h k hk
  simp only [Option.some.injEq, Addr.mk.injEq, and_true] at ha
  obtain ⟨rfl, rfl⟩ := ha
  exact hc j u e
theorem SeeL.below {E : Enc α} {w w' : World} {v : Value} {L : List α} (h : SeeL E w v L) (hb : Below w.heap.size w w') : SeeL E w' v L := by
  obtain ⟨a, cap, hv, hA⟩ := h
  exact ⟨a, cap, hv, hA.below hb⟩
theorem OwnL.see {E : Enc α} {T : TypeId} {w : World} {B : Nat} {v : Value} {L : List α} (h : OwnL E T w B v L) : SeeL E w v L := by
  rcases h.2 with ⟨hv, h0⟩ | ⟨g, cap, cur, hv, hb, hg, hc, hm, rest⟩
  · obtain rfl : L = [] := List.length_eq_zero_iff.1 h0
    exact ⟨none, 0, hv, AtL.nil E w none⟩
  · refine ⟨some ⟨g, 0, none⟩, cap, hv, fun k hk => ⟨g, 0, rfl, (h.ge (by rw [hv]; rfl)).2, fun j u hj => ?_⟩⟩
    have hjn : j < E.n := by
      have := (List.getElem?_eq_some_iff.1 hj).1
      rwa [E.len] at this
    have hl := World.ownsRow.cells h (g := g) (by rw [hv]; rfl) (k * E.n + j) u (by rw [flatE_at E L k hk j hjn]; exact hj)
    have e : (⟨g, 0, none⟩ : Addr).add (k * E.n + j) = ⟨g, k * E.n + j, none⟩ := by unfold Addr.add; split <;> simp_all
    rw [e] at hl
    rw [Nat.zero_add]
    exact hl
/-- where an own slice's cells lie, if it has some -/
theorem OwnL.some_ {E : Enc α} {T : TypeId} {w : World} {B : Nat} {v : Value} {L : List α} (h : OwnL E T w B v L) (h0 : 0 < L.length) : ∃ g c, v = .slice (some ⟨g, 0, none⟩) L.length c ∧ B ≤ g ∧ g < w.heap.size ∧ AtL E w (some ⟨g, 0, none⟩) L := by
  rcases h.2 with ⟨_, h1⟩ | ⟨g, c, cur, hv, hb, _⟩
  · omega
  · subst hv
    obtain ⟨a, cap, hv, hA⟩ := h.see
    simp only [Value.slice.injEq] at hv
    obtain ⟨rfl, -, rfl⟩ := hv
    exact ⟨g, c, rfl, hb, (World.ownsRow.lt h g rfl).2, hA⟩
/-- things just laid, as a slice of the call's own -/
theorem OwnL.lit (E : Enc α) (T : TypeId) (w : World) (B : Nat) (L : List α) (V : List Value) (hV : V = flatE E L) (hB : B ≤ w.heap.size) (hl : L.length ≤ 100000) (n : Nat) (hn : n = L.length) :
    OwnL E T (w.alloc (.cells V.toArray T)) B (.slice (some ⟨w.heap.size, 0, none⟩) n n) L := by
  subst hV hn
  have := World.ownsRow_lit (base := B) (e := T) (size := E.n) w (flatE E L).toArray L.length hB (by unfold maxLen; omega) (by
    rw [List.size_toArray, flatE_length])
  exact this
/-- slices of unlike things lie apart -/
theorem OwnL.apart {β : Type} {E : Enc α} {E' : Enc β} {T T' : TypeId} {w : World} {B B' g : Nat} {v u : Value} {L : List α} {M : List β} (h : OwnL E T w B v L) (k : OwnL E' T' w B' u M) (hT : T ≠ T') (hv : v.ownBlock = some g) : u.ownBlock ≠ some g := by
  intro ht
  rcases h.2 with ⟨rfl, _⟩ | ⟨g1, cap, cur, rfl, _, hg, _⟩
  · cases hv
  · rcases k.2 with ⟨rfl, _⟩ | ⟨g2, cap2, cur2, rfl, _, hg2, _⟩
    · cases ht
    · simp only [Value.ownBlock, Option.some.injEq] at hv ht
      subst hv
      subst ht
      rw [hg] at hg2
      simp only [Option.some.injEq, Obj.cells.injEq] at hg2
      exact hT hg2.2.1
/-- one that has just been laid -/
theorem AtL.made (E : Enc α) (T : TypeId) (w : World) (m : Nat) (u : α) (V : List Value) (hV : V = E.enc u) (hm : m = w.heap.size) : AtL E (w.alloc (.cells V.toArray T)) (some ⟨m, 0, none⟩) [u] := by
  subst hV hm
  intro k hk
  obtain rfl : k = 0 := by simpa using hk
  refine ⟨w.heap.size, 0, rfl, by simp, fun j v hj => (World.cell?_alloc_at _ _ _ _ (by simp)).trans ?_⟩
  simpa using hj
/-- one more behind a slice of the call's own -/
theorem wpList_append_one (E : Enc α) (T S : TypeId) (hS : Tryd.prog.underlying S = some (.slice T)) {z : Value} {bytes : Nat} (hi : (Tryd.prog.info? T).map (fun i => (i.zero, i.size, i.bytes)) = some (some z, E.n, bytes)) (hz : z.cells.size = E.n) (hby : bytes ≤ 4096)
    (w : World) {ops : Array Oper} {rest : List Oper} {o : Oper} {a : Act} {Q : Exit → Act → World → Prop} (hgd : o.guard = none) (s x : Operand) (ho : o.op = .call { callee := .builtin .append, args := #[s, x], argTypes := #[S, S] })
    (B : Nat) (v : Value) (L : List α) (hs : a.eval s = v) (hown : OwnL E T w B v L) (m c : Nat) (hx : a.eval x = .slice (some ⟨m, 0, none⟩) 1 c) (u : α) (hm : AtL E w (some ⟨m, 0, none⟩) [u]) (hlen : L.length ≤ 100000) (hB : B ≤ w.heap.size)
    (h : ∀ v' w', OwnL E T w' B v' (L ++ [u]) → w.grownBy w' v.ownBlock → (v'.ownBlock = v.ownBlock ∨ v'.ownBlock = some w.heap.size) → wpList Tryd.prog ops Q rest (a.put o.dst v') w') : wpList Tryd.prog ops Q (o :: rest) a w := by
  refine wpList_plain hgd fun K hK => ?_
  obtain ⟨i0, hi0, hz0, hz1, hz2⟩ := info_parts hi
  obtain ⟨v', w', hr, h2, h3, h4, h5⟩ := run_append_own_at (P := Tryd.prog) w B S o.type T i0 z E.n bytes hS hi0 hz0 hz1 hz2 hz E.pos v L.length (flatE E L) hown ⟨m, 0, none⟩ 1 c (E.enc u) (by rw [E.len, Nat.one_mul]) (fun j y hj => by
    have := hm.get 0 (by simp) j hj
    have e : (⟨m, 0, none⟩ : Addr).add j = ⟨m, j, none⟩ := by unfold Addr.add; split <;> simp_all
    rw [e]
    simpa using this) (E.one u) (by unfold maxLen; omega) (Nat.le_trans (Nat.mul_le_mul_left _ hby) (by omega)) hB
  unfold Oper.wp execOp
  simp only [ho, resolve, invoke, builtin, Sem.run_bind, Sem.run_pure, Result.andThen_ok, List.map_toArray, List.map_cons, List.map_nil, hs, hx, hr]
  exact hK _ _ (h v' w' (by unfold OwnL; rw [List.length_append, flatE_append, flatE_single]; exact h2) h3 h5)
/-- an append that runs so -/
theorem wp_append_run {P : Program} {t : TypeId} {w : World} {o : Oper} {a : Act} {Q : Exit → Act → World → Prop} {K : Act → World → Prop} (s x : Operand) (ho : o.op = .call { callee := .builtin .append, args := #[s, x], argTypes := #[t, t] })
    {vs vx v' : Value} {w' : World} (hs : a.eval s = vs) (hx : a.eval x = vx) (hr : (Builtin.append_ #[t, t] o.type #[vs, vx]).run P w = .ok v' w') (h : K (a.put o.dst v') w') : Oper.wp P o a w K Q := by
  unfold Oper.wp execOp
  simp only [ho, resolve, invoke, builtin, Sem.run_bind, Sem.run_pure, Result.andThen_ok, List.map_toArray, List.map_cons, List.map_nil, hs, hx, hr]
  exact h
theorem AtL.grown {E : Enc α} {w w' : World} {g o : Nat} {L : List α} {row : Option Nat} (h : AtL E w (some ⟨g, o, none⟩) L) (hg : w.grownBy w' row) (hr : row ≠ some g) (hl : g < w.heap.size) : AtL E w' (some ⟨g, o, none⟩) L :=
  h.same (fun p hp => by cases hp; exact hg.block g hl (fun e => hr e.symm)) hg.size
/-- one more thing behind an own slice -/
theorem run_append_one (E : Enc α) (T S : TypeId) (ty : TypeId) (hS : Tryd.prog.underlying S = some (.slice T)) {z : Value} {bytes : Nat} (hi : (Tryd.prog.info? T).map (fun i => (i.zero, i.size, i.bytes)) = some (some z, E.n, bytes)) (hz : z.cells.size = E.n) (hby : bytes ≤ 4096)
    (w : World) (B : Nat) (v : Value) (L : List α) (hown : OwnL E T w B v L) (m c : Nat) (u : α) (hm : AtL E w (some ⟨m, 0, none⟩) [u]) (hlen : L.length ≤ 100000) (hB : B ≤ w.heap.size) :
    ∃ v' w', (Builtin.append_ #[S, S] ty #[v, .slice (some ⟨m, 0, none⟩) 1 c]).run Tryd.prog w = .ok v' w' ∧ OwnL E T w' B v' (L ++ [u]) ∧ w.grownBy w' v.ownBlock ∧ (v'.ownBlock = v.ownBlock ∨ v'.ownBlock = some w.heap.size) := by
  obtain ⟨i0, hi0, hz0, hz1, hz2⟩ := info_parts hi
  obtain ⟨v', w', hr, h2, h3, h4, h5⟩ := run_append_own_at (P := Tryd.prog) w B S ty T i0 z E.n bytes hS hi0 hz0 hz1 hz2 hz E.pos v L.length (flatE E L) hown ⟨m, 0, none⟩ 1 c (E.enc u) (by rw [E.len, Nat.one_mul]) (fun j y hj => by
    have := hm.get 0 (by simp) j hj
    have e : (⟨m, 0, none⟩ : Addr).add j = ⟨m, j, none⟩ := by unfold Addr.add; split <;> simp_all
    rw [e]
    simpa using this) (E.one u) (by unfold maxLen; omega) (Nat.le_trans (Nat.mul_le_mul_left _ hby) (by omega)) hB
  exact ⟨v', w', hr, by unfold OwnL; rw [List.length_append, flatE_append, flatE_single]; exact h2, h3, h5⟩
/-- behind it -/
theorem OwnL.appended {E : Enc α} {T : TypeId} {w0 wr w1 : World} {b0 B : Nat} {v : Value} {L : List α} (h : OwnL E T wr B v L) (hb : Below b0 w0 wr) (hbB : b0 ≤ B) (hbw : b0 ≤ wr.heap.size) (hg : wr.grownBy w1 v.ownBlock) : Below b0 w0 w1 :=
  hb.grown hg hbw (fun _ hk => Nat.le_trans hbB (h.ge hk).1)
/-- texts -/
def encS : Enc ByteArray := ⟨1, by omega, fun b => [.string b], fun _ => rfl, fun _ u hu => by rw [List.mem_singleton.1 hu]; rfl⟩
/-- numbers -/
def encI : Enc Int := ⟨1, by omega, fun b => [.int .i64 b], fun _ => rfl, fun _ u hu => by rw [List.mem_singleton.1 hu]; rfl⟩
end Go.Proofs.YtmgfpnemamedoaaDoor
