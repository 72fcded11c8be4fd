/-
Blocks of memory: what every layer's walks use.
Bytes in slices, as texts (behind the text of blocks).
-/
import Derived.Test.YtadhiknmkiogjaaDoorProg
import Derived.WalkKit
import Derived.WalkSpells
import Derived.WalkLawsBesides
import Derived.Laws.BitsAllLaws
import Derived.Laws.ShiftsVarLaws
import Derived.Lib.Hide
import Derived.Lib.Strings
import Derived.BigQuiet
import Derived.Deep.QuietTactic
import Derived.Lib.QuietBelow
import Derived.BigRegion
import Derived.IntWalk
import Derived.Lib.SmallJoins
import Derived.Lib.IndexBytes
namespace Go.Proofs.YtadhiknmkiogjaaDoor
set_option maxRecDepth 20000
open Go.RowKit
/-- a small number stays as it is -/
theorem i64_near (n : Int) (h0 : -1000000 ≤ n) (h1 : n ≤ 1000000) : IntKind.i64.wrap n = n := IntWalk.i64_in _ (by omega)
theorem blt' (c : UInt8) : c.toNat < 256 := c.toNat_lt
theorem bytes_ext' {a b : ByteArray} (h : a.data.toList = b.data.toList) : a = b := ByteArray.ext (Array.toList_inj.1 h)
/-- bytes as cells -/
def bytesV (l : List UInt8) : List Value := l.map fun c => Value.int .u8 ((c.toNat : Nat) : Int)
theorem bytesV_length (l : List UInt8) : (bytesV l).length = l.length := by simp [bytesV]
theorem bytesV_append (a b : List UInt8) : bytesV (a ++ b) = bytesV a ++ bytesV b := by simp [bytesV]
theorem bytesV_one (l : List UInt8) : ∀ u ∈ bytesV l, u.oneCell' = true := by
  intro u hu
  obtain ⟨c, _, rfl⟩ := List.mem_map.1 hu
  rfl
theorem bytesV_get (l : List UInt8) (i : Nat) (h : i < l.length) : (bytesV l)[i]? = some (.int .u8 ((l[i].toNat : Nat) : Int)) := by simp [bytesV, h]
/-- v is a slice of the call's own that holds these bytes -/
def OwnB (w : World) (B : Nat) (v : Value) (l : List UInt8) : Prop := w.ownsRow B 5 1 v l.length (bytesV l)
theorem OwnB.slice {w : World} {B : Nat} {v : Value} {l : List UInt8} (h : OwnB w B v l) (hl : 0 < l.length) : ∃ g cap, v = .slice (some ⟨g, 0, none⟩) l.length cap := by
  rcases h.2 with ⟨_, h0⟩ | ⟨g, cap, _, hv, _⟩
  · omega
  · exact ⟨g, cap, hv⟩
theorem OwnB.cell {w : World} {B g n cap : Nat} {l : List UInt8} (h : OwnB w B (.slice (some ⟨g, 0, none⟩) n cap) l) (i : Nat) (hi : i < l.length) : w.cell? ⟨g, i, none⟩ = some (.int .u8 ((l[i].toNat : Nat) : Int)) := by
  have hn : n = l.length := by
    rcases h.2 with ⟨h', _⟩ | ⟨_, _, _, hv, _⟩
    · simp at h'
    · simp at hv; omega
  subst hn
  have h2 := World.ownsRow.cellAt h i (by omega)
  rw [h2, bytesV_get l i hi]
theorem OwnB.cap {w : World} {B g n cap : Nat} {l : List UInt8} (h : OwnB w B (.slice (some ⟨g, 0, none⟩) n cap) l) : l.length ≤ cap := by
  rcases h.2 with ⟨h', _⟩ | ⟨_, _, _, hv, _, _, hc, _⟩
  · simp at h'
  · simp at hv; omega
theorem OwnB.start (w : World) (B n : Nat) (x : Int) (c : UInt8) (hx : x = ((c.toNat : Nat) : Int)) (hn : n = w.heap.size) (hB : B ≤ n) : OwnB (w.alloc (.cells #[.int .u8 x] 5)) B (.slice (some ⟨n, 0, none⟩) 1 1) [c] := by
  subst hn
  have h := World.ownsRow_lit (base := B) (e := 5) (size := 1) w #[.int .u8 x] 1 hB (by decide) rfl
  rw [hx] at h ⊢
  exact h
theorem OwnB.alloc {w : World} {B : Nat} {v : Value} {l : List UInt8} (h : OwnB w B v l) (o : Obj) : OwnB (w.alloc o) B v l := World.ownsRow.alloc h o
/-- cells that have just been laid -/
theorem cells_new (w : World) (cs : Array Value) (t : TypeId) : ∀ j u, cs.toList[j]? = some u → (w.alloc (.cells cs t)).cell? ((⟨w.heap.size, 0, none⟩ : Addr).add j) = some u := by
  intro j u h
  have e : (⟨w.heap.size, 0, none⟩ : Addr).add j = ⟨w.heap.size, j, none⟩ := by unfold Addr.add; split <;> simp_all
  rw [e, World.cell?_alloc_new]
  simpa using h
/-- behind an append of bytes that were laid in a block of their own -/
theorem OwnB.appended {w0 wr w1 : World} {b0 B : Nat} {v v' : Value} {L news : List UInt8} {o : Obj} (h : OwnB wr B v L) (hb : Below b0 w0 wr) (hbB : b0 ≤ B) (hB : B ≤ wr.heap.size)
    (h1 : w1.ownsRow B 5 1 v' (L.length + news.length) (bytesV L ++ bytesV news)) (hg : (wr.alloc o).grownBy w1 v.ownBlock) : OwnB w1 B v' (L ++ news) ∧ Below b0 w0 w1 ∧ B ≤ w1.heap.size := by
  refine ⟨?_, ?_, ?_⟩
  · unfold OwnB; rw [List.length_append, bytesV_append]; exact h1
  · exact (hb.alloc (by omega) o).grown hg (by simp; omega) (fun k hk => by have := (World.ownsRow.lt h k hk).1; omega)
  · have := hg.size; simp at this; omega
theorem info8 : (Tryd.prog.info? 5).map (fun i => (i.zero, i.size, i.bytes)) = some (some (.int .u8 0), 1, 1) := by kernel_rfl
theorem grown_refl (w : World) (r : Option Nat) : w.grownBy w r := ⟨rfl, rfl, rfl, Nat.le_refl _, fun _ _ _ => rfl⟩
theorem grown_trans {a b c : World} {r : Option Nat} (h : a.grownBy b r) (k : b.grownBy c r) : a.grownBy c r :=
  ⟨k.os.trans h.os, k.tape.trans h.tape, k.output.trans h.output, Nat.le_trans h.size k.size, fun i hi hr => (k.block i (Nat.lt_of_lt_of_le hi h.size) hr).trans (h.block i hi hr)⟩
theorem grown_alloc {a b : World} {r : Option Nat} (h : a.grownBy b r) (o : Obj) : a.grownBy (b.alloc o) r := grown_trans h (World.grownBy_alloc b o r)
theorem grown_drew {a b : World} {r : Option Nat} (h : a.grownBy b r) : a.grownBy b.drew r := ⟨h.os, h.tape, h.output, h.size, h.block⟩
theorem grown_set {a b : World} {g o : Nat} (h : a.grownBy b (some g)) (v : Value) : a.grownBy (b.setCell ⟨g, o, none⟩ v) (some g) :=
  grown_trans h ⟨rfl, rfl, rfl, by simp [World.setCell], fun k _ hk => Below.heap_setCell _ _ _ _ (fun e => hk (by rw [e]))⟩
theorem grown_own {a b c : World} {g : Nat} {r : Option Nat} (h : a.grownBy b (some g)) (k : b.grownBy c r) (hr : ∀ i, r = some i → a.heap.size ≤ i) : a.grownBy c (some g) :=
  ⟨k.os.trans h.os, k.tape.trans h.tape, k.output.trans h.output, Nat.le_trans h.size k.size, fun i hi hg => (k.block i (Nat.lt_of_lt_of_le hi h.size) (fun e => by have := hr i e.symm; omega)).trans (h.block i hi hg)⟩
theorem set_here {w : World} {b o : Nat} {u v : Value} (h : w.cell? ⟨b, o, none⟩ = some u) : (w.setCell ⟨b, o, none⟩ v).cell? ⟨b, o, none⟩ = some v := World.cell?_setCell_same w _ v h
theorem set_off (w : World) (b o p : Nat) (v : Value) (h : o ≠ p) : (w.setCell ⟨b, o, none⟩ v).cell? ⟨b, p, none⟩ = w.cell? ⟨b, p, none⟩ :=
  World.cell?_setCell_other (w := w) (a := ⟨b, o, none⟩) (b := ⟨b, p, none⟩) (v := v) (h := fun he => h (Addr.mk.inj he).2.1)
theorem set_block (w : World) (b g o p : Nat) (v : Value) (h : b ≠ g) : (w.setCell ⟨b, o, none⟩ v).cell? ⟨g, p, none⟩ = w.cell? ⟨g, p, none⟩ :=
  World.cell?_setCell_other (w := w) (a := ⟨b, o, none⟩) (b := ⟨g, p, none⟩) (v := v) (h := fun he => h (Addr.mk.inj he).1)
theorem grown_drewN {a b : World} {r : Option Nat} (h : a.grownBy b r) (n : Nat) : a.grownBy (b.drewN n) r := ⟨h.os, h.tape, h.output, h.size, h.block⟩
theorem grown_new {a b : World} {r : Option Nat} {n o : Nat} (h : a.grownBy b r) (hn : a.heap.size ≤ n) (v : Value) : a.grownBy (b.setCell ⟨n, o, none⟩ v) r :=
  ⟨h.os, h.tape, h.output, by simpa [World.setCell] using h.size, fun k hk hr => (Below.heap_setCell _ _ _ _ (by show k ≠ n; omega)).trans (h.block k hk hr)⟩
theorem grown_below {a b c : World} {r : Option Nat} (h : a.grownBy b r) (k : Below b.heap.size b c) : a.grownBy c r :=
  ⟨k.os.trans h.os, k.tape.trans h.tape, k.output.trans h.output, Nat.le_trans h.size k.size, fun i hi hr => (k.block i (Nat.lt_of_lt_of_le hi h.size)).trans (h.block i hi hr)⟩
/-- bytes that lie in a row, as an append reads them -/
theorem row_news {w : World} {g : Nat} {l : List UInt8} (hc : ∀ i (h : i < l.length), w.cell? ⟨g, i, none⟩ = some (.int .u8 ((l[i].toNat : Nat) : Int))) : ∀ j u, (bytesV l)[j]? = some u → w.cell? ((⟨g, 0, none⟩ : Addr).add j) = some u := by
  intro j u h
  have hj : j < l.length := by
    have := (List.getElem?_eq_some_iff.1 h).1
    rwa [bytesV_length] at this
  have e : (⟨g, 0, none⟩ : Addr).add j = ⟨g, j, none⟩ := by unfold Addr.add; split <;> simp_all
  rw [bytesV_get l j hj] at h
  rw [e, hc j hj, Option.some.inj h]
theorem stored3 {W : World} {n : Nat} {x0 x1 x2 : Value} (u0 u1 u2 : Value) (r0 : W.cell? ⟨n, 0, none⟩ = some x0) (r1 : W.cell? ⟨n, 1, none⟩ = some x1) (r2 : W.cell? ⟨n, 2, none⟩ = some x2) :
    (((W.setCell ⟨n, 0, none⟩ u0).setCell ⟨n, 1, none⟩ u1).setCell ⟨n, 2, none⟩ u2).cell? ⟨n, 0, none⟩ = some u0 ∧ (((W.setCell ⟨n, 0, none⟩ u0).setCell ⟨n, 1, none⟩ u1).setCell ⟨n, 2, none⟩ u2).cell? ⟨n, 1, none⟩ = some u1 ∧
    (((W.setCell ⟨n, 0, none⟩ u0).setCell ⟨n, 1, none⟩ u1).setCell ⟨n, 2, none⟩ u2).cell? ⟨n, 2, none⟩ = some u2 := by
  refine ⟨?_, ?_, ?_⟩
  · rw [set_off _ _ _ _ _ (by omega), set_off _ _ _ _ _ (by omega), set_here r0]
  · rw [set_off _ _ _ _ _ (by omega), set_here (by rw [set_off _ _ _ _ _ (by omega)]; exact r1)]
  · rw [set_here (by rw [set_off _ _ _ _ _ (by omega), set_off _ _ _ _ _ (by omega)]; exact r2)]
theorem cells_new' (w : World) (n : Nat) (hn : n = w.heap.size) (cs : Array Value) (t : TypeId) : ∀ j u, cs.toList[j]? = some u → (w.alloc (.cells cs t)).cell? ((⟨n, 0, none⟩ : Addr).add j) = some u := by
  subst hn; exact cells_new w cs t
theorem list_at (b : ByteArray) (k : Nat) (h : k < b.size) : b.data.toList[k]'(by simpa using h) = b[k] := by
  rw [Array.getElem_toList]; rfl
theorem back_bytes (b : ByteArray) : (⟨b.data.toList.toArray⟩ : ByteArray) = b := bytes_ext' (by simp)
theorem stored2 {W : World} {n : Nat} {x0 x1 : Value} (u0 u1 : Value) (r0 : W.cell? ⟨n, 0, none⟩ = some x0) (r1 : W.cell? ⟨n, 1, none⟩ = some x1) :
    ((W.setCell ⟨n, 0, none⟩ u0).setCell ⟨n, 1, none⟩ u1).cell? ⟨n, 0, none⟩ = some u0 ∧ ((W.setCell ⟨n, 0, none⟩ u0).setCell ⟨n, 1, none⟩ u1).cell? ⟨n, 1, none⟩ = some u1 := by
  refine ⟨?_, ?_⟩
  · rw [set_off _ _ _ _ _ (by omega), set_here r0]
  · rw [set_here (by rw [set_off _ _ _ _ _ (by omega)]; exact r1)]
theorem set2_below {B n : Nat} {a W : World} (h : Below B a W) (hn : B ≤ n) (u0 u1 : Value) : Below B a ((W.setCell ⟨n, 0, none⟩ u0).setCell ⟨n, 1, none⟩ u1) := (h.setCell (p := ⟨n, 0, none⟩) hn u0).setCell (p := ⟨n, 1, none⟩) hn u1
/-- a cell that stays -/
structure KeepAt (W : World) (m o : Nat) (u : Value) : Prop where
  cell : W.cell? ⟨m, o, none⟩ = some u
  free : W.frozen? ⟨m, o, none⟩ = false
  lt : m < W.heap.size
theorem KeepAt.block {W W' : World} {m o : Nat} {u : Value} (h : KeepAt W m o u) (hb : W'.heap[m]? = W.heap[m]?) (hs : W.heap.size ≤ W'.heap.size) : KeepAt W' m o u := by
  refine ⟨?_, ?_, Nat.lt_of_lt_of_le h.lt hs⟩
  · have := h.cell
    unfold World.cell? at this ⊢
    rw [hb]; exact this
  · have := h.free
    unfold World.frozen? at this ⊢
    rw [hb]; exact this
theorem KeepAt.below {W W' : World} {m o : Nat} {u : Value} (h : KeepAt W m o u) (hb : Below W.heap.size W W') : KeepAt W' m o u := h.block (hb.block m h.lt) hb.size
theorem KeepAt.alloc {W : World} {m o : Nat} {u : Value} (h : KeepAt W m o u) (x : Obj) : KeepAt (W.alloc x) m o u := h.below ((Below.refl _ W).alloc (Nat.le_refl _) _)
theorem KeepAt.set {W : World} {m o p : Nat} {u : Value} (h : KeepAt W m o u) (v : Value) (hp : p ≠ o) : KeepAt (W.setCell ⟨m, p, none⟩ v) m o u :=
  ⟨(set_off _ _ _ _ _ hp).trans h.cell, by rw [World.frozen?_setCell]; exact h.free, by simpa [World.setCell] using h.lt⟩
theorem KeepAt.put {W : World} {m o : Nat} {u : Value} (h : KeepAt W m o u) (v : Value) : KeepAt (W.setCell ⟨m, o, none⟩ v) m o v :=
  ⟨set_here h.cell, by rw [World.frozen?_setCell]; exact h.free, by simpa [World.setCell] using h.lt⟩
theorem KeepAt.other {W : World} {m o g p : Nat} {u : Value} (h : KeepAt W m o u) (v : Value) (hg : g ≠ m) : KeepAt (W.setCell ⟨g, p, none⟩ v) m o u :=
  ⟨(set_block _ _ _ _ _ _ hg).trans h.cell, by rw [World.frozen?_setCell]; exact h.free, by simpa [World.setCell] using h.lt⟩
theorem KeepAt.drew {W : World} {m o : Nat} {u : Value} (h : KeepAt W m o u) : KeepAt W.drew m o u := ⟨h.cell, h.free, h.lt⟩
/-- bytes that lie in a block from its beginning on -/
def BytesAt (w : World) (g : Nat) (l : List UInt8) : Prop := g < w.heap.size ∧ ∀ i (h : i < l.length), w.cell? ⟨g, i, none⟩ = some (.int .u8 ((l[i].toNat : Nat) : Int))
theorem BytesAt.below {w w' : World} {g : Nat} {l : List UInt8} (h : BytesAt w g l) (hb : Below w.heap.size w w') : BytesAt w' g l := ⟨Nat.lt_of_lt_of_le h.1 hb.size, fun i hi => (hb.cell (p := ⟨g, i, none⟩) h.1).trans (h.2 i hi)⟩
theorem BytesAt.one (w : World) (g : Nat) (F : Int) (x : UInt8) (hF : F = ((x.toNat : Nat) : Int)) (hg : g = w.heap.size) : BytesAt (w.alloc (.cells #[.int .u8 F] 5)) g [x] := by
  subst hF hg
  refine ⟨by simp, fun i hi => ?_⟩
  obtain rfl : i = 0 := by simpa using hi
  exact World.cell?_alloc_at _ _ _ _ rfl
theorem BytesAt.two (w : World) (g : Nat) (F G : Int) (x y : UInt8) (hF : F = ((x.toNat : Nat) : Int)) (hG : G = ((y.toNat : Nat) : Int)) (hg : g = w.heap.size) : BytesAt (w.alloc (.cells #[.int .u8 F, .int .u8 G] 5)) g [x, y] := by
  subst hF hG hg
  refine ⟨by simp, fun i hi => ?_⟩
  have hi2 : i < 2 := hi
  obtain rfl | rfl : i = 0 ∨ i = 1 := by omega
  · exact World.cell?_alloc_at _ _ _ _ rfl
  · exact World.cell?_alloc_at _ _ _ _ rfl
theorem below_alloc2 (w : World) (a b : Obj) : Below w.heap.size w ((w.alloc a).alloc b) := ((Below.refl w.heap.size w).alloc (Nat.le_refl _) a).alloc ((Below.refl w.heap.size w).alloc (Nat.le_refl _) a).size b
end Go.Proofs.YtadhiknmkiogjaaDoor
namespace Go.Proofs.YtadhiknmkiogjaaDoor
set_option maxRecDepth 20000
open Go.RowKit
theorem OwnB.text {w : World} {B g n cap : Nat} {l : List UInt8} (h : OwnB w B (.slice (some ⟨g, 0, none⟩) n cap) l) (hn : n = l.length) :
    (convert 93 9 (.slice (some ⟨g, 0, none⟩) n cap)).run Tryd.prog w = .ok (.string ⟨l.toArray⟩) w := by
  subst hn
  rw [run_convert_bytes_arg w 93 5 Tryd.underlying93 Tryd.underlying5 g 0 l.length cap (l.map fun b => ((b.toNat : Nat) : Int)) (by simp) (fun i hi => by
    rw [Nat.zero_add, h.cell i hi, List.getD_eq_getElem?_getD, List.getElem?_map, List.getElem?_eq_getElem hi]; rfl) 9 Tryd.underlying9]
  congr 2
  apply bytes_ext'
  rw [strOfNums_data, List.map_map]
  show List.map _ l = l
  conv => rhs; rw [← List.map_id l]
  apply List.map_congr_left
  intro x _
  simp
/-- 's[1:]' of what is held, and the text of it -/
theorem drop_first (g cap : Nat) (x : UInt8) (l : List UInt8) (hcap : l.length + 1 ≤ cap) :
    ∃ A, (∀ W, (Instr.slice 93 (.slice (some ⟨g, 0, none⟩) (l.length + 1) cap) (some (.int .i64 1)) none none).run Tryd.prog W = .ok (.slice (some A) l.length (cap - 1)) W) ∧
      ∀ W, (∀ i (h : i < (x :: l).length), W.cell? ⟨g, i, none⟩ = some (.int .u8 (((x :: l)[i].toNat : Nat) : Int))) → (convert 93 9 (.slice (some A) l.length (cap - 1))).run Tryd.prog W = .ok (.string ⟨l.toArray⟩) W := by
  have ht' : Tryd.prog.underlying 93 = some (.slice (Tryd.prog.elem 93)) := by simp [Program.elem, Tryd.underlying93]
  have he : Tryd.prog.elem 93 = 5 := by simp [Program.elem, Tryd.underlying93]
  have hz : ∀ w, (Go.sizeOf 5).run Tryd.prog w = .ok 1 w := fun w => by kernel_rfl
  refine ⟨if cap = 1 then ⟨g, 0, none⟩ else ⟨g, 1, none⟩, fun W => ?_, fun W hc => ?_⟩
  · rw [run_slice_l W 93 _ _ _ ht' .i64 1 (by omega) (by omega), he, hz]
    by_cases h1 : cap = 1
    · subst h1
      simp [Result.andThen, sliced]
    · simp [Result.andThen, sliced, Addr.add, h1]
  · by_cases h1 : cap = 1
    · have h0 : l.length = 0 := by omega
      have hl : l = [] := List.length_eq_zero_iff.1 h0
      subst hl
      rw [if_pos h1, List.length_nil, run_convert_bytes_arg W 93 5 Tryd.underlying93 Tryd.underlying5 g 0 0 (cap - 1) [] rfl (fun i hi => absurd hi (by omega)) 9 Tryd.underlying9]
      rfl
    · rw [if_neg h1, run_convert_bytes_arg W 93 5 Tryd.underlying93 Tryd.underlying5 g 1 l.length (cap - 1) (l.map fun b => ((b.toNat : Nat) : Int)) (by simp) (fun i hi => by
        have e1 : 1 + i = i + 1 := Nat.add_comm 1 i
        rw [e1, hc (i + 1) (by simpa using hi), List.getD_eq_getElem?_getD, List.getElem?_map, List.getElem?_eq_getElem hi]; rfl) 9 Tryd.underlying9]
      refine congrArg (fun z => Result.ok (Value.string z) W) ?_
      apply bytes_ext'
      rw [strOfNums_data, List.map_map]
      show List.map _ l = l
      conv => rhs; rw [← List.map_id l]
      apply List.map_congr_left
      intro x _
      simp
theorem BytesAt.conv {w : World} {g cap : Nat} {l : List UInt8} (h : BytesAt w g l) :
    (convert 93 9 (.slice (some ⟨g, 0, none⟩) l.length cap)).run Tryd.prog w = .ok (.string ⟨l.toArray⟩) w := by
  rw [run_convert_bytes_arg w 93 5 Tryd.underlying93 Tryd.underlying5 g 0 l.length cap (l.map fun b => ((b.toNat : Nat) : Int)) (by simp) (fun i hi => by
    rw [Nat.zero_add, h.2 i hi, List.getD_eq_getElem?_getD, List.getElem?_map, List.getElem?_eq_getElem hi]; rfl) 9 Tryd.underlying9]
  congr 2
  apply bytes_ext'
  rw [strOfNums_data, List.map_map]
  show List.map _ l = l
  conv => rhs; rw [← List.map_id l]
  apply List.map_congr_left
  intro x _
  simp
end Go.Proofs.YtadhiknmkiogjaaDoor
