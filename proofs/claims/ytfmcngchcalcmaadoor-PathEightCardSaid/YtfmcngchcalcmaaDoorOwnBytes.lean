/-
Slices of bytes that a call makes and appends to, told as lists; back to a text.
-/
import Derived.Test.YtfmcngchcalcmaaDoorProg
import Derived.WalkKit
import Derived.WalkSpells
import Derived.WalkLawsBesides
import Derived.Laws.BitsAllLaws
import Derived.Laws.ShiftsVarLaws
import Derived.Lib.Hide
namespace Go.Proofs.YtfmcngchcalcmaaDoor
open Go.RowKit
theorem blt' (c : UInt8) : c.toNat < 256 := c.toNat_lt
theorem bytes_ext' {a b : ByteArray} (h : a.data.toList = b.data.toList) : a = b := ByteArray.ext (Array.toList_inj.1 h)
/-- bytes as cells -/
def bytesV (l : List UInt8) : List Value := l.map fun c => Value.int .u8 ((c.toNat : Nat) : Int)
theorem bytesV_length (l : List UInt8) : (bytesV l).length = l.length := by simp [bytesV]
theorem bytesV_append (a b : List UInt8) : bytesV (a ++ b) = bytesV a ++ bytesV b := by simp [bytesV]
theorem bytesV_one (l : List UInt8) : ∀ u ∈ bytesV l, u.oneCell' = true := by
  intro u hu
  obtain ⟨c, _, rfl⟩ := List.mem_map.1 hu
  rfl
theorem bytesV_get (l : List UInt8) (i : Nat) (h : i < l.length) : (bytesV l)[i]? = some (.int .u8 ((l[i].toNat : Nat) : Int)) := by simp [bytesV, h]
/-- v is a slice of the call's own that holds these bytes -/
def OwnB (w : World) (B : Nat) (v : Value) (l : List UInt8) : Prop := w.ownsRow B 5 1 v l.length (bytesV l)
theorem OwnB.slice {w : World} {B : Nat} {v : Value} {l : List UInt8} (h : OwnB w B v l) (hl : 0 < l.length) : ∃ g cap, v = .slice (some ⟨g, 0, none⟩) l.length cap := by
  rcases h.2 with ⟨_, h0⟩ | ⟨g, cap, _, hv, _⟩
  · omega
  · exact ⟨g, cap, hv⟩
theorem OwnB.cell {w : World} {B g n cap : Nat} {l : List UInt8} (h : OwnB w B (.slice (some ⟨g, 0, none⟩) n cap) l) (i : Nat) (hi : i < l.length) : w.cell? ⟨g, i, none⟩ = some (.int .u8 ((l[i].toNat : Nat) : Int)) := by
  have hn : n = l.length := by
    rcases h.2 with ⟨h', _⟩ | ⟨_, _, _, hv, _⟩
    · simp at h'
    · simp at hv; omega
  subst hn
  have h2 := World.ownsRow.cellAt h i (by omega)
  rw [h2, bytesV_get l i hi]
theorem OwnB.cap {w : World} {B g n cap : Nat} {l : List UInt8} (h : OwnB w B (.slice (some ⟨g, 0, none⟩) n cap) l) : l.length ≤ cap := by
  rcases h.2 with ⟨h', _⟩ | ⟨_, _, _, hv, _, _, hc, _⟩
  · simp at h'
  · simp at hv; omega
theorem OwnB.text {w : World} {B g n cap : Nat} {l : List UInt8} (h : OwnB w B (.slice (some ⟨g, 0, none⟩) n cap) l) (hn : n = l.length) :
    (convert 113 9 (.slice (some ⟨g, 0, none⟩) n cap)).run Tryd.prog w = .ok (.string ⟨l.toArray⟩) w := by
  subst hn
  rw [run_convert_bytes_arg w 113 5 Tryd.underlying113 Tryd.underlying5 g 0 l.length cap (l.map fun b => ((b.toNat : Nat) : Int)) (by simp) (fun i hi => by
    rw [Nat.zero_add, h.cell i hi, List.getD_eq_getElem?_getD, List.getElem?_map, List.getElem?_eq_getElem hi]; rfl) 9 Tryd.underlying9]
  congr 2
  apply bytes_ext'
  rw [strOfNums_data, List.map_map]
  show List.map _ l = l
  conv => rhs; rw [← List.map_id l]
  apply List.map_congr_left
  intro x _
  simp
theorem OwnB.start (w : World) (B n : Nat) (x : Int) (c : UInt8) (hx : x = ((c.toNat : Nat) : Int)) (hn : n = w.heap.size) (hB : B ≤ n) : OwnB (w.alloc (.cells #[.int .u8 x] 5)) B (.slice (some ⟨n, 0, none⟩) 1 1) [c] := by
  subst hn
  have h := World.ownsRow_lit (base := B) (e := 5) (size := 1) w #[.int .u8 x] 1 hB (by decide) rfl
  rw [hx] at h ⊢
  exact h
theorem OwnB.alloc {w : World} {B : Nat} {v : Value} {l : List UInt8} (h : OwnB w B v l) (o : Obj) : OwnB (w.alloc o) B v l := World.ownsRow.alloc h o
/-- cells that have just been laid -/
theorem cells_new (w : World) (cs : Array Value) (t : TypeId) : ∀ j u, cs.toList[j]? = some u → (w.alloc (.cells cs t)).cell? ((⟨w.heap.size, 0, none⟩ : Addr).add j) = some u := by
  intro j u h
  have e : (⟨w.heap.size, 0, none⟩ : Addr).add j = ⟨w.heap.size, j, none⟩ := by unfold Addr.add; split <;> simp_all
  rw [e, World.cell?_alloc_new]
  simpa using h
/-- behind an append of bytes that were laid in a block of their own -/
theorem OwnB.appended {w0 wr w1 : World} {b0 B : Nat} {v v' : Value} {L news : List UInt8} {o : Obj} (h : OwnB wr B v L) (hb : Below b0 w0 wr) (hbB : b0 ≤ B) (hB : B ≤ wr.heap.size)
    (h1 : w1.ownsRow B 5 1 v' (L.length + news.length) (bytesV L ++ bytesV news)) (hg : (wr.alloc o).grownBy w1 v.ownBlock) : OwnB w1 B v' (L ++ news) ∧ Below b0 w0 w1 ∧ B ≤ w1.heap.size := by
  refine ⟨?_, ?_, ?_⟩
  · unfold OwnB; rw [List.length_append, bytesV_append]; exact h1
  · exact (hb.alloc (by omega) o).grown hg (by simp; omega) (fun k hk => by have := (World.ownsRow.lt h k hk).1; omega)
  · have := hg.size; simp at this; omega
theorem info8 : (Tryd.prog.info? 5).map (fun i => (i.zero, i.size, i.bytes)) = some (some (.int .u8 0), 1, 1) := by kernel_rfl
end Go.Proofs.YtfmcngchcalcmaaDoor
