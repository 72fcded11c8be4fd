/-
Blocks that a call writes, and those that it leaves; a part of bytes as a text.
-/
import Derived.Test.YtfmcngchcalcmaaDoorOwnBytes
namespace Go.Proofs.YtfmcngchcalcmaaDoor
open Go.RowKit
theorem grown_refl (w : World) (r : Option Nat) : w.grownBy w r := ⟨rfl, rfl, rfl, Nat.le_refl _, fun _ _ _ => rfl⟩
theorem grown_trans {a b c : World} {r : Option Nat} (h : a.grownBy b r) (k : b.grownBy c r) : a.grownBy c r :=
  ⟨k.os.trans h.os, k.tape.trans h.tape, k.output.trans h.output, Nat.le_trans h.size k.size, fun i hi hr => (k.block i (Nat.lt_of_lt_of_le hi h.size) hr).trans (h.block i hi hr)⟩
theorem grown_alloc {a b : World} {r : Option Nat} (h : a.grownBy b r) (o : Obj) : a.grownBy (b.alloc o) r := grown_trans h (World.grownBy_alloc b o r)
theorem grown_drew {a b : World} {r : Option Nat} (h : a.grownBy b r) : a.grownBy b.drew r := ⟨h.os, h.tape, h.output, h.size, h.block⟩
theorem grown_set {a b : World} {g o : Nat} (h : a.grownBy b (some g)) (v : Value) : a.grownBy (b.setCell ⟨g, o, none⟩ v) (some g) :=
  grown_trans h ⟨rfl, rfl, rfl, by simp [World.setCell], fun k _ hk => Below.heap_setCell _ _ _ _ (fun e => hk (by rw [e]))⟩
theorem grown_own {a b c : World} {g : Nat} {r : Option Nat} (h : a.grownBy b (some g)) (k : b.grownBy c r) (hr : ∀ i, r = some i → a.heap.size ≤ i) : a.grownBy c (some g) :=
  ⟨k.os.trans h.os, k.tape.trans h.tape, k.output.trans h.output, Nat.le_trans h.size k.size, fun i hi hg => (k.block i (Nat.lt_of_lt_of_le hi h.size) (fun e => by have := hr i e.symm; omega)).trans (h.block i hi hg)⟩
theorem set_here {w : World} {b o : Nat} {u v : Value} (h : w.cell? ⟨b, o, none⟩ = some u) : (w.setCell ⟨b, o, none⟩ v).cell? ⟨b, o, none⟩ = some v := World.cell?_setCell_same w _ v h
theorem set_off (w : World) (b o p : Nat) (v : Value) (h : o ≠ p) : (w.setCell ⟨b, o, none⟩ v).cell? ⟨b, p, none⟩ = w.cell? ⟨b, p, none⟩ :=
  World.cell?_setCell_other (w := w) (a := ⟨b, o, none⟩) (b := ⟨b, p, none⟩) (v := v) (h := fun he => h (Addr.mk.inj he).2.1)
theorem set_block (w : World) (b g o p : Nat) (v : Value) (h : b ≠ g) : (w.setCell ⟨b, o, none⟩ v).cell? ⟨g, p, none⟩ = w.cell? ⟨g, p, none⟩ :=
  World.cell?_setCell_other (w := w) (a := ⟨b, o, none⟩) (b := ⟨g, p, none⟩) (v := v) (h := fun he => h (Addr.mk.inj he).1)
theorem grown_drewN {a b : World} {r : Option Nat} (h : a.grownBy b r) (n : Nat) : a.grownBy (b.drewN n) r := ⟨h.os, h.tape, h.output, h.size, h.block⟩
theorem grown_new {a b : World} {r : Option Nat} {n o : Nat} (h : a.grownBy b r) (hn : a.heap.size ≤ n) (v : Value) : a.grownBy (b.setCell ⟨n, o, none⟩ v) r :=
  ⟨h.os, h.tape, h.output, by simpa [World.setCell] using h.size, fun k hk hr => (Below.heap_setCell _ _ _ _ (by show k ≠ n; omega)).trans (h.block k hk hr)⟩
theorem grown_below {a b c : World} {r : Option Nat} (h : a.grownBy b r) (k : Below b.heap.size b c) : a.grownBy c r :=
  ⟨k.os.trans h.os, k.tape.trans h.tape, k.output.trans h.output, Nat.le_trans h.size k.size, fun i hi hr => (k.block i (Nat.lt_of_lt_of_le hi h.size)).trans (h.block i hi hr)⟩
/-- bytes that lie in a row, as an append reads them -/
theorem row_news {w : World} {g : Nat} {l : List UInt8} (hc : ∀ i (h : i < l.length), w.cell? ⟨g, i, none⟩ = some (.int .u8 ((l[i].toNat : Nat) : Int))) : ∀ j u, (bytesV l)[j]? = some u → w.cell? ((⟨g, 0, none⟩ : Addr).add j) = some u := by
  intro j u h
  have hj : j < l.length := by
    have := (List.getElem?_eq_some_iff.1 h).1
    rwa [bytesV_length] at this
  have e : (⟨g, 0, none⟩ : Addr).add j = ⟨g, j, none⟩ := by unfold Addr.add; split <;> simp_all
  rw [bytesV_get l j hj] at h
  rw [e, hc j hj, Option.some.inj h]
theorem stored3 {W : World} {n : Nat} {x0 x1 x2 : Value} (u0 u1 u2 : Value) (r0 : W.cell? ⟨n, 0, none⟩ = some x0) (r1 : W.cell? ⟨n, 1, none⟩ = some x1) (r2 : W.cell? ⟨n, 2, none⟩ = some x2) :
    (((W.setCell ⟨n, 0, none⟩ u0).setCell ⟨n, 1, none⟩ u1).setCell ⟨n, 2, none⟩ u2).cell? ⟨n, 0, none⟩ = some u0 ∧ (((W.setCell ⟨n, 0, none⟩ u0).setCell ⟨n, 1, none⟩ u1).setCell ⟨n, 2, none⟩ u2).cell? ⟨n, 1, none⟩ = some u1 ∧
    (((W.setCell ⟨n, 0, none⟩ u0).setCell ⟨n, 1, none⟩ u1).setCell ⟨n, 2, none⟩ u2).cell? ⟨n, 2, none⟩ = some u2 := by
  refine ⟨?_, ?_, ?_⟩
  · rw [set_off _ _ _ _ _ (by omega), set_off _ _ _ _ _ (by omega), set_here r0]
  · rw [set_off _ _ _ _ _ (by omega), set_here (by rw [set_off _ _ _ _ _ (by omega)]; exact r1)]
  · rw [set_here (by rw [set_off _ _ _ _ _ (by omega), set_off _ _ _ _ _ (by omega)]; exact r2)]
/-- 's[1:]' of what is held, and the text of it -/
theorem drop_first (g cap : Nat) (x : UInt8) (l : List UInt8) (hcap : l.length + 1 ≤ cap) :
    ∃ A, (∀ W, (Instr.slice 113 (.slice (some ⟨g, 0, none⟩) (l.length + 1) cap) (some (.int .i64 1)) none none).run Tryd.prog W = .ok (.slice (some A) l.length (cap - 1)) W) ∧
      ∀ W, (∀ i (h : i < (x :: l).length), W.cell? ⟨g, i, none⟩ = some (.int .u8 (((x :: l)[i].toNat : Nat) : Int))) → (convert 113 9 (.slice (some A) l.length (cap - 1))).run Tryd.prog W = .ok (.string ⟨l.toArray⟩) W := by
  have ht' : Tryd.prog.underlying 113 = some (.slice (Tryd.prog.elem 113)) := by simp [Program.elem, Tryd.underlying113]
  have he : Tryd.prog.elem 113 = 5 := by simp [Program.elem, Tryd.underlying113]
  have hz : ∀ w, (Go.sizeOf 5).run Tryd.prog w = .ok 1 w := fun w => by kernel_rfl
  refine ⟨if cap = 1 then ⟨g, 0, none⟩ else ⟨g, 1, none⟩, fun W => ?_, fun W hc => ?_⟩
  · rw [run_slice_l W 113 _ _ _ ht' .i64 1 (by omega) (by omega), he, hz]
    by_cases h1 : cap = 1
    · subst h1
      simp [Result.andThen, sliced]
    · simp [Result.andThen, sliced, Addr.add, h1]
  · by_cases h1 : cap = 1
    · have h0 : l.length = 0 := by omega
      have hl : l = [] := List.length_eq_zero_iff.1 h0
      subst hl
      rw [if_pos h1, List.length_nil, run_convert_bytes_arg W 113 5 Tryd.underlying113 Tryd.underlying5 g 0 0 (cap - 1) [] rfl (fun i hi => absurd hi (by omega)) 9 Tryd.underlying9]
      rfl
    · rw [if_neg h1, run_convert_bytes_arg W 113 5 Tryd.underlying113 Tryd.underlying5 g 1 l.length (cap - 1) (l.map fun b => ((b.toNat : Nat) : Int)) (by simp) (fun i hi => by
        have e1 : 1 + i = i + 1 := Nat.add_comm 1 i
        rw [e1, hc (i + 1) (by simpa using hi), List.getD_eq_getElem?_getD, List.getElem?_map, List.getElem?_eq_getElem hi]; rfl) 9 Tryd.underlying9]
      refine congrArg (fun z => Result.ok (Value.string z) W) ?_
      apply bytes_ext'
      rw [strOfNums_data, List.map_map]
      show List.map _ l = l
      conv => rhs; rw [← List.map_id l]
      apply List.map_congr_left
      intro x _
      simp
theorem cells_new' (w : World) (n : Nat) (hn : n = w.heap.size) (cs : Array Value) (t : TypeId) : ∀ j u, cs.toList[j]? = some u → (w.alloc (.cells cs t)).cell? ((⟨n, 0, none⟩ : Addr).add j) = some u := by
  subst hn; exact cells_new w cs t
end Go.Proofs.YtfmcngchcalcmaaDoor
