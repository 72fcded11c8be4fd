/-
Bytes in slices, as texts (behind the text of blocks).
Calls as plain facts; bytes and blocks of memory; the landed code's look at a call.
Stations that were heard, as plain facts: what Hear makes of a list; who the last ones are.
Calls held against one another by ==.
-/
import Derived.Test.YtmgfpnemamedoaaDoorMix00
import Derived.Test.YtmgfpnemamedoaaDoorProg
import Derived.WalkKit
import Derived.WalkSpells
import Derived.WalkLawsBesides
import Derived.Laws.BitsAllLaws
import Derived.Laws.ShiftsVarLaws
import Derived.Lib.Hide
import Derived.Lib.Strings
import Derived.BigQuiet
import Derived.Deep.QuietTactic
import Derived.Lib.QuietBelow
import Derived.BigRegion
import Derived.IntWalk
import Derived.Lib.SmallJoins
import Derived.Lib.ItoaNum
import Derived.Lib.IndexBytes
import Derived.Deep.DeepCutAuto
namespace Go.Proofs.YtmgfpnemamedoaaDoor
set_option maxRecDepth 20000
open Go.RowKit
theorem OwnB.text {w : World} {B g n cap : Nat} {l : List UInt8} (h : OwnB w B (.slice (some ⟨g, 0, none⟩) n cap) l) (hn : n = l.length) :
    (convert 61 9 (.slice (some ⟨g, 0, none⟩) n cap)).run Tryd.prog w = .ok (.string ⟨l.toArray⟩) w := by
  subst hn
  rw [run_convert_bytes_arg w 61 5 Tryd.underlying61 Tryd.underlying5 g 0 l.length cap (l.map fun b => ((b.toNat : Nat) : Int)) (by simp) (fun i hi => by
    rw [Nat.zero_add, h.cell i hi, List.getD_eq_getElem?_getD, List.getElem?_map, List.getElem?_eq_getElem hi]; rfl) 9 Tryd.underlying9]
  congr 2
  apply bytes_ext'
  rw [strOfNums_data, List.map_map]
  show List.map _ l = l
  conv => rhs; rw [← List.map_id l]
  apply List.map_congr_left
  intro x _
  simp
/-- 's[1:]' of what is held, and the text of it -/
theorem drop_first (g cap : Nat) (x : UInt8) (l : List UInt8) (hcap : l.length + 1 ≤ cap) :
    ∃ A, (∀ W, (Instr.slice 61 (.slice (some ⟨g, 0, none⟩) (l.length + 1) cap) (some (.int .i64 1)) none none).run Tryd.prog W = .ok (.slice (some A) l.length (cap - 1)) W) ∧
      ∀ W, (∀ i (h : i < (x :: l).length), W.cell? ⟨g, i, none⟩ = some (.int .u8 (((x :: l)[i].toNat : Nat) : Int))) → (convert 61 9 (.slice (some A) l.length (cap - 1))).run Tryd.prog W = .ok (.string ⟨l.toArray⟩) W := by
  have ht' : Tryd.prog.underlying 61 = some (.slice (Tryd.prog.elem 61)) := by simp [Program.elem, Tryd.underlying61]
  have he : Tryd.prog.elem 61 = 5 := by simp [Program.elem, Tryd.underlying61]
  have hz : ∀ w, (Go.sizeOf 5).run Tryd.prog w = .ok 1 w := fun w => by kernel_rfl
  refine ⟨if cap = 1 then ⟨g, 0, none⟩ else ⟨g, 1, none⟩, fun W => ?_, fun W hc => ?_⟩
  · rw [run_slice_l W 61 _ _ _ ht' .i64 1 (by omega) (by omega), he, hz]
    by_cases h1 : cap = 1
    · subst h1
      simp [Result.andThen, sliced]
    · simp [Result.andThen, sliced, Addr.add, h1]
  · by_cases h1 : cap = 1
    · have h0 : l.length = 0 := by omega
      have hl : l = [] := List.length_eq_zero_iff.1 h0
      subst hl
      rw [if_pos h1, List.length_nil, run_convert_bytes_arg W 61 5 Tryd.underlying61 Tryd.underlying5 g 0 0 (cap - 1) [] rfl (fun i hi => absurd hi (by omega)) 9 Tryd.underlying9]
      rfl
    · rw [if_neg h1, run_convert_bytes_arg W 61 5 Tryd.underlying61 Tryd.underlying5 g 1 l.length (cap - 1) (l.map fun b => ((b.toNat : Nat) : Int)) (by simp) (fun i hi => by
        have e1 : 1 + i = i + 1 := Nat.add_comm 1 i
        rw [e1, hc (i + 1) (by simpa using hi), List.getD_eq_getElem?_getD, List.getElem?_map, List.getElem?_eq_getElem hi]; rfl) 9 Tryd.underlying9]
      refine congrArg (fun z => Result.ok (Value.string z) W) ?_
      apply bytes_ext'
      rw [strOfNums_data, List.map_map]
      show List.map _ l = l
      conv => rhs; rw [← List.map_id l]
      apply List.map_congr_left
      intro x _
      simp
theorem BytesAt.conv {w : World} {g cap : Nat} {l : List UInt8} (h : BytesAt w g l) :
    (convert 61 9 (.slice (some ⟨g, 0, none⟩) l.length cap)).run Tryd.prog w = .ok (.string ⟨l.toArray⟩) w := by
  rw [run_convert_bytes_arg w 61 5 Tryd.underlying61 Tryd.underlying5 g 0 l.length cap (l.map fun b => ((b.toNat : Nat) : Int)) (by simp) (fun i hi => by
    rw [Nat.zero_add, h.2 i hi, List.getD_eq_getElem?_getD, List.getElem?_map, List.getElem?_eq_getElem hi]; rfl) 9 Tryd.underlying9]
  congr 2
  apply bytes_ext'
  rw [strOfNums_data, List.map_map]
  show List.map _ l = l
  conv => rhs; rw [← List.map_id l]
  apply List.map_congr_left
  intro x _
  simp
end Go.Proofs.YtmgfpnemamedoaaDoor
namespace Go.Proofs.YtmgfpnemamedoaaDoor
open Go.RowKit
/-- a letter of a call sign -/
def signD (x : UInt8) : Bool := (decide (65 ≤ x.toNat) && decide (x.toNat ≤ 90)) || (decide (48 ≤ x.toNat) && decide (x.toNat ≤ 57))
/-- a right call -/
def rightD (b : ByteArray) (n : Int) : Bool := decide (1 ≤ b.size) && decide (b.size ≤ 6) && decide (0 ≤ n) && decide (n ≤ 15) && b.data.toList.all signD
/-- a call as a value -/
def callV (b : ByteArray) (n : Int) : Value := .agg #[.string b, .int .i64 n]
theorem all_next (b : ByteArray) (k : Nat) (h : k < b.size) (ha : (b.data.toList.take k).all signD = true) (hx : signD b[k] = true) : (b.data.toList.take (k + 1)).all signD = true := by
  have hl : k < b.data.toList.length := by simpa using h
  rw [List.take_succ_eq_append_getElem hl, List.all_append, ha, list_at b k h]
  simp [hx]
theorem all_not (b : ByteArray) (k : Nat) (h : k < b.size) (hx : signD b[k] = false) : b.data.toList.all signD = false := by
  have hl : k < b.data.toList.length := by simpa using h
  rw [List.all_eq_false]
  exact ⟨b[k], by rw [← list_at b k h]; exact List.getElem_mem hl, by rw [hx]; simp⟩
end Go.Proofs.YtmgfpnemamedoaaDoor
namespace Go.Proofs.YtmgfpnemamedoaaDoor
open Go.RowKit
/-- a number's digits -/
def digD (n : Nat) : List UInt8 := if n < 10 then [UInt8.ofNat (48 + n)] else [UInt8.ofNat (48 + n / 10), UInt8.ofNat (48 + n % 10)]
end Go.Proofs.YtmgfpnemamedoaaDoor
namespace Go.Proofs.YtmgfpnemamedoaaDoor
open Go.RowKit Go.Sort
/-- a small letter as a great one -/
def upD (x : UInt8) : UInt8 := if 97 ≤ x.toNat ∧ x.toNat ≤ 122 then x - 32 else x
/-- the number below k whose digits are r, the last one: is there one, which -/
def fndD (r : List UInt8) : Nat → Bool × Nat
  | 0 => (false, 0)
  | k + 1 => if digD k = r then (true, k) else fndD r k
theorem fndD_le (r : List UInt8) (k : Nat) (h : k ≤ 16) : (fndD r k).2 ≤ 15 := by
  induction k with
  | zero => simp [fndD]
  | succ k ih =>
    unfold fndD
    split
    · show k ≤ 15; omega
    · exact ih (by omega)
/-- the call of a word: is there one, its letters, its number -/
def readD (s : List UInt8) : Bool × List UInt8 × Nat :=
  let p := (s.takeWhile (· ≠ 45)).map upD
  match s.dropWhile (· ≠ 45) with
  | [] => if rightD ⟨p.toArray⟩ 0 then (true, p, 0) else (false, [], 0)
  | _ :: r => if (fndD r 16).1 && rightD ⟨p.toArray⟩ ((fndD r 16).2 : Int) then (true, p, (fndD r 16).2) else (false, [], 0)
/-- as a value -/
def readV (x : Bool × List UInt8 × Nat) : Value := .tuple #[.agg #[.string ⟨x.2.1.toArray⟩, .int .i64 (x.2.2 : Int)], .bool x.1]
/-- one byte as a text -/
theorem conv1 (v : Int) (w : World) : (convert 61 9 (.slice (some ⟨w.heap.size, 0, none⟩) 1 1)).run Tryd.prog (w.alloc (.cells #[.int .u8 v] 5)) = .ok (.string ⟨#[UInt8.ofNat v.toNat]⟩) (w.alloc (.cells #[.int .u8 v] 5)) := by
  rw [run_convert_bytes_arg _ 61 5 Tryd.underlying61 Tryd.underlying5 w.heap.size 0 1 1 [v] rfl (fun i hi => by
    obtain rfl : i = 0 := by simpa using hi
    exact World.cell?_alloc_at _ _ _ _ (by simp)) 9 Tryd.underlying9]
  rfl
/-- two calls' cells: the answer's, still empty, and one that is made -/
def PAt (w W : World) (b : ByteArray) (n : Int) : Prop :=
  (W.cell? ⟨w.heap.size, 0, none⟩ = some (.string ⟨#[]⟩) ∧ W.cell? ⟨w.heap.size, 1, none⟩ = some (.int .i64 0)) ∧
  (W.cell? ⟨w.heap.size + 1, 0, none⟩ = some (.string b) ∧ W.cell? ⟨w.heap.size + 1, 1, none⟩ = some (.int .i64 n)) ∧
  ((∀ i, W.frozen? ⟨w.heap.size, i, none⟩ = false) ∧ ∀ i, W.frozen? ⟨w.heap.size + 1, i, none⟩ = false) ∧ Below w.heap.size w W ∧ w.heap.size + 1 < W.heap.size
theorem PAt.start (w : World) (n : Int) : PAt w ((w.alloc (.cells #[.string ⟨#[]⟩, .int .i64 0] 27)).alloc (.cells #[.string ⟨#[]⟩, .int .i64 n] 27)) ⟨#[]⟩ n := by
  refine ⟨⟨?_, ?_⟩, ⟨?_, ?_⟩, ⟨fun i => ?_, fun i => ?_⟩, ((Below.refl _ w).alloc (Nat.le_refl _) _).alloc (by simp) _, by simp⟩
  · exact (World.cell?_alloc_past _ _ _ (by simp)).trans (World.cell?_alloc_at _ _ _ _ rfl)
  · exact (World.cell?_alloc_past _ _ _ (by simp)).trans (World.cell?_alloc_at _ _ _ _ rfl)
  · exact World.cell?_alloc_at _ _ _ _ (by simp)
  · exact World.cell?_alloc_at _ _ _ _ (by simp)
  · exact (World.frozen?_alloc_past _ _ _ (by simp)).trans (World.frozen?_alloc_at _ _ _ _ rfl)
  · exact World.frozen?_alloc_at _ _ _ _ (by simp)
theorem PAt.below {w W W' : World} {b : ByteArray} {n : Int} (h : PAt w W b n) (hb : Below W.heap.size W W') : PAt w W' b n := by
  obtain ⟨⟨a0, a1⟩, ⟨c0, c1⟩, ⟨f, g⟩, hw, hs⟩ := h
  have k := fun (m i : Nat) (hm : m < W.heap.size) => hb.cell (p := ⟨m, i, none⟩) hm
  have q := fun (m i : Nat) (hm : m < W.heap.size) => hb.frozen (p := ⟨m, i, none⟩) hm
  exact ⟨⟨(k _ _ (by omega)).trans a0, (k _ _ (by omega)).trans a1⟩, ⟨(k _ _ hs).trans c0, (k _ _ hs).trans c1⟩, ⟨fun i => (q _ _ (by omega)).trans (f i), fun i => (q _ _ hs).trans (g i)⟩, hw.trans (hb.mono hw.size), Nat.lt_of_lt_of_le hs hb.size⟩
theorem PAt.base {w W : World} {b : ByteArray} {n : Int} (h : PAt w W b n) (b' : ByteArray) : PAt w (W.setCell ⟨w.heap.size + 1, 0, none⟩ (.string b')) b' n := by
  obtain ⟨⟨a0, a1⟩, ⟨c0, c1⟩, ⟨f, g⟩, hw, hs⟩ := h
  refine ⟨⟨?_, ?_⟩, ⟨set_here c0, ?_⟩, ⟨fun i => ?_, fun i => ?_⟩, hw.setCell (p := ⟨w.heap.size + 1, 0, none⟩) (by show w.heap.size ≤ w.heap.size + 1; omega) _, by simpa [World.setCell] using hs⟩
  · rw [set_block _ _ _ _ _ _ (by omega)]; exact a0
  · rw [set_block _ _ _ _ _ _ (by omega)]; exact a1
  · rw [set_off _ _ _ _ _ (by omega)]; exact c1
  · rw [World.frozen?_setCell]; exact f i
  · rw [World.frozen?_setCell]; exact g i
theorem PAt.num {w W : World} {b : ByteArray} {n : Int} (h : PAt w W b n) (n' : Int) : PAt w (W.setCell ⟨w.heap.size + 1, 1, none⟩ (.int .i64 n')) b n' := by
  obtain ⟨⟨a0, a1⟩, ⟨c0, c1⟩, ⟨f, g⟩, hw, hs⟩ := h
  refine ⟨⟨?_, ?_⟩, ⟨?_, set_here c1⟩, ⟨fun i => ?_, fun i => ?_⟩, hw.setCell (p := ⟨w.heap.size + 1, 1, none⟩) (by show w.heap.size ≤ w.heap.size + 1; omega) _, by simpa [World.setCell] using hs⟩
  · rw [set_block _ _ _ _ _ _ (by omega)]; exact a0
  · rw [set_block _ _ _ _ _ _ (by omega)]; exact a1
  · rw [set_off _ _ _ _ _ (by omega)]; exact c0
  · rw [World.frozen?_setCell]; exact f i
  · rw [World.frozen?_setCell]; exact g i
theorem PAt.drew {w W : World} {b : ByteArray} {n : Int} (h : PAt w W b n) : PAt w W.drew b n := ⟨h.1, h.2.1, h.2.2.1, h.2.2.2.1.drew, h.2.2.2.2⟩
theorem take_no (l : List UInt8) (h : ∀ x ∈ l, x ≠ 45) (r : List UInt8) : (l ++ r).takeWhile (· ≠ 45) = l ++ r.takeWhile (· ≠ 45) ∧ (l ++ r).dropWhile (· ≠ 45) = r.dropWhile (· ≠ 45) := by
  induction l with
  | nil => simp
  | cons c l ih =>
    have hc : c ≠ 45 := h c (by simp)
    obtain ⟨a, b⟩ := ih (fun x hx => h x (by simp [hx]))
    simp only [List.cons_append, List.takeWhile_cons, List.dropWhile_cons, ne_eq, hc, not_false_eq_true, decide_true, if_true] at a b ⊢
    exact ⟨by rw [a], b⟩
theorem read_end (l : List UInt8) (h : ∀ x ∈ l, x ≠ 45) : readD l = if rightD ⟨(l.map upD).toArray⟩ 0 then (true, l.map upD, 0) else (false, [], 0) := by
  obtain ⟨a, b⟩ := take_no l h []
  rw [List.append_nil] at a b
  unfold readD
  rw [a, b]
  simp
theorem read_dash (l r : List UInt8) (h : ∀ x ∈ l, x ≠ 45) : readD (l ++ 45 :: r) = if (fndD r 16).1 && rightD ⟨(l.map upD).toArray⟩ ((fndD r 16).2 : Int) then (true, l.map upD, (fndD r 16).2) else (false, [], 0) := by
  obtain ⟨a, b⟩ := take_no l h (45 :: r)
  unfold readD
  rw [a, b]
  simp
end Go.Proofs.YtmgfpnemamedoaaDoor
namespace Go.Proofs.YtmgfpnemamedoaaDoor
open Go.RowKit Go.Sort
/-- seven bytes that lie in a block, and may be written -/
def B7 (W : World) (m : Nat) (f : Nat → Int) : Prop := (∀ j, j < 7 → W.cell? ⟨m, j, none⟩ = some (.int .u8 (f j))) ∧ ∀ j, W.frozen? ⟨m, j, none⟩ = false
theorem B7.set {W : World} {m : Nat} {f : Nat → Int} (h : B7 W m f) (i : Nat) (hi : i < 7) (v : Int) : B7 (W.setCell ⟨m, i, none⟩ (.int .u8 v)) m (fun j => if j = i then v else f j) := by
  refine ⟨fun j hj => ?_, fun j => by rw [World.frozen?_setCell]; exact h.2 j⟩
  by_cases e : j = i
  · subst e
    simp only [if_true]
    exact set_here (h.1 j hj)
  · simp only [if_neg e]
    rw [set_off _ _ _ _ _ (Ne.symm e)]
    exact h.1 j hj
theorem B7.conv {W : World} {m : Nat} {f : Nat → Int} (h : B7 W m f) : (convert 61 9 (.slice (some ⟨m, 0, none⟩) 7 7)).run Tryd.prog W = .ok (.string ⟨((List.range 7).map fun j => UInt8.ofNat (f j).toNat).toArray⟩) W := by
  rw [run_convert_bytes_arg _ 61 5 Tryd.underlying61 Tryd.underlying5 m 0 7 7 [f 0, f 1, f 2, f 3, f 4, f 5, f 6] rfl (fun i hi => by
    rw [Nat.zero_add, h.1 i hi]
    obtain rfl | rfl | rfl | rfl | rfl | rfl | rfl : i = 0 ∨ i = 1 ∨ i = 2 ∨ i = 3 ∨ i = 4 ∨ i = 5 ∨ i = 6 := by omega
    all_goals rfl) 9 Tryd.underlying9]
  rfl
/-- the bytes of a call while its first k letters stand -/
def putF (b : List UInt8) (n k : Nat) (j : Nat) : Int := if j = 6 then 96 + 2 * (n : Int) else if j < k then 2 * ((b.getD j 0).toNat : Int) else 64
/-- what the marks add -/
def mkD (mk la : Bool) : Int := (if mk then 128 else 0) + (if la then 1 else 0)
/-- a call's bytes -/
def putD (b : List UInt8) (n : Nat) (mk la : Bool) : List UInt8 := (List.range 7).map fun j => UInt8.ofNat (if j = 6 then 96 + 2 * (n : Int) + mkD mk la else putF b n b.length j).toNat
/-- a call's cells and its bytes -/
def QAt (w W : World) (b : ByteArray) (n : Nat) (k : Nat) : Prop := (W.cell? ⟨w.heap.size, 0, none⟩ = some (.string b) ∧ W.cell? ⟨w.heap.size, 1, none⟩ = some (.int .i64 (n : Int))) ∧ B7 W (w.heap.size + 1) (putF b.data.toList n k) ∧ Below w.heap.size w W
theorem QAt.start (w : World) (b : ByteArray) (n : Nat) : QAt w ((w.alloc (.cells #[.string b, .int .i64 (n : Int)] 27)).alloc (.cells #[.int .u8 64, .int .u8 64, .int .u8 64, .int .u8 64, .int .u8 64, .int .u8 64, .int .u8 (96 + 2 * (n : Int))] 5)) b n 0 := by
  refine ⟨⟨(World.cell?_alloc_past _ _ _ (by simp)).trans (World.cell?_alloc_at _ _ _ _ rfl), (World.cell?_alloc_past _ _ _ (by simp)).trans (World.cell?_alloc_at _ _ _ _ rfl)⟩, ⟨fun j hj => ?_, fun j => World.frozen?_alloc_at _ _ _ _ (by simp)⟩, ((Below.refl _ w).alloc (Nat.le_refl _) _).alloc (by simp) _⟩
  refine (World.cell?_alloc_at _ _ _ _ (by simp)).trans ?_
  obtain rfl | rfl | rfl | rfl | rfl | rfl | rfl : j = 0 ∨ j = 1 ∨ j = 2 ∨ j = 3 ∨ j = 4 ∨ j = 5 ∨ j = 6 := by omega
  all_goals rfl
theorem QAt.next {w W : World} {b : ByteArray} {n k : Nat} (h : QAt w W b n k) (hk : k < b.size) (hb : b.size ≤ 6) : QAt w (W.setCell ⟨w.heap.size + 1, k, none⟩ (.int .u8 (2 * (b[k].toNat : Int)))) b n (k + 1) := by
  obtain ⟨⟨a0, a1⟩, hB, hw⟩ := h
  refine ⟨⟨?_, ?_⟩, ?_, hw.setCell (p := ⟨w.heap.size + 1, k, none⟩) (by show w.heap.size ≤ w.heap.size + 1; omega) _⟩
  · rw [set_block _ _ _ _ _ _ (by omega)]; exact a0
  · rw [set_block _ _ _ _ _ _ (by omega)]; exact a1
  · have e : (fun j => if j = k then 2 * (b[k].toNat : Int) else putF b.data.toList n k j) = putF b.data.toList n (k + 1) := by
      funext j
      by_cases e : j = k
      · subst e
        have hl : j < b.data.toList.length := by simpa using hk
        rw [if_pos rfl]
        unfold putF
        rw [if_neg (by omega), if_pos (by omega), List.getD_eq_getElem?_getD, List.getElem?_eq_getElem hl, list_at b j hk]
        rfl
      · rw [if_neg e]
        unfold putF
        by_cases h6 : j = 6
        · rw [if_pos h6, if_pos h6]
        · rw [if_neg h6, if_neg h6]
          by_cases hjk : j < k
          · rw [if_pos hjk, if_pos (by omega)]
          · rw [if_neg hjk, if_neg (by omega)]
    rw [← e]
    exact hB.set k (by omega) _
end Go.Proofs.YtmgfpnemamedoaaDoor
namespace Go.Proofs.YtmgfpnemamedoaaDoor
open Go.RowKit Go.Sort
/-- the letters of the first k bytes -/
def gotD (s : List UInt8) (k : Nat) : List UInt8 := ((s.take k).filter (· ≠ 64)).map fun x => x / 2
theorem gotD_skip (s : ByteArray) (k : Nat) (h : k < s.size) (he : s[k].toNat = 64) : gotD s.data.toList (k + 1) = gotD s.data.toList k := by
  have hl : k < s.data.toList.length := by simpa using h
  have e : s[k] = 64 := UInt8.toNat_inj.1 (by rw [he]; rfl)
  unfold gotD
  rw [List.take_succ_eq_append_getElem hl, List.filter_append, list_at s k h, e]
  simp
theorem gotD_more (s : ByteArray) (k : Nat) (h : k < s.size) (he : s[k].toNat ≠ 64) : gotD s.data.toList (k + 1) = gotD s.data.toList k ++ [s[k] / 2] := by
  have hl : k < s.data.toList.length := by simpa using h
  have e : s[k] ≠ 64 := fun e => he (by rw [e]; rfl)
  unfold gotD
  rw [List.take_succ_eq_append_getElem hl, List.filter_append, list_at s k h]
  simp [e]
theorem gotD_len (s : List UInt8) (k : Nat) : (gotD s k).length ≤ k := by
  unfold gotD
  rw [List.length_map]
  exact Nat.le_trans (List.length_filter_le _ _) (List.length_take_le _ _)
/-- the call of seven bytes: is there one, its letters, its number, its marks -/
def getD7 (s : List UInt8) : Bool × List UInt8 × Nat × Bool × Bool :=
  if s.length = 7 ∧ rightD ⟨(gotD s 6).toArray⟩ (((s.getD 6 0).toNat / 2 % 16 : Nat) : Int) = true ∧ putD (gotD s 6) ((s.getD 6 0).toNat / 2 % 16) (decide ((128 : Int) ≤ ((s.getD 6 0).toNat : Int))) (((s.getD 6 0).toNat : Int) % 2 == 1) = s then (true, gotD s 6, (s.getD 6 0).toNat / 2 % 16, decide ((128 : Int) ≤ ((s.getD 6 0).toNat : Int)), ((s.getD 6 0).toNat : Int) % 2 == 1) else (false, [], 0, false, false)
/-- as a value -/
def getV (x : Bool × List UInt8 × Nat × Bool × Bool) : Value := .tuple #[.agg #[.string ⟨x.2.1.toArray⟩, .int .i64 (x.2.2.1 : Int)], .bool x.2.2.2.1, .bool x.2.2.2.2, .bool x.1]
theorem right_bytes (b : ByteArray) (n : Int) (h : rightD b n = true) : b.size ≤ 6 ∧ n ≤ 15 ∧ ∀ i (h : i < b.size), b[i].toNat < 128 := by
  simp only [rightD, Bool.and_eq_true, decide_eq_true_eq] at h
  obtain ⟨⟨⟨⟨_, h2⟩, _⟩, h4⟩, h5⟩ := h
  refine ⟨h2, h4, fun i hi => ?_⟩
  have hl : i < b.data.toList.length := by simpa using hi
  have hx := List.all_eq_true.1 h5 b[i] (by rw [← list_at b i hi]; exact List.getElem_mem hl)
  simp only [signD, Bool.or_eq_true, Bool.and_eq_true, decide_eq_true_eq] at hx
  omega
end Go.Proofs.YtmgfpnemamedoaaDoor
namespace Go.Proofs.YtmgfpnemamedoaaDoor
open Go.RowKit Go.Sort
/-- what Parse answers -/
def readE (x : Bool × List UInt8 × Nat) : Value := .tuple #[.agg #[.string ⟨x.2.1.toArray⟩, .int .i64 (x.2.2 : Int)], .int .i64 (if x.1 then 0 else 12)]
/-- what Put answers -/
def putE (b : ByteArray) (n : Int) (mk la : Bool) : Value := if rightD b n then .tuple #[.string ⟨(putD b.data.toList n.toNat mk la).toArray⟩, .int .i64 0] else .tuple #[.string ⟨#[]⟩, .int .i64 12]
/-- what Get answers -/
def getE (s : List UInt8) : Value := .tuple #[.agg #[.string ⟨(getD7 s).2.1.toArray⟩, .int .i64 ((getD7 s).2.2.1 : Int)], .bool (getD7 s).2.2.2.1, .bool (getD7 s).2.2.2.2, .int .i64 (if (getD7 s).1 then 0 else if s.length < 7 then 4 else if 7 < s.length then 5 else 2)]
/-- a call's word -/
def textD (b : List UInt8) (n : Int) : List UInt8 := if n = 0 then b else b ++ 45 :: digD n.toNat
def CRightOk : Prop := ∀ (b : ByteArray) (n : Int) w, b.size ≤ 300 → Calls Tryd.prog 28 #[.agg #[.string b, .int .i64 n]] w fun e w' => e = .returned (.bool (rightD b n)) ∧ Below w.heap.size w w'
def CPutOk : Prop := ∀ (b : ByteArray) (n : Int) mk la w, b.size ≤ 300 → Calls Tryd.prog 32 #[.agg #[.string b, .int .i64 n], .bool mk, .bool la] w fun e w' => e = .returned (putE b n mk la) ∧ Below w.heap.size w w'
def CGetOk : Prop := ∀ (s : ByteArray) w, s.size ≤ 300 → Calls Tryd.prog 35 #[.string s] w fun e w' => e = .returned (getE s.data.toList) ∧ Below w.heap.size w w'
end Go.Proofs.YtmgfpnemamedoaaDoor
namespace Go.Proofs.YtmgfpnemamedoaaDoor
open Go.RowKit Go.Sort
set_option maxRecDepth 20000
theorem letter_any (x : UInt8) (w : World) : Calls Tryd.prog 41 #[.int .u8 (x.toNat : Int)] w fun e w' => e = .returned (.bool (signD x)) ∧ w' = w := by
  obtain ⟨R, hR⟩ : ∃ R, R = signD x := ⟨_, rfl⟩
  rw [← hR]
  have hv := x.toNat_lt
  have h : R = ((decide ((65 : Int) ≤ (x.toNat : Int)) && decide ((x.toNat : Int) ≤ 90)) || (decide ((48 : Int) ≤ (x.toNat : Int)) && decide ((x.toNat : Int) ≤ 57))) := by
    rw [hR]
    unfold signD
    congr 2 <;> apply decide_eq_decide.2 <;> omega
  clear hR
  by_cases h65 : (65 : Int) ≤ (x.toNat : Int)
  · by_cases h90 : (x.toNat : Int) ≤ 90
    · have d65 : decide ((65 : Int) ≤ (x.toNat : Int)) = true := decide_eq_true h65
      have d90 : decide ((x.toNat : Int) ≤ 90) = true := decide_eq_true h90
      have hr : R = true := by rw [h, d65, d90]; rfl
      subst hr
      clear h
      go_enter Tryd.func41, Tryd.ntmps41
      go_wp2
      go_ret
      exact ⟨rfl, rfl⟩
    · have d65 : decide ((65 : Int) ≤ (x.toNat : Int)) = true := decide_eq_true h65
      have d90 : decide ((x.toNat : Int) ≤ 90) = false := decide_eq_false h90
      have d48 : decide ((48 : Int) ≤ (x.toNat : Int)) = true := decide_eq_true (by omega)
      have d57 : decide ((x.toNat : Int) ≤ 57) = false := decide_eq_false (by omega)
      have hr : R = false := by rw [h, d65, d90, d48, d57]; rfl
      subst hr
      clear h
      go_enter Tryd.func41, Tryd.ntmps41
      go_wp2
      go_ret
      exact ⟨rfl, rfl⟩
  · have d65 : decide ((65 : Int) ≤ (x.toNat : Int)) = false := decide_eq_false h65
    by_cases h48 : (48 : Int) ≤ (x.toNat : Int)
    · have d48 : decide ((48 : Int) ≤ (x.toNat : Int)) = true := decide_eq_true h48
      by_cases h57 : (x.toNat : Int) ≤ 57
      · have d57 : decide ((x.toNat : Int) ≤ 57) = true := decide_eq_true h57
        have hr : R = true := by rw [h, d65, d48, d57]; simp
        subst hr
        clear h
        go_enter Tryd.func41, Tryd.ntmps41
        go_wp2
        go_ret
        exact ⟨rfl, rfl⟩
      · have d57 : decide ((x.toNat : Int) ≤ 57) = false := decide_eq_false h57
        have hr : R = false := by rw [h, d65, d48, d57]; simp
        subst hr
        clear h
        go_enter Tryd.func41, Tryd.ntmps41
        go_wp2
        go_ret
        exact ⟨rfl, rfl⟩
    · have d48 : decide ((48 : Int) ≤ (x.toNat : Int)) = false := decide_eq_false h48
      have hr : R = false := by rw [h, d65, d48]; simp
      subst hr
      clear h
      go_enter Tryd.func41, Tryd.ntmps41
      go_wp2
      go_ret
      exact ⟨rfl, rfl⟩
theorem not_empty (b : ByteArray) (h : 1 ≤ b.size) : b.toList.isEmpty = false := by
  rw [List.isEmpty_eq_false_iff, Lib.toList_data]
  intro e
  have h3 : b.data.toList.length = b.size := by simp
  rw [e, List.length_nil] at h3
  omega
theorem cright_bad (b : ByteArray) (n : Int) (w : World) (h : b.size < 1 ∨ 6 < b.size ∨ n < 0 ∨ 15 < n) :
    Calls Tryd.prog 28 #[.agg #[.string b, .int .i64 n]] w fun e w' => e = .returned (.bool false) ∧ Below w.heap.size w w' := by
  by_cases h1 : b.size < 1
  · have hb : b = ⟨#[]⟩ := ByteArray.ext (Array.eq_empty_of_size_eq_zero (by show b.size = 0; omega))
    subst hb
    clear h h1
    go_enter Tryd.func28, Tryd.ntmps28
    go_wp2
    go_ret
    exact ⟨rfl, (Below.refl _ w).alloc (Nat.le_refl _) _⟩
  have he : b.toList.isEmpty = false := not_empty b (by omega)
  by_cases h2 : 6 < b.size
  · have d6 : decide ((6 : Int) < (b.size : Int)) = true := decide_eq_true (by omega)
    clear h
    go_enter Tryd.func28, Tryd.ntmps28
    go_wp2
    go_ret
    exact ⟨rfl, (Below.refl _ w).alloc (Nat.le_refl _) _⟩
  have d6 : decide ((6 : Int) < (b.size : Int)) = false := decide_eq_false (by omega)
  by_cases h3 : n < 0
  · have d0 : decide (n < 0) = true := decide_eq_true h3
    clear h
    go_enter Tryd.func28, Tryd.ntmps28
    go_wp2
    go_ret
    exact ⟨rfl, (Below.refl _ w).alloc (Nat.le_refl _) _⟩
  have d0 : decide (n < 0) = false := decide_eq_false h3
  have h4 : 15 < n := by omega
  have d15 : decide (15 < n) = true := decide_eq_true h4
  clear h
  go_enter Tryd.func28, Tryd.ntmps28
  go_wp2
  go_ret
  exact ⟨rfl, (Below.refl _ w).alloc (Nat.le_refl _) _⟩
set_option maxHeartbeats 1000000 in
theorem cright_loop (b : ByteArray) (n : Int) (w : World) (h1 : 1 ≤ b.size) (h2 : b.size ≤ 6) (h3 : 0 ≤ n) (h4 : n ≤ 15) :
    Calls Tryd.prog 28 #[.agg #[.string b, .int .i64 n]] w fun e w' => e = .returned (.bool (b.data.toList.all signD)) ∧ Below w.heap.size w w' := by
  obtain ⟨R, hR⟩ : ∃ R, R = b.data.toList.all signD := ⟨_, rfl⟩
  rw [← hR]
  have HR := Lib.hid hR
  clear hR
  have HL := Lib.hid (fun (x : UInt8) (W : World) => letter_any x W)
  have he : b.toList.isEmpty = false := not_empty b h1
  have d6 : decide ((6 : Int) < (b.size : Int)) = false := decide_eq_false (by omega)
  have d0 : decide (n < 0) = false := decide_eq_false (by omega)
  have d15 : decide (15 < n) = false := decide_eq_false (by omega)
  go_enter Tryd.func28, Tryd.ntmps28
  go_wp2
  go_loopw [26] (fun i wx => ∃ k : Nat, k ≤ b.size ∧ i = .int .i64 k ∧ Hid ((b.data.toList.take k).all signD = true) ∧ wx = w.alloc (.cells #[.string b, .int .i64 n] 27)) (fun i _ => b.size - (intOf i).toNat)
  case atStart => exact ⟨0, by omega, rfl, Lib.hid (by simp), rfl⟩
  case round =>
    obtain ⟨k, hk, rfl, hall, rfl⟩ := hrel
    by_cases hlt : k < b.size
    · have dk : decide ((k : Int) < (b.size : Int)) = true := decide_eq_true (by omega)
      cases hs : signD b[k]
      · have HF := Lib.hid (all_not b k hlt hs)
        clear hall
        go_wp2_with (go_at_call 41; (with_reducible refine (HL.out b[k] _).mono ?_); rintro e w1 ⟨rfl, rfl⟩; rw [hs])
        go_ret
        rw [show R = _ from HR.out.trans HF.out]
        exact ⟨rfl, (Below.refl _ w).alloc (Nat.le_refl _) _⟩
      · have HF := Lib.hid (all_next b k hlt hall.out hs)
        clear hall
        go_wp2_with (go_at_call 41; (with_reducible refine (HL.out b[k] _).mono ?_); rintro e w1 ⟨rfl, rfl⟩; rw [hs])
        go_roundw
        case rel => exact ⟨k + 1, by omega, by go_num, HF, by first | trivial | rfl⟩
        case measure => simp [intOf]; omega
    · obtain rfl : k = b.size := by omega
      have dk : decide ((b.size : Int) < (b.size : Int)) = false := decide_eq_false (by omega)
      have HF := Lib.hid (show b.data.toList.all signD = true from by rw [List.take_of_length_le (by simp)] at hall; exact hall.out)
      clear hall
      go_wp2
      go_ret
      rw [show R = _ from HR.out.trans HF.out]
      exact ⟨rfl, (Below.refl _ w).alloc (Nat.le_refl _) _⟩
theorem cright_any (b : ByteArray) (n : Int) (w : World) : Calls Tryd.prog 28 #[.agg #[.string b, .int .i64 n]] w fun e w' => e = .returned (.bool (rightD b n)) ∧ Below w.heap.size w w' := by
  by_cases h : b.size < 1 ∨ 6 < b.size ∨ n < 0 ∨ 15 < n
  · have e : rightD b n = false := by
      unfold rightD
      rw [Bool.and_eq_false_iff]
      left
      simp only [Bool.and_eq_false_iff, decide_eq_false_iff_not]
      omega
    rw [e]
    exact cright_bad b n w h
  · have e : rightD b n = b.data.toList.all signD := by
      unfold rightD
      rw [decide_eq_true (by omega), decide_eq_true (by omega), decide_eq_true (by omega), decide_eq_true (by omega)]
      simp
    rw [e]
    exact cright_loop b n w (by omega) (by omega) (by omega) (by omega)
theorem cright_ok : CRightOk := fun b n w _ => cright_any b n w
end Go.Proofs.YtmgfpnemamedoaaDoor
namespace Go.Proofs.YtmgfpnemamedoaaDoor
open Go.RowKit Go.Sort
theorem sign_facts (x : UInt8) (h : signD x = true) : upD x = x ∧ x ≠ 45 ∧ x.toNat ≠ 32 ∧ x.toNat < 128 := by
  simp only [signD, Bool.or_eq_true, Bool.and_eq_true, decide_eq_true_eq] at h
  refine ⟨?_, ?_, by omega, by omega⟩
  · unfold upD
    rw [if_neg (by omega)]
  · intro e
    rw [e] at h
    exact absurd h (by decide)
theorem right_facts (b : ByteArray) (n : Int) (h : rightD b n = true) : 1 ≤ b.size ∧ b.size ≤ 6 ∧ 0 ≤ n ∧ n ≤ 15 ∧ ∀ x ∈ b.data.toList, signD x = true := by
  simp only [rightD, Bool.and_eq_true, decide_eq_true_eq] at h
  obtain ⟨⟨⟨⟨h1, h2⟩, h3⟩, h4⟩, h5⟩ := h
  exact ⟨h1, h2, h3, h4, List.all_eq_true.1 h5⟩
theorem map_up (l : List UInt8) (h : ∀ x ∈ l, signD x = true) : l.map upD = l := by
  rw [List.map_congr_left (g := id) (fun x hx => (sign_facts x (h x hx)).1), List.map_id]
theorem fnd_dig (n : Nat) (h : n ≤ 15) : fndD (digD n) 16 = (true, n) := by
  obtain rfl | rfl | rfl | rfl | rfl | rfl | rfl | rfl | rfl | rfl | rfl | rfl | rfl | rfl | rfl | rfl : n = 0 ∨ n = 1 ∨ n = 2 ∨ n = 3 ∨ n = 4 ∨ n = 5 ∨ n = 6 ∨ n = 7 ∨ n = 8 ∨ n = 9 ∨ n = 10 ∨ n = 11 ∨ n = 12 ∨ n = 13 ∨ n = 14 ∨ n = 15 := by omega
  all_goals decide +kernel
theorem read_text (b : ByteArray) (n : Int) (h : rightD b n = true) : readD (textD b.data.toList n) = (true, b.data.toList, n.toNat) := by
  obtain ⟨h1, h2, h3, h4, h5⟩ := right_facts b n h
  have h45 : ∀ x ∈ b.data.toList, x ≠ 45 := fun x hx => (sign_facts x (h5 x hx)).2.1
  unfold textD
  by_cases h0 : n = 0
  · subst h0
    rw [if_pos rfl, read_end _ h45, map_up _ h5, back_bytes, h]
    rfl
  · rw [if_neg h0, read_dash _ _ h45, map_up _ h5, back_bytes, fnd_dig n.toNat (by omega)]
    show (if (true && rightD b (n.toNat : Int)) = true then _ else _) = _
    rw [show ((n.toNat : Nat) : Int) = n by omega, h]
    rfl
theorem put_take (l : List UInt8) (n : Nat) (mk la : Bool) (h : l.length ≤ 6) : (putD l n mk la).take 6 = l.map (fun x => UInt8.ofNat (2 * x.toNat)) ++ List.replicate (6 - l.length) 64 := by
  apply List.ext_getElem?
  intro j
  by_cases hj : j < 6
  · have e : (putD l n mk la)[j]? = some (UInt8.ofNat (if j = 6 then 96 + 2 * (n : Int) + mkD mk la else putF l n l.length j).toNat) := by
      unfold putD
      rw [List.getElem?_map, List.getElem?_range (by omega)]
      rfl
    rw [List.getElem?_take_of_lt hj, e, if_neg (by omega)]
    unfold putF
    rw [if_neg (by omega)]
    by_cases hl : j < l.length
    · rw [if_pos hl, List.getElem?_append_left (by simpa using hl), List.getElem?_map, List.getElem?_eq_getElem hl, List.getD_eq_getElem?_getD, List.getElem?_eq_getElem hl]
      simp only [Option.map_some, Option.getD_some, Option.some.injEq]
      congr 1
    · rw [if_neg hl, List.getElem?_append_right (by simp; omega), List.getElem?_replicate]
      rw [if_pos (by simp; omega)]
      rfl
  · rw [List.getElem?_eq_none (by simp [putD]; omega), List.getElem?_eq_none (by simp; omega)]
theorem got_put (l : List UInt8) (n : Nat) (mk la : Bool) (h : l.length ≤ 6) (hs : ∀ x ∈ l, signD x = true) : gotD (putD l n mk la) 6 = l := by
  unfold gotD
  rw [put_take l n mk la h, List.filter_append, List.map_append]
  have e1 : (List.replicate (6 - l.length) (64 : UInt8)).filter (· ≠ 64) = [] := by
    rw [List.filter_eq_nil_iff]
    intro x hx
    rw [(List.mem_replicate.1 hx).2]
    simp
  have hx2 : ∀ x ∈ l, (UInt8.ofNat (2 * x.toNat)).toNat = 2 * x.toNat := fun x hx => by
    have := (sign_facts x (hs x hx)).2.2.2
    rw [UInt8.toNat_ofNat', Nat.mod_eq_of_lt (by omega)]
  have e2 : (l.map (fun x => UInt8.ofNat (2 * x.toNat))).filter (· ≠ 64) = l.map (fun x => UInt8.ofNat (2 * x.toNat)) := by
    rw [List.filter_eq_self]
    intro y hy
    obtain ⟨x, hx, rfl⟩ := List.mem_map.1 hy
    have h32 := (sign_facts x (hs x hx)).2.2.1
    rw [decide_eq_true_eq]
    intro e
    have := congrArg UInt8.toNat e
    rw [hx2 x hx] at this
    have h64 : (64 : UInt8).toNat = 64 := rfl
    omega
  rw [e1, e2, List.map_nil, List.append_nil, List.map_map]
  rw [List.map_congr_left (g := id), List.map_id]
  intro x hx
  apply UInt8.toNat_inj.1
  show (UInt8.ofNat (2 * x.toNat) / 2).toNat = x.toNat
  rw [UInt8.toNat_div, hx2 x hx]
  show 2 * x.toNat / 2 = x.toNat
  omega
theorem put_len (l : List UInt8) (n : Nat) (mk la : Bool) : (putD l n mk la).length = 7 := by simp [putD]
theorem put_six (l : List UInt8) (n : Nat) (mk la : Bool) (hn : n ≤ 15) : ((putD l n mk la).getD 6 0).toNat = (96 + 2 * n + (if mk then 128 else 0) + (if la then 1 else 0)) := by
  have e : (putD l n mk la)[6]? = some (UInt8.ofNat (96 + 2 * (n : Int) + mkD mk la).toNat) := by
    unfold putD
    rw [List.getElem?_map, List.getElem?_range (by omega)]
    rfl
  rw [List.getD_eq_getElem?_getD, e]
  simp only [Option.getD_some]
  rw [UInt8.toNat_ofNat']
  unfold mkD
  cases mk <;> cases la <;> simp <;> omega
theorem get_put (b : ByteArray) (n : Int) (mk la : Bool) (h : rightD b n = true) : getD7 (putD b.data.toList n.toNat mk la) = (true, b.data.toList, n.toNat, mk, la) := by
  obtain ⟨h1, h2, h3, h4, h5⟩ := right_facts b n h
  have hl : b.data.toList.length ≤ 6 := by simpa using h2
  have h6 := put_six b.data.toList n.toNat mk la (by omega)
  have hg := got_put b.data.toList n.toNat mk la hl h5
  have hnn : ((putD b.data.toList n.toNat mk la).getD 6 0).toNat / 2 % 16 = n.toNat := by rw [h6]; cases mk <;> cases la <;> simp <;> omega
  have hmk : decide ((128 : Int) ≤ (((putD b.data.toList n.toNat mk la).getD 6 0).toNat : Int)) = mk := by rw [h6]; cases mk <;> cases la <;> simp <;> omega
  have hla : ((((putD b.data.toList n.toNat mk la).getD 6 0).toNat : Int) % 2 == 1) = la := by rw [h6]; cases mk <;> cases la <;> simp <;> omega
  unfold getD7
  rw [hnn, hmk, hla, hg, if_pos]
  refine ⟨put_len _ _ _ _, ?_, rfl⟩
  rw [back_bytes, show ((n.toNat : Nat) : Int) = n by omega]
  exact h
end Go.Proofs.YtmgfpnemamedoaaDoor
namespace Go.Proofs.YtmgfpnemamedoaaDoor
open Go.RowKit Go.Sort
set_option maxRecDepth 20000
/-- a station that was heard: its call, by whom, how often, when -/
structure Hs where
  cb : ByteArray
  cn : Int
  vb : ByteArray
  vn : Int
  cnt : Int
  at_ : Int
abbrev hsL (h : Hs) : List Value := [.string h.cb, .int .i64 h.cn, .string h.vb, .int .i64 h.vn, .int .i64 h.cnt, .int .i64 h.at_]
def encH : Enc Hs := ⟨6, by omega, hsL, fun _ => rfl, fun _ u hu => by
  simp only [List.mem_cons, List.not_mem_nil, or_false] at hu
  rcases hu with rfl | rfl | rfl | rfl | rfl | rfl <;> rfl⟩
def hs0 : Hs := ⟨⟨#[]⟩, 0, ⟨#[]⟩, 0, 0, 0⟩
def Hs.call (h : Hs) : ByteArray × Int := (h.cb, h.cn)
/-- is it that one? -/
def isH (c : ByteArray × Int) (h : Hs) : Bool := decide (h.call = c)
/-- where it stands -/
def whereH (L : List Hs) (c : ByteArray × Int) : Nat := L.findIdx (isH c)
/-- the answer of a search -/
def foundH (L : List Hs) (c : ByteArray × Int) : Int := if whereH L c < L.length then (whereH L c : Int) else -1
/-- how often it was heard, with this time -/
def oftenH (L : List Hs) (c : ByteArray × Int) : Int := match L[whereH L c]? with | some h => IntKind.i64.wrap (1 + h.cnt) | none => 1
/-- a list behind a frame -/
def hearP (L : List Hs) (c v : ByteArray × Int) (now : Int) : List Hs := ⟨c.1, c.2, v.1, v.2, oftenH L c, now⟩ :: (L.eraseIdx (whereH L c)).take 7
theorem where_le (L : List Hs) (c : ByteArray × Int) : whereH L c ≤ L.length := List.findIdx_le_length
theorem where_is (L : List Hs) (c : ByteArray × Int) (h : whereH L c < L.length) : isH c L[whereH L c] = true := List.findIdx_getElem (w := h)
theorem hear_len (L : List Hs) (c v : ByteArray × Int) (now : Int) : (hearP L c v now).length ≤ 8 := by
  show ((L.eraseIdx _).take 7).length + 1 ≤ 8
  rw [List.length_take]
  omega
/-- without the first c -/
def eraL (c : ByteArray × Int) : List (ByteArray × Int) → List (ByteArray × Int)
  | [] => []
  | x :: r => if x = c then r else x :: eraL c r
/-- is it in it? -/
def inL (c : ByteArray × Int) (L : List (ByteArray × Int)) : Bool := L.any fun d => decide (d = c)
theorem inL_iff (c : ByteArray × Int) (L : List (ByteArray × Int)) : inL c L = true ↔ c ∈ L := by
  unfold inL
  rw [List.any_eq_true]
  exact ⟨fun ⟨d, hd, e⟩ => of_decide_eq_true e ▸ hd, fun h => ⟨c, h, decide_eq_true rfl⟩⟩
theorem inL_no (c : ByteArray × Int) (L : List (ByteArray × Int)) (h : c ∉ L) : inL c L = false := by
  cases k : inL c L
  · rfl
  · exact absurd ((inL_iff c L).1 k) h
/-- the calls, without c -/
theorem erase_calls (c : ByteArray × Int) : ∀ L : List Hs, (L.eraseIdx (whereH L c)).map Hs.call = eraL c (L.map Hs.call)
  | [] => rfl
  | h :: L => by
    unfold whereH
    rw [List.findIdx_cons]
    unfold isH
    show _ = if h.call = c then _ else _
    by_cases e : h.call = c
    · rw [decide_eq_true e, if_pos e]
      rfl
    · rw [decide_eq_false e, if_neg e]
      simp only [cond_false, List.eraseIdx_cons_succ, List.map_cons]
      congr 1
      exact erase_calls c L
theorem hear_calls (L : List Hs) (c v : ByteArray × Int) (now : Int) : (hearP L c v now).map Hs.call = c :: (eraL c (L.map Hs.call)).take 7 := by
  unfold hearP
  rw [List.map_cons, List.map_take, erase_calls]
  rfl
/-- who is in it -/
theorem found_in (L : List Hs) (c : ByteArray × Int) : decide (foundH L c < 0) = !inL c (L.map Hs.call) := by
  unfold foundH
  by_cases h : whereH L c < L.length
  · have hm : c ∈ L.map Hs.call := by
      have k := where_is L c h
      unfold isH at k
      have k2 := of_decide_eq_true k
      have k3 : L[whereH L c].call ∈ L.map Hs.call := List.mem_map_of_mem (List.getElem_mem h)
      rwa [k2] at k3
    rw [if_pos h, (inL_iff _ _).2 hm, decide_eq_false (by omega)]
    rfl
  · have hm : ¬ c ∈ L.map Hs.call := fun hm => by
      obtain ⟨x, hx, rfl⟩ := List.mem_map.1 hm
      exact h (List.findIdx_lt_length_of_exists ⟨x, hx, decide_eq_true rfl⟩)
    rw [if_neg h, inL_no _ _ hm]
    rfl
/-- the first of each, in order -/
def nubL : List (ByteArray × Int) → List (ByteArray × Int)
  | [] => []
  | c :: r => c :: (nubL r).filter (fun d => decide (d ≠ c))
theorem mem_nub (x : ByteArray × Int) : ∀ r, x ∈ nubL r ↔ x ∈ r
  | [] => by simp [nubL]
  | c :: r => by
    have ih := mem_nub x r
    unfold nubL
    rw [List.mem_cons, List.mem_cons, List.mem_filter, ih, decide_eq_true_eq]
    by_cases e : x = c
    · exact ⟨fun _ => Or.inl e, fun _ => Or.inl e⟩
    · exact ⟨fun h => h.elim Or.inl (fun q => Or.inr q.1), fun h => h.elim Or.inl (fun q => Or.inr ⟨q, e⟩)⟩
theorem nodup_nub : ∀ r, (nubL r).Nodup
  | [] => List.nodup_nil
  | c :: r => by
    unfold nubL
    rw [List.nodup_cons]
    exact ⟨fun h => (of_decide_eq_true (List.mem_filter.1 h).2) rfl, (nodup_nub r).filter _⟩
theorem filter_era (c : ByteArray × Int) : ∀ r : List (ByteArray × Int), r.Nodup → r.filter (fun d => decide (d ≠ c)) = eraL c r
  | [], _ => rfl
  | x :: r, h => by
    rw [List.nodup_cons] at h
    unfold eraL
    by_cases e : x = c
    · subst e
      rw [if_pos rfl, List.filter_cons_of_neg (by simp), List.filter_eq_self.2]
      intro d hd
      exact decide_eq_true fun q => h.1 (q ▸ hd)
    · rw [if_neg e, List.filter_cons_of_pos (by simpa using e), filter_era c r h.2]
theorem nub_erase (c : ByteArray × Int) (r : List (ByteArray × Int)) : nubL (c :: r) = c :: eraL c (nubL r) := by
  rw [← filter_era c _ (nodup_nub r)]
  rfl
theorem take_erase (c : ByteArray × Int) : ∀ (M : List (ByteArray × Int)) (n : Nat), (eraL c (M.take (n + 1))).take n = (eraL c M).take n
  | [], n => by simp
  | x :: M, n => by
    rw [List.take_succ_cons]
    unfold eraL
    by_cases e : x = c
    · rw [if_pos e, if_pos e, List.take_take, Nat.min_self]
    · rw [if_neg e, if_neg e]
      cases n with
      | zero => rfl
      | succ n => rw [List.take_succ_cons, List.take_succ_cons, take_erase c M n]
/-- what is heard is the last eight -/
theorem hear_last (L : List Hs) (R : List (ByteArray × Int)) (c v : ByteArray × Int) (now : Int) (h : L.map Hs.call = (nubL R).take 8) : (hearP L c v now).map Hs.call = (nubL (c :: R)).take 8 := by
  rw [hear_calls, h, take_erase, nub_erase, List.take_succ_cons]
/-- those that were seen: the first of each, one by one -/
def seeL (A : List (ByteArray × Int)) : List (ByteArray × Int) → List (ByteArray × Int)
  | [] => A
  | x :: r => if inL x A then seeL A r else seeL (A ++ [x]) r
theorem see_nub : ∀ (r A : List (ByteArray × Int)), seeL A r = A ++ (nubL r).filter (fun d => !inL d A)
  | [], A => by simp [seeL, nubL]
  | x :: r, A => by
    unfold seeL nubL
    by_cases h : inL x A = true
    · rw [if_pos h, see_nub r A, List.filter_cons_of_neg (by rw [h]; decide), List.filter_filter]
      congr 1
      apply List.filter_congr
      intro d _
      by_cases e : d = x
      · subst e; rw [h]; rfl
      · rw [decide_eq_true e, Bool.and_true]
    · rw [if_neg h, see_nub r (A ++ [x]), List.filter_cons_of_pos (by simpa using h), List.filter_filter, List.append_assoc, List.singleton_append]
      congr 2
      apply List.filter_congr
      intro d _
      have e2 : inL d (A ++ [x]) = (inL d A || decide (x = d)) := by unfold inL; rw [List.any_append]; simp
      rw [e2, Bool.not_or]
      congr 1
      by_cases e : d = x
      · rw [decide_eq_true e.symm, decide_eq_false (fun q => q e)]; rfl
      · rw [decide_eq_false (fun q => e q.symm), decide_eq_true e]; rfl
theorem see_all (r : List (ByteArray × Int)) : seeL [] r = nubL r := by
  rw [see_nub, List.nil_append, List.filter_eq_self.2]
  intro d _
  rfl
theorem see_grows : ∀ (r A : List (ByteArray × Int)), A <+: seeL A r
  | [], _ => List.prefix_rfl
  | x :: r, A => by
    unfold seeL
    split
    · exact see_grows r A
    · exact (List.prefix_append A [x]).trans (see_grows r (A ++ [x]))
/-- is the next one among the last eight? -/
theorem see_next (A : List (ByteArray × Int)) (x : ByteArray × Int) (r N : List (ByteArray × Int)) (hN : seeL A (x :: r) = N) (hx : inL x A = false) : inL x (N.take 8) = decide (A.length < 8) := by
  have hp : (A ++ [x]) <+: N := by
    rw [← hN]
    unfold seeL
    rw [if_neg (by rw [hx]; decide)]
    exact see_grows r _
  obtain ⟨Z, rfl⟩ := hp
  by_cases h8 : A.length < 8
  · rw [decide_eq_true h8, inL_iff]
    have hl : (A ++ [x]).length ≤ 8 := by simp; omega
    rw [List.take_append, List.take_of_length_le hl]
    exact List.mem_append_left _ (by simp)
  · rw [decide_eq_false h8]
    apply inL_no
    intro hm
    rw [List.append_assoc, List.take_append_of_le_length (by omega)] at hm
    have := (inL_iff x A).2 (List.mem_of_mem_take hm)
    rw [hx] at this
    cases this
end Go.Proofs.YtmgfpnemamedoaaDoor
namespace Go.Proofs.YtmgfpnemamedoaaDoor
open Go.RowKit Go.Sort
set_option maxRecDepth 20000
theorem run_eq_call18 (a b : ByteArray) (n m : Int) (w : World) (E : Bool) (h : E = decide ((a, n) = (b, m))) : (Op.equalIn 10000 27 (.agg #[.string a, .int .i64 n]) (.agg #[.string b, .int .i64 m])).run Tryd.prog w = .ok E w := by
  have hs : (a.toList == b.toList) = decide (a = b) := by
    rw [ByteArray.toList_eq, ByteArray.toList_eq, Bool.eq_iff_iff, beq_iff_eq, decide_eq_true_eq]
    exact ⟨fun e => bytes_ext' e, fun e => by rw [e]⟩
  have hn : (n == m) = decide (n = m) := rfl
  by_cases h1 : a = b
  · by_cases h2 : n = m
    · rw [decide_eq_true (by rw [h1, h2])] at h
      rw [decide_eq_true h1] at hs
      rw [decide_eq_true h2] at hn
      subst h
      go_simp
    · rw [decide_eq_false (fun x => h2 (Prod.mk.inj x).2)] at h
      rw [decide_eq_true h1] at hs
      rw [decide_eq_false h2] at hn
      subst h
      go_simp
  · rw [decide_eq_false (fun x => h1 (Prod.mk.inj x).1)] at h
    rw [decide_eq_false h1] at hs
    subst h
    go_simp
end Go.Proofs.YtmgfpnemamedoaaDoor
