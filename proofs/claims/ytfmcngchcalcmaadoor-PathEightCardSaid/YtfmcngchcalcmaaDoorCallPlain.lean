/-
The document's own reading of a word as plain functions; what lies in memory meanwhile.
-/
import Derived.Test.YtfmcngchcalcmaaDoorCallText
namespace Go.Proofs.YtfmcngchcalcmaaDoor
open Go.RowKit Go.Sort
/-- a small letter as a great one -/
def upD (x : UInt8) : UInt8 := if 97 ≤ x.toNat ∧ x.toNat ≤ 122 then x - 32 else x
/-- the number below k whose digits are r, the last one: is there one, which -/
def fndD (r : List UInt8) : Nat → Bool × Nat
  | 0 => (false, 0)
  | k + 1 => if digD k = r then (true, k) else fndD r k
theorem fndD_le (r : List UInt8) (k : Nat) (h : k ≤ 16) : (fndD r k).2 ≤ 15 := by
  induction k with
  | zero => simp [fndD]
  | succ k ih =>
    unfold fndD
    split
    · show k ≤ 15; omega
    · exact ih (by omega)
/-- the call of a word: is there one, its letters, its number -/
def readD (s : List UInt8) : Bool × List UInt8 × Nat :=
  let p := (s.takeWhile (· ≠ 45)).map upD
  match s.dropWhile (· ≠ 45) with
  | [] => if rightD ⟨p.toArray⟩ 0 then (true, p, 0) else (false, [], 0)
  | _ :: r => if (fndD r 16).1 && rightD ⟨p.toArray⟩ ((fndD r 16).2 : Int) then (true, p, (fndD r 16).2) else (false, [], 0)
/-- as a value -/
def readV (x : Bool × List UInt8 × Nat) : Value := .tuple #[.agg #[.string ⟨x.2.1.toArray⟩, .int .i64 (x.2.2 : Int)], .bool x.1]
/-- one byte as a text -/
theorem conv1 (v : Int) (w : World) : (convert 113 9 (.slice (some ⟨w.heap.size, 0, none⟩) 1 1)).run Tryd.prog (w.alloc (.cells #[.int .u8 v] 5)) = .ok (.string ⟨#[UInt8.ofNat v.toNat]⟩) (w.alloc (.cells #[.int .u8 v] 5)) := by
  rw [run_convert_bytes_arg _ 113 5 Tryd.underlying113 Tryd.underlying5 w.heap.size 0 1 1 [v] rfl (fun i hi => by
    obtain rfl : i = 0 := by simpa using hi
    exact World.cell?_alloc_at _ _ _ _ (by simp)) 9 Tryd.underlying9]
  rfl
/-- two calls' cells: the answer's, still empty, and one that is made -/
def PAt (w W : World) (b : ByteArray) (n : Int) : Prop :=
  (W.cell? ⟨w.heap.size, 0, none⟩ = some (.string ⟨#[]⟩) ∧ W.cell? ⟨w.heap.size, 1, none⟩ = some (.int .i64 0)) ∧
  (W.cell? ⟨w.heap.size + 1, 0, none⟩ = some (.string b) ∧ W.cell? ⟨w.heap.size + 1, 1, none⟩ = some (.int .i64 n)) ∧
  ((∀ i, W.frozen? ⟨w.heap.size, i, none⟩ = false) ∧ ∀ i, W.frozen? ⟨w.heap.size + 1, i, none⟩ = false) ∧ Below w.heap.size w W ∧ w.heap.size + 1 < W.heap.size
theorem PAt.start (w : World) (n : Int) : PAt w ((w.alloc (.cells #[.string ⟨#[]⟩, .int .i64 0] 23)).alloc (.cells #[.string ⟨#[]⟩, .int .i64 n] 23)) ⟨#[]⟩ n := by
  refine ⟨⟨?_, ?_⟩, ⟨?_, ?_⟩, ⟨fun i => ?_, fun i => ?_⟩, ((Below.refl _ w).alloc (Nat.le_refl _) _).alloc (by simp) _, by simp⟩
  · exact (World.cell?_alloc_past _ _ _ (by simp)).trans (World.cell?_alloc_at _ _ _ _ rfl)
  · exact (World.cell?_alloc_past _ _ _ (by simp)).trans (World.cell?_alloc_at _ _ _ _ rfl)
  · exact World.cell?_alloc_at _ _ _ _ (by simp)
  · exact World.cell?_alloc_at _ _ _ _ (by simp)
  · exact (World.frozen?_alloc_past _ _ _ (by simp)).trans (World.frozen?_alloc_at _ _ _ _ rfl)
  · exact World.frozen?_alloc_at _ _ _ _ (by simp)
theorem PAt.below {w W W' : World} {b : ByteArray} {n : Int} (h : PAt w W b n) (hb : Below W.heap.size W W') : PAt w W' b n := by
  obtain ⟨⟨a0, a1⟩, ⟨c0, c1⟩, ⟨f, g⟩, hw, hs⟩ := h
  have k := fun (m i : Nat) (hm : m < W.heap.size) => hb.cell (p := ⟨m, i, none⟩) hm
  have q := fun (m i : Nat) (hm : m < W.heap.size) => hb.frozen (p := ⟨m, i, none⟩) hm
  exact ⟨⟨(k _ _ (by omega)).trans a0, (k _ _ (by omega)).trans a1⟩, ⟨(k _ _ hs).trans c0, (k _ _ hs).trans c1⟩, ⟨fun i => (q _ _ (by omega)).trans (f i), fun i => (q _ _ hs).trans (g i)⟩, hw.trans (hb.mono hw.size), Nat.lt_of_lt_of_le hs hb.size⟩
theorem PAt.base {w W : World} {b : ByteArray} {n : Int} (h : PAt w W b n) (b' : ByteArray) : PAt w (W.setCell ⟨w.heap.size + 1, 0, none⟩ (.string b')) b' n := by
  obtain ⟨⟨a0, a1⟩, ⟨c0, c1⟩, ⟨f, g⟩, hw, hs⟩ := h
  refine ⟨⟨?_, ?_⟩, ⟨set_here c0, ?_⟩, ⟨fun i => ?_, fun i => ?_⟩, hw.setCell (p := ⟨w.heap.size + 1, 0, none⟩) (by show w.heap.size ≤ w.heap.size + 1; omega) _, by simpa [World.setCell] using hs⟩
  · rw [set_block _ _ _ _ _ _ (by omega)]; exact a0
  · rw [set_block _ _ _ _ _ _ (by omega)]; exact a1
  · rw [set_off _ _ _ _ _ (by omega)]; exact c1
  · rw [World.frozen?_setCell]; exact f i
  · rw [World.frozen?_setCell]; exact g i
theorem PAt.num {w W : World} {b : ByteArray} {n : Int} (h : PAt w W b n) (n' : Int) : PAt w (W.setCell ⟨w.heap.size + 1, 1, none⟩ (.int .i64 n')) b n' := by
  obtain ⟨⟨a0, a1⟩, ⟨c0, c1⟩, ⟨f, g⟩, hw, hs⟩ := h
  refine ⟨⟨?_, ?_⟩, ⟨?_, set_here c1⟩, ⟨fun i => ?_, fun i => ?_⟩, hw.setCell (p := ⟨w.heap.size + 1, 1, none⟩) (by show w.heap.size ≤ w.heap.size + 1; omega) _, by simpa [World.setCell] using hs⟩
  · rw [set_block _ _ _ _ _ _ (by omega)]; exact a0
  · rw [set_block _ _ _ _ _ _ (by omega)]; exact a1
  · rw [set_off _ _ _ _ _ (by omega)]; exact c0
  · rw [World.frozen?_setCell]; exact f i
  · rw [World.frozen?_setCell]; exact g i
theorem PAt.drew {w W : World} {b : ByteArray} {n : Int} (h : PAt w W b n) : PAt w W.drew b n := ⟨h.1, h.2.1, h.2.2.1, h.2.2.2.1.drew, h.2.2.2.2⟩
theorem stored2 {W : World} {n : Nat} {x0 x1 : Value} (u0 u1 : Value) (r0 : W.cell? ⟨n, 0, none⟩ = some x0) (r1 : W.cell? ⟨n, 1, none⟩ = some x1) :
    ((W.setCell ⟨n, 0, none⟩ u0).setCell ⟨n, 1, none⟩ u1).cell? ⟨n, 0, none⟩ = some u0 ∧ ((W.setCell ⟨n, 0, none⟩ u0).setCell ⟨n, 1, none⟩ u1).cell? ⟨n, 1, none⟩ = some u1 := by
  refine ⟨?_, ?_⟩
  · rw [set_off _ _ _ _ _ (by omega), set_here r0]
  · rw [set_here (by rw [set_off _ _ _ _ _ (by omega)]; exact r1)]
theorem set2_below {B n : Nat} {a W : World} (h : Below B a W) (hn : B ≤ n) (u0 u1 : Value) : Below B a ((W.setCell ⟨n, 0, none⟩ u0).setCell ⟨n, 1, none⟩ u1) := (h.setCell (p := ⟨n, 0, none⟩) hn u0).setCell (p := ⟨n, 1, none⟩) hn u1
theorem take_no (l : List UInt8) (h : ∀ x ∈ l, x ≠ 45) (r : List UInt8) : (l ++ r).takeWhile (· ≠ 45) = l ++ r.takeWhile (· ≠ 45) ∧ (l ++ r).dropWhile (· ≠ 45) = r.dropWhile (· ≠ 45) := by
  induction l with
  | nil => simp
  | cons c l ih =>
    have hc : c ≠ 45 := h c (by simp)
    obtain ⟨a, b⟩ := ih (fun x hx => h x (by simp [hx]))
    simp only [List.cons_append, List.takeWhile_cons, List.dropWhile_cons, ne_eq, hc, not_false_eq_true, decide_true, if_true] at a b ⊢
    exact ⟨by rw [a], b⟩
theorem read_end (l : List UInt8) (h : ∀ x ∈ l, x ≠ 45) : readD l = if rightD ⟨(l.map upD).toArray⟩ 0 then (true, l.map upD, 0) else (false, [], 0) := by
  obtain ⟨a, b⟩ := take_no l h []
  rw [List.append_nil] at a b
  unfold readD
  rw [a, b]
  simp
theorem read_dash (l r : List UInt8) (h : ∀ x ∈ l, x ≠ 45) : readD (l ++ 45 :: r) = if (fndD r 16).1 && rightD ⟨(l.map upD).toArray⟩ ((fndD r 16).2 : Int) then (true, l.map upD, (fndD r 16).2) else (false, [], 0) := by
  obtain ⟨a, b⟩ := take_no l h (45 :: r)
  unfold readD
  rw [a, b]
  simp
end Go.Proofs.YtfmcngchcalcmaaDoor
