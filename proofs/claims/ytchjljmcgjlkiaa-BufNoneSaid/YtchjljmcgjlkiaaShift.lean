/-
A slice of the call's own whose first one goes: the others come one place nearer, and the last place is cleared (as the library's Delete of the first one does it).
-/
import Derived.Test.YtchjljmcgjlkiaaInPlace
namespace Go.Proofs.Ytchjljmcgjlkiaa
open Go.RowKit
set_option maxRecDepth 20000
section
variable {α : Type}
/-- the slices that it takes -/
theorem run_front (E : Enc α) (T S : TypeId) (hS : Try.prog.underlying S = some (.slice T)) (hel : Try.prog.elem S = T) (hsz : ∀ W : World, (sizeOf T).run Try.prog W = .ok E.n W) (g m n c : Nat) (hm : m = n + 1) (W : World) :
    (Instr.slice S (.slice (some ⟨g, 0, none⟩) m c) (some (.int .i64 1)) none none).run Try.prog W = .ok (.slice (some (if c = 1 then ⟨g, 0, none⟩ else ⟨g, E.n, none⟩)) n (c - 1)) W := by
  subst hm
  have e1 : (⟨g, 0, none⟩ : Addr).add E.n = ⟨g, E.n, none⟩ := by
    unfold Addr.add
    split <;> simp_all
  rw [run_slice_l W S (some ⟨g, 0, none⟩) (n + 1) c (by rw [hel]; exact hS) .i64 1 (by omega) (by omega), hel, hsz]
  by_cases h : c = 1 <;> simp [Result.andThen, sliced, h, e1]
theorem run_begin (E : Enc α) (T S : TypeId) (hS : Try.prog.underlying S = some (.slice T)) (hel : Try.prog.elem S = T) (hsz : ∀ W : World, (sizeOf T).run Try.prog W = .ok E.n W) (g m c : Nat) (W : World) :
    (Instr.slice S (.slice (some ⟨g, 0, none⟩) m c) none (some (.int .i64 0)) none).run Try.prog W = .ok (.slice (some ⟨g, 0, none⟩) 0 c) W := by
  have e1 : (⟨g, 0, none⟩ : Addr).add 0 = ⟨g, 0, none⟩ := by
    unfold Addr.add
    split <;> simp_all
  rw [run_slice_h W S (some ⟨g, 0, none⟩) m c (by rw [hel]; exact hS) .i64 0 (by omega) (by omega), hel, hsz]
  simp [Result.andThen, sliced, e1]
theorem run_check (E : Enc α) (T S : TypeId) (hS : Try.prog.underlying S = some (.slice T)) (hel : Try.prog.elem S = T) (hsz : ∀ W : World, (sizeOf T).run Try.prog W = .ok E.n W) (g m c : Nat) (h1 : 1 ≤ m) (hm : m ≤ c) (W : World) :
    (Instr.slice S (.slice (some ⟨g, 0, none⟩) m c) (some (.int .i64 0)) (some (.int .i64 1)) (some (.int .i64 (m : Int)))).run Try.prog W = .ok (.slice (some ⟨g, 0, none⟩) 1 m) W := by
  have e1 : (⟨g, 0, none⟩ : Addr).add 0 = ⟨g, 0, none⟩ := by
    unfold Addr.add
    split <;> simp_all
  rw [run_slice_lhm W S (some ⟨g, 0, none⟩) m c (by rw [hel]; exact hS) .i64 .i64 .i64 0 1 (m : Int) (by omega) (by omega) (by omega) (by omega), hel, hsz]
  simp [Result.andThen, sliced, e1]
theorem run_last (E : Enc α) (T S : TypeId) (hS : Try.prog.underlying S = some (.slice T)) (hel : Try.prog.elem S = T) (hsz : ∀ W : World, (sizeOf T).run Try.prog W = .ok E.n W) (g m n c : Nat) (hm : m = n + 1) (hc : m ≤ c) (W : World) :
    (Instr.slice S (.slice (some ⟨g, 0, none⟩) n c) (some (.int .i64 (n : Int))) (some (.int .i64 (m : Int))) none).run Try.prog W = .ok (.slice (some ⟨g, n * E.n, none⟩) 1 (c - n)) W := by
  subst hm
  have e1 : (⟨g, 0, none⟩ : Addr).add (n * E.n) = ⟨g, n * E.n, none⟩ := by
    unfold Addr.add
    split <;> simp_all
  rw [run_slice_lh W S (some ⟨g, 0, none⟩) n c (by rw [hel]; exact hS) .i64 .i64 (n : Int) ((n + 1 : Nat) : Int) (by omega) (by omega) (by omega), hel, hsz]
  have ne : c ≠ n := by omega
  have e2 : ((n : Int) + 1).toNat = n + 1 := by omega
  simp [Result.andThen, sliced, e1, ne, e2]
/-- an own slice's block -/
theorem OwnL.block_ {E : Enc α} {T : TypeId} {w : World} {B g m c : Nat} {L : List α} (h : OwnL E T w B (.slice (some ⟨g, 0, none⟩) m c) L) : m = L.length ∧ B ≤ g ∧ L.length ≤ c ∧ c ≤ maxLen ∧ ∃ cur, w.heap[g]? = some (.cells cur T (0, 0)) ∧ cur.size = c * E.n ∧ cur.toList.take (L.length * E.n) = flatE E L := by
  rcases h.2 with ⟨h0, _⟩ | ⟨g', cap, cur, hv, hb, hg, hc, hmx, hs, ht⟩
  · cases h0
  · simp only [Value.slice.injEq, Option.some.injEq, Addr.mk.injEq, and_true] at hv
    obtain ⟨rfl, hn, rfl⟩ := hv
    exact ⟨hn, hb, hc, hmx, cur, hg, hs, ht⟩
theorem OwnL.of_block {E : Enc α} {T : TypeId} {w : World} {B g c : Nat} {L : List α} {cur : Array Value} (hb : B ≤ g) (hc : L.length ≤ c) (hm : c ≤ maxLen) (hg : w.heap[g]? = some (.cells cur T (0, 0))) (hs : cur.size = c * E.n) (ht : cur.toList.take (L.length * E.n) = flatE E L) : OwnL E T w B (.slice (some ⟨g, 0, none⟩) L.length c) L :=
  ⟨flatE_length E L, Or.inr ⟨g, c, cur, rfl, hb, hg, hc, hm, hs, ht⟩⟩
/-- the append that moves them -/
theorem run_shift (E : Enc α) (T S ty : TypeId) (hS : Try.prog.underlying S = some (.slice T)) {z : Value} {bytes : Nat} (hi : (Try.prog.info? T).map (fun i => (i.zero, i.size, i.bytes)) = some (some z, E.n, bytes))
    (w : World) (B g m c : Nat) (u : α) (R : List α) (h : OwnL E T w B (.slice (some ⟨g, 0, none⟩) m c) (u :: R)) :
    (Builtin.append_ #[S, S] ty #[.slice (some ⟨g, 0, none⟩) 0 c, .slice (some (if c = 1 then ⟨g, 0, none⟩ else ⟨g, E.n, none⟩)) R.length (c - 1)]).run Try.prog w = .ok (.slice (some ⟨g, 0, none⟩) R.length c) (w.setCells g 0 (flatE E R)) := by
  obtain ⟨i0, hi0, hz0, hz1, hz2⟩ := info_parts hi
  obtain ⟨-, -, hc, -, cur, hg, hs, ht⟩ := h.block_
  rw [List.length_cons] at hc ht
  have hR : R.length * E.n ≤ c * E.n := Nat.mul_le_mul_right _ (by omega)
  have hcell : ∀ x, w.cell? ⟨g, x, none⟩ = cur[x]? := fun x => by unfold World.cell?; simp [hg]
  have hr := run_append_room_cells (P := Try.prog) w S ty T i0 hS hi0 g 0 0 c (if c = 1 then ⟨g, 0, none⟩ else ⟨g, E.n, none⟩) R.length (c - 1) (flatE E R) (by rw [flatE_length, hz1]) (fun j y hj => by
    have hjl := (List.getElem?_eq_some_iff.1 hj).1
    rw [flatE_length] at hjl
    have hne : c ≠ 1 := fun e => by
      have : R.length = 0 := by omega
      rw [this] at hjl
      omega
    have e1 : (⟨g, E.n, none⟩ : Addr).add j = ⟨g, E.n + j, none⟩ := by
      unfold Addr.add
      split <;> simp_all
    rw [if_neg hne, e1, hcell]
    have h2 : (cur.toList.take ((R.length + 1) * E.n))[E.n + j]? = some y := by
      rw [ht]
      show (E.enc u ++ flatE E R)[E.n + j]? = _
      rw [List.getElem?_append_right (by rw [E.len]; omega), E.len, Nat.add_sub_cancel_left]
      exact hj
    rw [List.getElem?_take_of_lt (by rw [Nat.add_mul]; omega), Array.getElem?_toList] at h2
    exact h2) (fun y hy => by
    obtain ⟨a, _, ha⟩ := List.mem_flatMap.1 hy
    exact E.one a y ha) (by omega) (fun j hj => by
    rw [flatE_length] at hj
    rw [hz1, hcell, Array.getElem?_eq_getElem (by omega)]
    rfl) (fun j hj => by unfold World.frozen?; simp [hg])
  rw [hr, hz1, Nat.zero_mul, Nat.zero_add, Nat.zero_add]
/-- one of them cleared -/
theorem run_clear_one (w : World) (T S ty : TypeId) (z : Value) (hS : Try.prog.underlying S = some (.slice T)) (hv : ∀ w, (zeroValue T).run Try.prog w = .ok z w) (h1 : ∀ u ∈ z.cells.toList, u.oneCell' = true) (g o c : Nat)
    (hc : ∀ j, j < z.cells.size → (w.cell? ⟨g, o + j, none⟩).isSome = true) (hf : ∀ j, j < z.cells.size → w.frozen? ⟨g, o + j, none⟩ = false) :
    (Builtin.clear_ #[S] ty #[.slice (some ⟨g, o, none⟩) 1 c]).run Try.prog w = .ok (.tuple #[]) (w.setCells g o z.cells.toList) := by
  have hzc : (Builtin.zeroCells z.cells 1).toList = z.cells.toList := by
    apply List.ext_getElem
    · simp [Builtin.zeroCells]
    · intro i h1 h2
      have h3 : i < z.cells.size := by simpa using h2
      simp [Builtin.zeroCells, Nat.mod_eq_of_lt h3, h3]
  have hst := run_storeCells_cells (P := Try.prog) g o z.cells.toList 0 w (by simpa using hc) (by simpa using hf) h1
  simp only [Nat.add_zero] at hst
  simp [Builtin.clear_, run_underlying hS, hv, hzc, hst]
/-- what is left -/
theorem OwnL.shifted {E : Enc α} {T : TypeId} {w : World} {B g m c : Nat} {u : α} {R : List α} (h : OwnL E T w B (.slice (some ⟨g, 0, none⟩) m c) (u :: R)) (vs : List Value) :
    OwnL E T ((w.setCells g 0 (flatE E R)).setCells g (R.length * E.n) vs) B (.slice (some ⟨g, 0, none⟩) R.length c) R := by
  obtain ⟨-, hb, hc, hm, cur, hg, hs, -⟩ := h.block_
  rw [List.length_cons] at hc
  have hR : R.length * E.n ≤ c * E.n := Nat.mul_le_mul_right _ (by omega)
  obtain ⟨c1, k1, k2, k3⟩ := heap_setCells g T (flatE E R) 0 w cur hg
  obtain ⟨c2, l1, l2, l3⟩ := heap_setCells g T vs (R.length * E.n) _ c1 k1
  refine OwnL.of_block hb (by omega) hm l1 (by rw [l2, k2, hs]) ?_
  apply List.ext_getElem?
  intro y
  by_cases hy : y < R.length * E.n
  · rw [List.getElem?_take_of_lt hy, Array.getElem?_toList, l3 y (by omega), if_neg (by omega), k3 y (by omega), if_pos ⟨Nat.zero_le _, by rw [flatE_length]; omega⟩, Nat.sub_zero]
  · rw [List.getElem?_eq_none (by rw [List.length_take]; omega), List.getElem?_eq_none (by rw [flatE_length]; omega)]
/-- the last place's cells -/
theorem OwnL.place {E : Enc α} {T : TypeId} {w : World} {B g m c : Nat} {u : α} {R : List α} (h : OwnL E T w B (.slice (some ⟨g, 0, none⟩) m c) (u :: R)) (j : Nat) (hj : j < E.n) :
    ((w.setCells g 0 (flatE E R)).cell? ⟨g, R.length * E.n + j, none⟩).isSome = true ∧ (w.setCells g 0 (flatE E R)).frozen? ⟨g, R.length * E.n + j, none⟩ = false := by
  obtain ⟨-, hb, hc, hm, cur, hg, hs, -⟩ := h.block_
  rw [List.length_cons] at hc
  have hR : (R.length + 1) * E.n ≤ c * E.n := Nat.mul_le_mul_right _ hc
  rw [Nat.add_mul, Nat.one_mul] at hR
  obtain ⟨c1, k1, k2, k3⟩ := heap_setCells g T (flatE E R) 0 w cur hg
  refine ⟨?_, ?_⟩
  · have : (w.setCells g 0 (flatE E R)).cell? ⟨g, R.length * E.n + j, none⟩ = c1[R.length * E.n + j]? := by
      unfold World.cell?
      simp [k1]
    rw [this, Array.getElem?_eq_getElem (by omega)]
    rfl
  · unfold World.frozen?
    simp [k1]
end
end Go.Proofs.Ytchjljmcgjlkiaa
