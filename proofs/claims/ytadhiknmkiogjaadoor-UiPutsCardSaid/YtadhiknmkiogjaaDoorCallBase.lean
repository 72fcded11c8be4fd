/-
Calls as plain facts; bytes and blocks of memory; the landed code's look at a call.
-/
import Derived.Test.YtadhiknmkiogjaaDoorProg
import Derived.Test.YtadhiknmkiogjaaDoorMix00
import Derived.WalkKit
import Derived.WalkSpells
import Derived.WalkLawsBesides
import Derived.Laws.BitsAllLaws
import Derived.Laws.ShiftsVarLaws
import Derived.Lib.Hide
import Derived.Lib.Strings
import Derived.BigQuiet
import Derived.Deep.QuietTactic
import Derived.Lib.QuietBelow
import Derived.BigRegion
import Derived.IntWalk
import Derived.Lib.SmallJoins
import Derived.Lib.ItoaNum
import Derived.Lib.IndexBytes
namespace Go.Proofs.YtadhiknmkiogjaaDoor
open Go.RowKit
/-- a letter of a call sign -/
def signD (x : UInt8) : Bool := (decide (65 ≤ x.toNat) && decide (x.toNat ≤ 90)) || (decide (48 ≤ x.toNat) && decide (x.toNat ≤ 57))
/-- a right call -/
def rightD (b : ByteArray) (n : Int) : Bool := decide (1 ≤ b.size) && decide (b.size ≤ 6) && decide (0 ≤ n) && decide (n ≤ 15) && b.data.toList.all signD
/-- a call as a value -/
def callV (b : ByteArray) (n : Int) : Value := .agg #[.string b, .int .i64 n]
theorem rright_bad (b : ByteArray) (n : Int) (w : World) (h : b.size < 1 ∨ 6 < b.size ∨ n < 0 ∨ 15 < n) :
    Calls Tryd.prog 14 #[.agg #[.string b, .int .i64 n]] w fun e w' => e = .returned (.bool false) ∧ Below w.heap.size w w' := by
  by_cases h1 : b.size < 1
  · go_enter Tryd.func14, Tryd.ntmps14
    go_wp2
    go_ret
    exact ⟨rfl, (Below.refl _ w).alloc (Nat.le_refl _) _⟩
  by_cases h2 : 6 < b.size
  · go_enter Tryd.func14, Tryd.ntmps14
    go_wp2
    go_ret
    exact ⟨rfl, (Below.refl _ w).alloc (Nat.le_refl _) _⟩
  by_cases h3 : n < 0
  · go_enter Tryd.func14, Tryd.ntmps14
    go_wp2
    go_ret
    exact ⟨rfl, (Below.refl _ w).alloc (Nat.le_refl _) _⟩
  have h4 : 15 < n := by omega
  go_enter Tryd.func14, Tryd.ntmps14
  go_wp2
  go_ret
  exact ⟨rfl, (Below.refl _ w).alloc (Nat.le_refl _) _⟩
theorem all_next (b : ByteArray) (k : Nat) (h : k < b.size) (ha : (b.data.toList.take k).all signD = true) (hx : signD b[k] = true) : (b.data.toList.take (k + 1)).all signD = true := by
  have hl : k < b.data.toList.length := by simpa using h
  rw [List.take_succ_eq_append_getElem hl, List.all_append, ha, list_at b k h]
  simp [hx]
theorem all_not (b : ByteArray) (k : Nat) (h : k < b.size) (hx : signD b[k] = false) : b.data.toList.all signD = false := by
  have hl : k < b.data.toList.length := by simpa using h
  rw [List.all_eq_false]
  exact ⟨b[k], by rw [← list_at b k h]; exact List.getElem_mem hl, by rw [hx]; simp⟩
set_option maxHeartbeats 1000000 in
theorem rright_loop (b : ByteArray) (n : Int) (w : World) (h1 : 1 ≤ b.size) (h2 : b.size ≤ 6) (h3 : 0 ≤ n) (h4 : n ≤ 15) :
    Calls Tryd.prog 14 #[.agg #[.string b, .int .i64 n]] w fun e w' => e = .returned (.bool (b.data.toList.all signD)) ∧ Below w.heap.size w w' := by
  obtain ⟨R, hR⟩ : ∃ R, R = b.data.toList.all signD := ⟨_, rfl⟩
  rw [← hR]
  have HR := Lib.hid hR
  clear hR
  go_enter Tryd.func14, Tryd.ntmps14
  go_wp2
  go_loopw [3] (fun i wx => ∃ k : Nat, k ≤ b.size ∧ i = .int .i64 k ∧ Hid ((b.data.toList.take k).all signD = true) ∧ wx = w.alloc (.cells #[.string b, .int .i64 n] 23)) (fun i _ => b.size - (intOf i).toNat)
  case atStart => exact ⟨0, by omega, rfl, Lib.hid (by simp), rfl⟩
  case round =>
    obtain ⟨k, hk, rfl, hall, rfl⟩ := hrel
    by_cases hlt : k < b.size
    · cases hs : signD b[k]
      · have HF := Lib.hid (all_not b k hlt hs)
        have hx : (b[k].toNat : Int) < 48 ∧ (b[k].toNat : Int) < 65 ∨ ((57 : Int) < b[k].toNat ∧ (b[k].toNat : Int) < 65) ∨ (90 : Int) < b[k].toNat ∧ (57 : Int) < b[k].toNat := by
          simp only [signD, Bool.or_eq_false_iff, Bool.and_eq_false_iff, decide_eq_false_iff_not] at hs
          omega
        clear hs hall
        rcases hx with ⟨hx, hx2⟩ | ⟨hx, hx2⟩ | ⟨hx, hx2⟩
        · go_wp2
          go_ret
          rw [show R = _ from HR.out.trans HF.out]
          exact ⟨rfl, (Below.refl _ w).alloc (Nat.le_refl _) _⟩
        · have d57 : decide ((b[k].toNat : Int) ≤ 57) = false := decide_eq_false (by omega)
          go_wp2
          go_ret
          rw [show R = _ from HR.out.trans HF.out]
          exact ⟨rfl, (Below.refl _ w).alloc (Nat.le_refl _) _⟩
        · have d57 : decide ((b[k].toNat : Int) ≤ 57) = false := decide_eq_false (by omega)
          have d90 : decide ((b[k].toNat : Int) ≤ 90) = false := decide_eq_false (by omega)
          go_wp2
          go_ret
          rw [show R = _ from HR.out.trans HF.out]
          exact ⟨rfl, (Below.refl _ w).alloc (Nat.le_refl _) _⟩
      · have HF := Lib.hid (all_next b k hlt hall.out hs)
        have hx : ((65 : Int) ≤ b[k].toNat ∧ (b[k].toNat : Int) ≤ 90) ∨ ((b[k].toNat : Int) < 65 ∧ (48 : Int) ≤ b[k].toNat ∧ (b[k].toNat : Int) ≤ 57) := by
          simp only [signD, Bool.or_eq_true, Bool.and_eq_true, decide_eq_true_eq] at hs
          omega
        clear hs hall
        rcases hx with ⟨hx, hx2⟩ | ⟨hx, hx2, hx3⟩
        · have d90 : decide ((b[k].toNat : Int) ≤ 90) = true := decide_eq_true (by omega)
          go_wp2
          go_roundw
          case rel => exact ⟨k + 1, by omega, by go_num, HF, by first | trivial | rfl⟩
          case measure => simp [intOf]; omega
        · have d57 : decide ((b[k].toNat : Int) ≤ 57) = true := decide_eq_true (by omega)
          go_wp2
          go_roundw
          case rel => exact ⟨k + 1, by omega, by go_num, HF, by first | trivial | rfl⟩
          case measure => simp [intOf]; omega
    · obtain rfl : k = b.size := by omega
      have HF := Lib.hid (show b.data.toList.all signD = true from by rw [List.take_of_length_le (by simp)] at hall; exact hall.out)
      clear hall
      go_wp2
      go_ret
      rw [show R = _ from HR.out.trans HF.out]
      exact ⟨rfl, (Below.refl _ w).alloc (Nat.le_refl _) _⟩
theorem rcright_any (b : ByteArray) (n : Int) (w : World) :
    Calls Tryd.prog 14 #[.agg #[.string b, .int .i64 n]] w fun e w' => e = .returned (.bool (rightD b n)) ∧ Below w.heap.size w w' := by
  by_cases h : b.size < 1 ∨ 6 < b.size ∨ n < 0 ∨ 15 < n
  · have e : rightD b n = false := by
      unfold rightD
      rw [Bool.and_eq_false_iff]
      left
      simp only [Bool.and_eq_false_iff, decide_eq_false_iff_not]
      omega
    rw [e]
    exact rright_bad b n w h
  · have e : rightD b n = b.data.toList.all signD := by
      unfold rightD
      rw [decide_eq_true (by omega), decide_eq_true (by omega), decide_eq_true (by omega), decide_eq_true (by omega)]
      simp
    rw [e]
    exact rright_loop b n w (by omega) (by omega) (by omega) (by omega)
end Go.Proofs.YtadhiknmkiogjaaDoor
namespace Go.Proofs.YtadhiknmkiogjaaDoor
open Go.RowKit
/-- a number's digits -/
def digD (n : Nat) : List UInt8 := if n < 10 then [UInt8.ofNat (48 + n)] else [UInt8.ofNat (48 + n / 10), UInt8.ofNat (48 + n % 10)]
end Go.Proofs.YtadhiknmkiogjaaDoor
namespace Go.Proofs.YtadhiknmkiogjaaDoor
open Go.RowKit Go.Sort
/-- a small letter as a great one -/
def upD (x : UInt8) : UInt8 := if 97 ≤ x.toNat ∧ x.toNat ≤ 122 then x - 32 else x
/-- the number below k whose digits are r, the last one: is there one, which -/
def fndD (r : List UInt8) : Nat → Bool × Nat
  | 0 => (false, 0)
  | k + 1 => if digD k = r then (true, k) else fndD r k
theorem fndD_le (r : List UInt8) (k : Nat) (h : k ≤ 16) : (fndD r k).2 ≤ 15 := by
  induction k with
  | zero => simp [fndD]
  | succ k ih =>
    unfold fndD
    split
    · show k ≤ 15; omega
    · exact ih (by omega)
/-- the call of a word: is there one, its letters, its number -/
def readD (s : List UInt8) : Bool × List UInt8 × Nat :=
  let p := (s.takeWhile (· ≠ 45)).map upD
  match s.dropWhile (· ≠ 45) with
  | [] => if rightD ⟨p.toArray⟩ 0 then (true, p, 0) else (false, [], 0)
  | _ :: r => if (fndD r 16).1 && rightD ⟨p.toArray⟩ ((fndD r 16).2 : Int) then (true, p, (fndD r 16).2) else (false, [], 0)
/-- as a value -/
def readV (x : Bool × List UInt8 × Nat) : Value := .tuple #[.agg #[.string ⟨x.2.1.toArray⟩, .int .i64 (x.2.2 : Int)], .bool x.1]
/-- one byte as a text -/
theorem conv1 (v : Int) (w : World) : (convert 93 9 (.slice (some ⟨w.heap.size, 0, none⟩) 1 1)).run Tryd.prog (w.alloc (.cells #[.int .u8 v] 5)) = .ok (.string ⟨#[UInt8.ofNat v.toNat]⟩) (w.alloc (.cells #[.int .u8 v] 5)) := by
  rw [run_convert_bytes_arg _ 93 5 Tryd.underlying93 Tryd.underlying5 w.heap.size 0 1 1 [v] rfl (fun i hi => by
    obtain rfl : i = 0 := by simpa using hi
    exact World.cell?_alloc_at _ _ _ _ (by simp)) 9 Tryd.underlying9]
  rfl
/-- two calls' cells: the answer's, still empty, and one that is made -/
def PAt (w W : World) (b : ByteArray) (n : Int) : Prop :=
  (W.cell? ⟨w.heap.size, 0, none⟩ = some (.string ⟨#[]⟩) ∧ W.cell? ⟨w.heap.size, 1, none⟩ = some (.int .i64 0)) ∧
  (W.cell? ⟨w.heap.size + 1, 0, none⟩ = some (.string b) ∧ W.cell? ⟨w.heap.size + 1, 1, none⟩ = some (.int .i64 n)) ∧
  ((∀ i, W.frozen? ⟨w.heap.size, i, none⟩ = false) ∧ ∀ i, W.frozen? ⟨w.heap.size + 1, i, none⟩ = false) ∧ Below w.heap.size w W ∧ w.heap.size + 1 < W.heap.size
theorem PAt.start (w : World) (n : Int) : PAt w ((w.alloc (.cells #[.string ⟨#[]⟩, .int .i64 0] 23)).alloc (.cells #[.string ⟨#[]⟩, .int .i64 n] 23)) ⟨#[]⟩ n := by
  refine ⟨⟨?_, ?_⟩, ⟨?_, ?_⟩, ⟨fun i => ?_, fun i => ?_⟩, ((Below.refl _ w).alloc (Nat.le_refl _) _).alloc (by simp) _, by simp⟩
  · exact (World.cell?_alloc_past _ _ _ (by simp)).trans (World.cell?_alloc_at _ _ _ _ rfl)
  · exact (World.cell?_alloc_past _ _ _ (by simp)).trans (World.cell?_alloc_at _ _ _ _ rfl)
  · exact World.cell?_alloc_at _ _ _ _ (by simp)
  · exact World.cell?_alloc_at _ _ _ _ (by simp)
  · exact (World.frozen?_alloc_past _ _ _ (by simp)).trans (World.frozen?_alloc_at _ _ _ _ rfl)
  · exact World.frozen?_alloc_at _ _ _ _ (by simp)
theorem PAt.below {w W W' : World} {b : ByteArray} {n : Int} (h : PAt w W b n) (hb : Below W.heap.size W W') : PAt w W' b n := by
  obtain ⟨⟨a0, a1⟩, ⟨c0, c1⟩, ⟨f, g⟩, hw, hs⟩ := h
  have k := fun (m i : Nat) (hm : m < W.heap.size) => hb.cell (p := ⟨m, i, none⟩) hm
  have q := fun (m i : Nat) (hm : m < W.heap.size) => hb.frozen (p := ⟨m, i, none⟩) hm
  exact ⟨⟨(k _ _ (by omega)).trans a0, (k _ _ (by omega)).trans a1⟩, ⟨(k _ _ hs).trans c0, (k _ _ hs).trans c1⟩, ⟨fun i => (q _ _ (by omega)).trans (f i), fun i => (q _ _ hs).trans (g i)⟩, hw.trans (hb.mono hw.size), Nat.lt_of_lt_of_le hs hb.size⟩
theorem PAt.base {w W : World} {b : ByteArray} {n : Int} (h : PAt w W b n) (b' : ByteArray) : PAt w (W.setCell ⟨w.heap.size + 1, 0, none⟩ (.string b')) b' n := by
  obtain ⟨⟨a0, a1⟩, ⟨c0, c1⟩, ⟨f, g⟩, hw, hs⟩ := h
  refine ⟨⟨?_, ?_⟩, ⟨set_here c0, ?_⟩, ⟨fun i => ?_, fun i => ?_⟩, hw.setCell (p := ⟨w.heap.size + 1, 0, none⟩) (by show w.heap.size ≤ w.heap.size + 1; omega) _, by simpa [World.setCell] using hs⟩
  · rw [set_block _ _ _ _ _ _ (by omega)]; exact a0
  · rw [set_block _ _ _ _ _ _ (by omega)]; exact a1
  · rw [set_off _ _ _ _ _ (by omega)]; exact c1
  · rw [World.frozen?_setCell]; exact f i
  · rw [World.frozen?_setCell]; exact g i
theorem PAt.num {w W : World} {b : ByteArray} {n : Int} (h : PAt w W b n) (n' : Int) : PAt w (W.setCell ⟨w.heap.size + 1, 1, none⟩ (.int .i64 n')) b n' := by
  obtain ⟨⟨a0, a1⟩, ⟨c0, c1⟩, ⟨f, g⟩, hw, hs⟩ := h
  refine ⟨⟨?_, ?_⟩, ⟨?_, set_here c1⟩, ⟨fun i => ?_, fun i => ?_⟩, hw.setCell (p := ⟨w.heap.size + 1, 1, none⟩) (by show w.heap.size ≤ w.heap.size + 1; omega) _, by simpa [World.setCell] using hs⟩
  · rw [set_block _ _ _ _ _ _ (by omega)]; exact a0
  · rw [set_block _ _ _ _ _ _ (by omega)]; exact a1
  · rw [set_off _ _ _ _ _ (by omega)]; exact c0
  · rw [World.frozen?_setCell]; exact f i
  · rw [World.frozen?_setCell]; exact g i
theorem PAt.drew {w W : World} {b : ByteArray} {n : Int} (h : PAt w W b n) : PAt w W.drew b n := ⟨h.1, h.2.1, h.2.2.1, h.2.2.2.1.drew, h.2.2.2.2⟩
theorem take_no (l : List UInt8) (h : ∀ x ∈ l, x ≠ 45) (r : List UInt8) : (l ++ r).takeWhile (· ≠ 45) = l ++ r.takeWhile (· ≠ 45) ∧ (l ++ r).dropWhile (· ≠ 45) = r.dropWhile (· ≠ 45) := by
  induction l with
  | nil => simp
  | cons c l ih =>
    have hc : c ≠ 45 := h c (by simp)
    obtain ⟨a, b⟩ := ih (fun x hx => h x (by simp [hx]))
    simp only [List.cons_append, List.takeWhile_cons, List.dropWhile_cons, ne_eq, hc, not_false_eq_true, decide_true, if_true] at a b ⊢
    exact ⟨by rw [a], b⟩
theorem read_end (l : List UInt8) (h : ∀ x ∈ l, x ≠ 45) : readD l = if rightD ⟨(l.map upD).toArray⟩ 0 then (true, l.map upD, 0) else (false, [], 0) := by
  obtain ⟨a, b⟩ := take_no l h []
  rw [List.append_nil] at a b
  unfold readD
  rw [a, b]
  simp
theorem read_dash (l r : List UInt8) (h : ∀ x ∈ l, x ≠ 45) : readD (l ++ 45 :: r) = if (fndD r 16).1 && rightD ⟨(l.map upD).toArray⟩ ((fndD r 16).2 : Int) then (true, l.map upD, (fndD r 16).2) else (false, [], 0) := by
  obtain ⟨a, b⟩ := take_no l h (45 :: r)
  unfold readD
  rw [a, b]
  simp
end Go.Proofs.YtadhiknmkiogjaaDoor
namespace Go.Proofs.YtadhiknmkiogjaaDoor
open Go.RowKit Go.Sort
/-- seven bytes that lie in a block, and may be written -/
def B7 (W : World) (m : Nat) (f : Nat → Int) : Prop := (∀ j, j < 7 → W.cell? ⟨m, j, none⟩ = some (.int .u8 (f j))) ∧ ∀ j, W.frozen? ⟨m, j, none⟩ = false
theorem B7.set {W : World} {m : Nat} {f : Nat → Int} (h : B7 W m f) (i : Nat) (hi : i < 7) (v : Int) : B7 (W.setCell ⟨m, i, none⟩ (.int .u8 v)) m (fun j => if j = i then v else f j) := by
  refine ⟨fun j hj => ?_, fun j => by rw [World.frozen?_setCell]; exact h.2 j⟩
  by_cases e : j = i
  · subst e
    simp only [if_true]
    exact set_here (h.1 j hj)
  · simp only [if_neg e]
    rw [set_off _ _ _ _ _ (Ne.symm e)]
    exact h.1 j hj
theorem B7.conv {W : World} {m : Nat} {f : Nat → Int} (h : B7 W m f) : (convert 93 9 (.slice (some ⟨m, 0, none⟩) 7 7)).run Tryd.prog W = .ok (.string ⟨((List.range 7).map fun j => UInt8.ofNat (f j).toNat).toArray⟩) W := by
  rw [run_convert_bytes_arg _ 93 5 Tryd.underlying93 Tryd.underlying5 m 0 7 7 [f 0, f 1, f 2, f 3, f 4, f 5, f 6] rfl (fun i hi => by
    rw [Nat.zero_add, h.1 i hi]
    obtain rfl | rfl | rfl | rfl | rfl | rfl | rfl : i = 0 ∨ i = 1 ∨ i = 2 ∨ i = 3 ∨ i = 4 ∨ i = 5 ∨ i = 6 := by omega
    all_goals rfl) 9 Tryd.underlying9]
  rfl
/-- the bytes of a call while its first k letters stand -/
def putF (b : List UInt8) (n k : Nat) (j : Nat) : Int := if j = 6 then 96 + 2 * (n : Int) else if j < k then 2 * ((b.getD j 0).toNat : Int) else 64
/-- what the marks add -/
def mkD (mk la : Bool) : Int := (if mk then 128 else 0) + (if la then 1 else 0)
/-- a call's bytes -/
def putD (b : List UInt8) (n : Nat) (mk la : Bool) : List UInt8 := (List.range 7).map fun j => UInt8.ofNat (if j = 6 then 96 + 2 * (n : Int) + mkD mk la else putF b n b.length j).toNat
/-- a call's cells and its bytes -/
def QAt (w W : World) (b : ByteArray) (n : Nat) (k : Nat) : Prop := (W.cell? ⟨w.heap.size, 0, none⟩ = some (.string b) ∧ W.cell? ⟨w.heap.size, 1, none⟩ = some (.int .i64 (n : Int))) ∧ B7 W (w.heap.size + 1) (putF b.data.toList n k) ∧ Below w.heap.size w W
theorem QAt.start (w : World) (b : ByteArray) (n : Nat) : QAt w ((w.alloc (.cells #[.string b, .int .i64 (n : Int)] 23)).alloc (.cells #[.int .u8 64, .int .u8 64, .int .u8 64, .int .u8 64, .int .u8 64, .int .u8 64, .int .u8 (96 + 2 * (n : Int))] 5)) b n 0 := by
  refine ⟨⟨(World.cell?_alloc_past _ _ _ (by simp)).trans (World.cell?_alloc_at _ _ _ _ rfl), (World.cell?_alloc_past _ _ _ (by simp)).trans (World.cell?_alloc_at _ _ _ _ rfl)⟩, ⟨fun j hj => ?_, fun j => World.frozen?_alloc_at _ _ _ _ (by simp)⟩, ((Below.refl _ w).alloc (Nat.le_refl _) _).alloc (by simp) _⟩
  refine (World.cell?_alloc_at _ _ _ _ (by simp)).trans ?_
  obtain rfl | rfl | rfl | rfl | rfl | rfl | rfl : j = 0 ∨ j = 1 ∨ j = 2 ∨ j = 3 ∨ j = 4 ∨ j = 5 ∨ j = 6 := by omega
  all_goals rfl
theorem QAt.next {w W : World} {b : ByteArray} {n k : Nat} (h : QAt w W b n k) (hk : k < b.size) (hb : b.size ≤ 6) : QAt w (W.setCell ⟨w.heap.size + 1, k, none⟩ (.int .u8 (2 * (b[k].toNat : Int)))) b n (k + 1) := by
  obtain ⟨⟨a0, a1⟩, hB, hw⟩ := h
  refine ⟨⟨?_, ?_⟩, ?_, hw.setCell (p := ⟨w.heap.size + 1, k, none⟩) (by show w.heap.size ≤ w.heap.size + 1; omega) _⟩
  · rw [set_block _ _ _ _ _ _ (by omega)]; exact a0
  · rw [set_block _ _ _ _ _ _ (by omega)]; exact a1
  · have e : (fun j => if j = k then 2 * (b[k].toNat : Int) else putF b.data.toList n k j) = putF b.data.toList n (k + 1) := by
      funext j
      by_cases e : j = k
      · subst e
        have hl : j < b.data.toList.length := by simpa using hk
        rw [if_pos rfl]
        unfold putF
        rw [if_neg (by omega), if_pos (by omega), List.getD_eq_getElem?_getD, List.getElem?_eq_getElem hl, list_at b j hk]
        rfl
      · rw [if_neg e]
        unfold putF
        by_cases h6 : j = 6
        · rw [if_pos h6, if_pos h6]
        · rw [if_neg h6, if_neg h6]
          by_cases hjk : j < k
          · rw [if_pos hjk, if_pos (by omega)]
          · rw [if_neg hjk, if_neg (by omega)]
    rw [← e]
    exact hB.set k (by omega) _
set_option maxHeartbeats 1000000 in
theorem rput_any (b : ByteArray) (n : Nat) (mk la : Bool) (w : World) (hb : b.size ≤ 6) (hn : n ≤ 15) (hs : ∀ i (h : i < b.size), b[i].toNat < 128) :
    Calls Tryd.prog 57 #[.agg #[.string b, .int .i64 (n : Int)], .bool mk, .bool la] w fun e w' => e = .returned (.string ⟨(putD b.data.toList n mk la).toArray⟩) ∧ Below w.heap.size w w' := by
  have HQ := Lib.hid (QAt.start w b n)
  obtain ⟨R, hR⟩ : ∃ R : ByteArray, R = ⟨(putD b.data.toList n mk la).toArray⟩ := ⟨_, rfl⟩
  rw [← hR]
  have HR := Lib.hid hR
  have HS := Lib.hid hs
  clear hR hs
  go_enter Tryd.func57, Tryd.ntmps57
  go_wp2
  go_loopw [8] (fun i wx => ∃ k : Nat, k ≤ b.size ∧ i = .int .i64 k ∧ Hid (QAt w wx b n k)) (fun i _ => b.size - (intOf i).toNat)
  case atStart => exact ⟨0, by omega, rfl, HQ.out⟩
  case round =>
    obtain ⟨k, hk, rfl, HK⟩ := hrel
    clear HQ
    obtain ⟨⟨a0, a1⟩, hB, hbw⟩ := HK.out
    by_cases hlt : k < b.size
    · have hkc := hB.1 k (by omega)
      have hkf := hB.2 k
      have hlim := HS.out k hlt
      have HN := Lib.hid (HK.out.next hlt hb)
      clear hB HK
      go_wp2
      go_roundw
      case rel => exact ⟨k + 1, by omega, by go_num, HN.out⟩
      case measure => simp [intOf]; omega
    · obtain rfl : k = b.size := by omega
      have c6 : wr.cell? ⟨w.heap.size + 1, 6, none⟩ = some (.int .u8 (96 + 2 * (n : Int))) := hB.1 6 (by omega)
      have f6 := hB.2 6
      have HB := Lib.hid hB
      clear hB HK
      have key : ∀ (f : Nat → Int), (∀ j, j < 7 → f j = if j = 6 then 96 + 2 * (n : Int) + mkD mk la else putF b.data.toList n b.size j) → (⟨((List.range 7).map fun j => UInt8.ofNat (f j).toNat).toArray⟩ : ByteArray) = R := fun f hf => by
        rw [HR.out]
        unfold putD
        congr 2
        apply List.map_congr_left
        intro j hj
        rw [hf j (List.mem_range.1 hj), show b.data.toList.length = b.size by simp]
      have KEY := Lib.hid key
      clear key HR
      cases mk
      · cases la
        · have hcv := HB.out.conv
          rw [KEY.out _ (fun j hj => by by_cases e : j = 6 <;> simp [e, mkD, putF])] at hcv
          go_wp2
          go_ret
          exact ⟨rfl, hbw⟩
        · have hcv := (HB.out.set 6 (by omega) (96 + 2 * (n : Int) + 1)).conv
          rw [KEY.out _ (fun j hj => by by_cases e : j = 6 <;> simp [e, mkD, putF])] at hcv
          go_wp2
          go_ret
          exact ⟨rfl, hbw.setCell (p := ⟨w.heap.size + 1, 6, none⟩) (by show w.heap.size ≤ w.heap.size + 1; omega) _⟩
      · cases la
        · have hcv := (HB.out.set 6 (by omega) (96 + 2 * (n : Int) + 128)).conv
          rw [KEY.out _ (fun j hj => by by_cases e : j = 6 <;> simp [e, mkD, putF])] at hcv
          go_wp2
          go_ret
          exact ⟨rfl, hbw.setCell (p := ⟨w.heap.size + 1, 6, none⟩) (by show w.heap.size ≤ w.heap.size + 1; omega) _⟩
        · have hcv := ((HB.out.set 6 (by omega) (96 + 2 * (n : Int) + 128)).set 6 (by omega) (96 + 2 * (n : Int) + 128 + 1)).conv
          rw [KEY.out _ (fun j hj => by by_cases e : j = 6 <;> simp [e, mkD, putF] <;> omega)] at hcv
          go_wp2
          go_ret
          exact ⟨rfl, (hbw.setCell (p := ⟨w.heap.size + 1, 6, none⟩) (by show w.heap.size ≤ w.heap.size + 1; omega) _).setCell (p := ⟨w.heap.size + 1, 6, none⟩) (by show w.heap.size ≤ w.heap.size + 1; omega) _⟩
end Go.Proofs.YtadhiknmkiogjaaDoor
namespace Go.Proofs.YtadhiknmkiogjaaDoor
open Go.RowKit Go.Sort
theorem rget_size (s : ByteArray) (w : World) (h : s.size ≠ 7) :
    Calls Tryd.prog 61 #[.string s] w fun e w' => e = .returned (.tuple #[.agg #[.string ⟨#[]⟩, .int .i64 0], .bool false, .bool false, .bool false]) ∧ Below w.heap.size w w' := by
  have h7 : ((s.size : Int) != 7) = true := by rw [bne_iff_ne]; omega
  go_enter Tryd.func61, Tryd.ntmps61
  go_wp2
  exact bodyPost_ret (v := .tuple #[.agg #[.string ⟨#[]⟩, .int .i64 0], .bool false, .bool false, .bool false]) (by simp [results, Tryd.results61, go_sem]) rfl ⟨rfl, (Below.refl _ w).alloc (Nat.le_refl _) _⟩
/-- the letters of the first k bytes -/
def gotD (s : List UInt8) (k : Nat) : List UInt8 := ((s.take k).filter (· ≠ 64)).map fun x => x / 2
theorem gotD_skip (s : ByteArray) (k : Nat) (h : k < s.size) (he : s[k].toNat = 64) : gotD s.data.toList (k + 1) = gotD s.data.toList k := by
  have hl : k < s.data.toList.length := by simpa using h
  have e : s[k] = 64 := UInt8.toNat_inj.1 (by rw [he]; rfl)
  unfold gotD
  rw [List.take_succ_eq_append_getElem hl, List.filter_append, list_at s k h, e]
  simp
theorem gotD_more (s : ByteArray) (k : Nat) (h : k < s.size) (he : s[k].toNat ≠ 64) : gotD s.data.toList (k + 1) = gotD s.data.toList k ++ [s[k] / 2] := by
  have hl : k < s.data.toList.length := by simpa using h
  have e : s[k] ≠ 64 := fun e => he (by rw [e]; rfl)
  unfold gotD
  rw [List.take_succ_eq_append_getElem hl, List.filter_append, list_at s k h]
  simp [e]
theorem gotD_len (s : List UInt8) (k : Nat) : (gotD s k).length ≤ k := by
  unfold gotD
  rw [List.length_map]
  exact Nat.le_trans (List.length_filter_le _ _) (List.length_take_le _ _)
/-- the call of seven bytes: is there one, its letters, its number, its marks -/
def getD7 (s : List UInt8) : Bool × List UInt8 × Nat × Bool × Bool :=
  if s.length = 7 ∧ rightD ⟨(gotD s 6).toArray⟩ (((s.getD 6 0).toNat / 2 % 16 : Nat) : Int) = true ∧ putD (gotD s 6) ((s.getD 6 0).toNat / 2 % 16) (decide ((128 : Int) ≤ ((s.getD 6 0).toNat : Int))) (((s.getD 6 0).toNat : Int) % 2 == 1) = s then (true, gotD s 6, (s.getD 6 0).toNat / 2 % 16, decide ((128 : Int) ≤ ((s.getD 6 0).toNat : Int)), ((s.getD 6 0).toNat : Int) % 2 == 1) else (false, [], 0, false, false)
/-- as a value -/
def getV (x : Bool × List UInt8 × Nat × Bool × Bool) : Value := .tuple #[.agg #[.string ⟨x.2.1.toArray⟩, .int .i64 (x.2.2.1 : Int)], .bool x.2.2.2.1, .bool x.2.2.2.2, .bool x.1]
theorem right_bytes (b : ByteArray) (n : Int) (h : rightD b n = true) : b.size ≤ 6 ∧ n ≤ 15 ∧ ∀ i (h : i < b.size), b[i].toNat < 128 := by
  simp only [rightD, Bool.and_eq_true, decide_eq_true_eq] at h
  obtain ⟨⟨⟨⟨_, h2⟩, _⟩, h4⟩, h5⟩ := h
  refine ⟨h2, h4, fun i hi => ?_⟩
  have hl : i < b.data.toList.length := by simpa using hi
  have hx := List.all_eq_true.1 h5 b[i] (by rw [← list_at b i hi]; exact List.getElem_mem hl)
  simp only [signD, Bool.or_eq_true, Bool.and_eq_true, decide_eq_true_eq] at hx
  omega
set_option maxHeartbeats 1000000 in
set_option maxRecDepth 20000 in
theorem rget_seven (s : ByteArray) (w : World) (h : s.size = 7) :
    Calls Tryd.prog 61 #[.string s] w fun e w' => e = .returned (getV (getD7 s.data.toList)) ∧ Below w.heap.size w w' := by
  have h7 : ((s.size : Int) != 7) = false := by rw [h]; rfl
  have hx6 : s[6].toNat < 256 := blt' _
  have HP0 := Lib.hid (PAt.start w ((s[6].toNat : Int) / 2 % 16))
  go_enter Tryd.func61, Tryd.ntmps61
  go_wp2
  go_loopw [7] (fun i wx => ∃ k : Nat, k ≤ 6 ∧ i = .int .i64 k ∧ Hid (PAt w wx ⟨(gotD s.data.toList k).toArray⟩ ((s[6].toNat : Int) / 2 % 16))) (fun i _ => 6 - (intOf i).toNat)
  case atStart => exact ⟨0, by omega, rfl, HP0.out⟩
  case round =>
    obtain ⟨k, hk, rfl, HPA⟩ := hrel
    clear HP0
    obtain ⟨B, hB⟩ : ∃ B : ByteArray, B = ⟨(gotD s.data.toList k).toArray⟩ := ⟨_, rfl⟩
    rw [← hB] at HPA
    have HBS := Lib.hid (show B.size ≤ 6 from by
      rw [hB]
      show (gotD s.data.toList k).toArray.size ≤ 6
      have := gotD_len s.data.toList k
      simp
      omega)
    obtain ⟨⟨a0, a1⟩, ⟨c0, c1⟩, ⟨f0, f1⟩, hbw, hsz⟩ := HPA.out
    have hsz0 : w.heap.size < wr.heap.size := by omega
    by_cases hlt : k < 6
    · have hks : k < s.size := by omega
      have hx256 : s[k].toNat < 256 := blt' _
      by_cases h64 : s[k].toNat = 64
      · have hne : ((s[k].toNat : Int) != 64) = false := by rw [h64]; rfl
        have HN := Lib.hid (gotD_skip s k hks h64)
        have HBB := Lib.hid hB
        clear h64 hB
        go_wp2
        go_roundw
        case rel => exact ⟨k + 1, by omega, by go_num, by rw [HN.out, ← HBB.out]; exact HPA.out⟩
        case measure => simp [intOf]; omega
      · have hne : ((s[k].toNat : Int) != 64) = true := by rw [bne_iff_ne]; omega
        have hnx : (⟨(gotD s.data.toList (k + 1)).toArray⟩ : ByteArray) = B ++ ⟨#[s[k] / 2]⟩ := by
          rw [gotD_more s k hks h64, hB]
          exact bytes_ext' (by simp [ByteArray.data_append])
        have HN := Lib.hid hnx
        have hu : UInt8.ofNat ((s[k].toNat : Int) / 2).toNat = s[k] / 2 := UInt8.toNat_inj.1 (by
          rw [UInt8.toNat_ofNat', UInt8.toNat_div]
          show ((s[k].toNat : Int) / 2).toNat % 256 = s[k].toNat / 2
          omega)
        have hcv := show (convert 93 9 (.slice (some ⟨wr.heap.size, 0, none⟩) 1 1)).run Tryd.prog ((wr.alloc (.cells #[.int .u8 ((s[k].toNat : Int) / 2)] 5)).drew) = .ok (.string ⟨#[UInt8.ofNat ((s[k].toNat : Int) / 2).toNat]⟩) ((wr.alloc (.cells #[.int .u8 ((s[k].toNat : Int) / 2)] 5)).drew) from conv1 ((s[k].toNat : Int) / 2) wr.drew
        rw [hu] at hcv
        have hcat := fun (u : UInt8) (W : World) => run_string_add_sum (P := Tryd.prog) (w := W) B ⟨#[u]⟩ (by have := HBS.out; show B.size + 1 ≤ _; omega)
        clear h64 hB hnx hu
        go_wp2
        go_region
        go_wp2
        go_roundw
        case rel => exact ⟨k + 1, by omega, by go_num, by rw [HN.out]; exact ((HPA.out.base _).below ((Below.refl _ _).alloc (Nat.le_refl _) _)).drew⟩
        case measure => simp [intOf]; omega
    · obtain rfl : k = 6 := by omega
      have hl7 : s.data.toList.length = 7 := by simpa using h
      have hg6 : s.data.toList.getD 6 0 = s[6] := by
        rw [List.getD_eq_getElem?_getD, List.getElem?_eq_getElem (by omega), list_at s 6 (by omega)]; rfl
      have hgd : getD7 s.data.toList = if rightD B ((s[6].toNat / 2 % 16 : Nat) : Int) = true ∧ putD (gotD s.data.toList 6) (s[6].toNat / 2 % 16) (decide ((128 : Int) ≤ (s[6].toNat : Int))) ((s[6].toNat : Int) % 2 == 1) = s.data.toList then (true, gotD s.data.toList 6, s[6].toNat / 2 % 16, decide ((128 : Int) ≤ (s[6].toNat : Int)), (s[6].toNat : Int) % 2 == 1) else (false, [], 0, false, false) := by
        unfold getD7
        rw [hg6, hl7, ← hB]
        simp
      have HGD := Lib.hid hgd
      have HRT := Lib.hid (fun W => rcright_any B ((s[6].toNat : Int) / 2 % 16) W)
      have hN : ((s[6].toNat / 2 % 16 : Nat) : Int) = (s[6].toNat : Int) / 2 % 16 := by omega
      have HNN := Lib.hid hN
      have HBB := Lib.hid hB
      clear hgd hg6 hl7
      cases hrt : rightD B ((s[6].toNat : Int) / 2 % 16)
      · rw [hrt] at HRT
        have hd : getD7 s.data.toList = (false, [], 0, false, false) := by rw [HGD.out, HNN.out, hrt]; simp
        clear hrt hN hB
        go_wp2
        go_region
        have HPA := Lib.hid HPA.out.drew
        generalize wr.drew = wq at *
        clear a0 a1 c0 c1 f0 f1 hbw hsz
        obtain ⟨⟨a0, a1⟩, ⟨c0, c1⟩, ⟨f0, f1⟩, hbw, hsz⟩ := HPA.out
        go_wp2_with (go_at_call 14; ((with_reducible refine (HRT.out _).mono ?_); rintro e w5 ⟨rfl, hb⟩; replace HPA := Lib.hid (HPA.out.below hb); clear hb; obtain ⟨⟨a0, a1⟩, ⟨c0, c1⟩, ⟨f0, f1⟩, hbw, hsz⟩ := HPA.out))
        obtain ⟨q0, q1⟩ := stored2 (.string ⟨#[]⟩) (.int .i64 0) a0 a1
        exact bodyPost_ret (v := .tuple #[.agg #[.string ⟨#[]⟩, .int .i64 0], .bool false, .bool false, .bool false]) (by simp [results, Tryd.results61, go_sem, q0, q1]) rfl ⟨by rw [hd]; rfl, set2_below hbw (Nat.le_refl _) _ _⟩
      · rw [hrt] at HRT
        obtain ⟨hb6, hn15, hlim⟩ := right_bytes B _ hrt
        have HPT0 := fun W => rput_any B (s[6].toNat / 2 % 16) (decide ((128 : Int) ≤ (s[6].toNat : Int))) ((s[6].toNat : Int) % 2 == 1) W hb6 (by omega) hlim
        obtain ⟨T, hT⟩ : ∃ T : ByteArray, T = ⟨(putD B.data.toList (s[6].toNat / 2 % 16) (decide ((128 : Int) ≤ (s[6].toNat : Int))) ((s[6].toNat : Int) % 2 == 1)).toArray⟩ := ⟨_, rfl⟩
        rw [← hT, hN] at HPT0
        have HPT := Lib.hid HPT0
        have hbl : B.data.toList = gotD s.data.toList 6 := by rw [hB]
        by_cases hts : T = s
        · have hte : (T.toList == s.toList) = true := by rw [hts]; exact beq_self_eq_true _
          have hd : getD7 s.data.toList = (true, gotD s.data.toList 6, s[6].toNat / 2 % 16, decide ((128 : Int) ≤ (s[6].toNat : Int)), (s[6].toNat : Int) % 2 == 1) := by
            rw [HGD.out, HNN.out, hrt, if_pos ⟨rfl, by rw [← hbl]; exact (congrArg (fun z : ByteArray => z.data.toList) hT).symm.trans (congrArg (fun z : ByteArray => z.data.toList) hts)⟩]
          have HD := Lib.hid hd
          clear hrt hN hB hT hts HPT0 hd hbl hlim
          go_wp2
          go_region
          have HPA := Lib.hid HPA.out.drew
          generalize wr.drew = wq at *
          clear a0 a1 c0 c1 f0 f1 hbw hsz
          obtain ⟨⟨a0, a1⟩, ⟨c0, c1⟩, ⟨f0, f1⟩, hbw, hsz⟩ := HPA.out
          go_wp2_with (first
            | (go_at_call 14; ((with_reducible refine (HRT.out _).mono ?_); rintro e w5 ⟨rfl, hb⟩; replace HPA := Lib.hid (HPA.out.below hb); clear hb; obtain ⟨⟨a0, a1⟩, ⟨c0, c1⟩, ⟨f0, f1⟩, hbw, hsz⟩ := HPA.out))
            | (go_at_call 57; ((with_reducible refine (HPT.out _).mono ?_); rintro e w6 ⟨rfl, hb⟩; replace HPA := Lib.hid (HPA.out.below hb); clear hb; obtain ⟨⟨a0, a1⟩, ⟨c0, c1⟩, ⟨f0, f1⟩, hbw, hsz⟩ := HPA.out)))
          obtain ⟨q0, q1⟩ := stored2 (.string B) (.int .i64 ((s[6].toNat : Int) / 2 % 16)) a0 a1
          exact bodyPost_ret (v := .tuple #[.agg #[.string B, .int .i64 ((s[6].toNat : Int) / 2 % 16)], .bool (decide ((128 : Int) ≤ (s[6].toNat : Int))), .bool ((s[6].toNat : Int) % 2 == 1), .bool true]) (by simp [results, Tryd.results61, go_sem, q0, q1]) rfl ⟨by rw [HD.out, HBB.out, ← HNN.out]; rfl, set2_below hbw (Nat.le_refl _) _ _⟩
        · have hte : (T.toList == s.toList) = false := by
            rw [beq_eq_false_iff_ne, ByteArray.toList_eq, ByteArray.toList_eq]
            intro e; exact hts (bytes_ext' e)
          have hd : getD7 s.data.toList = (false, [], 0, false, false) := by
            rw [HGD.out, if_neg]
            rintro ⟨_, e⟩
            exact hts (by rw [hT]; exact bytes_ext' (by rw [hbl]; exact e))
          have HD := Lib.hid hd
          clear hrt hN hB hT hts HPT0 hd hbl hlim
          go_wp2
          go_region
          have HPA := Lib.hid HPA.out.drew
          generalize wr.drew = wq at *
          clear a0 a1 c0 c1 f0 f1 hbw hsz
          obtain ⟨⟨a0, a1⟩, ⟨c0, c1⟩, ⟨f0, f1⟩, hbw, hsz⟩ := HPA.out
          go_wp2_with (first
            | (go_at_call 14; ((with_reducible refine (HRT.out _).mono ?_); rintro e w5 ⟨rfl, hb⟩; replace HPA := Lib.hid (HPA.out.below hb); clear hb; obtain ⟨⟨a0, a1⟩, ⟨c0, c1⟩, ⟨f0, f1⟩, hbw, hsz⟩ := HPA.out))
            | (go_at_call 57; ((with_reducible refine (HPT.out _).mono ?_); rintro e w6 ⟨rfl, hb⟩; replace HPA := Lib.hid (HPA.out.below hb); clear hb; obtain ⟨⟨a0, a1⟩, ⟨c0, c1⟩, ⟨f0, f1⟩, hbw, hsz⟩ := HPA.out)))
          obtain ⟨q0, q1⟩ := stored2 (.string ⟨#[]⟩) (.int .i64 0) a0 a1
          exact bodyPost_ret (v := .tuple #[.agg #[.string ⟨#[]⟩, .int .i64 0], .bool false, .bool false, .bool false]) (by simp [results, Tryd.results61, go_sem, q0, q1]) rfl ⟨by rw [HD.out]; rfl, set2_below hbw (Nat.le_refl _) _ _⟩
/-- the document's Get: of any bytes -/
theorem rget_any (s : ByteArray) (w : World) :
    Calls Tryd.prog 61 #[.string s] w fun e w' => e = .returned (getV (getD7 s.data.toList)) ∧ Below w.heap.size w w' := by
  by_cases h : s.size = 7
  · exact rget_seven s w h
  · have hd : getD7 s.data.toList = (false, [], 0, false, false) := by
      unfold getD7
      rw [if_neg]
      rintro ⟨e, _⟩
      exact h (by simpa using e)
    rw [hd]
    exact rget_size s w h
end Go.Proofs.YtadhiknmkiogjaaDoor
namespace Go.Proofs.YtadhiknmkiogjaaDoor
open Go.RowKit Go.Sort
/-- what Parse answers -/
def readE (x : Bool × List UInt8 × Nat) : Value := .tuple #[.agg #[.string ⟨x.2.1.toArray⟩, .int .i64 (x.2.2 : Int)], .int .i64 (if x.1 then 0 else 12)]
/-- what Put answers -/
def putE (b : ByteArray) (n : Int) (mk la : Bool) : Value := if rightD b n then .tuple #[.string ⟨(putD b.data.toList n.toNat mk la).toArray⟩, .int .i64 0] else .tuple #[.string ⟨#[]⟩, .int .i64 12]
/-- what Get answers -/
def getE (s : List UInt8) : Value := .tuple #[.agg #[.string ⟨(getD7 s).2.1.toArray⟩, .int .i64 ((getD7 s).2.2.1 : Int)], .bool (getD7 s).2.2.2.1, .bool (getD7 s).2.2.2.2, .int .i64 (if (getD7 s).1 then 0 else if s.length < 7 then 4 else if 7 < s.length then 5 else 2)]
/-- a call's word -/
def textD (b : List UInt8) (n : Int) : List UInt8 := if n = 0 then b else b ++ 45 :: digD n.toNat
def CRightOk : Prop := ∀ (b : ByteArray) (n : Int) w, b.size ≤ 300 → Calls Tryd.prog 26 #[.agg #[.string b, .int .i64 n]] w fun e w' => e = .returned (.bool (rightD b n)) ∧ Below w.heap.size w w'
def CPutOk : Prop := ∀ (b : ByteArray) (n : Int) mk la w, b.size ≤ 300 → Calls Tryd.prog 52 #[.agg #[.string b, .int .i64 n], .bool mk, .bool la] w fun e w' => e = .returned (putE b n mk la) ∧ Below w.heap.size w w'
def CGetOk : Prop := ∀ (s : ByteArray) w, s.size ≤ 300 → Calls Tryd.prog 66 #[.string s] w fun e w' => e = .returned (getE s.data.toList) ∧ Below w.heap.size w w'
end Go.Proofs.YtadhiknmkiogjaaDoor
namespace Go.Proofs.YtadhiknmkiogjaaDoor
open Go.RowKit Go.Sort
set_option maxRecDepth 20000
theorem letter_any (x : UInt8) (w : World) : Calls Tryd.prog 46 #[.int .u8 (x.toNat : Int)] w fun e w' => e = .returned (.bool (signD x)) ∧ w' = w := by
  obtain ⟨R, hR⟩ : ∃ R, R = signD x := ⟨_, rfl⟩
  rw [← hR]
  have hv := x.toNat_lt
  have h : R = ((decide ((65 : Int) ≤ (x.toNat : Int)) && decide ((x.toNat : Int) ≤ 90)) || (decide ((48 : Int) ≤ (x.toNat : Int)) && decide ((x.toNat : Int) ≤ 57))) := by
    rw [hR]
    unfold signD
    congr 2 <;> apply decide_eq_decide.2 <;> omega
  clear hR
  by_cases h65 : (65 : Int) ≤ (x.toNat : Int)
  · by_cases h90 : (x.toNat : Int) ≤ 90
    · have d65 : decide ((65 : Int) ≤ (x.toNat : Int)) = true := decide_eq_true h65
      have d90 : decide ((x.toNat : Int) ≤ 90) = true := decide_eq_true h90
      have hr : R = true := by rw [h, d65, d90]; rfl
      subst hr
      clear h
      go_enter Tryd.func46, Tryd.ntmps46
      go_wp2
      go_ret
      exact ⟨rfl, rfl⟩
    · have d65 : decide ((65 : Int) ≤ (x.toNat : Int)) = true := decide_eq_true h65
      have d90 : decide ((x.toNat : Int) ≤ 90) = false := decide_eq_false h90
      have d48 : decide ((48 : Int) ≤ (x.toNat : Int)) = true := decide_eq_true (by omega)
      have d57 : decide ((x.toNat : Int) ≤ 57) = false := decide_eq_false (by omega)
      have hr : R = false := by rw [h, d65, d90, d48, d57]; rfl
      subst hr
      clear h
      go_enter Tryd.func46, Tryd.ntmps46
      go_wp2
      go_ret
      exact ⟨rfl, rfl⟩
  · have d65 : decide ((65 : Int) ≤ (x.toNat : Int)) = false := decide_eq_false h65
    by_cases h48 : (48 : Int) ≤ (x.toNat : Int)
    · have d48 : decide ((48 : Int) ≤ (x.toNat : Int)) = true := decide_eq_true h48
      by_cases h57 : (x.toNat : Int) ≤ 57
      · have d57 : decide ((x.toNat : Int) ≤ 57) = true := decide_eq_true h57
        have hr : R = true := by rw [h, d65, d48, d57]; simp
        subst hr
        clear h
        go_enter Tryd.func46, Tryd.ntmps46
        go_wp2
        go_ret
        exact ⟨rfl, rfl⟩
      · have d57 : decide ((x.toNat : Int) ≤ 57) = false := decide_eq_false h57
        have hr : R = false := by rw [h, d65, d48, d57]; simp
        subst hr
        clear h
        go_enter Tryd.func46, Tryd.ntmps46
        go_wp2
        go_ret
        exact ⟨rfl, rfl⟩
    · have d48 : decide ((48 : Int) ≤ (x.toNat : Int)) = false := decide_eq_false h48
      have hr : R = false := by rw [h, d65, d48]; simp
      subst hr
      clear h
      go_enter Tryd.func46, Tryd.ntmps46
      go_wp2
      go_ret
      exact ⟨rfl, rfl⟩
theorem not_empty (b : ByteArray) (h : 1 ≤ b.size) : b.toList.isEmpty = false := by
  rw [List.isEmpty_eq_false_iff, Lib.toList_data]
  intro e
  have h3 : b.data.toList.length = b.size := by simp
  rw [e, List.length_nil] at h3
  omega
theorem cright_bad (b : ByteArray) (n : Int) (w : World) (h : b.size < 1 ∨ 6 < b.size ∨ n < 0 ∨ 15 < n) :
    Calls Tryd.prog 26 #[.agg #[.string b, .int .i64 n]] w fun e w' => e = .returned (.bool false) ∧ Below w.heap.size w w' := by
  by_cases h1 : b.size < 1
  · have hb : b = ⟨#[]⟩ := ByteArray.ext (Array.eq_empty_of_size_eq_zero (by show b.size = 0; omega))
    subst hb
    clear h h1
    go_enter Tryd.func26, Tryd.ntmps26
    go_wp2
    go_ret
    exact ⟨rfl, (Below.refl _ w).alloc (Nat.le_refl _) _⟩
  have he : b.toList.isEmpty = false := not_empty b (by omega)
  by_cases h2 : 6 < b.size
  · have d6 : decide ((6 : Int) < (b.size : Int)) = true := decide_eq_true (by omega)
    clear h
    go_enter Tryd.func26, Tryd.ntmps26
    go_wp2
    go_ret
    exact ⟨rfl, (Below.refl _ w).alloc (Nat.le_refl _) _⟩
  have d6 : decide ((6 : Int) < (b.size : Int)) = false := decide_eq_false (by omega)
  by_cases h3 : n < 0
  · have d0 : decide (n < 0) = true := decide_eq_true h3
    clear h
    go_enter Tryd.func26, Tryd.ntmps26
    go_wp2
    go_ret
    exact ⟨rfl, (Below.refl _ w).alloc (Nat.le_refl _) _⟩
  have d0 : decide (n < 0) = false := decide_eq_false h3
  have h4 : 15 < n := by omega
  have d15 : decide (15 < n) = true := decide_eq_true h4
  clear h
  go_enter Tryd.func26, Tryd.ntmps26
  go_wp2
  go_ret
  exact ⟨rfl, (Below.refl _ w).alloc (Nat.le_refl _) _⟩
set_option maxHeartbeats 1000000 in
theorem cright_loop (b : ByteArray) (n : Int) (w : World) (h1 : 1 ≤ b.size) (h2 : b.size ≤ 6) (h3 : 0 ≤ n) (h4 : n ≤ 15) :
    Calls Tryd.prog 26 #[.agg #[.string b, .int .i64 n]] w fun e w' => e = .returned (.bool (b.data.toList.all signD)) ∧ Below w.heap.size w w' := by
  obtain ⟨R, hR⟩ : ∃ R, R = b.data.toList.all signD := ⟨_, rfl⟩
  rw [← hR]
  have HR := Lib.hid hR
  clear hR
  have HL := Lib.hid (fun (x : UInt8) (W : World) => letter_any x W)
  have he : b.toList.isEmpty = false := not_empty b h1
  have d6 : decide ((6 : Int) < (b.size : Int)) = false := decide_eq_false (by omega)
  have d0 : decide (n < 0) = false := decide_eq_false (by omega)
  have d15 : decide (15 < n) = false := decide_eq_false (by omega)
  go_enter Tryd.func26, Tryd.ntmps26
  go_wp2
  go_loopw [26] (fun i wx => ∃ k : Nat, k ≤ b.size ∧ i = .int .i64 k ∧ Hid ((b.data.toList.take k).all signD = true) ∧ wx = w.alloc (.cells #[.string b, .int .i64 n] 23)) (fun i _ => b.size - (intOf i).toNat)
  case atStart => exact ⟨0, by omega, rfl, Lib.hid (by simp), rfl⟩
  case round =>
    obtain ⟨k, hk, rfl, hall, rfl⟩ := hrel
    by_cases hlt : k < b.size
    · have dk : decide ((k : Int) < (b.size : Int)) = true := decide_eq_true (by omega)
      cases hs : signD b[k]
      · have HF := Lib.hid (all_not b k hlt hs)
        clear hall
        go_wp2_with (go_at_call 46; (with_reducible refine (HL.out b[k] _).mono ?_); rintro e w1 ⟨rfl, rfl⟩; rw [hs])
        go_ret
        rw [show R = _ from HR.out.trans HF.out]
        exact ⟨rfl, (Below.refl _ w).alloc (Nat.le_refl _) _⟩
      · have HF := Lib.hid (all_next b k hlt hall.out hs)
        clear hall
        go_wp2_with (go_at_call 46; (with_reducible refine (HL.out b[k] _).mono ?_); rintro e w1 ⟨rfl, rfl⟩; rw [hs])
        go_roundw
        case rel => exact ⟨k + 1, by omega, by go_num, HF, by first | trivial | rfl⟩
        case measure => simp [intOf]; omega
    · obtain rfl : k = b.size := by omega
      have dk : decide ((b.size : Int) < (b.size : Int)) = false := decide_eq_false (by omega)
      have HF := Lib.hid (show b.data.toList.all signD = true from by rw [List.take_of_length_le (by simp)] at hall; exact hall.out)
      clear hall
      go_wp2
      go_ret
      rw [show R = _ from HR.out.trans HF.out]
      exact ⟨rfl, (Below.refl _ w).alloc (Nat.le_refl _) _⟩
theorem cright_any (b : ByteArray) (n : Int) (w : World) : Calls Tryd.prog 26 #[.agg #[.string b, .int .i64 n]] w fun e w' => e = .returned (.bool (rightD b n)) ∧ Below w.heap.size w w' := by
  by_cases h : b.size < 1 ∨ 6 < b.size ∨ n < 0 ∨ 15 < n
  · have e : rightD b n = false := by
      unfold rightD
      rw [Bool.and_eq_false_iff]
      left
      simp only [Bool.and_eq_false_iff, decide_eq_false_iff_not]
      omega
    rw [e]
    exact cright_bad b n w h
  · have e : rightD b n = b.data.toList.all signD := by
      unfold rightD
      rw [decide_eq_true (by omega), decide_eq_true (by omega), decide_eq_true (by omega), decide_eq_true (by omega)]
      simp
    rw [e]
    exact cright_loop b n w (by omega) (by omega) (by omega) (by omega)
theorem cright_ok : CRightOk := fun b n w _ => cright_any b n w
end Go.Proofs.YtadhiknmkiogjaaDoor
namespace Go.Proofs.YtadhiknmkiogjaaDoor
open Go.RowKit Go.Sort
theorem sign_facts (x : UInt8) (h : signD x = true) : upD x = x ∧ x ≠ 45 ∧ x.toNat ≠ 32 ∧ x.toNat < 128 := by
  simp only [signD, Bool.or_eq_true, Bool.and_eq_true, decide_eq_true_eq] at h
  refine ⟨?_, ?_, by omega, by omega⟩
  · unfold upD
    rw [if_neg (by omega)]
  · intro e
    rw [e] at h
    exact absurd h (by decide)
theorem right_facts (b : ByteArray) (n : Int) (h : rightD b n = true) : 1 ≤ b.size ∧ b.size ≤ 6 ∧ 0 ≤ n ∧ n ≤ 15 ∧ ∀ x ∈ b.data.toList, signD x = true := by
  simp only [rightD, Bool.and_eq_true, decide_eq_true_eq] at h
  obtain ⟨⟨⟨⟨h1, h2⟩, h3⟩, h4⟩, h5⟩ := h
  exact ⟨h1, h2, h3, h4, List.all_eq_true.1 h5⟩
theorem map_up (l : List UInt8) (h : ∀ x ∈ l, signD x = true) : l.map upD = l := by
  rw [List.map_congr_left (g := id) (fun x hx => (sign_facts x (h x hx)).1), List.map_id]
theorem fnd_dig (n : Nat) (h : n ≤ 15) : fndD (digD n) 16 = (true, n) := by
  obtain rfl | rfl | rfl | rfl | rfl | rfl | rfl | rfl | rfl | rfl | rfl | rfl | rfl | rfl | rfl | rfl : n = 0 ∨ n = 1 ∨ n = 2 ∨ n = 3 ∨ n = 4 ∨ n = 5 ∨ n = 6 ∨ n = 7 ∨ n = 8 ∨ n = 9 ∨ n = 10 ∨ n = 11 ∨ n = 12 ∨ n = 13 ∨ n = 14 ∨ n = 15 := by omega
  all_goals decide +kernel
theorem read_text (b : ByteArray) (n : Int) (h : rightD b n = true) : readD (textD b.data.toList n) = (true, b.data.toList, n.toNat) := by
  obtain ⟨h1, h2, h3, h4, h5⟩ := right_facts b n h
  have h45 : ∀ x ∈ b.data.toList, x ≠ 45 := fun x hx => (sign_facts x (h5 x hx)).2.1
  unfold textD
  by_cases h0 : n = 0
  · subst h0
    rw [if_pos rfl, read_end _ h45, map_up _ h5, back_bytes, h]
    rfl
  · rw [if_neg h0, read_dash _ _ h45, map_up _ h5, back_bytes, fnd_dig n.toNat (by omega)]
    show (if (true && rightD b (n.toNat : Int)) = true then _ else _) = _
    rw [show ((n.toNat : Nat) : Int) = n by omega, h]
    rfl
theorem put_take (l : List UInt8) (n : Nat) (mk la : Bool) (h : l.length ≤ 6) : (putD l n mk la).take 6 = l.map (fun x => UInt8.ofNat (2 * x.toNat)) ++ List.replicate (6 - l.length) 64 := by
  apply List.ext_getElem?
  intro j
  by_cases hj : j < 6
  · have e : (putD l n mk la)[j]? = some (UInt8.ofNat (if j = 6 then 96 + 2 * (n : Int) + mkD mk la else putF l n l.length j).toNat) := by
      unfold putD
      rw [List.getElem?_map, List.getElem?_range (by omega)]
      rfl
    rw [List.getElem?_take_of_lt hj, e, if_neg (by omega)]
    unfold putF
    rw [if_neg (by omega)]
    by_cases hl : j < l.length
    · rw [if_pos hl, List.getElem?_append_left (by simpa using hl), List.getElem?_map, List.getElem?_eq_getElem hl, List.getD_eq_getElem?_getD, List.getElem?_eq_getElem hl]
      simp only [Option.map_some, Option.getD_some, Option.some.injEq]
      congr 1
    · rw [if_neg hl, List.getElem?_append_right (by simp; omega), List.getElem?_replicate]
      rw [if_pos (by simp; omega)]
      rfl
  · rw [List.getElem?_eq_none (by simp [putD]; omega), List.getElem?_eq_none (by simp; omega)]
theorem got_put (l : List UInt8) (n : Nat) (mk la : Bool) (h : l.length ≤ 6) (hs : ∀ x ∈ l, signD x = true) : gotD (putD l n mk la) 6 = l := by
  unfold gotD
  rw [put_take l n mk la h, List.filter_append, List.map_append]
  have e1 : (List.replicate (6 - l.length) (64 : UInt8)).filter (· ≠ 64) = [] := by
    rw [List.filter_eq_nil_iff]
    intro x hx
    rw [(List.mem_replicate.1 hx).2]
    simp
  have hx2 : ∀ x ∈ l, (UInt8.ofNat (2 * x.toNat)).toNat = 2 * x.toNat := fun x hx => by
    have := (sign_facts x (hs x hx)).2.2.2
    rw [UInt8.toNat_ofNat', Nat.mod_eq_of_lt (by omega)]
  have e2 : (l.map (fun x => UInt8.ofNat (2 * x.toNat))).filter (· ≠ 64) = l.map (fun x => UInt8.ofNat (2 * x.toNat)) := by
    rw [List.filter_eq_self]
    intro y hy
    obtain ⟨x, hx, rfl⟩ := List.mem_map.1 hy
    have h32 := (sign_facts x (hs x hx)).2.2.1
    rw [decide_eq_true_eq]
    intro e
    have := congrArg UInt8.toNat e
    rw [hx2 x hx] at this
    have h64 : (64 : UInt8).toNat = 64 := rfl
    omega
  rw [e1, e2, List.map_nil, List.append_nil, List.map_map]
  rw [List.map_congr_left (g := id), List.map_id]
  intro x hx
  apply UInt8.toNat_inj.1
  show (UInt8.ofNat (2 * x.toNat) / 2).toNat = x.toNat
  rw [UInt8.toNat_div, hx2 x hx]
  show 2 * x.toNat / 2 = x.toNat
  omega
theorem put_len (l : List UInt8) (n : Nat) (mk la : Bool) : (putD l n mk la).length = 7 := by simp [putD]
theorem put_six (l : List UInt8) (n : Nat) (mk la : Bool) (hn : n ≤ 15) : ((putD l n mk la).getD 6 0).toNat = (96 + 2 * n + (if mk then 128 else 0) + (if la then 1 else 0)) := by
  have e : (putD l n mk la)[6]? = some (UInt8.ofNat (96 + 2 * (n : Int) + mkD mk la).toNat) := by
    unfold putD
    rw [List.getElem?_map, List.getElem?_range (by omega)]
    rfl
  rw [List.getD_eq_getElem?_getD, e]
  simp only [Option.getD_some]
  rw [UInt8.toNat_ofNat']
  unfold mkD
  cases mk <;> cases la <;> simp <;> omega
theorem get_put (b : ByteArray) (n : Int) (mk la : Bool) (h : rightD b n = true) : getD7 (putD b.data.toList n.toNat mk la) = (true, b.data.toList, n.toNat, mk, la) := by
  obtain ⟨h1, h2, h3, h4, h5⟩ := right_facts b n h
  have hl : b.data.toList.length ≤ 6 := by simpa using h2
  have h6 := put_six b.data.toList n.toNat mk la (by omega)
  have hg := got_put b.data.toList n.toNat mk la hl h5
  have hnn : ((putD b.data.toList n.toNat mk la).getD 6 0).toNat / 2 % 16 = n.toNat := by rw [h6]; cases mk <;> cases la <;> simp <;> omega
  have hmk : decide ((128 : Int) ≤ (((putD b.data.toList n.toNat mk la).getD 6 0).toNat : Int)) = mk := by rw [h6]; cases mk <;> cases la <;> simp <;> omega
  have hla : ((((putD b.data.toList n.toNat mk la).getD 6 0).toNat : Int) % 2 == 1) = la := by rw [h6]; cases mk <;> cases la <;> simp <;> omega
  unfold getD7
  rw [hnn, hmk, hla, hg, if_pos]
  refine ⟨put_len _ _ _ _, ?_, rfl⟩
  rw [back_bytes, show ((n.toNat : Nat) : Int) = n by omega]
  exact h
end Go.Proofs.YtadhiknmkiogjaaDoor
