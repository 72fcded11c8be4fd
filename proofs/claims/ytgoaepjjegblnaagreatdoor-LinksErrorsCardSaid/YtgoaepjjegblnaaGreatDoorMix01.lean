/-
Calls as plain facts; bytes and blocks of memory; the landed code's look at a call.
-/
import Derived.Test.YtgoaepjjegblnaaGreatDoorProg
import Derived.Test.YtgoaepjjegblnaaGreatDoorMix00
import Derived.WalkKit
import Derived.WalkSpells
import Derived.WalkLawsBesides
import Derived.Laws.BitsAllLaws
import Derived.Laws.ShiftsVarLaws
import Derived.Lib.Hide
import Derived.Lib.Strings
import Derived.BigQuiet
import Derived.Deep.QuietTactic
import Derived.Lib.QuietBelow
import Derived.BigRegion
import Derived.IntWalk
import Derived.Lib.SmallJoins
import Derived.Lib.ItoaNum
import Derived.Lib.IndexBytes
namespace Go.Proofs.YtgoaepjjegblnaaGreatDoor
open Go.RowKit
/-- a letter of a call sign -/
def signD (x : UInt8) : Bool := (decide (65 ≤ x.toNat) && decide (x.toNat ≤ 90)) || (decide (48 ≤ x.toNat) && decide (x.toNat ≤ 57))
/-- a right call -/
def rightD (b : ByteArray) (n : Int) : Bool := decide (1 ≤ b.size) && decide (b.size ≤ 6) && decide (0 ≤ n) && decide (n ≤ 15) && b.data.toList.all signD
theorem rright_bad (b : ByteArray) (n : Int) (w : World) (h : b.size < 1 ∨ 6 < b.size ∨ n < 0 ∨ 15 < n) :
    Calls Tryz.prog 45 #[.agg #[.string b, .int .i64 n]] w fun e w' => e = .returned (.bool false) ∧ Below w.heap.size w w' := by
  by_cases h1 : b.size < 1
  · go_enter Tryz.func45, Tryz.ntmps45
    go_wp2
    go_ret
    exact ⟨rfl, (Below.refl _ w).alloc (Nat.le_refl _) _⟩
  by_cases h2 : 6 < b.size
  · go_enter Tryz.func45, Tryz.ntmps45
    go_wp2
    go_ret
    exact ⟨rfl, (Below.refl _ w).alloc (Nat.le_refl _) _⟩
  by_cases h3 : n < 0
  · go_enter Tryz.func45, Tryz.ntmps45
    go_wp2
    go_ret
    exact ⟨rfl, (Below.refl _ w).alloc (Nat.le_refl _) _⟩
  have h4 : 15 < n := by omega
  go_enter Tryz.func45, Tryz.ntmps45
  go_wp2
  go_ret
  exact ⟨rfl, (Below.refl _ w).alloc (Nat.le_refl _) _⟩
theorem all_next (b : ByteArray) (k : Nat) (h : k < b.size) (ha : (b.data.toList.take k).all signD = true) (hx : signD b[k] = true) : (b.data.toList.take (k + 1)).all signD = true := by
  have hl : k < b.data.toList.length := by simpa using h
  rw [List.take_succ_eq_append_getElem hl, List.all_append, ha, list_at b k h]
  simp [hx]
theorem all_not (b : ByteArray) (k : Nat) (h : k < b.size) (hx : signD b[k] = false) : b.data.toList.all signD = false := by
  have hl : k < b.data.toList.length := by simpa using h
  rw [List.all_eq_false]
  exact ⟨b[k], by rw [← list_at b k h]; exact List.getElem_mem hl, by rw [hx]; simp⟩
set_option maxHeartbeats 1000000 in
theorem rright_loop (b : ByteArray) (n : Int) (w : World) (h1 : 1 ≤ b.size) (h2 : b.size ≤ 6) (h3 : 0 ≤ n) (h4 : n ≤ 15) :
    Calls Tryz.prog 45 #[.agg #[.string b, .int .i64 n]] w fun e w' => e = .returned (.bool (b.data.toList.all signD)) ∧ Below w.heap.size w w' := by
  obtain ⟨R, hR⟩ : ∃ R, R = b.data.toList.all signD := ⟨_, rfl⟩
  rw [← hR]
  have HR := Lib.hid hR
  clear hR
  go_enter Tryz.func45, Tryz.ntmps45
  go_wp2
  go_loopw [3] (fun i wx => ∃ k : Nat, k ≤ b.size ∧ i = .int .i64 k ∧ Hid ((b.data.toList.take k).all signD = true) ∧ wx = w.alloc (.cells #[.string b, .int .i64 n] 54)) (fun i _ => b.size - (intOf i).toNat)
  case atStart => exact ⟨0, by omega, rfl, Lib.hid (by simp), rfl⟩
  case round =>
    obtain ⟨k, hk, rfl, hall, rfl⟩ := hrel
    by_cases hlt : k < b.size
    · cases hs : signD b[k]
      · have HF := Lib.hid (all_not b k hlt hs)
        have hx : (b[k].toNat : Int) < 48 ∧ (b[k].toNat : Int) < 65 ∨ ((57 : Int) < b[k].toNat ∧ (b[k].toNat : Int) < 65) ∨ (90 : Int) < b[k].toNat ∧ (57 : Int) < b[k].toNat := by
          simp only [signD, Bool.or_eq_false_iff, Bool.and_eq_false_iff, decide_eq_false_iff_not] at hs
          omega
        clear hs hall
        rcases hx with ⟨hx, hx2⟩ | ⟨hx, hx2⟩ | ⟨hx, hx2⟩
        · go_wp2
          go_ret
          rw [show R = _ from HR.out.trans HF.out]
          exact ⟨rfl, (Below.refl _ w).alloc (Nat.le_refl _) _⟩
        · have d57 : decide ((b[k].toNat : Int) ≤ 57) = false := decide_eq_false (by omega)
          go_wp2
          go_ret
          rw [show R = _ from HR.out.trans HF.out]
          exact ⟨rfl, (Below.refl _ w).alloc (Nat.le_refl _) _⟩
        · have d57 : decide ((b[k].toNat : Int) ≤ 57) = false := decide_eq_false (by omega)
          have d90 : decide ((b[k].toNat : Int) ≤ 90) = false := decide_eq_false (by omega)
          go_wp2
          go_ret
          rw [show R = _ from HR.out.trans HF.out]
          exact ⟨rfl, (Below.refl _ w).alloc (Nat.le_refl _) _⟩
      · have HF := Lib.hid (all_next b k hlt hall.out hs)
        have hx : ((65 : Int) ≤ b[k].toNat ∧ (b[k].toNat : Int) ≤ 90) ∨ ((b[k].toNat : Int) < 65 ∧ (48 : Int) ≤ b[k].toNat ∧ (b[k].toNat : Int) ≤ 57) := by
          simp only [signD, Bool.or_eq_true, Bool.and_eq_true, decide_eq_true_eq] at hs
          omega
        clear hs hall
        rcases hx with ⟨hx, hx2⟩ | ⟨hx, hx2, hx3⟩
        · have d90 : decide ((b[k].toNat : Int) ≤ 90) = true := decide_eq_true (by omega)
          go_wp2
          go_roundw
          case rel => exact ⟨k + 1, by omega, by go_num, HF, by first | trivial | rfl⟩
          case measure => simp [intOf]; omega
        · have d57 : decide ((b[k].toNat : Int) ≤ 57) = true := decide_eq_true (by omega)
          go_wp2
          go_roundw
          case rel => exact ⟨k + 1, by omega, by go_num, HF, by first | trivial | rfl⟩
          case measure => simp [intOf]; omega
    · obtain rfl : k = b.size := by omega
      have HF := Lib.hid (show b.data.toList.all signD = true from by rw [List.take_of_length_le (by simp)] at hall; exact hall.out)
      clear hall
      go_wp2
      go_ret
      rw [show R = _ from HR.out.trans HF.out]
      exact ⟨rfl, (Below.refl _ w).alloc (Nat.le_refl _) _⟩
theorem rcright_any (b : ByteArray) (n : Int) (w : World) :
    Calls Tryz.prog 45 #[.agg #[.string b, .int .i64 n]] w fun e w' => e = .returned (.bool (rightD b n)) ∧ Below w.heap.size w w' := by
  by_cases h : b.size < 1 ∨ 6 < b.size ∨ n < 0 ∨ 15 < n
  · have e : rightD b n = false := by
      unfold rightD
      rw [Bool.and_eq_false_iff]
      left
      simp only [Bool.and_eq_false_iff, decide_eq_false_iff_not]
      omega
    rw [e]
    exact rright_bad b n w h
  · have e : rightD b n = b.data.toList.all signD := by
      unfold rightD
      rw [decide_eq_true (by omega), decide_eq_true (by omega), decide_eq_true (by omega), decide_eq_true (by omega)]
      simp
    rw [e]
    exact rright_loop b n w (by omega) (by omega) (by omega) (by omega)
end Go.Proofs.YtgoaepjjegblnaaGreatDoor
namespace Go.Proofs.YtgoaepjjegblnaaGreatDoor
open Go.RowKit
end Go.Proofs.YtgoaepjjegblnaaGreatDoor
namespace Go.Proofs.YtgoaepjjegblnaaGreatDoor
open Go.RowKit Go.Sort
/-- a small letter as a great one -/
def upD (x : UInt8) : UInt8 := if 97 ≤ x.toNat ∧ x.toNat ≤ 122 then x - 32 else x
end Go.Proofs.YtgoaepjjegblnaaGreatDoor
namespace Go.Proofs.YtgoaepjjegblnaaGreatDoor
open Go.RowKit Go.Sort
/-- seven bytes that lie in a block, and may be written -/
def B7 (W : World) (m : Nat) (f : Nat → Int) : Prop := (∀ j, j < 7 → W.cell? ⟨m, j, none⟩ = some (.int .u8 (f j))) ∧ ∀ j, W.frozen? ⟨m, j, none⟩ = false
theorem B7.set {W : World} {m : Nat} {f : Nat → Int} (h : B7 W m f) (i : Nat) (hi : i < 7) (v : Int) : B7 (W.setCell ⟨m, i, none⟩ (.int .u8 v)) m (fun j => if j = i then v else f j) := by
  refine ⟨fun j hj => ?_, fun j => by rw [World.frozen?_setCell]; exact h.2 j⟩
  by_cases e : j = i
  · subst e
    simp only [if_true]
    exact set_here (h.1 j hj)
  · simp only [if_neg e]
    rw [set_off _ _ _ _ _ (Ne.symm e)]
    exact h.1 j hj
theorem B7.conv {W : World} {m : Nat} {f : Nat → Int} (h : B7 W m f) : (convert 194 9 (.slice (some ⟨m, 0, none⟩) 7 7)).run Tryz.prog W = .ok (.string ⟨((List.range 7).map fun j => UInt8.ofNat (f j).toNat).toArray⟩) W := by
  rw [run_convert_bytes_arg _ 194 5 Tryz.underlying194 Tryz.underlying5 m 0 7 7 [f 0, f 1, f 2, f 3, f 4, f 5, f 6] rfl (fun i hi => by
    rw [Nat.zero_add, h.1 i hi]
    obtain rfl | rfl | rfl | rfl | rfl | rfl | rfl : i = 0 ∨ i = 1 ∨ i = 2 ∨ i = 3 ∨ i = 4 ∨ i = 5 ∨ i = 6 := by omega
    all_goals rfl) 9 Tryz.underlying9]
  rfl
/-- the bytes of a call while its first k letters stand -/
def putF (b : List UInt8) (n k : Nat) (j : Nat) : Int := if j = 6 then 96 + 2 * (n : Int) else if j < k then 2 * ((b.getD j 0).toNat : Int) else 64
/-- what the marks add -/
def mkD (mk la : Bool) : Int := (if mk then 128 else 0) + (if la then 1 else 0)
/-- a call's bytes -/
def putD (b : List UInt8) (n : Nat) (mk la : Bool) : List UInt8 := (List.range 7).map fun j => UInt8.ofNat (if j = 6 then 96 + 2 * (n : Int) + mkD mk la else putF b n b.length j).toNat
end Go.Proofs.YtgoaepjjegblnaaGreatDoor
namespace Go.Proofs.YtgoaepjjegblnaaGreatDoor
open Go.RowKit Go.Sort
/-- the letters of the first k bytes -/
def gotD (s : List UInt8) (k : Nat) : List UInt8 := ((s.take k).filter (· ≠ 64)).map fun x => x / 2
theorem gotD_len (s : List UInt8) (k : Nat) : (gotD s k).length ≤ k := by
  unfold gotD
  rw [List.length_map]
  exact Nat.le_trans (List.length_filter_le _ _) (List.length_take_le _ _)
/-- the call of seven bytes: is there one, its letters, its number, its marks -/
def getD7 (s : List UInt8) : Bool × List UInt8 × Nat × Bool × Bool :=
  if s.length = 7 ∧ rightD ⟨(gotD s 6).toArray⟩ (((s.getD 6 0).toNat / 2 % 16 : Nat) : Int) = true ∧ putD (gotD s 6) ((s.getD 6 0).toNat / 2 % 16) (decide ((128 : Int) ≤ ((s.getD 6 0).toNat : Int))) (((s.getD 6 0).toNat : Int) % 2 == 1) = s then (true, gotD s 6, (s.getD 6 0).toNat / 2 % 16, decide ((128 : Int) ≤ ((s.getD 6 0).toNat : Int)), ((s.getD 6 0).toNat : Int) % 2 == 1) else (false, [], 0, false, false)
end Go.Proofs.YtgoaepjjegblnaaGreatDoor
namespace Go.Proofs.YtgoaepjjegblnaaGreatDoor
open Go.RowKit Go.Sort
/-- what Put answers -/
def putE (b : ByteArray) (n : Int) (mk la : Bool) : Value := if rightD b n then .tuple #[.string ⟨(putD b.data.toList n.toNat mk la).toArray⟩, .int .i64 0] else .tuple #[.string ⟨#[]⟩, .int .i64 12]
/-- what Get answers -/
def getE (s : List UInt8) : Value := .tuple #[.agg #[.string ⟨(getD7 s).2.1.toArray⟩, .int .i64 ((getD7 s).2.2.1 : Int)], .bool (getD7 s).2.2.2.1, .bool (getD7 s).2.2.2.2, .int .i64 (if (getD7 s).1 then 0 else if s.length < 7 then 4 else if 7 < s.length then 5 else 2)]
def CRightOk : Prop := ∀ (b : ByteArray) (n : Int) w, b.size ≤ 300 → Calls Tryz.prog 90 #[.agg #[.string b, .int .i64 n]] w fun e w' => e = .returned (.bool (rightD b n)) ∧ Below w.heap.size w w'
def CPutOk : Prop := ∀ (b : ByteArray) (n : Int) mk la w, b.size ≤ 300 → Calls Tryz.prog 160 #[.agg #[.string b, .int .i64 n], .bool mk, .bool la] w fun e w' => e = .returned (putE b n mk la) ∧ Below w.heap.size w w'
def CGetOk : Prop := ∀ (s : ByteArray) w, s.size ≤ 300 → Calls Tryz.prog 191 #[.string s] w fun e w' => e = .returned (getE s.data.toList) ∧ Below w.heap.size w w'
end Go.Proofs.YtgoaepjjegblnaaGreatDoor
namespace Go.Proofs.YtgoaepjjegblnaaGreatDoor
open Go.RowKit Go.Sort
set_option maxRecDepth 20000
theorem letter_any (x : UInt8) (w : World) : Calls Tryz.prog 150 #[.int .u8 (x.toNat : Int)] w fun e w' => e = .returned (.bool (signD x)) ∧ w' = w := by
  obtain ⟨R, hR⟩ : ∃ R, R = signD x := ⟨_, rfl⟩
  rw [← hR]
  have hv := x.toNat_lt
  have h : R = ((decide ((65 : Int) ≤ (x.toNat : Int)) && decide ((x.toNat : Int) ≤ 90)) || (decide ((48 : Int) ≤ (x.toNat : Int)) && decide ((x.toNat : Int) ≤ 57))) := by
    rw [hR]
    unfold signD
    congr 2 <;> apply decide_eq_decide.2 <;> omega
  clear hR
  by_cases h65 : (65 : Int) ≤ (x.toNat : Int)
  · by_cases h90 : (x.toNat : Int) ≤ 90
    · have d65 : decide ((65 : Int) ≤ (x.toNat : Int)) = true := decide_eq_true h65
      have d90 : decide ((x.toNat : Int) ≤ 90) = true := decide_eq_true h90
      have hr : R = true := by rw [h, d65, d90]; rfl
      subst hr
      clear h
      go_enter Tryz.func150, Tryz.ntmps150
      go_wp2
      go_ret
      exact ⟨rfl, rfl⟩
    · have d65 : decide ((65 : Int) ≤ (x.toNat : Int)) = true := decide_eq_true h65
      have d90 : decide ((x.toNat : Int) ≤ 90) = false := decide_eq_false h90
      have d48 : decide ((48 : Int) ≤ (x.toNat : Int)) = true := decide_eq_true (by omega)
      have d57 : decide ((x.toNat : Int) ≤ 57) = false := decide_eq_false (by omega)
      have hr : R = false := by rw [h, d65, d90, d48, d57]; rfl
      subst hr
      clear h
      go_enter Tryz.func150, Tryz.ntmps150
      go_wp2
      go_ret
      exact ⟨rfl, rfl⟩
  · have d65 : decide ((65 : Int) ≤ (x.toNat : Int)) = false := decide_eq_false h65
    by_cases h48 : (48 : Int) ≤ (x.toNat : Int)
    · have d48 : decide ((48 : Int) ≤ (x.toNat : Int)) = true := decide_eq_true h48
      by_cases h57 : (x.toNat : Int) ≤ 57
      · have d57 : decide ((x.toNat : Int) ≤ 57) = true := decide_eq_true h57
        have hr : R = true := by rw [h, d65, d48, d57]; simp
        subst hr
        clear h
        go_enter Tryz.func150, Tryz.ntmps150
        go_wp2
        go_ret
        exact ⟨rfl, rfl⟩
      · have d57 : decide ((x.toNat : Int) ≤ 57) = false := decide_eq_false h57
        have hr : R = false := by rw [h, d65, d48, d57]; simp
        subst hr
        clear h
        go_enter Tryz.func150, Tryz.ntmps150
        go_wp2
        go_ret
        exact ⟨rfl, rfl⟩
    · have d48 : decide ((48 : Int) ≤ (x.toNat : Int)) = false := decide_eq_false h48
      have hr : R = false := by rw [h, d65, d48]; simp
      subst hr
      clear h
      go_enter Tryz.func150, Tryz.ntmps150
      go_wp2
      go_ret
      exact ⟨rfl, rfl⟩
theorem not_empty (b : ByteArray) (h : 1 ≤ b.size) : b.toList.isEmpty = false := by
  rw [List.isEmpty_eq_false_iff, Lib.toList_data]
  intro e
  have h3 : b.data.toList.length = b.size := by simp
  rw [e, List.length_nil] at h3
  omega
theorem cright_bad (b : ByteArray) (n : Int) (w : World) (h : b.size < 1 ∨ 6 < b.size ∨ n < 0 ∨ 15 < n) :
    Calls Tryz.prog 90 #[.agg #[.string b, .int .i64 n]] w fun e w' => e = .returned (.bool false) ∧ Below w.heap.size w w' := by
  by_cases h1 : b.size < 1
  · have hb : b = ⟨#[]⟩ := ByteArray.ext (Array.eq_empty_of_size_eq_zero (by show b.size = 0; omega))
    subst hb
    clear h h1
    go_enter Tryz.func90, Tryz.ntmps90
    go_wp2
    go_ret
    exact ⟨rfl, (Below.refl _ w).alloc (Nat.le_refl _) _⟩
  have he : b.toList.isEmpty = false := not_empty b (by omega)
  by_cases h2 : 6 < b.size
  · have d6 : decide ((6 : Int) < (b.size : Int)) = true := decide_eq_true (by omega)
    clear h
    go_enter Tryz.func90, Tryz.ntmps90
    go_wp2
    go_ret
    exact ⟨rfl, (Below.refl _ w).alloc (Nat.le_refl _) _⟩
  have d6 : decide ((6 : Int) < (b.size : Int)) = false := decide_eq_false (by omega)
  by_cases h3 : n < 0
  · have d0 : decide (n < 0) = true := decide_eq_true h3
    clear h
    go_enter Tryz.func90, Tryz.ntmps90
    go_wp2
    go_ret
    exact ⟨rfl, (Below.refl _ w).alloc (Nat.le_refl _) _⟩
  have d0 : decide (n < 0) = false := decide_eq_false h3
  have h4 : 15 < n := by omega
  have d15 : decide (15 < n) = true := decide_eq_true h4
  clear h
  go_enter Tryz.func90, Tryz.ntmps90
  go_wp2
  go_ret
  exact ⟨rfl, (Below.refl _ w).alloc (Nat.le_refl _) _⟩
set_option maxHeartbeats 1000000 in
theorem cright_loop (b : ByteArray) (n : Int) (w : World) (h1 : 1 ≤ b.size) (h2 : b.size ≤ 6) (h3 : 0 ≤ n) (h4 : n ≤ 15) :
    Calls Tryz.prog 90 #[.agg #[.string b, .int .i64 n]] w fun e w' => e = .returned (.bool (b.data.toList.all signD)) ∧ Below w.heap.size w w' := by
  obtain ⟨R, hR⟩ : ∃ R, R = b.data.toList.all signD := ⟨_, rfl⟩
  rw [← hR]
  have HR := Lib.hid hR
  clear hR
  have HL := Lib.hid (fun (x : UInt8) (W : World) => letter_any x W)
  have he : b.toList.isEmpty = false := not_empty b h1
  have d6 : decide ((6 : Int) < (b.size : Int)) = false := decide_eq_false (by omega)
  have d0 : decide (n < 0) = false := decide_eq_false (by omega)
  have d15 : decide (15 < n) = false := decide_eq_false (by omega)
  go_enter Tryz.func90, Tryz.ntmps90
  go_wp2
  go_loopw [26] (fun i wx => ∃ k : Nat, k ≤ b.size ∧ i = .int .i64 k ∧ Hid ((b.data.toList.take k).all signD = true) ∧ wx = w.alloc (.cells #[.string b, .int .i64 n] 54)) (fun i _ => b.size - (intOf i).toNat)
  case atStart => exact ⟨0, by omega, rfl, Lib.hid (by simp), rfl⟩
  case round =>
    obtain ⟨k, hk, rfl, hall, rfl⟩ := hrel
    by_cases hlt : k < b.size
    · have dk : decide ((k : Int) < (b.size : Int)) = true := decide_eq_true (by omega)
      cases hs : signD b[k]
      · have HF := Lib.hid (all_not b k hlt hs)
        clear hall
        go_wp2_with (go_at_call 150; (with_reducible refine (HL.out b[k] _).mono ?_); rintro e w1 ⟨rfl, rfl⟩; rw [hs])
        go_ret
        rw [show R = _ from HR.out.trans HF.out]
        exact ⟨rfl, (Below.refl _ w).alloc (Nat.le_refl _) _⟩
      · have HF := Lib.hid (all_next b k hlt hall.out hs)
        clear hall
        go_wp2_with (go_at_call 150; (with_reducible refine (HL.out b[k] _).mono ?_); rintro e w1 ⟨rfl, rfl⟩; rw [hs])
        go_roundw
        case rel => exact ⟨k + 1, by omega, by go_num, HF, by first | trivial | rfl⟩
        case measure => simp [intOf]; omega
    · obtain rfl : k = b.size := by omega
      have dk : decide ((b.size : Int) < (b.size : Int)) = false := decide_eq_false (by omega)
      have HF := Lib.hid (show b.data.toList.all signD = true from by rw [List.take_of_length_le (by simp)] at hall; exact hall.out)
      clear hall
      go_wp2
      go_ret
      rw [show R = _ from HR.out.trans HF.out]
      exact ⟨rfl, (Below.refl _ w).alloc (Nat.le_refl _) _⟩
theorem cright_any (b : ByteArray) (n : Int) (w : World) : Calls Tryz.prog 90 #[.agg #[.string b, .int .i64 n]] w fun e w' => e = .returned (.bool (rightD b n)) ∧ Below w.heap.size w w' := by
  by_cases h : b.size < 1 ∨ 6 < b.size ∨ n < 0 ∨ 15 < n
  · have e : rightD b n = false := by
      unfold rightD
      rw [Bool.and_eq_false_iff]
      left
      simp only [Bool.and_eq_false_iff, decide_eq_false_iff_not]
      omega
    rw [e]
    exact cright_bad b n w h
  · have e : rightD b n = b.data.toList.all signD := by
      unfold rightD
      rw [decide_eq_true (by omega), decide_eq_true (by omega), decide_eq_true (by omega), decide_eq_true (by omega)]
      simp
    rw [e]
    exact cright_loop b n w (by omega) (by omega) (by omega) (by omega)
theorem cright_ok : CRightOk := fun b n w _ => cright_any b n w
end Go.Proofs.YtgoaepjjegblnaaGreatDoor
namespace Go.Proofs.YtgoaepjjegblnaaGreatDoor
open Go.RowKit Go.Sort
theorem sign_facts (x : UInt8) (h : signD x = true) : upD x = x ∧ x ≠ 45 ∧ x.toNat ≠ 32 ∧ x.toNat < 128 := by
  simp only [signD, Bool.or_eq_true, Bool.and_eq_true, decide_eq_true_eq] at h
  refine ⟨?_, ?_, by omega, by omega⟩
  · unfold upD
    rw [if_neg (by omega)]
  · intro e
    rw [e] at h
    exact absurd h (by decide)
theorem right_facts (b : ByteArray) (n : Int) (h : rightD b n = true) : 1 ≤ b.size ∧ b.size ≤ 6 ∧ 0 ≤ n ∧ n ≤ 15 ∧ ∀ x ∈ b.data.toList, signD x = true := by
  simp only [rightD, Bool.and_eq_true, decide_eq_true_eq] at h
  obtain ⟨⟨⟨⟨h1, h2⟩, h3⟩, h4⟩, h5⟩ := h
  exact ⟨h1, h2, h3, h4, List.all_eq_true.1 h5⟩
theorem put_take (l : List UInt8) (n : Nat) (mk la : Bool) (h : l.length ≤ 6) : (putD l n mk la).take 6 = l.map (fun x => UInt8.ofNat (2 * x.toNat)) ++ List.replicate (6 - l.length) 64 := by
  apply List.ext_getElem?
  intro j
  by_cases hj : j < 6
  · have e : (putD l n mk la)[j]? = some (UInt8.ofNat (if j = 6 then 96 + 2 * (n : Int) + mkD mk la else putF l n l.length j).toNat) := by
      unfold putD
      rw [List.getElem?_map, List.getElem?_range (by omega)]
      rfl
    rw [List.getElem?_take_of_lt hj, e, if_neg (by omega)]
    unfold putF
    rw [if_neg (by omega)]
    by_cases hl : j < l.length
    · rw [if_pos hl, List.getElem?_append_left (by simpa using hl), List.getElem?_map, List.getElem?_eq_getElem hl, List.getD_eq_getElem?_getD, List.getElem?_eq_getElem hl]
      simp only [Option.map_some, Option.getD_some, Option.some.injEq]
      congr 1
    · rw [if_neg hl, List.getElem?_append_right (by simp; omega), List.getElem?_replicate]
      rw [if_pos (by simp; omega)]
      rfl
  · rw [List.getElem?_eq_none (by simp [putD]; omega), List.getElem?_eq_none (by simp; omega)]
theorem got_put (l : List UInt8) (n : Nat) (mk la : Bool) (h : l.length ≤ 6) (hs : ∀ x ∈ l, signD x = true) : gotD (putD l n mk la) 6 = l := by
  unfold gotD
  rw [put_take l n mk la h, List.filter_append, List.map_append]
  have e1 : (List.replicate (6 - l.length) (64 : UInt8)).filter (· ≠ 64) = [] := by
    rw [List.filter_eq_nil_iff]
    intro x hx
    rw [(List.mem_replicate.1 hx).2]
    simp
  have hx2 : ∀ x ∈ l, (UInt8.ofNat (2 * x.toNat)).toNat = 2 * x.toNat := fun x hx => by
    have := (sign_facts x (hs x hx)).2.2.2
    rw [UInt8.toNat_ofNat', Nat.mod_eq_of_lt (by omega)]
  have e2 : (l.map (fun x => UInt8.ofNat (2 * x.toNat))).filter (· ≠ 64) = l.map (fun x => UInt8.ofNat (2 * x.toNat)) := by
    rw [List.filter_eq_self]
    intro y hy
    obtain ⟨x, hx, rfl⟩ := List.mem_map.1 hy
    have h32 := (sign_facts x (hs x hx)).2.2.1
    rw [decide_eq_true_eq]
    intro e
    have := congrArg UInt8.toNat e
    rw [hx2 x hx] at this
    have h64 : (64 : UInt8).toNat = 64 := rfl
    omega
  rw [e1, e2, List.map_nil, List.append_nil, List.map_map]
  rw [List.map_congr_left (g := id), List.map_id]
  intro x hx
  apply UInt8.toNat_inj.1
  show (UInt8.ofNat (2 * x.toNat) / 2).toNat = x.toNat
  rw [UInt8.toNat_div, hx2 x hx]
  show 2 * x.toNat / 2 = x.toNat
  omega
theorem put_len (l : List UInt8) (n : Nat) (mk la : Bool) : (putD l n mk la).length = 7 := by simp [putD]
theorem put_six (l : List UInt8) (n : Nat) (mk la : Bool) (hn : n ≤ 15) : ((putD l n mk la).getD 6 0).toNat = (96 + 2 * n + (if mk then 128 else 0) + (if la then 1 else 0)) := by
  have e : (putD l n mk la)[6]? = some (UInt8.ofNat (96 + 2 * (n : Int) + mkD mk la).toNat) := by
    unfold putD
    rw [List.getElem?_map, List.getElem?_range (by omega)]
    rfl
  rw [List.getD_eq_getElem?_getD, e]
  simp only [Option.getD_some]
  rw [UInt8.toNat_ofNat']
  unfold mkD
  cases mk <;> cases la <;> simp <;> omega
theorem get_put (b : ByteArray) (n : Int) (mk la : Bool) (h : rightD b n = true) : getD7 (putD b.data.toList n.toNat mk la) = (true, b.data.toList, n.toNat, mk, la) := by
  obtain ⟨h1, h2, h3, h4, h5⟩ := right_facts b n h
  have hl : b.data.toList.length ≤ 6 := by simpa using h2
  have h6 := put_six b.data.toList n.toNat mk la (by omega)
  have hg := got_put b.data.toList n.toNat mk la hl h5
  have hnn : ((putD b.data.toList n.toNat mk la).getD 6 0).toNat / 2 % 16 = n.toNat := by rw [h6]; cases mk <;> cases la <;> simp <;> omega
  have hmk : decide ((128 : Int) ≤ (((putD b.data.toList n.toNat mk la).getD 6 0).toNat : Int)) = mk := by rw [h6]; cases mk <;> cases la <;> simp <;> omega
  have hla : ((((putD b.data.toList n.toNat mk la).getD 6 0).toNat : Int) % 2 == 1) = la := by rw [h6]; cases mk <;> cases la <;> simp <;> omega
  unfold getD7
  rw [hnn, hmk, hla, hg, if_pos]
  refine ⟨put_len _ _ _ _, ?_, rfl⟩
  rw [back_bytes, show ((n.toNat : Nat) : Int) = n by omega]
  exact h
end Go.Proofs.YtgoaepjjegblnaaGreatDoor
