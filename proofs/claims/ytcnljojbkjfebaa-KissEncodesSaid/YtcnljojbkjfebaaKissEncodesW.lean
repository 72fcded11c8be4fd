/-
Walk of the statement KissEncodes.
-/
import Derived.Test.YtcnljojbkjfebaaKissAwake
namespace Go.Proofs.Ytcnljojbkjfebaa
open Go.RowKit
set_option maxHeartbeats 400000 in
theorem encodes_long (p c : Int) (s : ByteArray) (w : World) (hs : 3000 < s.size) (hs2 : s.size ≤ 9223372036854775807) :
    Calls Try.prog 3 #[.agg #[.int .i64 p, .int .i64 c, .string s]] w fun e w' => e = .returned (.bool true) ∧ Below w.heap.size w w' := by
  have bx := fun i => World.cell?_alloc_new w #[Value.int .i64 p, .int .i64 c, .string s] 23 i
  have b0 := bx 0
  have b1 := bx 1
  have b2 := bx 2
  simp only [List.getElem?_toArray, List.getElem?_cons_zero, List.getElem?_cons_succ] at b0 b1 b2
  have HX0 := Lib.hid b0
  have HX1 := Lib.hid b1
  have HX2 := Lib.hid b2
  clear bx b0 b1 b2
  go_enter Try.func3, Try.ntmps3
  go_wp2_with (first
    | (go_at_call 8; refine (awake_any _).mono ?_; rintro e w1 ⟨rfl, hb1⟩; have HB1 := Lib.hid hb1; clear hb1; have k0 := (HB1.out.cell (p := ⟨w.heap.size, 0, none⟩) (by simp)).trans HX0.out; have k1 := (HB1.out.cell (p := ⟨w.heap.size, 1, none⟩) (by simp)).trans HX1.out; have k2 := (HB1.out.cell (p := ⟨w.heap.size, 2, none⟩) (by simp)).trans HX2.out))
  go_ret
  exact ⟨rfl, ((Below.refl _ w).alloc (Nat.le_refl _) _).trans (HB1.out.mono (by simp))⟩
set_option maxHeartbeats 400000 in
theorem encodes_ok (P C : Nat) (s : ByteArray) (w : World) (hp : P ≤ 15) (hc : C ≤ 15) (hs : s.size ≤ 3000) :
    Calls Try.prog 3 #[.agg #[.int .i64 P, .int .i64 C, .string s]] w fun e w' => e = .returned (.bool true) ∧ Below w.heap.size w w' := by
  have bx := fun i => World.cell?_alloc_new w #[Value.int .i64 (P : Int), .int .i64 (C : Int), .string s] 23 i
  have b0 := bx 0
  have b1 := bx 1
  have b2 := bx 2
  simp only [List.getElem?_toArray, List.getElem?_cons_zero, List.getElem?_cons_succ] at b0 b1 b2
  have HX0 := Lib.hid b0
  have HX1 := Lib.hid b1
  have HX2 := Lib.hid b2
  clear bx b0 b1 b2
  have HE := Lib.hid (fun W => enc_ok P C s W hp hc hs)
  have HR := Lib.hid (fun W => renc_ok P C s W hp hc hs)
  generalize (⟨(frameBytes P C s).toArray⟩ : ByteArray) = T at *
  go_enter Try.func3, Try.ntmps3
  go_wp2_with (first
    | (go_at_call 8; refine (awake_any _).mono ?_; rintro e w1 ⟨rfl, hb1⟩; have HB1 := Lib.hid hb1; clear hb1; have k0 := (HB1.out.cell (p := ⟨w.heap.size, 0, none⟩) (by simp)).trans HX0.out; have k1 := (HB1.out.cell (p := ⟨w.heap.size, 1, none⟩) (by simp)).trans HX1.out; have k2 := (HB1.out.cell (p := ⟨w.heap.size, 2, none⟩) (by simp)).trans HX2.out)
    | (go_at_call 9; refine (HE.out _).mono ?_; rintro e w2 ⟨rfl, hb2⟩; have HB2 := Lib.hid (HB1.out.trans (hb2.mono HB1.out.size)); clear hb2 k0 k1 k2; have k0 := (HB2.out.cell (p := ⟨w.heap.size, 0, none⟩) (by simp)).trans HX0.out; have k1 := (HB2.out.cell (p := ⟨w.heap.size, 1, none⟩) (by simp)).trans HX1.out; have k2 := (HB2.out.cell (p := ⟨w.heap.size, 2, none⟩) (by simp)).trans HX2.out)
    | (go_at_call 10; refine (HR.out _).mono ?_; rintro e w3 ⟨rfl, hb3⟩; have HB3 := Lib.hid (HB2.out.trans (hb3.mono HB2.out.size)); clear hb3))
  go_ret
  exact ⟨rfl, ((Below.refl _ w).alloc (Nat.le_refl _) _).trans (HB3.out.mono (by simp))⟩
set_option maxHeartbeats 400000 in
theorem encodes_no (p c : Int) (s : ByteArray) (w : World) (h : p < 0 ∨ 15 < p ∨ c < 0 ∨ 15 < c) (hs : s.size ≤ 3000) :
    Calls Try.prog 3 #[.agg #[.int .i64 p, .int .i64 c, .string s]] w fun e w' => e = .returned (.bool true) ∧ Below w.heap.size w w' := by
  have bx := fun i => World.cell?_alloc_new w #[Value.int .i64 p, .int .i64 c, .string s] 23 i
  have b0 := bx 0
  have b1 := bx 1
  have b2 := bx 2
  simp only [List.getElem?_toArray, List.getElem?_cons_zero, List.getElem?_cons_succ] at b0 b1 b2
  have HX0 := Lib.hid b0
  have HX1 := Lib.hid b1
  have HX2 := Lib.hid b2
  clear bx b0 b1 b2
  have HE := Lib.hid (fun W => enc_no p c s W h)
  have HR := Lib.hid (fun W => renc_no p c s W h)
  clear h
  go_enter Try.func3, Try.ntmps3
  go_wp2_with (first
    | (go_at_call 8; refine (awake_any _).mono ?_; rintro e w1 ⟨rfl, hb1⟩; have HB1 := Lib.hid hb1; clear hb1; have k0 := (HB1.out.cell (p := ⟨w.heap.size, 0, none⟩) (by simp)).trans HX0.out; have k1 := (HB1.out.cell (p := ⟨w.heap.size, 1, none⟩) (by simp)).trans HX1.out; have k2 := (HB1.out.cell (p := ⟨w.heap.size, 2, none⟩) (by simp)).trans HX2.out)
    | (go_at_call 9; refine (HE.out _).mono ?_; rintro e w2 ⟨rfl, hb2⟩; have HB2 := Lib.hid (HB1.out.trans (hb2.mono HB1.out.size)); clear hb2 k0 k1 k2; have k0 := (HB2.out.cell (p := ⟨w.heap.size, 0, none⟩) (by simp)).trans HX0.out; have k1 := (HB2.out.cell (p := ⟨w.heap.size, 1, none⟩) (by simp)).trans HX1.out; have k2 := (HB2.out.cell (p := ⟨w.heap.size, 2, none⟩) (by simp)).trans HX2.out)
    | (go_at_call 10; refine (HR.out _).mono ?_; rintro e w3 ⟨rfl, hb3⟩; have HB3 := Lib.hid (HB2.out.trans (hb3.mono HB2.out.size)); clear hb3))
  go_ret
  exact ⟨rfl, ((Below.refl _ w).alloc (Nat.le_refl _) _).trans (HB3.out.mono (by simp))⟩
theorem encodes_any (p c : Int) (s : ByteArray) (w : World) (hs : s.size ≤ 9223372036854775807) :
    Calls Try.prog 3 #[.agg #[.int .i64 p, .int .i64 c, .string s]] w fun e w' => e = .returned (.bool true) ∧ Below w.heap.size w w' := by
  by_cases h1 : 3000 < s.size
  · exact encodes_long p c s w h1 hs
  by_cases h2 : p < 0 ∨ 15 < p ∨ c < 0 ∨ 15 < c
  · exact encodes_no p c s w h2 (by omega)
  · obtain ⟨P, rfl⟩ : ∃ P : Nat, p = P := ⟨p.toNat, by omega⟩
    obtain ⟨C, rfl⟩ : ∃ C : Nat, c = C := ⟨c.toNat, by omega⟩
    exact encodes_ok P C s w (by omega) (by omega) (by omega)
end Go.Proofs.Ytcnljojbkjfebaa
