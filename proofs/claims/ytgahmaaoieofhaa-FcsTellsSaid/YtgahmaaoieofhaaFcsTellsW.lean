/-
Walk of the statement FcsTells.
-/
import Derived.Test.YtgahmaaoieofhaaFcsTurn
import Derived.Test.YtgahmaaoieofhaaFcsBytes
namespace Go.Proofs.Ytgahmaaoieofhaa
open Go.RowKit
theorem tells_big (s : ByteArray) (at_ x y : Int) (w : World) (h : 3000 < s.size) (hs : s.size ≤ 140737488351232) :
    Calls Try.prog 5 #[.string s, .int .i64 at_, .agg #[.int .u8 x, .int .u8 y]] w fun e w' => e = .returned (.bool true) ∧ Below w.heap.size w w' := by
  go_enter Try.func5, Try.ntmps5
  go_wp2_with (go_at_call 10; refine (awake_any _).mono ?_; rintro e w1 ⟨rfl, hb⟩)
  go_ret
  exact ⟨rfl, ((Below.refl _ w).alloc (Nat.le_refl _) _).trans (hb.mono (by simp))⟩
set_option maxHeartbeats 400000 in
/-- up to the bytes: outside the text nothing is turned -/
theorem tells_out (s : ByteArray) (at_ x y : Int) (w : World) (hs : s.size ≤ 3000) (h : at_ < 0 ∨ (s.size : Int) < at_) :
    Calls Try.prog 5 #[.string s, .int .i64 at_, .agg #[.int .u8 x, .int .u8 y]] w fun e w' => e = .returned (.bool true) ∧ Below w.heap.size w w' := by
  have HX := Lib.hid (sealB_size s)
  rcases h with h | h
  all_goals
    go_enter Try.func5, Try.ntmps5
    go_wp2_with (first
      | (go_at_call 10; refine (awake_any _).mono ?_; rintro e w1 ⟨rfl, hb⟩)
      | (go_at_call 12; refine (new_tab _).mono ?_; rintro e w2 ⟨rfl, hs2, ht2, hb2⟩; have HZ2 := Lib.hid hs2; have HT2 := Lib.hid ht2; have HB2 := Lib.hid (((Below.refl _ w).alloc (Nat.le_refl _) _).trans ((hb.trans (hb2.mono hb.size)).mono (by simp))); clear hs2 hb2 ht2)
      | (go_at_call 16; refine (seal_b _ _ s _ _ rfl HT2.out (by have := HZ2.out; omega) (by omega)).mono ?_; rintro e w5 ⟨rfl, hb5⟩; obtain ⟨cap, W6, hconv, hcap, hz6, hh6, hb6⟩ := conv_bytes (sealB s) w5; rw [HX.out] at hconv; have HH6 := Lib.hid hh6; have HB6 := Lib.hid hb6; have HB5 := Lib.hid hb5; have HZ6 := Lib.hid hz6; clear hh6 hb6 hb5 hz6))
    go_ret
    have h2 := HB2.out
    exact ⟨rfl, h2.trans ((HB5.out.trans (HB6.out.mono HB5.out.size)).mono h2.size)⟩
theorem cell_box {w w' : World} {a b : Value} {t : TypeId} (h : Below (w.alloc (.cells #[a, b] t)).heap.size (w.alloc (.cells #[a, b] t)) w') : w'.cell? ⟨w.heap.size, 0, none⟩ = some a := by
  rw [h.cell (p := ⟨w.heap.size, 0, none⟩) (by simp), World.cell?_alloc_new]; rfl
theorem cell_box1 {w w' : World} {a b : Value} {t : TypeId} (h : Below (w.alloc (.cells #[a, b] t)).heap.size (w.alloc (.cells #[a, b] t)) w') : w'.cell? ⟨w.heap.size, 1, none⟩ = some b := by
  rw [h.cell (p := ⟨w.heap.size, 1, none⟩) (by simp), World.cell?_alloc_new]; rfl
theorem two_zero (x y : UInt8) (h : ¬ (x = 0 ∧ y = 0)) : ((((x.toNat : Nat) : Int) == 0) && (((y.toNat : Nat) : Int) == 0)) = false := by
  rw [Bool.and_eq_false_iff, beq_eq_false_iff_ne, beq_eq_false_iff_ne]
  by_cases hx : x = 0
  · right
    intro hy
    exact h ⟨hx, UInt8.toNat_inj.1 (by rw [UInt8.toNat_zero]; omega)⟩
  · left
    intro hy
    exact hx (UInt8.toNat_inj.1 (by rw [UInt8.toNat_zero]; omega))
set_option maxHeartbeats 1000000 in
theorem tells_in (s : ByteArray) (k : Nat) (x y : UInt8) (w : World) (hs : s.size ≤ 3000) (h : k ≤ s.size) :
    Calls Try.prog 5 #[.string s, .int .i64 k, .agg #[.int .u8 ((x.toNat : Nat) : Int), .int .u8 ((y.toNat : Nat) : Int)]] w fun e w' => e = .returned (.bool true) ∧ Below w.heap.size w w' := by
  have HX := Lib.hid (sealB_size s)
  have HLL := Lib.hid (show (sealB s).data.toList.length = s.size + 2 by rw [← sealB_size]; simp)
  obtain ⟨L, hL⟩ : ∃ L, L = (sealB s).data.toList := ⟨_, rfl⟩
  rw [← hL] at HLL
  obtain ⟨X, hX⟩ : ∃ X, X = x.toNat := ⟨_, rfl⟩
  obtain ⟨Y, hY⟩ : ∃ Y, Y = y.toNat := ⟨_, rfl⟩
  rw [← hX, ← hY]
  have HHL := Lib.hid hL
  have HHX := Lib.hid hX
  have HHY := Lib.hid hY
  clear hL hX hY
  go_enter Try.func5, Try.ntmps5
  go_wp2_with (first
    | (go_at_call 10; refine (awake_any _).mono ?_; rintro e w1 ⟨rfl, hb⟩)
    | (go_at_call 12; refine (new_tab _).mono ?_; rintro e w2 ⟨rfl, hs2, ht2, hb2⟩; have HZ2 := Lib.hid hs2; have HT2 := Lib.hid ht2; have HB1 := Lib.hid (hb.trans (hb2.mono hb.size)); clear hs2 hb2 ht2)
    | (go_at_call 16; refine (seal_b _ _ s _ _ rfl HT2.out (by have := HZ2.out; omega) (by omega)).mono ?_; rintro e w5 ⟨rfl, hb5⟩; obtain ⟨cap, W6, hconv, hcap, hz6, hh6, hb6⟩ := conv_bytes (sealB s) w5; rw [HX.out] at hconv hcap; rw [← HHL.out] at hh6; have HH6 := Lib.hid hh6; have HB6 := Lib.hid (hb5.trans (hb6.mono hb5.size)); have HG := Lib.hid (show w5.heap.size < W6.heap.size by omega); have HG2 := Lib.hid hb5.size; clear hh6 hb6 hb5 hz6))
  have hLk : k < L.length := by have := HLL.out; omega
  have hLk1 : k + 1 < L.length := by have := HLL.out; omega
  have HC1 := HH6.out k hLk
  have c1 := HC1.1
  have f1 := HC1.2
  have hb1 := HB1.out
  have c2 : W6.cell? ⟨w.heap.size, 0, none⟩ = some (.int .u8 X) := by
    rw [HB6.out.cell (p := ⟨w.heap.size, 0, none⟩) (by have := hb1.size; simp at this; show w.heap.size < w2.heap.size; omega), hb1.cell (p := ⟨w.heap.size, 0, none⟩) (by simp), World.cell?_alloc_new]; rfl
  have c3 : W6.cell? ⟨w.heap.size, 1, none⟩ = some (.int .u8 Y) := by
    rw [HB6.out.cell (p := ⟨w.heap.size, 1, none⟩) (by have := hb1.size; simp at this; show w.heap.size < w2.heap.size; omega), hb1.cell (p := ⟨w.heap.size, 1, none⟩) (by simp), World.cell?_alloc_new]; rfl
  obtain ⟨V, hV⟩ : ∃ V, V = (L[k] ^^^ x).toNat := ⟨_, rfl⟩
  have hxa : bits .xor .u8 ((L[k].toNat : Nat) : Int) (X : Int) = ((V : Nat) : Int) := by
    rw [HHX.out, u8_xor_nat _ _ (blt _) (blt _), hV, UInt8.toNat_xor]
  have HV := Lib.hid hV
  have HC3 := Lib.hid c3
  clear hconv HC1 hb1 c3 hV
  have b1 : (k : Int) < (s.size : Int) + 2 := by omega
  have b2 : (0 : Int) ≤ (k : Int) := by omega
  go_region
  go_wp2
  -- the second byte
  have h7 : HoldsB ((W6.setCell ⟨w5.heap.size, k, none⟩ (.int .u8 V)).drew) w5.heap.size (L.set k (L[k] ^^^ x)) := by
    rw [HV.out]; exact (HH6.out.set k hLk _).drew
  have hb7 : Below w2.heap.size w2 ((W6.setCell ⟨w5.heap.size, k, none⟩ (.int .u8 V)).drew) := (HB6.out.setCell (by exact HG2.out) _).drew
  have hw2 : w.heap.size < w2.heap.size := by have := HB1.out.size; simp at this; omega
  have c4 : ((W6.setCell ⟨w5.heap.size, k, none⟩ (.int .u8 V)).drew).cell? ⟨w.heap.size, 1, none⟩ = some (.int .u8 Y) := by
    rw [World.cell?_drew, World.cell?_setCell_other (w := W6) (a := ⟨w5.heap.size, k, none⟩) (b := ⟨w.heap.size, 1, none⟩) (h := fun he => by have := (Addr.mk.inj he).1; have := HG2.out; omega)]
    exact HC3.out
  have hz7 : ((W6.setCell ⟨w5.heap.size, k, none⟩ (.int .u8 V)).drew).heap.size = W6.heap.size := by simp [World.setCell]
  generalize ((W6.setCell ⟨w5.heap.size, k, none⟩ (.int .u8 V)).drew) = W7 at *
  have HC7 := h7 (k + 1) (by simpa using hLk1)
  have d1 := HC7.1
  have d2 := HC7.2
  obtain ⟨M, hM⟩ : ∃ M, M = L.set k (L[k] ^^^ x) := ⟨_, rfl⟩
  have hMl : M.length = L.length := by rw [hM]; simp
  obtain ⟨m, hm⟩ : ∃ m, m = ((L.set k (L[k] ^^^ x))[k + 1]'(by simpa using hLk1)) := ⟨_, rfl⟩
  rw [← hm] at d1
  obtain ⟨V2, hV2⟩ : ∃ V2, V2 = (m ^^^ y).toNat := ⟨_, rfl⟩
  have hxb : bits .xor .u8 ((m.toNat : Nat) : Int) (Y : Int) = ((V2 : Nat) : Int) := by
    rw [HHY.out, u8_xor_nat _ _ (blt _) (blt _), hV2, UInt8.toNat_xor]
  have HV2 := Lib.hid hV2
  have HM := Lib.hid hM
  have Hm := Lib.hid hm
  have H7 := Lib.hid h7
  have HB7 := Lib.hid hb7
  have HZ7 := Lib.hid hz7
  have HML := Lib.hid hMl
  clear hxa hV2 hM hm h7 hb7 hz7 HC7 c1 f1 c2 b1 hMl
  have b1 : (k : Int) + 1 < (s.size : Int) + 2 := by omega
  have b3 : IntKind.i64.wrap ((k : Int) + 1) = (k : Int) + 1 := IntWalk.i64_in _ (by omega)
  have b4 : ((k : Int) + 1).toNat = k + 1 := by omega
  have b5 : (0 : Int) ≤ (k : Int) + 1 := by omega
  go_region
  -- the text that is opened
  have hM2 : (L.set k (L[k] ^^^ x))[k + 1]'(by simpa using hLk1) = m := Hm.out.symm
  have h8 : HoldsB ((W7.setCell ⟨w5.heap.size, k + 1, none⟩ (.int .u8 V2)).drew) w5.heap.size ((L.set k (L[k] ^^^ x)).set (k + 1) (m ^^^ y)) := by
    rw [HV2.out]; exact (H7.out.set (k + 1) (by simpa using hLk1) _).drew
  have hb8 : Below w2.heap.size w2 ((W7.setCell ⟨w5.heap.size, k + 1, none⟩ (.int .u8 V2)).drew) := (HB7.out.setCell (by exact HG2.out) _).drew
  have hw2 : w.heap.size < w2.heap.size := by have := HB1.out.size; simp at this; omega
  have hwr := wrongL_two_ne L k x y (by have := HLL.out; omega) hLk1 (by rw [HHL.out]; exact sealB_wrong s)
  rw [hM2] at hwr
  have hlen : ((L.set k (L[k] ^^^ x)).set (k + 1) (m ^^^ y)).length = s.size + 2 := by simp; exact HLL.out
  have h8c := h8.text (s.size + 2) cap hlen.symm
  have hz0 : x = 0 ∧ y = 0 → (L.set k (L[k] ^^^ x)).set (k + 1) (m ^^^ y) = L := by
    rintro ⟨rfl, rfl⟩
    rw [← hM2]
    simp
  generalize hM3 : (L.set k (L[k] ^^^ x)).set (k + 1) (m ^^^ y) = M3 at *
  have c5 : ((W7.setCell ⟨w5.heap.size, k + 1, none⟩ (.int .u8 V2)).drew).heap.size = W7.heap.size := by simp [World.setCell]
  have hg8 : w2.heap.size < W7.heap.size + 1 := by have := HB7.out.size; omega
  clear hM2 h8 hM3 d1 d2 hxb c4 b1 b3 b4 b5 b2 hcap
  generalize hZ : (⟨M3.toArray⟩ : ByteArray) = Z at *
  have hZl : Z.data.toList = M3 := by rw [← hZ]
  have hZs : Z.size = s.size + 2 := by rw [← hlen, ← hZ]; rfl
  have HT8 := Lib.hid (HT2.out.below (by have := HZ2.out; omega) hb8)
  have h18 := Lib.hid (HB1.out.trans (hb8.mono (by simp; omega)))
  have hlt8 : w1.heap.size < ((W7.setCell ⟨w5.heap.size, k + 1, none⟩ (.int .u8 V2)).drew).heap.size := by have := HZ2.out; have := hb8.size; omega
  generalize ((W7.setCell ⟨w5.heap.size, k + 1, none⟩ (.int .u8 V2)).drew) = W8 at *
  clear c5 hg8 hb8
  by_cases hxy : x = 0 ∧ y = 0
  · have hq : ∀ W, (binOp .eql 39 (.agg #[.int .u8 X, .int .u8 Y]) (.agg #[.int .u8 0, .int .u8 0])).run Try.prog W = .ok (.bool true) W := fun W => by
      rw [run_eq_two, HHX.out, HHY.out, hxy.1, hxy.2]; rfl
    have hZ2 : Z = sealB s := bytes_ext (by rw [hZl, hz0 hxy, HHL.out])
    have HO := Lib.hid (open_back w1.heap.size s W8 (by omega) HT8.out hlt8)
    rw [← hZ2] at HO
    clear hZ2 hz0 hZl hZ hZs hlen hwr hlt8
    go_wp2_with (go_at_call 18; refine (HO.out).mono ?_; rintro e w9 ⟨rfl, hb9⟩; have k0 := cell_box (h18.out.trans (hb9.mono h18.out.size)); have k1 := cell_box1 (h18.out.trans (hb9.mono h18.out.size)))
    go_ret
    exact ⟨rfl, ((Below.refl _ w).alloc (Nat.le_refl _) _).trans ((h18.out.trans (hb9.mono h18.out.size)).mono (by simp))⟩
  · have hq : ∀ W, (binOp .eql 39 (.agg #[.int .u8 X, .int .u8 Y]) (.agg #[.int .u8 0, .int .u8 0])).run Try.prog W = .ok (.bool false) W := fun W => by
      rw [run_eq_two, HHX.out, HHY.out, two_zero x y hxy]
    have HO := Lib.hid (open_no w1.heap.size Z W8 (by omega) (by omega) HT8.out hlt8 (fun hS => hwr hxy (by rw [← hZl]; exact (sealed_wrong Z (by omega)).1 hS)))
    clear hz0 hZl hZ hZs hlen hwr hlt8
    go_wp2_with (go_at_call 18; refine (HO.out).mono ?_; rintro e w9 ⟨rfl, hb9⟩; have k0 := cell_box (h18.out.trans (hb9.mono h18.out.size)); have k1 := cell_box1 (h18.out.trans (hb9.mono h18.out.size)))
    go_ret
    exact ⟨rfl, ((Below.refl _ w).alloc (Nat.le_refl _) _).trans ((h18.out.trans (hb9.mono h18.out.size)).mono (by simp))⟩
theorem tells_any (s : ByteArray) (at_ : Int) (x y : UInt8) (w : World) (hs : s.size ≤ 140737488351232) :
    Calls Try.prog 5 #[.string s, .int .i64 at_, .agg #[.int .u8 ((x.toNat : Nat) : Int), .int .u8 ((y.toNat : Nat) : Int)]] w fun e w' => e = .returned (.bool true) ∧ Below w.heap.size w w' := by
  by_cases h1 : 3000 < s.size
  · exact tells_big s at_ _ _ w h1 hs
  by_cases h2 : at_ < 0 ∨ (s.size : Int) < at_
  · exact tells_out s at_ _ _ w (by omega) h2
  obtain ⟨k, rfl⟩ := Int.eq_ofNat_of_zero_le (show 0 ≤ at_ by omega)
  exact tells_in s k x y w (by omega) (by omega)
end Go.Proofs.Ytgahmaaoieofhaa
