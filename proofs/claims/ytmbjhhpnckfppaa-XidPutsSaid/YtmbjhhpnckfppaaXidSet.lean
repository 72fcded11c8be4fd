/-
The landed code's set: what the bytes of a known number say.
-/
import Derived.Test.YtmbjhhpnckfppaaXidSum
import Derived.BigRegion
namespace Go.Proofs.Ytmbjhhpnckfppaa
open Go.RowKit
set_option maxRecDepth 20000
theorem set_n1 (m : Nat) (l : ByteArray) (v0 v1 v2 v3 v4 v5 : Value) (w : World) (hl : l.size = 2) (h : C6 w m v0 v1 v2 v3 v4 v5) :
    Calls Try.prog 24 #[.pointer (some ⟨m, 0, none⟩), .int .u8 6, .int .i64 2, .string l] w fun e w' => e = .returned (.bool true) ∧ C6 w' m v0 v1 (.int .i64 (((l[0].toNat : Nat) : Int) * 256 + ((l[1].toNat : Nat) : Int))) v3 v4 v5 ∧ w.grownBy w' (some m) := by
  have HS := Lib.hid (fun W => sum_two l W hl)
  have H := Lib.hid h
  have hm := h.k0.lt
  obtain ⟨⟨c0, f0, -⟩, ⟨c1, f1, -⟩, ⟨c2, f2, -⟩, ⟨c3, f3, -⟩, ⟨c4, f4, -⟩, ⟨c5, f5, -⟩⟩ := h
  go_enter Try.func24, Try.ntmps24
  go_wp2_with fail
  go_at_call 22
  refine (HS.out _).mono ?_
  rintro e w1 ⟨rfl, rfl⟩
  go_wp2_with fail
  go_ret
  exact ⟨rfl, H.out.put2 _, grown_set (grown_refl _ _) _⟩
theorem set_k (m : Nat) (l : ByteArray) (v0 v1 v2 v3 v4 v5 : Value) (w : World) (hl : l.size = 1) (h : C6 w m v0 v1 v2 v3 v4 v5) :
    Calls Try.prog 24 #[.pointer (some ⟨m, 0, none⟩), .int .u8 8, .int .i64 1, .string l] w fun e w' => e = .returned (.bool true) ∧ C6 w' m v0 v1 v2 (.int .i64 ((l[0].toNat : Nat) : Int)) v4 v5 ∧ w.grownBy w' (some m) := by
  have HS := Lib.hid (fun W => sum_one l W hl)
  have H := Lib.hid h
  have hm := h.k0.lt
  obtain ⟨⟨c0, f0, -⟩, ⟨c1, f1, -⟩, ⟨c2, f2, -⟩, ⟨c3, f3, -⟩, ⟨c4, f4, -⟩, ⟨c5, f5, -⟩⟩ := h
  go_enter Try.func24, Try.ntmps24
  go_wp2_with fail
  go_at_call 22
  refine (HS.out _).mono ?_
  rintro e w1 ⟨rfl, rfl⟩
  go_wp2_with fail
  go_ret
  exact ⟨rfl, H.out.put3 _, grown_set (grown_refl _ _) _⟩
theorem set_t1 (m : Nat) (l : ByteArray) (v0 v1 v2 v3 v4 v5 : Value) (w : World) (hl : l.size = 1) (h : C6 w m v0 v1 v2 v3 v4 v5) :
    Calls Try.prog 24 #[.pointer (some ⟨m, 0, none⟩), .int .u8 9, .int .i64 1, .string l] w fun e w' => e = .returned (.bool true) ∧ C6 w' m v0 v1 v2 v3 (.int .i64 ((l[0].toNat : Nat) : Int)) v5 ∧ w.grownBy w' (some m) := by
  have HS := Lib.hid (fun W => sum_one l W hl)
  have H := Lib.hid h
  have hm := h.k0.lt
  obtain ⟨⟨c0, f0, -⟩, ⟨c1, f1, -⟩, ⟨c2, f2, -⟩, ⟨c3, f3, -⟩, ⟨c4, f4, -⟩, ⟨c5, f5, -⟩⟩ := h
  go_enter Try.func24, Try.ntmps24
  go_wp2_with fail
  go_at_call 22
  refine (HS.out _).mono ?_
  rintro e w1 ⟨rfl, rfl⟩
  go_wp2_with fail
  go_ret
  exact ⟨rfl, H.out.put4 _, grown_set (grown_refl _ _) _⟩
theorem set_n2 (m : Nat) (l : ByteArray) (v0 v1 v2 v3 v4 v5 : Value) (w : World) (hl : l.size = 1) (h : C6 w m v0 v1 v2 v3 v4 v5) :
    Calls Try.prog 24 #[.pointer (some ⟨m, 0, none⟩), .int .u8 10, .int .i64 1, .string l] w fun e w' => e = .returned (.bool true) ∧ C6 w' m v0 v1 v2 v3 v4 (.int .i64 ((l[0].toNat : Nat) : Int)) ∧ w.grownBy w' (some m) := by
  have HS := Lib.hid (fun W => sum_one l W hl)
  have H := Lib.hid h
  have hm := h.k0.lt
  obtain ⟨⟨c0, f0, -⟩, ⟨c1, f1, -⟩, ⟨c2, f2, -⟩, ⟨c3, f3, -⟩, ⟨c4, f4, -⟩, ⟨c5, f5, -⟩⟩ := h
  go_enter Try.func24, Try.ntmps24
  go_wp2_with fail
  go_at_call 22
  refine (HS.out _).mono ?_
  rintro e w1 ⟨rfl, rfl⟩
  go_wp2_with fail
  go_ret
  exact ⟨rfl, H.out.put5 _, grown_set (grown_refl _ _) _⟩
theorem set_able (m : Nat) (l : ByteArray) (a b : Bool) (v0 v1 v2 v3 v4 v5 : Value) (w : World) (hl : l.size = 2) (hx : l[0] = canD a b) (hy : l[1] = 0) (h : C6 w m v0 v1 v2 v3 v4 v5) :
    Calls Try.prog 24 #[.pointer (some ⟨m, 0, none⟩), .int .u8 3, .int .i64 2, .string l] w fun e w' => e = .returned (.bool true) ∧ C6 w' m (.bool a) (.bool b) v2 v3 v4 v5 ∧ w.grownBy w' (some m) := by
  have ey : ((l[1].toNat : Nat) : Int) = 0 := by rw [hy]; rfl
  have H := Lib.hid h.drew
  have hm := h.k0.lt
  obtain ⟨⟨c0, f0, -⟩, ⟨c1, f1, -⟩, ⟨c2, f2, -⟩, ⟨c3, f3, -⟩, ⟨c4, f4, -⟩, ⟨c5, f5, -⟩⟩ := h
  clear hy
  rcases a with _ | _ <;> rcases b with _ | _
  · have ex : ((l[0].toNat : Nat) : Int) = 0 := by rw [hx]; rfl
    have hA : (bits BinOp.and .u8 0 2 != 0) = false := by decide +kernel
    have hB : (bits BinOp.and .u8 0 4 != 0) = false := by decide +kernel
    clear hx
    go_enter Try.func24, Try.ntmps24
    go_wp2_with fail
    go_region
    go_wp2_with fail
    go_ret
    exact ⟨rfl, (H.out.put0 _).put1 _, grown_set (grown_set (grown_drew (grown_refl w (some m))) _) _⟩
  · have ex : ((l[0].toNat : Nat) : Int) = 4 := by rw [hx]; rfl
    have hA : (bits BinOp.and .u8 4 2 != 0) = false := by decide +kernel
    have hB : (bits BinOp.and .u8 4 4 != 0) = true := by decide +kernel
    clear hx
    go_enter Try.func24, Try.ntmps24
    go_wp2_with fail
    go_region
    go_wp2_with fail
    go_ret
    exact ⟨rfl, (H.out.put0 _).put1 _, grown_set (grown_set (grown_drew (grown_refl w (some m))) _) _⟩
  · have ex : ((l[0].toNat : Nat) : Int) = 2 := by rw [hx]; rfl
    have hA : (bits BinOp.and .u8 2 2 != 0) = true := by decide +kernel
    have hB : (bits BinOp.and .u8 2 4 != 0) = false := by decide +kernel
    clear hx
    go_enter Try.func24, Try.ntmps24
    go_wp2_with fail
    go_region
    go_wp2_with fail
    go_ret
    exact ⟨rfl, (H.out.put0 _).put1 _, grown_set (grown_set (grown_drew (grown_refl w (some m))) _) _⟩
  · have ex : ((l[0].toNat : Nat) : Int) = 6 := by rw [hx]; rfl
    have hA : (bits BinOp.and .u8 6 2 != 0) = true := by decide +kernel
    have hB : (bits BinOp.and .u8 6 4 != 0) = true := by decide +kernel
    clear hx
    go_enter Try.func24, Try.ntmps24
    go_wp2_with fail
    go_region
    go_wp2_with fail
    go_ret
    exact ⟨rfl, (H.out.put0 _).put1 _, grown_set (grown_set (grown_drew (grown_refl w (some m))) _) _⟩
end Go.Proofs.Ytmbjhhpnckfppaa
