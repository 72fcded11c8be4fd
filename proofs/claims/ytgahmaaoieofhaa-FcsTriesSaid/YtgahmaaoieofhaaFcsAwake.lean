/-
Walk of awake: the document's example.
-/
import Derived.Test.YtgahmaaoieofhaaFcsSum
import Derived.Lib.Hide
import Derived.BigQuiet
import Derived.Deep.QuietTactic
namespace Go.Proofs.Ytgahmaaoieofhaa
open Go.RowKit
theorem IsTab.alloc {w : World} {b : Nat} (h : IsTab w b) (hb : b < w.heap.size) (o : Obj) : IsTab (w.alloc o) b :=
  h.below hb ((Below.refl _ _).alloc (Nat.le_refl _) o)
/-- a text of its own in a new block -/
theorem sum_1 (b : Nat) (s : ByteArray) (t : TypeId) (w : World) (ht : IsTab w b) (hb : b < w.heap.size) (hs : s.size ≤ 9223372036854775807) :
    Calls Try.prog 14 #[.pointer (some ⟨b, 0, none⟩), .slice (some ⟨w.heap.size, 0, none⟩) 1 1] (w.alloc (.cells #[.string s] t)) fun e w' => e = .returned (.int .u16 (65535 ^^^ crc 65535 s.data.toList : Nat)) ∧ w.alloc (.cells #[.string s] t) = w' := by
  have h := sum_some b w.heap.size 0 1 [s] (w.alloc (.cells #[.string s] t)) (ht.alloc hb _) (by simp) (by simpa using hs)
    (fun j hj => by
      obtain rfl : j = 0 := by simpa using hj
      rw [World.cell?_alloc_new]; rfl)
  rw [show flat [s] = s.data.toList from by simp [flat]] at h
  exact h
theorem sum_3 (b : Nat) (s1 s2 s3 : ByteArray) (t : TypeId) (w : World) (ht : IsTab w b) (hb : b < w.heap.size) (h1 : s1.size ≤ 9223372036854775807) (h2 : s2.size ≤ 9223372036854775807) (h3 : s3.size ≤ 9223372036854775807) :
    Calls Try.prog 14 #[.pointer (some ⟨b, 0, none⟩), .slice (some ⟨w.heap.size, 0, none⟩) 3 3] (w.alloc (.cells #[.string s1, .string s2, .string s3] t)) fun e w' => e = .returned (.int .u16 (65535 ^^^ crc 65535 (s1.data.toList ++ s2.data.toList ++ s3.data.toList) : Nat)) ∧ w.alloc (.cells #[.string s1, .string s2, .string s3] t) = w' := by
  have h := sum_some b w.heap.size 0 3 [s1, s2, s3] (w.alloc (.cells #[.string s1, .string s2, .string s3] t)) (ht.alloc hb _) (by simp) (by simp [h1, h2, h3])
    (fun j hj => by
      have hj3 : j < 3 := by simpa using hj
      rw [Nat.zero_add, World.cell?_alloc_new]
      match j, hj3 with
      | 0, _ => rfl
      | 1, _ => rfl
      | 2, _ => rfl)
  rw [show flat [s1, s2, s3] = s1.data.toList ++ s2.data.toList ++ s3.data.toList from by simp [flat]] at h
  exact h
theorem ex_sum1 : 65535 ^^^ crc 65535 (ByteArray.mk #[49, 50, 51, 52, 53, 54, 55, 56, 57]).data.toList = 36974 := by decide +kernel
theorem ex_sum3 : 65535 ^^^ crc 65535 ((ByteArray.mk #[49, 50, 51, 52]).data.toList ++ (ByteArray.mk #[]).data.toList ++ (ByteArray.mk #[53, 54, 55, 56, 57]).data.toList) = 36974 := by decide +kernel
theorem sum_ex1 (b n : Nat) (t : TypeId) (w : World) (hn : n = w.heap.size) (ht : IsTab w b) (hb : b < w.heap.size) :
    Calls Try.prog 14 #[.pointer (some ⟨b, 0, none⟩), .slice (some ⟨n, 0, none⟩) 1 1] (w.alloc (.cells #[.string ⟨#[49, 50, 51, 52, 53, 54, 55, 56, 57]⟩] t)) fun e w' => e = .returned (.int .u16 36974) ∧ w.alloc (.cells #[.string ⟨#[49, 50, 51, 52, 53, 54, 55, 56, 57]⟩] t) = w' :=
  by
  subst hn
  exact (sum_1 b _ t w ht hb (by decide)).mono fun _ _ ⟨he, hw⟩ => ⟨by rw [he, ex_sum1]; rfl, hw⟩
theorem sum_ex3 (b n : Nat) (t : TypeId) (w : World) (hn : n = w.heap.size) (ht : IsTab w b) (hb : b < w.heap.size) :
    Calls Try.prog 14 #[.pointer (some ⟨b, 0, none⟩), .slice (some ⟨n, 0, none⟩) 3 3] (w.alloc (.cells #[.string ⟨#[49, 50, 51, 52]⟩, .string ⟨#[]⟩, .string ⟨#[53, 54, 55, 56, 57]⟩] t)) fun e w' => e = .returned (.int .u16 36974) ∧ w.alloc (.cells #[.string ⟨#[49, 50, 51, 52]⟩, .string ⟨#[]⟩, .string ⟨#[53, 54, 55, 56, 57]⟩] t) = w' :=
  by
  subst hn
  exact (sum_3 b _ _ _ t w ht hb (by decide) (by decide) (by decide)).mono fun _ _ ⟨he, hw⟩ => ⟨by rw [he, ex_sum3]; rfl, hw⟩
set_option maxHeartbeats 400000 in
theorem awake_any (w : World) :
    Calls Try.prog 10 #[] w fun e w' => e = .returned (.bool true) ∧ Below w.heap.size w w' := by
  go_enter Try.func10, Try.ntmps10
  go_wp2_with (go_at_call 12; refine (new_tab _).mono ?_; rintro e w1 ⟨rfl, hs, ht, hb⟩; have HS := Lib.hid hs; clear hs)
  have ht2 : IsTab (w1.alloc (.cells #[.string ⟨#[49, 50, 51, 52, 53, 54, 55, 56, 57]⟩] 9)) w.heap.size := ht.alloc (by have := HS.out; omega) _
  refine (sum_ex1 _ _ _ _ rfl ht (by have := HS.out; omega)).mono ?_
  rintro e w' ⟨rfl, rfl⟩
  go_wp2_with fail
  refine (sum_ex3 _ _ _ _ (by simp) ht2 (by have := HS.out; simp; omega)).mono ?_
  rintro e w' ⟨rfl, rfl⟩
  go_wp2_with fail
  go_ret
  have hz := HS.out
  exact ⟨rfl, (hb.alloc (by omega) _).alloc (by simp; omega) _⟩
end Go.Proofs.Ytgahmaaoieofhaa
