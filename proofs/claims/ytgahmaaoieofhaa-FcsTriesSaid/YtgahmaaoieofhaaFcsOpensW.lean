/-
Walk of the statement FcsOpens.
-/
import Derived.Test.YtgahmaaoieofhaaFcsOpenW
namespace Go.Proofs.Ytgahmaaoieofhaa
open Go.RowKit
/-- a text, sealed -/
def sealB (s : ByteArray) : ByteArray := ⟨(sealL s.data.toList).toArray⟩
theorem sealB_size (s : ByteArray) : (sealB s).size = s.size + 2 := by
  show (sealL s.data.toList).toArray.size = _
  simp [sealL]
theorem sealB_list (s : ByteArray) : (sealB s).data.toList = sealL s.data.toList := rfl
theorem held_sealB (s : ByteArray) : held (sealB s) = s := bytes_ext (by
  rw [held_list, sealB_size, sealB_list, sealL, Nat.add_sub_cancel, List.take_left' (by simp)])
theorem sealed_sealB (s : ByteArray) : Sealed (sealB s) := by unfold Sealed; rw [held_sealB]; rfl
theorem open_back (b : Nat) (s : ByteArray) (w : World) (hs : s.size ≤ 140737488351232) (ht : IsTab w b) (hb : b < w.heap.size) :
    Calls Try.prog 18 #[.pointer (some ⟨b, 0, none⟩), .string (sealB s)] w fun e w' => e = .returned (.tuple #[.string s, .int .i64 0]) ∧ Below w.heap.size w w' := by
  have h := open_yes b (sealB s) w (by rw [sealB_size]; omega) (by rw [sealB_size]; omega) ht hb (sealed_sealB s)
  rw [held_sealB] at h
  exact h
theorem seal_b (b n : Nat) (s : ByteArray) (t : TypeId) (w : World) (hn : n = w.heap.size) (ht : IsTab w b) (hb : b < w.heap.size) (hs : s.size ≤ 140737488351232) :
    Calls Try.prog 16 #[.pointer (some ⟨b, 0, none⟩), .slice (some ⟨n, 0, none⟩) 1 1] (w.alloc (.cells #[.string s] t)) fun e w' => e = .returned (.string (sealB s)) ∧ Below w.heap.size w w' :=
  seal_1 b n s t w hn ht hb hs
theorem opens_big (s : ByteArray) (w : World) (h : 3000 < s.size) (hs : s.size ≤ 140737488351232) :
    Calls Try.prog 4 #[.string s] w fun e w' => e = .returned (.bool true) ∧ Below w.heap.size w w' := by
  go_enter Try.func4, Try.ntmps4
  go_wp2_with (go_at_call 10; refine (awake_any _).mono ?_; rintro e w1 ⟨rfl, hb⟩)
  go_ret
  exact ⟨rfl, hb⟩
set_option maxHeartbeats 400000 in
theorem opens_core (s a : ByteArray) (n : Int) (w : World) (hs : s.size ≤ 3000)
    (ho : ∀ b w1, IsTab w1 b → b < w1.heap.size → Calls Try.prog 18 #[.pointer (some ⟨b, 0, none⟩), .string s] w1 fun e w' => e = .returned (.tuple #[.string a, .int .i64 n]) ∧ Below w1.heap.size w1 w')
    (hr : ∀ w1, Calls Try.prog 19 #[.string s] w1 fun e w' => e = .returned (.tuple #[.string a, .int .i64 n]) ∧ Below w1.heap.size w1 w') :
    Calls Try.prog 4 #[.string s] w fun e w' => e = .returned (.bool true) ∧ Below w.heap.size w w' := by
  have HO := Lib.hid ho
  have HR := Lib.hid hr
  clear ho hr
  go_enter Try.func4, Try.ntmps4
  go_wp2_with (first
    | (go_at_call 10; refine (awake_any _).mono ?_; rintro e w1 ⟨rfl, hb⟩)
    | (go_at_call 12; refine (new_tab _).mono ?_; rintro e w2 ⟨rfl, hs2, ht2, hb2⟩; have HZ2 := Lib.hid hs2; have HT2 := Lib.hid ht2; have HB2 := Lib.hid (hb.trans (hb2.mono hb.size)); clear hs2 hb2 ht2))
  refine (HO.out _ _ HT2.out (by have := HZ2.out; omega)).mono ?_
  rintro e w3 ⟨rfl, hb3⟩
  have hz3 := hb3.size
  have hlt : w1.heap.size < w3.heap.size := by have := HZ2.out; omega
  have HT3 := Lib.hid (HT2.out.below (by have := HZ2.out; omega) hb3)
  have HB3 := Lib.hid (HB2.out.trans (hb3.mono HB2.out.size))
  clear hb3 hz3
  go_wp2_with (go_at_call 19; refine (HR.out _).mono ?_; rintro e w4 ⟨rfl, hb4⟩; have hlt4 : w1.heap.size < w4.heap.size := Nat.lt_of_lt_of_le hlt hb4.size; have HT4 := Lib.hid (HT3.out.below hlt hb4); have HB4 := Lib.hid (HB3.out.trans (hb4.mono HB3.out.size)); clear hb4)
  refine (seal_b _ _ s _ _ rfl HT4.out hlt4 (by omega)).mono ?_
  rintro e w5 ⟨rfl, hb5⟩
  have hlt5 : w1.heap.size < w5.heap.size := Nat.lt_of_lt_of_le hlt4 hb5.size
  have HT5 := Lib.hid (HT4.out.below hlt4 hb5)
  have HB5 := Lib.hid (HB4.out.trans (hb5.mono HB4.out.size))
  clear hb5
  go_wp2_with fail
  refine (open_back _ s _ (by omega) HT5.out hlt5).mono ?_
  rintro e w6 ⟨rfl, hb6⟩
  go_wp2
  go_ret
  exact ⟨rfl, HB5.out.trans (hb6.mono HB5.out.size)⟩
theorem opens_any (s : ByteArray) (w : World) (hs : s.size ≤ 140737488351232) :
    Calls Try.prog 4 #[.string s] w fun e w' => e = .returned (.bool true) ∧ Below w.heap.size w w' := by
  by_cases h3 : 3000 < s.size
  · exact opens_big s w h3 hs
  by_cases h2 : s.size < 2
  · exact opens_core s ⟨#[]⟩ 4 w (by omega) (fun b w1 _ _ => (open_short b s w1 h2).mono fun _ _ ⟨he, hw⟩ => ⟨he, hw ▸ Below.refl _ _⟩) (fun w1 => (ropen_short s w1 h2).mono fun _ _ ⟨he, hw⟩ => ⟨he, hw ▸ Below.refl _ _⟩)
  by_cases hS : Sealed s
  · exact opens_core s (held s) 0 w (by omega) (fun b w1 ht hb => open_yes b s w1 (by omega) (by omega) ht hb hS) (fun w1 => ropen_yes s w1 (by omega) (by omega) hS)
  · exact opens_core s ⟨#[]⟩ 3 w (by omega) (fun b w1 ht hb => open_no b s w1 (by omega) (by omega) ht hb hS) (fun w1 => ropen_no s w1 (by omega) (by omega) hS)
end Go.Proofs.Ytgahmaaoieofhaa
