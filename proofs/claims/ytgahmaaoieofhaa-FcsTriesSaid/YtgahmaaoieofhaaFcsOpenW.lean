/-
Walks of wrong, inside and Open.
-/
import Derived.Test.YtgahmaaoieofhaaFcsRef
namespace Go.Proofs.Ytgahmaaoieofhaa
open Go.RowKit
theorem sum_one (b g : Nat) (s : ByteArray) (W : World) (ht : IsTab W b) (hs : s.size ≤ 9223372036854775807) (hc : W.cell? ⟨g, 0, none⟩ = some (.string s)) :
    Calls Try.prog 14 #[.pointer (some ⟨b, 0, none⟩), .slice (some ⟨g, 0, none⟩) 1 1] W fun e w' => e = .returned (.int .u16 (sumOf s.data.toList : Nat)) ∧ W = w' := by
  have h := sum_some b g 0 1 [s] W ht (by simp) (by simpa using hs)
    (fun j hj => by
      obtain rfl : j = 0 := by simpa using hj
      exact hc)
  rw [show flat [s] = s.data.toList from by simp [flat]] at h
  exact h
theorem IsTab.drew {w : World} {b : Nat} (h : IsTab w b) : IsTab w.drew b := fun i hi => h i hi
/-- where the sum at a text's end is not that of the rest -/
def wrongOf (s : ByteArray) (h : 2 ≤ s.size) : Nat := (sumOf (held s).data.toList ^^^ (s[s.size - 2]'(by omega)).toNat) ^^^ (256 * (s[s.size - 1]'(by omega)).toNat)
theorem wrongOf_eq (s : ByteArray) (h : 2 ≤ s.size) (sm : Nat) (e : sumOf (held s).data.toList = sm) : wrongOf s h = (sm ^^^ (s[s.size - 2]'(by omega)).toNat) ^^^ (256 * (s[s.size - 1]'(by omega)).toNat) := by
  rw [← e]; rfl
theorem wrong_val (a x y : Nat) (ha : a < 65536) (hx : x < 256) (hy : y < 256) :
    bits .xor .u16 (bits .xor .u16 (a : Int) (IntKind.u16.wrap (x : Int))) (IntKind.u16.wrap (IntKind.u16.wrap (y : Int) * 256)) = (((a ^^^ x) ^^^ (256 * y) : Nat) : Int) := by
  rw [xor16w a x ha (by omega), IntKind.wrap_u16, IntKind.wrap_u16, show ((y : Int) % 65536 * 256 % 65536) = ((256 * y : Nat) : Int) from by omega]
  exact u16_xor_nat _ _ (xlt ha (by omega)) (by omega)
set_option maxHeartbeats 400000 in
theorem wrong_any (b : Nat) (s : ByteArray) (w : World) (h2 : 2 ≤ s.size) (hs : s.size ≤ 140737488355328) (ht : IsTab w b) (hb : b < w.heap.size) :
    Calls Try.prog 24 #[.pointer (some ⟨b, 0, none⟩), .string s] w fun e w' => e = .returned (.int .u16 (wrongOf s h2 : Nat)) ∧ Below w.heap.size w w' := by
  have hsum := sumOf_lt (held s).data.toList
  have HC := Lib.hid (sum_one b w.heap.size (held s) ((w.alloc (.cells #[.string (s.extract 0 (s.size - 2))] 9)).drew) (ht.alloc hb _).drew (show (held s).size ≤ 9223372036854775807 by rw [held, ByteArray.size_extract]; omega)
    (World.cell?_alloc_new w _ 9 0))
  clear ht
  have HW := Lib.hid (wrong_val (sumOf (held s).data.toList) s[s.size - 2].toNat s[s.size - 1].toNat hsum (blt _) (blt _))
  generalize hsm : sumOf (held s).data.toList = sm at *
  have HE := Lib.hid (wrongOf_eq s h2 sm hsm)
  clear hsm
  go_enter Try.func24, Try.ntmps24
  go_wp2_with fail
  have a1 : IntKind.i64.wrap ((s.size : Int) - 2 + 1) = (s.size : Int) - 1 := by rw [IntWalk.i64_in _ (by omega)]; omega
  have a2 : (0 : Int) ≤ (s.size : Int) - 1 := by omega
  have a3 : (s.size : Int) - 1 < (s.size : Int) := by omega
  have a4 : (0 : Int) ≤ (s.size : Int) - 2 := by omega
  have a5 : (s.size : Int) - 2 < (s.size : Int) := by omega
  have a6 : ((s.size : Int) - 1).toNat = s.size - 1 := by omega
  have a7 : ((s.size : Int) - 2).toNat = s.size - 2 := by omega
  have b1 : (2 : Int) ≤ (s.size : Int) := by omega
  have b2 : (s.size : Int) - 2 ≤ (s.size : Int) := by omega
  have b3 : (1 : Int) ≤ (s.size : Int) := by omega
  refine wp_region_any (by kernel_rfl) ?_
  try (change wpAny _ _ _ _ _ _ _ (World.drew _))
  refine wpAny_take (i := 0) (v := ?_) rfl (by kernel_rfl) (by kernel_rfl) (by kernel_rfl) (fun _ _ _ h => h) (Or.inl ⟨by rfl, ?_⟩) ?_
  rotate_left
  · intro w; go_simp; with_reducible rfl
  refine wpAny_take (i := 1) (v := ?_) rfl (by kernel_rfl) (by kernel_rfl) (by kernel_rfl) (fun _ _ _ h => h) (Or.inl ⟨by rfl, ?_⟩) ?_
  rotate_left
  · intro w; go_simp; with_reducible rfl
  refine wpAny_take (i := 2) (v := ?_) rfl (by kernel_rfl) (by kernel_rfl) (by kernel_rfl) (fun _ _ _ h => h) (Or.inl ⟨by rfl, ?_⟩) ?_
  rotate_left
  · intro w; go_simp; with_reducible rfl
  refine wpAny_take (i := 3) (v := ?_) rfl (by kernel_rfl) (by kernel_rfl) (by kernel_rfl) (fun _ _ _ h => h) (Or.inl ⟨by rfl, ?_⟩) ?_
  rotate_left
  · intro w; go_simp; with_reducible rfl
  refine wpAny_take (i := 6) (v := ?_) rfl (by kernel_rfl) (by kernel_rfl) (by kernel_rfl) (fun _ _ _ h => h) (Or.inl ⟨by rfl, ?_⟩) ?_
  rotate_left
  · intro w; go_simp; with_reducible rfl
  refine wpAny_take (i := 7) (v := ?_) rfl (by kernel_rfl) (by kernel_rfl) (by kernel_rfl) (fun _ _ _ h => h) (Or.inl ⟨by rfl, ?_⟩) ?_
  rotate_left
  · intro w; go_simp; with_reducible rfl
  refine wpAny_take (i := 8) (v := ?_) rfl (by kernel_rfl) (by kernel_rfl) (by kernel_rfl) (fun _ _ _ h => h) (Or.inl ⟨by rfl, ?_⟩) ?_
  rotate_left
  · intro w; go_simp; with_reducible rfl
  refine wpAny_take (i := 9) (v := ?_) rfl (by kernel_rfl) (by kernel_rfl) (by kernel_rfl) (fun _ _ _ h => h) (Or.inl ⟨by rfl, ?_⟩) ?_
  rotate_left
  · intro w; go_simp; with_reducible rfl
  refine wpAny_take (i := 11) (v := ?_) rfl (by kernel_rfl) (by kernel_rfl) (by kernel_rfl) (fun _ _ _ h => h) (Or.inl ⟨by rfl, ?_⟩) ?_
  rotate_left
  · intro w; go_simp; with_reducible rfl
  refine wpAny_take (i := 12) (v := ?_) rfl (by kernel_rfl) (by kernel_rfl) (by kernel_rfl) (fun _ _ _ h => h) (Or.inl ⟨by rfl, ?_⟩) ?_
  rotate_left
  · intro w; go_simp; with_reducible rfl
  refine wpAny_take (i := 13) (v := ?_) rfl (by kernel_rfl) (by kernel_rfl) (by kernel_rfl) (fun _ _ _ h => h) (Or.inl ⟨by rfl, ?_⟩) ?_
  rotate_left
  · intro w; go_simp; with_reducible rfl
  refine wpAny_take (i := 14) (v := ?_) rfl (by kernel_rfl) (by kernel_rfl) (by kernel_rfl) (fun _ _ _ h => h) (Or.inl ⟨by rfl, ?_⟩) ?_
  rotate_left
  · intro w; go_simp; with_reducible rfl
  refine wpAny_take (i := 15) (v := ?_) rfl (by kernel_rfl) (by kernel_rfl) (by kernel_rfl) (fun _ _ _ h => h) (Or.inl ⟨by rfl, ?_⟩) ?_
  rotate_left
  · intro w; go_simp; with_reducible rfl
  refine wpAny_take (i := 16) (v := ?_) rfl (by kernel_rfl) (by kernel_rfl) (by kernel_rfl) (fun _ _ _ h => h) (Or.inl ⟨by rfl, ?_⟩) ?_
  rotate_left
  · intro w; go_simp; with_reducible rfl
  refine wpAny_ready (rs := [4]) (by kernel_rfl) (by simp) ?_
  refine AllReady.cons rfl (fun K hK => ?_) AllReady.nil
  go_simp
  refine hK _ _ ?_
  clear hK K
  refine wpAny_ready (rs := [5]) (by kernel_rfl) (by simp) ?_
  refine AllReady.cons rfl (fun K hK => ?_) AllReady.nil
  go_simp
  go_wp2_with (go_at_call 14; refine HC.out.mono ?_; rintro e w2 ⟨rfl, rfl⟩)
  refine wpAny_take (i := 10) (v := ?_) rfl (by kernel_rfl) (by kernel_rfl) (by kernel_rfl) (fun _ _ _ h => h) (Or.inl ⟨by rfl, ?_⟩) ?_
  rotate_left
  · intro w; go_simp; with_reducible rfl
  refine wpAny_take (i := 17) (v := ?_) rfl (by kernel_rfl) (by kernel_rfl) (by kernel_rfl) (fun _ _ _ h => h) (Or.inl ⟨by rfl, ?_⟩) ?_
  rotate_left
  · intro w; go_simp; with_reducible rfl
  refine wpAny_take (i := 18) (v := ?_) rfl (by kernel_rfl) (by kernel_rfl) (by kernel_rfl) (fun _ _ _ h => h) (Or.inl ⟨by rfl, ?_⟩) ?_
  rotate_left
  · intro w; go_simp; with_reducible rfl
  refine wpAny_done (by kernel_rfl) ?_ _
  go_wp2
  go_ret
  exact ⟨ret_u16 (HW.out.trans (by rw [HE.out])), ((Below.refl _ w).alloc (Nat.le_refl _) _).drew⟩
set_option maxHeartbeats 400000 in
theorem inside_any (s : ByteArray) (w : World) (h2 : 2 ≤ s.size) (hs : s.size ≤ 140737488355328) :
    Calls Try.prog 25 #[.string s] w fun e w' => e = .returned (.string (held s)) ∧ Below w.heap.size w w' := by
  have HC := Lib.hid (Try.stringslite_Clone (s.extract 0 (s.size - 2)) w (by rw [ByteArray.size_extract]; omega))
  go_enter Try.func25, Try.ntmps25
  go_wp2_with (first
    | (go_at_call 34; refine HC.out.mono ?_; rintro e w2 ⟨rfl, hb⟩)
    | go_in)
  go_ret
  exact ⟨rfl, hb⟩
theorem list_split (s : ByteArray) (h2 : 2 ≤ s.size) : s.data.toList = (held s).data.toList ++ [s[s.size - 2]'(by omega), s[s.size - 1]'(by omega)] := by
  rw [held_list]
  have hl : s.data.toList.length = s.size := by simp
  have h3 := take_snoc s (s.size - 2) (by omega)
  have h4 := take_snoc s (s.size - 1) (by omega)
  rw [show s.size - 2 + 1 = s.size - 1 from by omega] at h3
  rw [show s.size - 1 + 1 = s.size from by omega, List.take_of_length_le (by omega), h3, List.append_assoc] at h4
  exact h4
theorem sealed_iff (s : ByteArray) (h2 : 2 ≤ s.size) : Sealed s ↔ wrongOf s h2 = 0 := by
  have hsm := sumOf_lt (held s).data.toList
  have hx := blt (s[s.size - 2]'(by omega))
  have hy := blt (s[s.size - 1]'(by omega))
  have h := list_split s h2
  unfold Sealed wrongOf
  rw [h, sealL]
  generalize sumOf (held s).data.toList = sm at *
  generalize s[s.size - 2]'(by omega) = x at *
  generalize s[s.size - 1]'(by omega) = y at *
  rw [List.append_cancel_left_eq, List.cons.injEq, List.cons.injEq]
  have e : x.toNat ^^^ 256 * y.toNat = 256 * y.toNat + x.toNat := by rw [Nat.xor_comm]; exact xor256 hx
  constructor
  · rintro ⟨h3, h4, _⟩
    have h3' := congrArg UInt8.toNat h3
    have h4' := congrArg UInt8.toNat h4
    rw [UInt8.toNat_ofNat', Nat.mod_eq_of_lt (by omega)] at h3' h4'
    rw [Nat.xor_assoc, e, show 256 * y.toNat + x.toNat = sm from by omega, Nat.xor_self]
  · intro h3
    rw [Nat.xor_assoc, e] at h3
    have h4 := xor_eq_zero' h3
    refine ⟨UInt8.toNat_inj.1 ?_, UInt8.toNat_inj.1 ?_, rfl⟩
    · rw [UInt8.toNat_ofNat', Nat.mod_eq_of_lt (by omega)]; omega
    · rw [UInt8.toNat_ofNat', Nat.mod_eq_of_lt (by omega)]; omega
theorem open_short (b : Nat) (s : ByteArray) (w : World) (hs : s.size < 2) :
    Calls Try.prog 18 #[.pointer (some ⟨b, 0, none⟩), .string s] w fun e w' => e = .returned (.tuple #[.string ⟨#[]⟩, .int .i64 4]) ∧ w = w' := by
  go_enter Try.func18, Try.ntmps18
  go_wp2
  go_ret2
  exact ⟨rfl, rfl⟩
theorem open_yes (b : Nat) (s : ByteArray) (w : World) (h2 : 2 ≤ s.size) (hs : s.size ≤ 140737488355328) (ht : IsTab w b) (hb : b < w.heap.size) (hS : Sealed s) :
    Calls Try.prog 18 #[.pointer (some ⟨b, 0, none⟩), .string s] w fun e w' => e = .returned (.tuple #[.string (held s), .int .i64 0]) ∧ Below w.heap.size w w' := by
  have HW := wrong_any b s w h2 hs ht hb
  rw [(sealed_iff s h2).1 hS] at HW
  have HI := Lib.hid (fun w1 => inside_any s w1 h2 hs)
  clear hS ht
  go_enter Try.func18, Try.ntmps18
  go_wp2_with (first
    | (go_at_call 24; refine HW.mono ?_; rintro e w1 ⟨rfl, hb1⟩)
    | (go_at_call 25; refine (HI.out _).mono ?_; rintro e w2 ⟨rfl, hb2⟩))
  go_ret2
  exact ⟨rfl, hb1.trans (hb2.mono hb1.size)⟩
theorem open_no (b : Nat) (s : ByteArray) (w : World) (h2 : 2 ≤ s.size) (hs : s.size ≤ 140737488355328) (ht : IsTab w b) (hb : b < w.heap.size) (hS : ¬ Sealed s) :
    Calls Try.prog 18 #[.pointer (some ⟨b, 0, none⟩), .string s] w fun e w' => e = .returned (.tuple #[.string ⟨#[]⟩, .int .i64 3]) ∧ Below w.heap.size w w' := by
  have HW := wrong_any b s w h2 hs ht hb
  have h0 : wrongOf s h2 ≠ 0 := fun h => hS ((sealed_iff s h2).2 h)
  generalize wrongOf s h2 = wr at *
  have h1 : (((wr : Nat) : Int) != 0) = true := by rw [bne_iff_ne]; omega
  have HWW := Lib.hid HW
  clear hS ht HW h0
  go_enter Try.func18, Try.ntmps18
  go_wp2_with (go_at_call 24; refine (HWW.out).mono ?_; rintro e w1 ⟨rfl, hb1⟩)
  go_ret2
  exact ⟨rfl, hb1⟩
end Go.Proofs.Ytgahmaaoieofhaa
