/-
Walk of the document's own Encode.
-/
import Derived.Test.YtcnljojbkjfebaaOwnBytes
namespace Go.Proofs.Ytcnljojbkjfebaa
open Go.RowKit
/-- a byte, as it stands between two ends -/
def esc (c : UInt8) : List UInt8 := if c = 192 then [219, 220] else if c = 219 then [219, 221] else [c]
theorem esc_len (c : UInt8) : 1 ≤ (esc c).length ∧ (esc c).length ≤ 2 := by unfold esc; split <;> (try split) <;> simp
/-- what stands behind the first end, of the first k bytes -/
def escs (T : List UInt8) : List UInt8 := T.flatMap esc
theorem escs_len (T : List UInt8) : (escs T).length ≤ 2 * T.length := by
  induction T with
  | nil => simp [escs]
  | cons c T ih => have := (esc_len c).2; simp only [escs, List.flatMap_cons, List.length_append, List.length_cons] at *; omega
theorem escs_snoc (s : ByteArray) (k : Nat) (h : k < s.size) : escs (s.data.toList.take (k + 1)) = escs (s.data.toList.take k) ++ esc s[k] := by
  have e : s.data.toList.take (k + 1) = s.data.toList.take k ++ [s[k]] := by
    rw [List.take_succ_eq_append_getElem (by simpa using h)]; rfl
  rw [e, escs, List.flatMap_append]; simp [escs]
theorem convert_one (x : Int) (b : UInt8) (hx : x = ((b.toNat : Nat) : Int)) (W : World) (g : Nat) (h0 : W.cell? ⟨g, 0, none⟩ = some (.int .u8 x)) :
    (convert 39 9 (.slice (some ⟨g, 0, none⟩) 1 1)).run Try.prog W = .ok (.string ⟨#[b]⟩) W := by
  rw [run_convert_bytes_arg W 39 5 Try.underlying39 Try.underlying5 g 0 1 1 [x] rfl (fun i hi => by
    obtain rfl : i = 0 := by omega
    exact h0) 9 Try.underlying9]
  congr 2
  unfold strOfNums
  rw [hx]
  simp
/-- the text between the ends -/
def inner (P C : Nat) (s : ByteArray) : ByteArray := ⟨#[UInt8.ofNat (16 * P + C)]⟩ ++ s
theorem inner_list (P C : Nat) (s : ByteArray) : (inner P C s).data.toList = UInt8.ofNat (16 * P + C) :: s.data.toList := by
  simp [inner]
theorem inner_size (P C : Nat) (s : ByteArray) : (inner P C s).size = s.size + 1 := by
  rw [← ByteArray.size_data, ← Array.length_toList, inner_list]; simp
/-- a frame's bytes -/
def frameBytes (P C : Nat) (s : ByteArray) : List UInt8 := 192 :: escs (inner P C s).data.toList ++ [192]
theorem esc_192 : esc 192 = [219, 220] := rfl
theorem esc_219 : esc 219 = [219, 221] := rfl
theorem esc_other {c : UInt8} (h1 : c ≠ 192) (h2 : c ≠ 219) : esc c = [c] := by unfold esc; rw [if_neg h1, if_neg h2]
theorem toNat_ne {c : UInt8} {n : Nat} (h : c ≠ UInt8.ofNat n) (hn : n < 256) : c.toNat ≠ n := fun e => h (UInt8.toNat_inj.1 (by rw [e, UInt8.toNat_ofNat', Nat.mod_eq_of_lt (by omega)]))
set_option maxHeartbeats 1000000 in
theorem renc_ok (P C : Nat) (s : ByteArray) (w : World) (hp : P ≤ 15) (hc : C ≤ 15) (hs : s.size ≤ 3000) :
    Calls Try.prog 10 #[.agg #[.int .i64 P, .int .i64 C, .string s]] w fun e w' => e = .returned (.tuple #[.string ⟨(frameBytes P C s).toArray⟩, .bool true]) ∧ Below w.heap.size w w' := by
  obtain ⟨i0, hi, hz0, hz1, hz2⟩ := info_parts info8
  have h1 := convert_one (16 * (P : Int) + (C : Int)) (UInt8.ofNat (16 * P + C)) (by rw [UInt8.toNat_ofNat', Nat.mod_eq_of_lt (by omega)]; omega)
  have hcat : ∀ W, (Op.stringOp .add ⟨#[UInt8.ofNat (16 * P + C)]⟩ s).run Try.prog W = .ok (.string (inner P C s)) W := fun W => run_string_add_sum W _ _ (show 1 + s.size ≤ 9223372036854775807 by omega)
  have hfb : frameBytes P C s = 192 :: escs (inner P C s).data.toList ++ [192] := rfl
  have hTs := inner_size P C s
  have HFB := Lib.hid hfb
  clear hfb
  generalize UInt8.ofNat (16 * P + C) = hd at *
  generalize inner P C s = T at *
  have hT : T.size ≤ 3001 := by omega
  have HTs := Lib.hid hTs
  clear hTs
  go_enter Try.func10, Try.ntmps10
  go_wp2
  go_loopw [4, 6] (fun b i wx => ∃ k : Nat, k ≤ T.size ∧ i = .int .i64 k ∧ Hid (OwnB wx (w.heap.size + 1) b (192 :: escs (T.data.toList.take k)) ∧ Below w.heap.size w wx ∧ w.heap.size + 1 ≤ wx.heap.size)) (fun _ i _ => T.size - (intOf i).toNat)
  case atStart => exact ⟨0, by omega, rfl, (OwnB.start _ _ _ _ _ rfl (by simp) (by omega)).alloc _, (((Below.refl _ w).alloc (Nat.le_refl _) _).alloc (by simp) _).alloc (by simp; omega) _, by simp⟩
  case round =>
    obtain ⟨k, hk, rfl, HR⟩ := hrel
    have hlen := escs_len (T.data.toList.take k)
    have hlt2 : (T.data.toList.take k).length ≤ k := List.length_take_le _ _
    by_cases hlt : k < T.size
    · have HE := Lib.hid (escs_snoc T k hlt)
      obtain ⟨c, hc⟩ : ∃ c, c = T[k] := ⟨_, rfl⟩
      rw [← hc] at HE
      have HC := Lib.hid hc
      obtain ⟨L, hL⟩ : ∃ L, L = 192 :: escs (T.data.toList.take k) := ⟨_, rfl⟩
      rw [← hL] at HR
      have hLl : L.length ≤ 6003 := by rw [hL]; simp; omega
      have HLEN := Lib.hid hLl
      have HLL := Lib.hid hL
      have HO := Lib.hid HR.out.1
      have HBW := Lib.hid HR.out.2.1
      have HSZ := Lib.hid HR.out.2.2
      have hnext : L ++ esc c = 192 :: escs (T.data.toList.take (k + 1)) := by rw [hL, HE.out]; rfl
      have HN := Lib.hid hnext
      clear HR hL hLl hlen hlt2 hnext HE
      by_cases e1 : c = 192
      · have t1 : (((T[k].toNat : Nat) : Int) == 192) = true := by rw [← hc, e1]; rfl
        have t2 : (((T[k].toNat : Nat) : Int) == 219) = false := by rw [← hc, e1]; rfl
        have t3 : (((T[k].toNat : Nat) : Int) != 192) = false := by rw [← hc, e1]; rfl
        rw [e1, esc_192] at HN
        clear hc e1
        go_wp2_with (first
          | (at_builtin; refine wpList_append_own _ rfl (.tmp 50) (.tmp 51) 39 rfl (w.heap.size + 1) 5 i0 (.int .u8 0) 1 1 Try.underlying39 hi hz0 hz1 hz2 rfl (by decide) _ _ _ rfl (World.ownsRow.alloc HO.out _) ⟨wr.heap.size, 0, none⟩ 2 2 (bytesV [219, 220]) rfl rfl (cells_new wr _ _) (bytesV_one _) (by have := HLEN.out; unfold maxLen; omega) (by have := HLEN.out; omega) (by have := HSZ.out; simp; omega) ?_; intro v' w1 hown1 hgrow1 _; have HX := Lib.hid (HO.out.appended HBW.out (Nat.le_succ _) HSZ.out hown1 hgrow1); clear hown1 hgrow1))
        go_roundw
        case rel => exact ⟨k + 1, by omega, by go_num, by have h := HX.out; rw [HN.out] at h; exact h⟩
        case measure => simp [intOf]; omega
      by_cases e2 : c = 219
      · have t1 : (((T[k].toNat : Nat) : Int) == 192) = false := by rw [← hc, e2]; rfl
        have t2 : (((T[k].toNat : Nat) : Int) == 219) = true := by rw [← hc, e2]; rfl
        have t3 : (((T[k].toNat : Nat) : Int) != 192) = true := by rw [← hc, e2]; rfl
        have t4 : (((T[k].toNat : Nat) : Int) != 219) = false := by rw [← hc, e2]; rfl
        rw [e2, esc_219] at HN
        clear hc e1 e2
        go_wp2_with (first
          | (at_builtin; refine wpList_append_own _ rfl (.tmp 55) (.tmp 56) 39 rfl (w.heap.size + 1) 5 i0 (.int .u8 0) 1 1 Try.underlying39 hi hz0 hz1 hz2 rfl (by decide) _ _ _ rfl (World.ownsRow.alloc HO.out _) ⟨wr.heap.size, 0, none⟩ 2 2 (bytesV [219, 221]) rfl rfl (cells_new wr _ _) (bytesV_one _) (by have := HLEN.out; unfold maxLen; omega) (by have := HLEN.out; omega) (by have := HSZ.out; simp; omega) ?_; intro v' w1 hown1 hgrow1 _; have HX := Lib.hid (HO.out.appended HBW.out (Nat.le_succ _) HSZ.out hown1 hgrow1); clear hown1 hgrow1))
        go_roundw
        case rel => exact ⟨k + 1, by omega, by go_num, by have h := HX.out; rw [HN.out] at h; exact h⟩
        case measure => simp [intOf]; omega
      · have n1 := toNat_ne (n := 192) e1 (by omega)
        have n2 := toNat_ne (n := 219) e2 (by omega)
        have t1 : (((T[k].toNat : Nat) : Int) == 192) = false := by rw [← hc, beq_eq_false_iff_ne]; omega
        have t2 : (((T[k].toNat : Nat) : Int) == 219) = false := by rw [← hc, beq_eq_false_iff_ne]; omega
        have t3 : (((T[k].toNat : Nat) : Int) != 192) = true := by rw [← hc, bne_iff_ne]; omega
        have t4 : (((T[k].toNat : Nat) : Int) != 219) = true := by rw [← hc, bne_iff_ne]; omega
        rw [esc_other e1 e2] at HN
        clear hc e1 e2 n1 n2
        go_wp2_with (first
          | (at_builtin; refine wpList_append_own _ rfl (.tmp 64) (.tmp 66) 39 rfl (w.heap.size + 1) 5 i0 (.int .u8 0) 1 1 Try.underlying39 hi hz0 hz1 hz2 rfl (by decide) _ _ _ rfl (World.ownsRow.alloc HO.out _) ⟨wr.heap.size, 0, none⟩ 1 1 (bytesV [c]) rfl rfl (by rw [HC.out]; exact cells_new wr _ _) (bytesV_one _) (by have := HLEN.out; unfold maxLen; omega) (by have := HLEN.out; omega) (by have := HSZ.out; simp; omega) ?_; intro v' w1 hown1 hgrow1 _; have HX := Lib.hid (HO.out.appended HBW.out (Nat.le_succ _) HSZ.out hown1 hgrow1); clear hown1 hgrow1))
        go_roundw
        case rel => exact ⟨k + 1, by omega, by go_num, by have h := HX.out; rw [HN.out] at h; exact h⟩
        case measure => simp [intOf]; omega
    · obtain rfl : k = T.size := by omega
      have hlen2 := escs_len T.data.toList
      have hTl : T.data.toList.length = T.size := by simp
      rw [List.take_of_length_le (by omega)] at HR
      obtain ⟨L, hL⟩ : ∃ L, L = 192 :: escs T.data.toList := ⟨_, rfl⟩
      rw [← hL] at HR
      have hLl : L.length ≤ 6003 := by rw [hL]; simp; omega
      have HLEN := Lib.hid hLl
      have HO := Lib.hid HR.out.1
      have HBW := Lib.hid HR.out.2.1
      have HSZ := Lib.hid HR.out.2.2
      have hN : L ++ [192] = frameBytes P C s := by rw [hL, HFB.out]
      have HN := Lib.hid hN
      clear HR hL hLl hlen hlt2 hlen2 hTl hN
      go_wp2_with (first
        | (at_builtin; refine wpList_append_own _ rfl (.tmp 68) (.tmp 69) 39 rfl (w.heap.size + 1) 5 i0 (.int .u8 0) 1 1 Try.underlying39 hi hz0 hz1 hz2 rfl (by decide) _ _ _ rfl (World.ownsRow.alloc HO.out _) ⟨wr.heap.size, 0, none⟩ 1 1 (bytesV [192]) rfl rfl (cells_new wr _ _) (bytesV_one _) (by have := HLEN.out; unfold maxLen; omega) (by have := HLEN.out; omega) (by have := HSZ.out; simp; omega) ?_; intro v' w1 hown1 hgrow1 _; have HX := Lib.hid (HO.out.appended HBW.out (Nat.le_succ _) HSZ.out hown1 hgrow1); clear hown1 hgrow1; obtain ⟨g, cap, hv⟩ := OwnB.slice HX.out.1 (by simp); subst hv; have hcv := OwnB.text HX.out.1 rfl; simp only [List.length_append, List.length_cons, List.length_nil, Nat.zero_add] at hcv))
      go_ret2
      exact ⟨by rw [← HN.out]; rfl, HX.out.2.1⟩
theorem renc_no (p c : Int) (s : ByteArray) (w : World) (h : p < 0 ∨ 15 < p ∨ c < 0 ∨ 15 < c) :
    Calls Try.prog 10 #[.agg #[.int .i64 p, .int .i64 c, .string s]] w fun e w' => e = .returned (.tuple #[.string ⟨#[]⟩, .bool false]) ∧ Below w.heap.size w w' := by
  by_cases h1 : p < 0
  · go_enter Try.func10, Try.ntmps10
    go_wp2
    go_ret2
    exact ⟨rfl, (Below.refl _ w).alloc (Nat.le_refl _) _⟩
  by_cases h2 : 15 < p
  · go_enter Try.func10, Try.ntmps10
    go_wp2
    go_ret2
    exact ⟨rfl, (Below.refl _ w).alloc (Nat.le_refl _) _⟩
  by_cases h3 : c < 0
  · go_enter Try.func10, Try.ntmps10
    go_wp2
    go_ret2
    exact ⟨rfl, (Below.refl _ w).alloc (Nat.le_refl _) _⟩
  have h4 : 15 < c := by omega
  clear h
  go_enter Try.func10, Try.ntmps10
  go_wp2
  go_ret2
  exact ⟨rfl, (Below.refl _ w).alloc (Nat.le_refl _) _⟩
end Go.Proofs.Ytcnljojbkjfebaa
