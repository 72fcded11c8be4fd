/-
Walk of the code's Encode.
-/
import Derived.Test.YteglaenjmeocmaaKissEsc
namespace Go.Proofs.Yteglaenjmeocmaa
open Go.RowKit
theorem half_yes (n : Int) (w : World) (h0 : 0 ≤ n) (h1 : n ≤ 15) : Calls Try.prog 23 #[.int .i64 n] w fun e w' => e = .returned (.bool true) ∧ w = w' := by
  go_enter Try.func23, Try.ntmps23
  go_wp2
  go_ret
  exact ⟨rfl, rfl⟩
theorem half_no (n : Int) (w : World) (h : n < 0 ∨ 15 < n) : Calls Try.prog 23 #[.int .i64 n] w fun e w' => e = .returned (.bool false) ∧ w = w' := by
  rcases h with h | h
  · go_enter Try.func23, Try.ntmps23
    go_wp2
    go_ret
    exact ⟨rfl, rfl⟩
  · have hd : decide (n ≤ 15) = false := by simp; omega
    go_enter Try.func23, Try.ntmps23
    go_wp2
    go_ret
    exact ⟨rfl, rfl⟩
/-- what escape leaves -/
def EscTo (B : Nat) (w : World) (L : List UInt8) (e : Ending) (w' : World) : Prop := ∃ v', e = .returned v' ∧ OwnB w' B v' L ∧ Below B w w' ∧ B ≤ w'.heap.size
set_option maxHeartbeats 400000 in
theorem escape_any (B : Nat) (v : Value) (L : List UInt8) (c : UInt8) (w : World) (hO : OwnB w B v L) (hL : L.length ≤ 100000) (hB : B ≤ w.heap.size) :
    Calls Try.prog 24 #[v, .int .u8 ((c.toNat : Nat) : Int)] w fun e w' => EscTo B w (L ++ esc c) e w' := by
  obtain ⟨i0, hi, hz0, hz1, hz2⟩ := info_parts info8
  have HO := Lib.hid hO
  clear hO
  by_cases e1 : c = 192
  · subst e1
    rw [esc_192, show (((192 : UInt8).toNat : Nat) : Int) = 192 from rfl]
    go_enter Try.func24, Try.ntmps24
    go_wp2_with (first
      | (at_builtin; refine wpList_append_own _ rfl (.tmp 8) (.tmp 9) 58 rfl B 5 i0 (.int .u8 0) 1 1 Try.underlying58 hi hz0 hz1 hz2 rfl (by decide) _ _ _ rfl (World.ownsRow.alloc HO.out _) ⟨w.heap.size, 0, none⟩ 2 2 (bytesV [219, 220]) rfl rfl (cells_new w _ _) (bytesV_one _) (by unfold maxLen; omega) (by omega) (by simp; omega) ?_; intro v' w1 hown1 hgrow1 _; have HX := Lib.hid (HO.out.appended (Below.refl B w) (Nat.le_refl _) hB hown1 hgrow1); clear hown1 hgrow1))
    go_ret
    exact ⟨v', rfl, HX.out⟩
  by_cases e2 : c = 219
  · subst e2
    rw [esc_219, show (((219 : UInt8).toNat : Nat) : Int) = 219 from rfl]
    clear e1
    go_enter Try.func24, Try.ntmps24
    go_wp2_with (first
      | (at_builtin; refine wpList_append_own _ rfl (.tmp 13) (.tmp 14) 58 rfl B 5 i0 (.int .u8 0) 1 1 Try.underlying58 hi hz0 hz1 hz2 rfl (by decide) _ _ _ rfl (World.ownsRow.alloc HO.out _) ⟨w.heap.size, 0, none⟩ 2 2 (bytesV [219, 221]) rfl rfl (cells_new w _ _) (bytesV_one _) (by unfold maxLen; omega) (by omega) (by simp; omega) ?_; intro v' w1 hown1 hgrow1 _; have HX := Lib.hid (HO.out.appended (Below.refl B w) (Nat.le_refl _) hB hown1 hgrow1); clear hown1 hgrow1))
    go_ret
    exact ⟨v', rfl, HX.out⟩
  · rw [esc_other e1 e2]
    have n1 := toNat_ne (n := 192) e1 (by omega)
    have n2 := toNat_ne (n := 219) e2 (by omega)
    have t1 : (((c.toNat : Nat) : Int) == 192) = false := by rw [beq_eq_false_iff_ne]; omega
    have t2 : (((c.toNat : Nat) : Int) == 219) = false := by rw [beq_eq_false_iff_ne]; omega
    clear e1 e2 n1 n2
    go_enter Try.func24, Try.ntmps24
    go_wp2_with (first
      | (at_builtin; refine wpList_append_own _ rfl (.tmp 16) (.tmp 18) 58 rfl B 5 i0 (.int .u8 0) 1 1 Try.underlying58 hi hz0 hz1 hz2 rfl (by decide) _ _ _ rfl (World.ownsRow.alloc HO.out _) ⟨w.heap.size, 0, none⟩ 1 1 (bytesV [c]) rfl rfl (cells_new w _ _) (bytesV_one _) (by unfold maxLen; omega) (by omega) (by simp; omega) ?_; intro v' w1 hown1 hgrow1 _; have HX := Lib.hid (HO.out.appended (Below.refl B w) (Nat.le_refl _) hB hown1 hgrow1); clear hown1 hgrow1))
    go_ret
    exact ⟨v', rfl, HX.out⟩
theorem or_half (P C : Nat) (hp : P ≤ 15) (hc : C ≤ 15) : bits BinOp.or IntKind.i64 ((P : Int) * 16) (C : Int) % 256 = (((UInt8.ofNat (16 * P + C)).toNat : Nat) : Int) := by
  have k : ∀ p : Fin 16, ∀ c : Fin 16, bits BinOp.or IntKind.i64 (((p.1 : Nat) : Int) * 16) ((c.1 : Nat) : Int) % 256 = ((16 * p.1 + c.1 : Nat) : Int) := of_decide_eq_true (by kernel_rfl)
  have h := k ⟨P, by omega⟩ ⟨C, by omega⟩
  rw [UInt8.toNat_ofNat', Nat.mod_eq_of_lt (by omega)]
  exact h
theorem escs_one (c : UInt8) (s : ByteArray) (k : Nat) (h : k < s.size) : escs (c :: s.data.toList.take (k + 1)) = escs (c :: s.data.toList.take k) ++ esc s[k] := by
  have e := escs_snoc s k h
  simp only [escs, List.flatMap_cons, List.append_assoc] at e ⊢
  rw [e]
set_option maxHeartbeats 1000000 in
theorem enc_ok (P C : Nat) (s : ByteArray) (w : World) (hp : P ≤ 15) (hc : C ≤ 15) (hs : s.size ≤ 3000) :
    Calls Try.prog 14 #[.agg #[.int .i64 P, .int .i64 C, .string s]] w fun e w' => e = .returned (.tuple #[.string ⟨(frameBytes P C s).toArray⟩, .int .i64 0]) ∧ Below w.heap.size w w' := by
  obtain ⟨i0, hi, hz0, hz1, hz2⟩ := info_parts info8
  have HP := Lib.hid (fun W => half_yes (P : Int) W (by omega) (by omega))
  have HC := Lib.hid (fun W => half_yes (C : Int) W (by omega) (by omega))
  have hfb : frameBytes P C s = 192 :: escs (UInt8.ofNat (16 * P + C) :: s.data.toList) ++ [192] := by unfold frameBytes; rw [inner_list]
  have HFB := Lib.hid hfb
  have hor := or_half P C hp hc
  have HOR := Lib.hid hor
  clear hfb hor
  generalize UInt8.ofNat (16 * P + C) = hd at *
  obtain ⟨box, hbox⟩ : ∃ box, box = Obj.cells #[Value.int .i64 (P : Int), .int .i64 (C : Int), .string s] 25 := ⟨_, rfl⟩
  have hb2 : (w.alloc box).cell? ⟨w.heap.size, 2, none⟩ = some (.string s) := by rw [hbox, World.cell?_alloc_new]; rfl
  have HB2 := Lib.hid hb2
  have HBOX := Lib.hid hbox
  have HE := Lib.hid (show Calls Try.prog 24 #[.slice (some ⟨w.heap.size + 1, 0, none⟩) 1 1, .int .u8 (bits BinOp.or IntKind.i64 ((P : Int) * 16) (C : Int) % 256)] ((w.alloc box).alloc (.cells #[.int .u8 192] 5)) (fun e w' => EscTo (w.heap.size + 1) ((w.alloc box).alloc (.cells #[.int .u8 192] 5)) ([192] ++ esc hd) e w') from by
    rw [HOR.out]
    exact escape_any (w.heap.size + 1) _ [192] hd _ (OwnB.start _ _ _ _ _ rfl (by simp) (by omega)) (by simp) (by simp))
  rw [hbox] at HE
  clear hb2 hbox
  go_enter Try.func14, Try.ntmps14
  go_wp2_with (first
    | (go_at_call 23; ((with_reducible refine (HP.out _).mono ?_); rintro e w1 ⟨rfl, rfl⟩))
    | (go_at_call 23; ((with_reducible refine (HC.out _).mono ?_); rintro e w1 ⟨rfl, rfl⟩))
    | (go_at_call 24; refine (HE.out).mono ?_; rintro e w1 ⟨v1, rfl, hO1, hB1, hS1⟩; have HO1 := Lib.hid hO1; have HB1 := Lib.hid ((((Below.refl (w.heap.size + 1) (w.alloc box)).alloc (by simp) _)).trans (HBOX.out ▸ hB1)); clear hO1 hB1; have hdat := (HB1.out.cell (p := ⟨w.heap.size, 2, none⟩) (Nat.lt_succ_self _)).trans HB2.out))
  go_loopw [4, 29] (fun b i wx => ∃ k : Nat, k ≤ s.size ∧ i = .int .i64 k ∧ Hid (OwnB wx (w.heap.size + 1) b (192 :: escs (hd :: s.data.toList.take k)) ∧ Below (w.heap.size + 1) (w.alloc box) wx ∧ w.heap.size + 1 ≤ wx.heap.size)) (fun _ i _ => s.size - (intOf i).toNat)
  case atStart => exact ⟨0, by omega, rfl, by have h := HO1.out; simpa [escs] using h, HB1.out, hS1⟩
  case round =>
    obtain ⟨k, hk, rfl, HR⟩ := hrel
    have hdk := (HR.out.2.1.cell (p := ⟨w.heap.size, 2, none⟩) (Nat.lt_succ_self _)).trans HB2.out
    have hlen := escs_len (hd :: s.data.toList.take k)
    have hlt2 : (s.data.toList.take k).length ≤ k := List.length_take_le _ _
    clear HE HO1 HB1 hdat
    by_cases hlt : k < s.size
    · have HN := Lib.hid (escs_one hd s k hlt)
      have HX := Lib.hid (escape_any (w.heap.size + 1) _ _ s[k] _ HR.out.1 (by simp at hlen ⊢; omega) HR.out.2.2)
      have HBW := Lib.hid HR.out.2.1
      clear HR hlen hlt2
      go_wp2_with (first
        | (go_at_call 24; refine (HX.out).mono ?_; rintro e w2 ⟨v2, rfl, hO2, hB2, hS2⟩; have HO2 := Lib.hid hO2; have HB2' := Lib.hid (HBW.out.trans hB2); clear hO2 hB2))
      go_roundw
      case rel => exact ⟨k + 1, by omega, by go_num, by have h := HO2.out; rw [List.cons_append, ← HN.out] at h; exact h, HB2'.out, hS2⟩
      case measure => simp [intOf]; omega
    · obtain rfl : k = s.size := by omega
      have hTl : s.data.toList.length = s.size := by simp
      rw [List.take_of_length_le (by omega)] at HR hlen
      obtain ⟨L, hL⟩ : ∃ L, L = 192 :: escs (hd :: s.data.toList) := ⟨_, rfl⟩
      rw [← hL] at HR
      have hLl : L.length ≤ 6004 := by rw [hL]; simp at hlen ⊢; omega
      have HLEN := Lib.hid hLl
      have HO := Lib.hid HR.out.1
      have HBW := Lib.hid HR.out.2.1
      have HSZ := Lib.hid HR.out.2.2
      have hN : L ++ [192] = frameBytes P C s := by rw [hL, HFB.out]
      have HN := Lib.hid hN
      clear HR hL hLl hlen hlt2 hTl hN
      go_wp2_with (first
        | (at_builtin; refine wpList_append_own _ rfl (.tmp 39) (.tmp 40) 58 rfl (w.heap.size + 1) 5 i0 (.int .u8 0) 1 1 Try.underlying58 hi hz0 hz1 hz2 rfl (by decide) _ _ _ rfl (World.ownsRow.alloc HO.out _) ⟨wr.heap.size, 0, none⟩ 1 1 (bytesV [192]) rfl rfl (cells_new wr _ _) (bytesV_one _) (by have := HLEN.out; unfold maxLen; omega) (by have := HLEN.out; omega) (by have := HSZ.out; simp; omega) ?_; intro v' w1 hown1 hgrow1 _; have HX := Lib.hid (HO.out.appended HBW.out (Nat.le_refl _) HSZ.out hown1 hgrow1); clear hown1 hgrow1; obtain ⟨g, cap, hv⟩ := OwnB.slice HX.out.1 (by simp); subst hv; have hcv := OwnB.text HX.out.1 rfl; simp only [List.length_append, List.length_cons, List.length_nil, Nat.zero_add] at hcv))
      go_ret2
      exact ⟨by rw [← HN.out]; rfl, ((Below.refl _ w).alloc (Nat.le_refl _) box).trans (HX.out.2.1.mono (Nat.le_succ _))⟩
theorem enc_no (p c : Int) (s : ByteArray) (w : World) (h : p < 0 ∨ 15 < p ∨ c < 0 ∨ 15 < c) :
    Calls Try.prog 14 #[.agg #[.int .i64 p, .int .i64 c, .string s]] w fun e w' => e = .returned (.tuple #[.string ⟨#[]⟩, .int .i64 1]) ∧ Below w.heap.size w w' := by
  by_cases h1 : p < 0 ∨ 15 < p
  · have HP := Lib.hid (fun W => half_no p W h1)
    clear h h1
    go_enter Try.func14, Try.ntmps14
    go_wp2_with (first
      | (go_at_call 23; refine (HP.out _).mono ?_; rintro e w1 ⟨rfl, rfl⟩))
    go_ret2
    exact ⟨rfl, (Below.refl _ w).alloc (Nat.le_refl _) _⟩
  · have HP := Lib.hid (fun W => half_yes p W (by omega) (by omega))
    have HC := Lib.hid (fun W => half_no c W (by omega))
    clear h h1
    go_enter Try.func14, Try.ntmps14
    go_wp2_with (first
      | (go_at_call 23; ((with_reducible refine (HP.out _).mono ?_); rintro e w1 ⟨rfl, rfl⟩))
      | (go_at_call 23; refine (HC.out _).mono ?_; rintro e w1 ⟨rfl, rfl⟩))
    go_ret2
    exact ⟨rfl, (Below.refl _ w).alloc (Nat.le_refl _) _⟩
end Go.Proofs.Yteglaenjmeocmaa
