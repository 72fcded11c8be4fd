/-
Walk of the statement FcsTries.
-/
import Derived.Test.YtgahmaaoieofhaaFcsFixesW
namespace Go.Proofs.Ytgahmaaoieofhaa
open Go.RowKit
theorem tries_big (s : ByteArray) (w : World) (h : 40 < s.size) (hs : s.size ≤ 140737488351232) :
    Calls Try.prog 9 #[.string s] w fun e w' => e = .returned (.bool true) ∧ Below w.heap.size w w' := by
  go_enter Try.func9, Try.ntmps9
  go_wp2_with (go_at_call 10; refine (awake_any _).mono ?_; rintro e w1 ⟨rfl, hb⟩)
  go_ret
  exact ⟨rfl, hb⟩
set_option maxHeartbeats 400000 in
/-- where the document opens it, or not for its sum's sake -/
theorem tries_open (s a : ByteArray) (n : Int) (w : World) (hs : s.size ≤ 40) (hn : n = 4 ∨ n = 0)
    (ho : ∀ b w1, IsTab w1 b → b < w1.heap.size → Calls Try.prog 20 #[.pointer (some ⟨b, 0, none⟩), .string s] w1 fun e w' => e = .returned (.tuple #[.string a, .int .i64 (-1), .int .i64 n]) ∧ Below w1.heap.size w1 w')
    (hr : ∀ w1, Calls Try.prog 19 #[.string s] w1 fun e w' => e = .returned (.tuple #[.string a, .int .i64 n]) ∧ Below w1.heap.size w1 w') :
    Calls Try.prog 9 #[.string s] w fun e w' => e = .returned (.bool true) ∧ Below w.heap.size w w' := by
  have HO := Lib.hid ho
  have HR := Lib.hid hr
  clear ho hr
  rcases hn with rfl | rfl
  all_goals
    go_enter Try.func9, Try.ntmps9
    go_wp2_with (first
      | (go_at_call 10; refine (awake_any _).mono ?_; rintro e w1 ⟨rfl, hb⟩)
      | (go_at_call 12; refine (new_tab _).mono ?_; rintro e w2 ⟨rfl, hs2, ht2, hb2⟩; have L2 := Lib.hid (show w1.heap.size < w2.heap.size by omega); have HT2 := Lib.hid ht2; have HB2 := Lib.hid (hb.trans (hb2.mono hb.size)); clear hs2 hb2 ht2)
      | (go_at_call 20; refine (HO.out _ _ HT2.out L2.out).mono ?_; rintro e w3 ⟨rfl, hb3⟩)
      | (go_at_call 19; refine (HR.out _).mono ?_; rintro e w4 ⟨rfl, hb4⟩))
    go_ret
    have h2 := HB2.out
    exact ⟨rfl, h2.trans ((hb3.trans (hb4.mono hb3.size)).mono h2.size)⟩
/-- what a round makes of what was found -/
def RoundOk (s : ByteArray) (F : Nat → Int) (D : Nat → ByteArray) (k : Nat) : Prop :=
  (¬ Sealed (turnB s k) ∧ F (k + 1) = F k ∧ D (k + 1) = D k) ∨ (Sealed (turnB s k) ∧ F k < 0 ∧ F (k + 1) = k ∧ D (k + 1) = held (turnB s k))
set_option maxRecDepth 100000 in
set_option maxHeartbeats 1000000 in
theorem tries_loop (s X : ByteArray) (N E : Int) (F : Nat → Int) (D : Nat → ByteArray) (w : World) (h2 : 2 ≤ s.size) (hs : s.size ≤ 40)
    (ho : ∀ b w1, IsTab w1 b → b < w1.heap.size → Calls Try.prog 20 #[.pointer (some ⟨b, 0, none⟩), .string s] w1 fun e w' => e = .returned (.tuple #[.string X, .int .i64 N, .int .i64 E]) ∧ Below w1.heap.size w1 w')
    (hr : ∀ w1, Calls Try.prog 19 #[.string s] w1 fun e w' => e = .returned (.tuple #[.string ⟨#[]⟩, .int .i64 3]) ∧ Below w1.heap.size w1 w')
    (hF : F 0 = -1) (hD : D 0 = ⟨#[]⟩) (hR : ∀ k, k < 8 * s.size → RoundOk s F D k)
    (hfin : (F (8 * s.size) < 0 ∧ X = ⟨#[]⟩ ∧ N = -1 ∧ E = 3) ∨ (0 ≤ F (8 * s.size) ∧ X = D (8 * s.size) ∧ N = F (8 * s.size) ∧ E = 0)) :
    Calls Try.prog 9 #[.string s] w fun e w' => e = .returned (.bool true) ∧ Below w.heap.size w w' := by
  have HO := Lib.hid ho
  have HR := Lib.hid hr
  have HF := Lib.hid hF
  have HD := Lib.hid hD
  have HRO := Lib.hid hR
  have HFIN := Lib.hid hfin
  clear ho hr hF hD hR hfin
  go_enter Try.func9, Try.ntmps9
  go_wp2_with (first
    | (go_at_call 10; refine (awake_any _).mono ?_; rintro e w1 ⟨rfl, hb⟩)
    | (go_at_call 12; refine (new_tab _).mono ?_; rintro e w2 ⟨rfl, hs2, ht2, hb2⟩; have L2 := Lib.hid (show w1.heap.size < w2.heap.size by omega); have HT2 := Lib.hid ht2; have HB2 := Lib.hid (hb.trans (hb2.mono hb.size)); clear hs2 hb2 ht2)
    | (go_at_call 20; refine (HO.out _ _ HT2.out L2.out).mono ?_; rintro e w3 ⟨rfl, hb3⟩; have HB3 := Lib.hid (HB2.out.trans (hb3.mono HB2.out.size)); clear hb3)
    | (go_at_call 19; refine (HR.out _).mono ?_; rintro e w4 ⟨rfl, hb4⟩; have HB4 := Lib.hid (HB3.out.trans (hb4.mono HB3.out.size)); clear hb4))
  go_loopw [7, 9, 10] (fun d f i wx => ∃ k : Nat, k ≤ 8 * s.size ∧ i = .int .i64 k ∧ f = .int .i64 (F k) ∧ d = .string (D k) ∧ Hid (Below w.heap.size w wx)) (fun _ _ i _ => 8 * s.size - (intOf i).toNat)
  case atStart => exact ⟨0, Nat.zero_le _, rfl, by rw [HF.out], by rw [HD.out], HB4.out⟩
  case round =>
    obtain ⟨k, hk, rfl, rfl, rfl, HBW⟩ := hrel
    have HSS := Lib.hid hs
    by_cases hlt : k < 8 * s.size
    · have hro := HRO.out k hlt
      obtain ⟨f, hf⟩ : ∃ f, f = F k := ⟨_, rfl⟩
      obtain ⟨dk, hdk⟩ : ∃ dk, dk = D k := ⟨_, rfl⟩
      unfold RoundOk at hro
      rw [← hf, ← hdk] at hro ⊢
      obtain ⟨cap, W6, hconv, hcap, hz6, hh6, hb6⟩ := conv_bytes s wr
      have hll : s.data.toList.length = s.size := by simp
      have hjl : k / 8 < s.data.toList.length := by omega
      have HC := hh6 (k / 8) hjl
      have hcg : s.data.toList.getD (k / 8) 0 = s.data.toList[k / 8] := by rw [List.getD_eq_getElem?_getD, List.getElem?_eq_getElem hjl]; rfl
      rw [← hcg] at HC
      have h8 := hh6.set (k / 8) hjl (s.data.toList.getD (k / 8) 0 ^^^ bitOf k)
      have hTL : s.data.toList.set (k / 8) (s.data.toList.getD (k / 8) 0 ^^^ bitOf k) = turnL s.data.toList k := rfl
      rw [hTL] at h8
      have hlen : (turnL s.data.toList k).length = s.size := by rw [turnL_length, hll]
      have hv0 := bit_val (s.data.toList.getD (k / 8) 0) k
      generalize s.data.toList.getD (k / 8) 0 = c at *
      obtain ⟨V, hV⟩ : ∃ V, V = (c ^^^ bitOf k).toNat := ⟨_, rfl⟩
      rw [← hV] at hv0 h8
      have c1 := HC.1
      have f1 := HC.2
      have htx := h8.text s.size cap hlen.symm
      rw [show (⟨(turnL s.data.toList k).toArray⟩ : ByteArray) = turnB s k from rfl] at htx
      have hb8 : Below wr.heap.size wr (W6.setCell ⟨wr.heap.size, k / 8, none⟩ (.int .u8 ((V : Nat) : Int))) := hb6.setCell (p := ⟨wr.heap.size, k / 8, none⟩) (Nat.le_refl _) _
      have HB8 := Lib.hid (HBW.out.trans (hb8.mono HBW.out.size))
      have hts := turnB_size s k
      have hyes := fun h => ropen_yes (turnB s k) (W6.setCell ⟨wr.heap.size, k / 8, none⟩ (.int .u8 ((V : Nat) : Int))) (by omega) (by omega) h
      have hno := fun h => ropen_no (turnB s k) (W6.setCell ⟨wr.heap.size, k / 8, none⟩ (.int .u8 ((V : Nat) : Int))) (by omega) (by omega) h
      generalize turnB s k = T at *
      have b1 : (k : Int) / 8 < (s.size : Int) := by omega
      have b2 : (0 : Int) ≤ (k : Int) / 8 := by omega
      have b3 : ((k : Int) / 8).toNat = k / 8 := by omega
      have b4 : (0 : Int) ≤ (k : Int) % 8 := by omega
      have b5 : (0 : Int) ≤ (k : Int) := by omega
      have b6 : (k : Int) < 8 * (s.size : Int) := by omega
      have HFK := Lib.hid hf
      have HDK := Lib.hid hdk
      clear HC hh6 hz6 h8 hV hTL hlen hcg hjl hb6 hb8 hll hcap hts hf hdk
      rcases hro with ⟨hS, e1, e2⟩ | ⟨hS, hneg, e1, e2⟩
      · have HN := Lib.hid (hno hS)
        have HE1 := Lib.hid e1
        have HE2 := Lib.hid e2
        clear hyes hno hS e1 e2
        go_wp2_with (go_at_call 19; refine HN.out.mono ?_; rintro e w9 ⟨rfl, hb9⟩; have HB9 := Lib.hid (HB8.out.trans (hb9.mono HB8.out.size)); clear hb9)
        go_roundw
        case rel => exact ⟨k + 1, by omega, by go_num, by rw [HE1.out], by rw [HE2.out], HB9.out⟩
        case measure => simp [intOf]; omega
      · have HY := Lib.hid (hyes hS)
        have HE1 := Lib.hid e1
        have HE2 := Lib.hid e2
        obtain ⟨hT, hhT⟩ : ∃ hT, hT = held T := ⟨_, rfl⟩
        rw [← hhT] at HY HE2
        clear hyes hno hS e1 e2 hhT
        go_wp2_with (go_at_call 19; refine HY.out.mono ?_; rintro e w9 ⟨rfl, hb9⟩; have HB9 := Lib.hid (HB8.out.trans (hb9.mono HB8.out.size)); clear hb9)
        go_roundw
        case rel => exact ⟨k + 1, by omega, by go_num, by rw [HE1.out], by rw [HE2.out], HB9.out⟩
        case measure => simp [intOf]; omega
    · obtain rfl : k = 8 * s.size := by omega
      have hfin := HFIN.out
      generalize F (8 * s.size) = f at *
      generalize D (8 * s.size) = dk at *
      rcases hfin with ⟨h1, e1, e3, e4⟩ | ⟨h1, e1, e3, e4⟩
      · subst e1 e3 e4
        go_wp2
        go_ret
        exact ⟨rfl, HBW.out⟩
      · subst e1 e3 e4
        go_wp2
        go_ret
        exact ⟨rfl, HBW.out⟩
theorem sealed_turn (s : ByteArray) (k : Nat) (h2 : 2 ≤ s.size) (hk : k < 8 * s.size) : Sealed (turnB s k) ↔ syndK s.size k = wrongL s.data.toList := by
  have hl : s.data.toList.length = s.size := by simp
  rw [sealed_wrong _ (by rw [turnB_size]; omega), turnB_list, wrong_turnL _ k (by omega) (by omega), hl]
  constructor
  · intro h; exact (xor_eq_zero' h).symm
  · intro h; rw [h, Nat.xor_self]
theorem tries_any (s : ByteArray) (w : World) (hs : s.size ≤ 140737488351232) :
    Calls Try.prog 9 #[.string s] w fun e w' => e = .returned (.bool true) ∧ Below w.heap.size w w' := by
  by_cases h40 : 40 < s.size
  · exact tries_big s w h40 hs
  by_cases h2 : s.size < 2
  · exact tries_open s ⟨#[]⟩ 4 w (by omega) (Or.inl rfl) (fun b w1 _ _ => fix_short b s w1 h2) (fun w1 => (ropen_short s w1 h2).mono fun _ _ ⟨he, hw⟩ => ⟨he, hw ▸ Below.refl _ _⟩)
  by_cases hS : Sealed s
  · exact tries_open s (held s) 0 w (by omega) (Or.inr rfl) (fun b w1 ht hb => fix_yes b s w1 (by omega) (by omega) ht hb hS) (fun w1 => ropen_yes s w1 (by omega) (by omega) hS)
  by_cases hx : ∃ k, k < 8 * s.size ∧ syndK s.size k = wrongL s.data.toList
  · obtain ⟨k0, hk0, hw0⟩ := hx
    refine tries_loop s (held (turnB s k0)) k0 0 (fun k => if k0 < k then (k0 : Int) else -1) (fun k => if k0 < k then held (turnB s k0) else ⟨#[]⟩) w (by omega) (by omega)
      (fun b w1 ht hb => fix_bit b s k0 w1 (by omega) (by omega) ht hb hS hk0 hw0) (fun w1 => ropen_no s w1 (by omega) (by omega) hS) rfl rfl (fun k hk => ?_) (Or.inr ⟨?_, ?_, ?_, rfl⟩)
    · by_cases e : k = k0
      · right
        subst e
        refine ⟨(sealed_turn s k (by omega) hk).2 hw0, ?_, ?_, ?_⟩
        · simp
        · simp
        · simp
      · left
        refine ⟨fun h => e (syndK_inj (by omega) hk hk0 (((sealed_turn s k (by omega) hk).1 h).trans hw0.symm)), ?_, ?_⟩
        · by_cases h1 : k0 < k
          · simp only [if_pos h1, if_pos (show k0 < k + 1 by omega)]
          · simp only [if_neg h1, if_neg (show ¬ k0 < k + 1 by omega)]
        · by_cases h1 : k0 < k
          · simp only [if_pos h1, if_pos (show k0 < k + 1 by omega)]
          · simp only [if_neg h1, if_neg (show ¬ k0 < k + 1 by omega)]
    · simp only [if_pos hk0]; omega
    · simp only [if_pos hk0]
    · simp only [if_pos hk0]
  · have hn : ∀ k, k < 8 * s.size → syndK s.size k ≠ wrongL s.data.toList := fun k hk h => hx ⟨k, hk, h⟩
    refine tries_loop s ⟨#[]⟩ (-1) 3 (fun _ => -1) (fun _ => ⟨#[]⟩) w (by omega) (by omega)
      (fun b w1 ht hb => fix_none b s w1 (by omega) (by omega) ht hb hS hn) (fun w1 => ropen_no s w1 (by omega) (by omega) hS) rfl rfl (fun k hk => Or.inl ⟨fun h => hn k hk ((sealed_turn s k (by omega) hk).1 h), rfl, rfl⟩) (Or.inl ⟨by show (-1 : Int) < 0; omega, rfl, rfl, rfl⟩)
end Go.Proofs.Ytgahmaaoieofhaa
