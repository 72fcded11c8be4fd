/-
Walks of the document's own answers: Sum, Seal, Open, Joined.
-/
import Derived.Test.YtgahmaaoieofhaaFcsSeal
namespace Go.Proofs.Ytgahmaaoieofhaa
open Go.RowKit
theorem compl_sub (r : Nat) (hr : r < 65536) : 65535 ^^^ r = 65535 - r := by
  have h : BitVec.allOnes 16 ^^^ BitVec.ofNat 16 r = ~~~ (BitVec.ofNat 16 r) := BitVec.allOnes_xor
  have h2 := congrArg BitVec.toNat h
  rw [BitVec.toNat_xor, BitVec.toNat_not, BitVec.toNat_ofNat, BitVec.toNat_allOnes, Nat.mod_eq_of_lt (by omega)] at h2
  simpa using h2
theorem ofInt_64 (a : Nat) (ha : a < 65536) : (BitVec.ofInt 64 (a : Int)).toNat = a := by
  rw [BitVec.ofInt_natCast, BitVec.toNat_ofNat]; exact Nat.mod_eq_of_lt (by omega)
theorem xor64 (a b : Nat) (ha : a < 65536) (hb : b < 65536) : bits .xor .i64 (a : Int) (b : Int) = ((a ^^^ b : Nat) : Int) := by
  have hx : a ^^^ b < 65536 := xlt ha hb
  show IntKind.i64.wrap ((BitVec.ofInt 64 (a : Int) ^^^ BitVec.ofInt 64 (b : Int)).toNat : Int) = _
  rw [BitVec.toNat_xor, ofInt_64 a ha, ofInt_64 b hb]
  exact IntWalk.i64_in _ (by omega)
/-- one bit of the document's own reckoning -/
def bitR (r c : Nat) : Nat := if r % 2 = c % 2 then r / 2 else (r / 2) ^^^ 33800
theorem bitR_lt (r c : Nat) (hr : r < 65536) : bitR r c < 65536 := by
  unfold bitR; split
  · omega
  · exact xlt (by omega) (by omega)
theorem bitR_step (r c : Nat) : bitR r c ^^^ (c / 2) = s1 (r ^^^ c) := by
  unfold bitR s1
  rw [Nat.xor_div_two, xm2]
  split
  · rw [show (r + c) % 2 = 0 from by omega]; simp
  · rw [show (r + c) % 2 = 1 from by omega]; ac_rfl
theorem bit_same (r c : Nat) (h : ((r : Int) % 2 != (c : Int) % 2) = false) : (r : Int) / 2 = (bitR r c : Nat) := by
  have h2 : (r : Int) % 2 = (c : Int) % 2 := by simpa using h
  unfold bitR; rw [if_pos (by omega)]; omega
theorem bit_unlike (r c : Nat) (hr : r < 65536) (h : ((r : Int) % 2 != (c : Int) % 2) = true) : bits .xor .i64 ((r : Int) / 2) 33800 = (bitR r c : Nat) := by
  have h2 : (r : Int) % 2 ≠ (c : Int) % 2 := by simpa using h
  unfold bitR; rw [if_neg (by omega), show ((r : Int) / 2) = ((r / 2 : Nat) : Int) from by omega]
  exact xor64 _ 33800 (by omega) (by omega)
theorem val_i64 {a b : Int} (h : a = b) : Value.int .i64 a = Value.int .i64 b := by rw [h]
theorem ret_i64 {a b : Int} (h : a = b) : Ending.returned (.int .i64 a) = .returned (.int .i64 b) := by rw [h]
set_option maxHeartbeats 400000 in
theorem rsum_any (s : ByteArray) (w : World) (hs : s.size ≤ 9223372036854775807) :
    Calls Try.prog 15 #[.string s] w fun e w' => e = .returned (.int .i64 (sumOf s.data.toList : Nat)) ∧ w = w' := by
  go_enter Try.func15, Try.ntmps15
  go_wp2
  go_loop [3, 4] (fun r i => ∃ k : Nat, k ≤ s.size ∧ i = .int .i64 k ∧ r = .int .i64 (crc 65535 (s.data.toList.take k) : Nat)) (fun _ i => s.size - (intOf i).toNat)
  case atStart => exact ⟨0, Nat.zero_le _, rfl, rfl⟩
  case round =>
    obtain ⟨k, hk, rfl, rfl⟩ := hrel
    have hb := crc_lt (s.data.toList.take k) 65535 (by omega)
    by_cases hlt : k < s.size
    · obtain ⟨R, hR⟩ : ∃ R, R = crc 65535 (s.data.toList.take k) := ⟨_, rfl⟩
      have HT := Lib.hid (crc_take 65535 s k hlt)
      have HC : ∃ C : Nat, C = s[k].toNat ∧ C < 256 := ⟨_, rfl, blt _⟩
      obtain ⟨C, hC, hC2⟩ := HC
      rw [← hR] at hb HT ⊢
      rw [← hC] at HT
      clear hR
      have HCC := Lib.hid hC
      clear hC
      go_wp2
      go_loop [3, 5, 6] (fun r c i => ∃ j rj cj : Nat, j ≤ 8 ∧ i = .int .i64 j ∧ r = .int .i64 rj ∧ c = .int .i64 cj ∧ rj < 65536 ∧ cj < 256 ∧ cj < 2 ^ (8 - j) ∧ rj ^^^ cj = sn j (R ^^^ C)) (fun _ _ i => 8 - (intOf i).toNat)
      case atStart => exact ⟨0, R, C, by omega, rfl, rfl, val_i64 (by rw [HCC.out]; exact IntWalk.wrap64_in _ ⟨by omega, by have := blt s[k]; omega⟩), hb, hC2, hC2, rfl⟩
      case round =>
        obtain ⟨j, rj, cj, hj, rfl, rfl, rfl, h1, h2, h3, h4⟩ := hrel
        have H4 := Lib.hid h4
        have H3 := Lib.hid h3
        clear h3 h4
        by_cases hjl : j < 8
        · have h5 : cj / 2 < 2 ^ (8 - (j + 1)) := by
            have h3 := H3.out
            rw [show 8 - j = (8 - (j + 1)) + 1 from by omega, Nat.pow_succ] at h3
            omega
          have H5 := Lib.hid h5
          clear h5
          go_wp2
          all_goals
            go_round
            case rel => exact ⟨j + 1, bitR rj cj, cj / 2, by omega, by go_num, by first | exact val_i64 (bit_same _ _ ‹_›) | exact val_i64 (bit_unlike _ _ h1 ‹_›), by go_num, bitR_lt _ _ h1, by omega, H5.out, by rw [bitR_step, H4.out, sn_succ]⟩
            case measure => simp [intOf]; omega
        · obtain rfl : j = 8 := by omega
          have h3 := H3.out
          have h4 := H4.out
          obtain rfl : cj = 0 := by simpa using h3
          rw [Nat.xor_zero] at h4
          subst h4
          go_wp2
          go_round
          case rel => exact ⟨k + 1, by omega, by go_num, by rw [HT.out]⟩
          case measure => simp [intOf]; omega
    · obtain rfl : k = s.size := by omega
      go_wp2
      go_ret
      exact ⟨ret_i64 (by rw [List.take_of_length_le (by simp), sumOf, compl_sub _ (crc_lt _ _ (by omega))]; have := crc_lt s.data.toList 65535 (by omega); omega), rfl⟩
theorem convert_two' (sm : Nat) (hsm : sm < 65536) (W : World) (g : Nat)
    (h0 : W.cell? ⟨g, 0, none⟩ = some (.int .u8 ((sm : Int) % 256))) (h1 : W.cell? ⟨g, 1, none⟩ = some (.int .u8 ((sm : Int) / 256))) :
    (convert 40 9 (.slice (some ⟨g, 0, none⟩) 2 2)).run Try.prog W = .ok (.string (sumBytes sm)) W :=
  convert_two sm hsm W g (by rw [h0, IntKind.wrap_u8']) (by rw [h1, IntKind.wrap_u8', show (sm : Int) / 256 % 256 = (sm : Int) / 256 from by omega])
theorem ret_sealS (s : ByteArray) (sm : Nat) (h : sumOf s.data.toList = sm) : Ending.returned (.string (s ++ sumBytes sm)) = .returned (.string ⟨(sealL s.data.toList).toArray⟩) :=
  ret_seal s.data.toList sm h
set_option maxHeartbeats 400000 in
theorem rseal_any (s : ByteArray) (w : World) (hs : s.size ≤ 140737488355328) :
    Calls Try.prog 17 #[.string s] w fun e w' => e = .returned (.string ⟨(sealL s.data.toList).toArray⟩) ∧ Below w.heap.size w w' := by
  have hsum := sumOf_lt s.data.toList
  have HS := Lib.hid (rsum_any s w (by omega))
  generalize hsm : sumOf s.data.toList = sm at *
  have HSM := Lib.hid hsm
  clear hsm
  have hcv := convert_two' sm hsum
  have hsz := sumBytes_size sm
  go_enter Try.func17, Try.ntmps17
  go_wp2_with (go_at_call 15; refine (HS.out).mono ?_; rintro e w1 ⟨rfl, rfl⟩)
  go_ret
  exact ⟨ret_sealS s sm HSM.out, (Below.refl _ w).alloc (Nat.le_refl _) _⟩
theorem ropen_short (s : ByteArray) (w : World) (hs : s.size < 2) :
    Calls Try.prog 19 #[.string s] w fun e w' => e = .returned (.tuple #[.string ⟨#[]⟩, .int .i64 4]) ∧ w = w' := by
  go_enter Try.func19, Try.ntmps19
  go_wp2
  go_ret2
  exact ⟨rfl, rfl⟩
/-- what a text holds, its sum taken off -/
def held (s : ByteArray) : ByteArray := s.extract 0 (s.size - 2)
theorem held_list (s : ByteArray) : (held s).data.toList = s.data.toList.take (s.size - 2) := by
  rw [held, Lib.extract_data]; simp
/-- is it a sealed text? -/
def Sealed (s : ByteArray) : Prop := sealL (held s).data.toList = s.data.toList
theorem bytes_ext {a b : ByteArray} (h : a.data.toList = b.data.toList) : a = b := ByteArray.ext (Array.toList_inj.1 h)
theorem ropen_yes (s : ByteArray) (w : World) (h2 : 2 ≤ s.size) (hs : s.size ≤ 140737488355328) (hS : Sealed s) :
    Calls Try.prog 19 #[.string s] w fun e w' => e = .returned (.tuple #[.string (held s), .int .i64 0]) ∧ Below w.heap.size w w' := by
  have HE := rseal_any (s.extract 0 (s.size - 2)) w (by rw [ByteArray.size_extract]; omega)
  have e1 : (⟨(sealL (s.extract 0 (s.size - 2)).data.toList).toArray⟩ : ByteArray) = s := bytes_ext hS
  rw [e1] at HE
  clear e1
  go_enter Try.func19, Try.ntmps19
  go_wp2_with (go_at_call 17; refine HE.mono ?_; rintro e w1 ⟨rfl, hb⟩)
  go_ret2
  exact ⟨rfl, hb⟩
theorem ropen_no (s : ByteArray) (w : World) (h2 : 2 ≤ s.size) (hs : s.size ≤ 140737488355328) (hS : ¬ Sealed s) :
    Calls Try.prog 19 #[.string s] w fun e w' => e = .returned (.tuple #[.string ⟨#[]⟩, .int .i64 3]) ∧ Below w.heap.size w w' := by
  have HE := rseal_any (s.extract 0 (s.size - 2)) w (by rw [ByteArray.size_extract]; omega)
  have hne : (sealL (s.extract 0 (s.size - 2)).data.toList) ≠ s.data.toList := hS
  obtain ⟨X, hX⟩ : ∃ X : ByteArray, X = ⟨(sealL (s.extract 0 (s.size - 2)).data.toList).toArray⟩ := ⟨_, rfl⟩
  rw [← hX] at HE
  have hne2 : (X.toList == s.toList) = false := by
    rw [Lib.toList_data, Lib.toList_data, hX]
    exact beq_eq_false_iff_ne.2 hne
  have hne3 : (X.toList != s.toList) = true := by rw [bne, hne2]; rfl
  clear hX hne
  have HEE := Lib.hid HE
  clear HE
  go_enter Try.func19, Try.ntmps19
  go_wp2_with (go_at_call 17; refine (HEE.out).mono ?_; rintro e w1 ⟨rfl, hb⟩)
  go_ret2
  exact ⟨rfl, hb⟩
end Go.Proofs.Ytgahmaaoieofhaa
