/-
The document's own Get.
-/
import Derived.Test.YtfmcngchcalcmaaDoorCallPut
import Derived.Test.YtfmcngchcalcmaaDoorCallPlain
import Derived.BigRegion
import Derived.IntWalk
namespace Go.Proofs.YtfmcngchcalcmaaDoor
open Go.RowKit Go.Sort
theorem rget_size (s : ByteArray) (w : World) (h : s.size ≠ 7) :
    Calls Tryd.prog 59 #[.string s] w fun e w' => e = .returned (.tuple #[.agg #[.string ⟨#[]⟩, .int .i64 0], .bool false, .bool false, .bool false]) ∧ Below w.heap.size w w' := by
  have h7 : ((s.size : Int) != 7) = true := by rw [bne_iff_ne]; omega
  go_enter Tryd.func59, Tryd.ntmps59
  go_wp2
  exact bodyPost_ret (v := .tuple #[.agg #[.string ⟨#[]⟩, .int .i64 0], .bool false, .bool false, .bool false]) (by simp [results, Tryd.results59, go_sem]) rfl ⟨rfl, (Below.refl _ w).alloc (Nat.le_refl _) _⟩
/-- the letters of the first k bytes -/
def gotD (s : List UInt8) (k : Nat) : List UInt8 := ((s.take k).filter (· ≠ 64)).map fun x => x / 2
theorem gotD_skip (s : ByteArray) (k : Nat) (h : k < s.size) (he : s[k].toNat = 64) : gotD s.data.toList (k + 1) = gotD s.data.toList k := by
  have hl : k < s.data.toList.length := by simpa using h
  have e : s[k] = 64 := UInt8.toNat_inj.1 (by rw [he]; rfl)
  unfold gotD
  rw [List.take_succ_eq_append_getElem hl, List.filter_append, list_at s k h, e]
  simp
theorem gotD_more (s : ByteArray) (k : Nat) (h : k < s.size) (he : s[k].toNat ≠ 64) : gotD s.data.toList (k + 1) = gotD s.data.toList k ++ [s[k] / 2] := by
  have hl : k < s.data.toList.length := by simpa using h
  have e : s[k] ≠ 64 := fun e => he (by rw [e]; rfl)
  unfold gotD
  rw [List.take_succ_eq_append_getElem hl, List.filter_append, list_at s k h]
  simp [e]
theorem gotD_len (s : List UInt8) (k : Nat) : (gotD s k).length ≤ k := by
  unfold gotD
  rw [List.length_map]
  exact Nat.le_trans (List.length_filter_le _ _) (List.length_take_le _ _)
/-- the call of seven bytes: is there one, its letters, its number, its marks -/
def getD7 (s : List UInt8) : Bool × List UInt8 × Nat × Bool × Bool :=
  if s.length = 7 ∧ rightD ⟨(gotD s 6).toArray⟩ (((s.getD 6 0).toNat / 2 % 16 : Nat) : Int) = true ∧ putD (gotD s 6) ((s.getD 6 0).toNat / 2 % 16) (decide ((128 : Int) ≤ ((s.getD 6 0).toNat : Int))) (((s.getD 6 0).toNat : Int) % 2 == 1) = s then (true, gotD s 6, (s.getD 6 0).toNat / 2 % 16, decide ((128 : Int) ≤ ((s.getD 6 0).toNat : Int)), ((s.getD 6 0).toNat : Int) % 2 == 1) else (false, [], 0, false, false)
/-- as a value -/
def getV (x : Bool × List UInt8 × Nat × Bool × Bool) : Value := .tuple #[.agg #[.string ⟨x.2.1.toArray⟩, .int .i64 (x.2.2.1 : Int)], .bool x.2.2.2.1, .bool x.2.2.2.2, .bool x.1]
theorem right_bytes (b : ByteArray) (n : Int) (h : rightD b n = true) : b.size ≤ 6 ∧ n ≤ 15 ∧ ∀ i (h : i < b.size), b[i].toNat < 128 := by
  simp only [rightD, Bool.and_eq_true, decide_eq_true_eq] at h
  obtain ⟨⟨⟨⟨_, h2⟩, _⟩, h4⟩, h5⟩ := h
  refine ⟨h2, h4, fun i hi => ?_⟩
  have hl : i < b.data.toList.length := by simpa using hi
  have hx := List.all_eq_true.1 h5 b[i] (by rw [← list_at b i hi]; exact List.getElem_mem hl)
  simp only [signD, Bool.or_eq_true, Bool.and_eq_true, decide_eq_true_eq] at hx
  omega
set_option maxHeartbeats 1000000 in
set_option maxRecDepth 20000 in
theorem rget_seven (s : ByteArray) (w : World) (h : s.size = 7) :
    Calls Tryd.prog 59 #[.string s] w fun e w' => e = .returned (getV (getD7 s.data.toList)) ∧ Below w.heap.size w w' := by
  have h7 : ((s.size : Int) != 7) = false := by rw [h]; rfl
  have hx6 : s[6].toNat < 256 := blt' _
  have HP0 := Lib.hid (PAt.start w ((s[6].toNat : Int) / 2 % 16))
  go_enter Tryd.func59, Tryd.ntmps59
  go_wp2
  go_loopw [7] (fun i wx => ∃ k : Nat, k ≤ 6 ∧ i = .int .i64 k ∧ Hid (PAt w wx ⟨(gotD s.data.toList k).toArray⟩ ((s[6].toNat : Int) / 2 % 16))) (fun i _ => 6 - (intOf i).toNat)
  case atStart => exact ⟨0, by omega, rfl, HP0.out⟩
  case round =>
    obtain ⟨k, hk, rfl, HPA⟩ := hrel
    clear HP0
    obtain ⟨B, hB⟩ : ∃ B : ByteArray, B = ⟨(gotD s.data.toList k).toArray⟩ := ⟨_, rfl⟩
    rw [← hB] at HPA
    have HBS := Lib.hid (show B.size ≤ 6 from by
      rw [hB]
      show (gotD s.data.toList k).toArray.size ≤ 6
      have := gotD_len s.data.toList k
      simp
      omega)
    obtain ⟨⟨a0, a1⟩, ⟨c0, c1⟩, ⟨f0, f1⟩, hbw, hsz⟩ := HPA.out
    have hsz0 : w.heap.size < wr.heap.size := by omega
    by_cases hlt : k < 6
    · have hks : k < s.size := by omega
      have hx256 : s[k].toNat < 256 := blt' _
      by_cases h64 : s[k].toNat = 64
      · have hne : ((s[k].toNat : Int) != 64) = false := by rw [h64]; rfl
        have HN := Lib.hid (gotD_skip s k hks h64)
        have HBB := Lib.hid hB
        clear h64 hB
        go_wp2
        go_roundw
        case rel => exact ⟨k + 1, by omega, by go_num, by rw [HN.out, ← HBB.out]; exact HPA.out⟩
        case measure => simp [intOf]; omega
      · have hne : ((s[k].toNat : Int) != 64) = true := by rw [bne_iff_ne]; omega
        have hnx : (⟨(gotD s.data.toList (k + 1)).toArray⟩ : ByteArray) = B ++ ⟨#[s[k] / 2]⟩ := by
          rw [gotD_more s k hks h64, hB]
          exact bytes_ext' (by simp [ByteArray.data_append])
        have HN := Lib.hid hnx
        have hu : UInt8.ofNat ((s[k].toNat : Int) / 2).toNat = s[k] / 2 := UInt8.toNat_inj.1 (by
          rw [UInt8.toNat_ofNat', UInt8.toNat_div]
          show ((s[k].toNat : Int) / 2).toNat % 256 = s[k].toNat / 2
          omega)
        have hcv := show (convert 113 9 (.slice (some ⟨wr.heap.size, 0, none⟩) 1 1)).run Tryd.prog ((wr.alloc (.cells #[.int .u8 ((s[k].toNat : Int) / 2)] 5)).drew) = .ok (.string ⟨#[UInt8.ofNat ((s[k].toNat : Int) / 2).toNat]⟩) ((wr.alloc (.cells #[.int .u8 ((s[k].toNat : Int) / 2)] 5)).drew) from conv1 ((s[k].toNat : Int) / 2) wr.drew
        rw [hu] at hcv
        have hcat := fun (u : UInt8) (W : World) => run_string_add_sum (P := Tryd.prog) (w := W) B ⟨#[u]⟩ (by have := HBS.out; show B.size + 1 ≤ _; omega)
        clear h64 hB hnx hu
        go_wp2
        go_region
        go_wp2
        go_roundw
        case rel => exact ⟨k + 1, by omega, by go_num, by rw [HN.out]; exact ((HPA.out.base _).below ((Below.refl _ _).alloc (Nat.le_refl _) _)).drew⟩
        case measure => simp [intOf]; omega
    · obtain rfl : k = 6 := by omega
      have hl7 : s.data.toList.length = 7 := by simpa using h
      have hg6 : s.data.toList.getD 6 0 = s[6] := by
        rw [List.getD_eq_getElem?_getD, List.getElem?_eq_getElem (by omega), list_at s 6 (by omega)]; rfl
      have hgd : getD7 s.data.toList = if rightD B ((s[6].toNat / 2 % 16 : Nat) : Int) = true ∧ putD (gotD s.data.toList 6) (s[6].toNat / 2 % 16) (decide ((128 : Int) ≤ (s[6].toNat : Int))) ((s[6].toNat : Int) % 2 == 1) = s.data.toList then (true, gotD s.data.toList 6, s[6].toNat / 2 % 16, decide ((128 : Int) ≤ (s[6].toNat : Int)), (s[6].toNat : Int) % 2 == 1) else (false, [], 0, false, false) := by
        unfold getD7
        rw [hg6, hl7, ← hB]
        simp
      have HGD := Lib.hid hgd
      have HRT := Lib.hid (fun W => rcright_any B ((s[6].toNat : Int) / 2 % 16) W)
      have hN : ((s[6].toNat / 2 % 16 : Nat) : Int) = (s[6].toNat : Int) / 2 % 16 := by omega
      have HNN := Lib.hid hN
      have HBB := Lib.hid hB
      clear hgd hg6 hl7
      cases hrt : rightD B ((s[6].toNat : Int) / 2 % 16)
      · rw [hrt] at HRT
        have hd : getD7 s.data.toList = (false, [], 0, false, false) := by rw [HGD.out, HNN.out, hrt]; simp
        clear hrt hN hB
        go_wp2
        go_region
        have HPA := Lib.hid HPA.out.drew
        generalize wr.drew = wq at *
        clear a0 a1 c0 c1 f0 f1 hbw hsz
        obtain ⟨⟨a0, a1⟩, ⟨c0, c1⟩, ⟨f0, f1⟩, hbw, hsz⟩ := HPA.out
        go_wp2_with (go_at_call 47; ((with_reducible refine (HRT.out _).mono ?_); rintro e w5 ⟨rfl, hb⟩; replace HPA := Lib.hid (HPA.out.below hb); clear hb; obtain ⟨⟨a0, a1⟩, ⟨c0, c1⟩, ⟨f0, f1⟩, hbw, hsz⟩ := HPA.out))
        obtain ⟨q0, q1⟩ := stored2 (.string ⟨#[]⟩) (.int .i64 0) a0 a1
        exact bodyPost_ret (v := .tuple #[.agg #[.string ⟨#[]⟩, .int .i64 0], .bool false, .bool false, .bool false]) (by simp [results, Tryd.results59, go_sem, q0, q1]) rfl ⟨by rw [hd]; rfl, set2_below hbw (Nat.le_refl _) _ _⟩
      · rw [hrt] at HRT
        obtain ⟨hb6, hn15, hlim⟩ := right_bytes B _ hrt
        have HPT0 := fun W => rput_any B (s[6].toNat / 2 % 16) (decide ((128 : Int) ≤ (s[6].toNat : Int))) ((s[6].toNat : Int) % 2 == 1) W hb6 (by omega) hlim
        obtain ⟨T, hT⟩ : ∃ T : ByteArray, T = ⟨(putD B.data.toList (s[6].toNat / 2 % 16) (decide ((128 : Int) ≤ (s[6].toNat : Int))) ((s[6].toNat : Int) % 2 == 1)).toArray⟩ := ⟨_, rfl⟩
        rw [← hT, hN] at HPT0
        have HPT := Lib.hid HPT0
        have hbl : B.data.toList = gotD s.data.toList 6 := by rw [hB]
        by_cases hts : T = s
        · have hte : (T.toList == s.toList) = true := by rw [hts]; exact beq_self_eq_true _
          have hd : getD7 s.data.toList = (true, gotD s.data.toList 6, s[6].toNat / 2 % 16, decide ((128 : Int) ≤ (s[6].toNat : Int)), (s[6].toNat : Int) % 2 == 1) := by
            rw [HGD.out, HNN.out, hrt, if_pos ⟨rfl, by rw [← hbl]; exact (congrArg (fun z : ByteArray => z.data.toList) hT).symm.trans (congrArg (fun z : ByteArray => z.data.toList) hts)⟩]
          have HD := Lib.hid hd
          clear hrt hN hB hT hts HPT0 hd hbl hlim
          go_wp2
          go_region
          have HPA := Lib.hid HPA.out.drew
          generalize wr.drew = wq at *
          clear a0 a1 c0 c1 f0 f1 hbw hsz
          obtain ⟨⟨a0, a1⟩, ⟨c0, c1⟩, ⟨f0, f1⟩, hbw, hsz⟩ := HPA.out
          go_wp2_with (first
            | (go_at_call 47; ((with_reducible refine (HRT.out _).mono ?_); rintro e w5 ⟨rfl, hb⟩; replace HPA := Lib.hid (HPA.out.below hb); clear hb; obtain ⟨⟨a0, a1⟩, ⟨c0, c1⟩, ⟨f0, f1⟩, hbw, hsz⟩ := HPA.out))
            | (go_at_call 57; ((with_reducible refine (HPT.out _).mono ?_); rintro e w6 ⟨rfl, hb⟩; replace HPA := Lib.hid (HPA.out.below hb); clear hb; obtain ⟨⟨a0, a1⟩, ⟨c0, c1⟩, ⟨f0, f1⟩, hbw, hsz⟩ := HPA.out)))
          obtain ⟨q0, q1⟩ := stored2 (.string B) (.int .i64 ((s[6].toNat : Int) / 2 % 16)) a0 a1
          exact bodyPost_ret (v := .tuple #[.agg #[.string B, .int .i64 ((s[6].toNat : Int) / 2 % 16)], .bool (decide ((128 : Int) ≤ (s[6].toNat : Int))), .bool ((s[6].toNat : Int) % 2 == 1), .bool true]) (by simp [results, Tryd.results59, go_sem, q0, q1]) rfl ⟨by rw [HD.out, HBB.out, ← HNN.out]; rfl, set2_below hbw (Nat.le_refl _) _ _⟩
        · have hte : (T.toList == s.toList) = false := by
            rw [beq_eq_false_iff_ne, ByteArray.toList_eq, ByteArray.toList_eq]
            intro e; exact hts (bytes_ext' e)
          have hd : getD7 s.data.toList = (false, [], 0, false, false) := by
            rw [HGD.out, if_neg]
            rintro ⟨_, e⟩
            exact hts (by rw [hT]; exact bytes_ext' (by rw [hbl]; exact e))
          have HD := Lib.hid hd
          clear hrt hN hB hT hts HPT0 hd hbl hlim
          go_wp2
          go_region
          have HPA := Lib.hid HPA.out.drew
          generalize wr.drew = wq at *
          clear a0 a1 c0 c1 f0 f1 hbw hsz
          obtain ⟨⟨a0, a1⟩, ⟨c0, c1⟩, ⟨f0, f1⟩, hbw, hsz⟩ := HPA.out
          go_wp2_with (first
            | (go_at_call 47; ((with_reducible refine (HRT.out _).mono ?_); rintro e w5 ⟨rfl, hb⟩; replace HPA := Lib.hid (HPA.out.below hb); clear hb; obtain ⟨⟨a0, a1⟩, ⟨c0, c1⟩, ⟨f0, f1⟩, hbw, hsz⟩ := HPA.out))
            | (go_at_call 57; ((with_reducible refine (HPT.out _).mono ?_); rintro e w6 ⟨rfl, hb⟩; replace HPA := Lib.hid (HPA.out.below hb); clear hb; obtain ⟨⟨a0, a1⟩, ⟨c0, c1⟩, ⟨f0, f1⟩, hbw, hsz⟩ := HPA.out)))
          obtain ⟨q0, q1⟩ := stored2 (.string ⟨#[]⟩) (.int .i64 0) a0 a1
          exact bodyPost_ret (v := .tuple #[.agg #[.string ⟨#[]⟩, .int .i64 0], .bool false, .bool false, .bool false]) (by simp [results, Tryd.results59, go_sem, q0, q1]) rfl ⟨by rw [HD.out]; rfl, set2_below hbw (Nat.le_refl _) _ _⟩
/-- the document's Get: of any bytes -/
theorem rget_any (s : ByteArray) (w : World) :
    Calls Tryd.prog 59 #[.string s] w fun e w' => e = .returned (getV (getD7 s.data.toList)) ∧ Below w.heap.size w w' := by
  by_cases h : s.size = 7
  · exact rget_seven s w h
  · have hd : getD7 s.data.toList = (false, [], 0, false, false) := by
      unfold getD7
      rw [if_neg]
      rintro ⟨e, _⟩
      exact h (by simpa using e)
    rw [hd]
    exact rget_size s w h
end Go.Proofs.YtfmcngchcalcmaaDoor
