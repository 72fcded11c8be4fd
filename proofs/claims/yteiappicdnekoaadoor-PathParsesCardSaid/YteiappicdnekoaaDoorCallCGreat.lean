/-
The landed code's great letters and numbers.
-/
import Derived.Test.YteiappicdnekoaaDoorCallCGet
import Derived.Test.YteiappicdnekoaaDoorHoldsB
namespace Go.Proofs.YteiappicdnekoaaDoor
open Go.RowKit Go.Sort
set_option maxRecDepth 20000
theorem up_set (l : List UInt8) (k : Nat) (hk : k < l.length) : ((l.take k).map upD ++ l.drop k).set k (upD l[k]) = (l.take (k + 1)).map upD ++ l.drop (k + 1) := by
  have hlen : ((l.take k).map upD).length = k := by rw [List.length_map, List.length_take]; omega
  rw [List.drop_eq_getElem_cons hk, List.set_append_right _ _ (by omega), hlen, Nat.sub_self, List.set_cons_zero, List.take_succ_eq_append_getElem hk, List.map_append]
  simp
theorem up_get (l : List UInt8) (k : Nat) (hk : k < l.length) : ((l.take k).map upD ++ l.drop k)[k]'(by rw [List.length_append, List.length_map, List.length_take, List.length_drop]; omega) = l[k] := by
  have hlen : ((l.take k).map upD).length = k := by rw [List.length_map, List.length_take]; omega
  rw [List.getElem_append_right (by omega)]
  simp only [hlen, Nat.sub_self, List.getElem_drop, Nat.add_zero]
set_option maxHeartbeats 1000000 in
theorem great_any (s : ByteArray) (w : World) (h : s.size ≤ 300) :
    Calls Tryd.prog 60 #[.string s] w fun e w' => e = .returned (.string ⟨(s.data.toList.map upD).toArray⟩) ∧ Below w.heap.size w w' := by
  obtain ⟨cap, W, hcv, hcap, hsz, hH, hB⟩ := conv_bytes s w
  have hl : s.data.toList.length = s.size := by simp
  have HH := Lib.hid hH
  have HB := Lib.hid hB
  clear hH hB
  obtain ⟨R, hR⟩ : ∃ R : ByteArray, R = ⟨(s.data.toList.map upD).toArray⟩ := ⟨_, rfl⟩
  rw [← hR]
  have HR := Lib.hid hR
  clear hR
  go_enter Tryd.func60, Tryd.ntmps60
  go_wp2
  go_loopw [10] (fun i wx => ∃ k : Nat, k ≤ s.size ∧ i = .int .i64 k ∧ Hid (HoldsB wx w.heap.size ((s.data.toList.take k).map upD ++ s.data.toList.drop k) ∧ Below w.heap.size w wx)) (fun i _ => s.size - (intOf i).toNat)
  case atStart => exact ⟨0, by omega, rfl, Lib.hid ⟨by simpa using HH.out, HB.out⟩⟩
  case round =>
    obtain ⟨k, hk, rfl, HK⟩ := hrel
    clear HH HB
    by_cases hlt : k < s.size
    · have dk : decide ((k : Int) < (s.size : Int)) = true := decide_eq_true (by omega)
      have hk1 := HK.out.1 k (by rw [List.length_append, List.length_map, List.length_take, List.length_drop]; omega)
      rw [up_get _ _ (by omega)] at hk1
      obtain ⟨hc, hf⟩ := hk1
      obtain ⟨x, hx⟩ : ∃ x, x = s.data.toList[k]'(by omega) := ⟨_, rfl⟩
      rw [← hx] at hc
      have hlim := x.toNat_lt
      have hnx := up_set s.data.toList k (by omega)
      rw [← hx] at hnx
      have hbelow := HK.out.2
      by_cases hu : 97 ≤ x.toNat ∧ x.toNat ≤ 122
      · have d97 : decide ((97 : Int) ≤ (x.toNat : Int)) = true := decide_eq_true (by omega)
        have d122 : decide ((x.toNat : Int) ≤ 122) = true := decide_eq_true (by omega)
        have hux : upD x = x - 32 := by unfold upD; rw [if_pos hu]
        have hux2 : ((x.toNat : Int) - 97) + 65 = ((upD x).toNat : Int) := by
          rw [hux, UInt8.toNat_sub_of_le _ _ (by rw [UInt8.le_iff_toNat_le]; show 32 ≤ x.toNat; omega)]
          show _ = ((x.toNat - 32 : Nat) : Int)
          omega
        have HN := Lib.hid (show HoldsB (wr.setCell ⟨w.heap.size, k, none⟩ (.int .u8 ((upD x).toNat : Int))) w.heap.size ((s.data.toList.take (k + 1)).map upD ++ s.data.toList.drop (k + 1)) ∧ Below w.heap.size w (wr.setCell ⟨w.heap.size, k, none⟩ (.int .u8 ((upD x).toNat : Int))) from by
          rw [← hnx]
          exact ⟨HK.out.1.set k (by rw [List.length_append, List.length_map, List.length_take, List.length_drop]; omega) _, hbelow.setCell (p := ⟨w.heap.size, k, none⟩) (Nat.le_refl _) _⟩)
        clear hx hnx hux HK hbelow
        go_wp2
        go_roundw
        case rel => exact ⟨k + 1, by omega, by go_num, HN.out⟩
        case measure => simp [intOf]; omega
      · have hux : upD x = x := by unfold upD; rw [if_neg hu]
        have HN := Lib.hid (show HoldsB wr w.heap.size ((s.data.toList.take (k + 1)).map upD ++ s.data.toList.drop (k + 1)) ∧ Below w.heap.size w wr from by
          rw [← hnx, hux]
          refine ⟨?_, hbelow⟩
          have e : ((s.data.toList.take k).map upD ++ s.data.toList.drop k).set k x = (s.data.toList.take k).map upD ++ s.data.toList.drop k := by
            rw [hx, ← up_get s.data.toList k (by omega)]
            exact List.set_getElem_self _
          rw [e]
          exact HK.out.1)
        clear hx hnx hux HK hbelow
        by_cases h97 : 97 ≤ x.toNat
        · have d97 : decide ((97 : Int) ≤ (x.toNat : Int)) = true := decide_eq_true (by omega)
          have d122 : decide ((x.toNat : Int) ≤ 122) = false := decide_eq_false (by omega)
          go_wp2
          go_roundw
          case rel => exact ⟨k + 1, by omega, by go_num, HN.out⟩
          case measure => simp [intOf]; omega
        · have d97 : decide ((97 : Int) ≤ (x.toNat : Int)) = false := decide_eq_false (by omega)
          go_wp2
          go_roundw
          case rel => exact ⟨k + 1, by omega, by go_num, HN.out⟩
          case measure => simp [intOf]; omega
    · obtain rfl : k = s.size := by omega
      have dk : decide ((s.size : Int) < (s.size : Int)) = false := decide_eq_false (by omega)
      have hm := HK.out.1
      rw [List.take_of_length_le (by omega), List.drop_of_length_le (by omega), List.append_nil] at hm
      have ht := hm.text s.size cap (by rw [List.length_map, hl])
      rw [← HR.out] at ht
      have HW := Lib.hid HK.out.2
      clear hm HK
      go_wp2
      go_ret
      exact ⟨rfl, HW.out⟩
end Go.Proofs.YteiappicdnekoaaDoor
