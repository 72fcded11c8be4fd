/-
The document's own Put.
-/
import Derived.Test.YtfmcngchcalcmaaDoorCallText
namespace Go.Proofs.YtfmcngchcalcmaaDoor
open Go.RowKit Go.Sort
/-- seven bytes that lie in a block, and may be written -/
def B7 (W : World) (m : Nat) (f : Nat → Int) : Prop := (∀ j, j < 7 → W.cell? ⟨m, j, none⟩ = some (.int .u8 (f j))) ∧ ∀ j, W.frozen? ⟨m, j, none⟩ = false
theorem B7.set {W : World} {m : Nat} {f : Nat → Int} (h : B7 W m f) (i : Nat) (hi : i < 7) (v : Int) : B7 (W.setCell ⟨m, i, none⟩ (.int .u8 v)) m (fun j => if j = i then v else f j) := by
  refine ⟨fun j hj => ?_, fun j => by rw [World.frozen?_setCell]; exact h.2 j⟩
  by_cases e : j = i
  · subst e
    simp only [if_true]
    exact set_here (h.1 j hj)
  · simp only [if_neg e]
    rw [set_off _ _ _ _ _ (Ne.symm e)]
    exact h.1 j hj
theorem B7.conv {W : World} {m : Nat} {f : Nat → Int} (h : B7 W m f) : (convert 113 9 (.slice (some ⟨m, 0, none⟩) 7 7)).run Tryd.prog W = .ok (.string ⟨((List.range 7).map fun j => UInt8.ofNat (f j).toNat).toArray⟩) W := by
  rw [run_convert_bytes_arg _ 113 5 Tryd.underlying113 Tryd.underlying5 m 0 7 7 [f 0, f 1, f 2, f 3, f 4, f 5, f 6] rfl (fun i hi => by
    rw [Nat.zero_add, h.1 i hi]
    obtain rfl | rfl | rfl | rfl | rfl | rfl | rfl : i = 0 ∨ i = 1 ∨ i = 2 ∨ i = 3 ∨ i = 4 ∨ i = 5 ∨ i = 6 := by omega
    all_goals rfl) 9 Tryd.underlying9]
  rfl
/-- the bytes of a call while its first k letters stand -/
def putF (b : List UInt8) (n k : Nat) (j : Nat) : Int := if j = 6 then 96 + 2 * (n : Int) else if j < k then 2 * ((b.getD j 0).toNat : Int) else 64
/-- what the marks add -/
def mkD (mk la : Bool) : Int := (if mk then 128 else 0) + (if la then 1 else 0)
/-- a call's bytes -/
def putD (b : List UInt8) (n : Nat) (mk la : Bool) : List UInt8 := (List.range 7).map fun j => UInt8.ofNat (if j = 6 then 96 + 2 * (n : Int) + mkD mk la else putF b n b.length j).toNat
/-- a call's cells and its bytes -/
def QAt (w W : World) (b : ByteArray) (n : Nat) (k : Nat) : Prop := (W.cell? ⟨w.heap.size, 0, none⟩ = some (.string b) ∧ W.cell? ⟨w.heap.size, 1, none⟩ = some (.int .i64 (n : Int))) ∧ B7 W (w.heap.size + 1) (putF b.data.toList n k) ∧ Below w.heap.size w W
theorem QAt.start (w : World) (b : ByteArray) (n : Nat) : QAt w ((w.alloc (.cells #[.string b, .int .i64 (n : Int)] 23)).alloc (.cells #[.int .u8 64, .int .u8 64, .int .u8 64, .int .u8 64, .int .u8 64, .int .u8 64, .int .u8 (96 + 2 * (n : Int))] 5)) b n 0 := by
  refine ⟨⟨(World.cell?_alloc_past _ _ _ (by simp)).trans (World.cell?_alloc_at _ _ _ _ rfl), (World.cell?_alloc_past _ _ _ (by simp)).trans (World.cell?_alloc_at _ _ _ _ rfl)⟩, ⟨fun j hj => ?_, fun j => World.frozen?_alloc_at _ _ _ _ (by simp)⟩, ((Below.refl _ w).alloc (Nat.le_refl _) _).alloc (by simp) _⟩
  refine (World.cell?_alloc_at _ _ _ _ (by simp)).trans ?_
  obtain rfl | rfl | rfl | rfl | rfl | rfl | rfl : j = 0 ∨ j = 1 ∨ j = 2 ∨ j = 3 ∨ j = 4 ∨ j = 5 ∨ j = 6 := by omega
  all_goals rfl
theorem QAt.next {w W : World} {b : ByteArray} {n k : Nat} (h : QAt w W b n k) (hk : k < b.size) (hb : b.size ≤ 6) : QAt w (W.setCell ⟨w.heap.size + 1, k, none⟩ (.int .u8 (2 * (b[k].toNat : Int)))) b n (k + 1) := by
  obtain ⟨⟨a0, a1⟩, hB, hw⟩ := h
  refine ⟨⟨?_, ?_⟩, ?_, hw.setCell (p := ⟨w.heap.size + 1, k, none⟩) (by show w.heap.size ≤ w.heap.size + 1; omega) _⟩
  · rw [set_block _ _ _ _ _ _ (by omega)]; exact a0
  · rw [set_block _ _ _ _ _ _ (by omega)]; exact a1
  · have e : (fun j => if j = k then 2 * (b[k].toNat : Int) else putF b.data.toList n k j) = putF b.data.toList n (k + 1) := by
      funext j
      by_cases e : j = k
      · subst e
        have hl : j < b.data.toList.length := by simpa using hk
        rw [if_pos rfl]
        unfold putF
        rw [if_neg (by omega), if_pos (by omega), List.getD_eq_getElem?_getD, List.getElem?_eq_getElem hl, list_at b j hk]
        rfl
      · rw [if_neg e]
        unfold putF
        by_cases h6 : j = 6
        · rw [if_pos h6, if_pos h6]
        · rw [if_neg h6, if_neg h6]
          by_cases hjk : j < k
          · rw [if_pos hjk, if_pos (by omega)]
          · rw [if_neg hjk, if_neg (by omega)]
    rw [← e]
    exact hB.set k (by omega) _
set_option maxHeartbeats 1000000 in
theorem rput_any (b : ByteArray) (n : Nat) (mk la : Bool) (w : World) (hb : b.size ≤ 6) (hn : n ≤ 15) (hs : ∀ i (h : i < b.size), b[i].toNat < 128) :
    Calls Tryd.prog 57 #[.agg #[.string b, .int .i64 (n : Int)], .bool mk, .bool la] w fun e w' => e = .returned (.string ⟨(putD b.data.toList n mk la).toArray⟩) ∧ Below w.heap.size w w' := by
  have HQ := Lib.hid (QAt.start w b n)
  obtain ⟨R, hR⟩ : ∃ R : ByteArray, R = ⟨(putD b.data.toList n mk la).toArray⟩ := ⟨_, rfl⟩
  rw [← hR]
  have HR := Lib.hid hR
  have HS := Lib.hid hs
  clear hR hs
  go_enter Tryd.func57, Tryd.ntmps57
  go_wp2
  go_loopw [8] (fun i wx => ∃ k : Nat, k ≤ b.size ∧ i = .int .i64 k ∧ Hid (QAt w wx b n k)) (fun i _ => b.size - (intOf i).toNat)
  case atStart => exact ⟨0, by omega, rfl, HQ.out⟩
  case round =>
    obtain ⟨k, hk, rfl, HK⟩ := hrel
    clear HQ
    obtain ⟨⟨a0, a1⟩, hB, hbw⟩ := HK.out
    by_cases hlt : k < b.size
    · have hkc := hB.1 k (by omega)
      have hkf := hB.2 k
      have hlim := HS.out k hlt
      have HN := Lib.hid (HK.out.next hlt hb)
      clear hB HK
      go_wp2
      go_roundw
      case rel => exact ⟨k + 1, by omega, by go_num, HN.out⟩
      case measure => simp [intOf]; omega
    · obtain rfl : k = b.size := by omega
      have c6 : wr.cell? ⟨w.heap.size + 1, 6, none⟩ = some (.int .u8 (96 + 2 * (n : Int))) := hB.1 6 (by omega)
      have f6 := hB.2 6
      have HB := Lib.hid hB
      clear hB HK
      have key : ∀ (f : Nat → Int), (∀ j, j < 7 → f j = if j = 6 then 96 + 2 * (n : Int) + mkD mk la else putF b.data.toList n b.size j) → (⟨((List.range 7).map fun j => UInt8.ofNat (f j).toNat).toArray⟩ : ByteArray) = R := fun f hf => by
        rw [HR.out]
        unfold putD
        congr 2
        apply List.map_congr_left
        intro j hj
        rw [hf j (List.mem_range.1 hj), show b.data.toList.length = b.size by simp]
      have KEY := Lib.hid key
      clear key HR
      cases mk
      · cases la
        · have hcv := HB.out.conv
          rw [KEY.out _ (fun j hj => by by_cases e : j = 6 <;> simp [e, mkD, putF])] at hcv
          go_wp2
          go_ret
          exact ⟨rfl, hbw⟩
        · have hcv := (HB.out.set 6 (by omega) (96 + 2 * (n : Int) + 1)).conv
          rw [KEY.out _ (fun j hj => by by_cases e : j = 6 <;> simp [e, mkD, putF])] at hcv
          go_wp2
          go_ret
          exact ⟨rfl, hbw.setCell (p := ⟨w.heap.size + 1, 6, none⟩) (by show w.heap.size ≤ w.heap.size + 1; omega) _⟩
      · cases la
        · have hcv := (HB.out.set 6 (by omega) (96 + 2 * (n : Int) + 128)).conv
          rw [KEY.out _ (fun j hj => by by_cases e : j = 6 <;> simp [e, mkD, putF])] at hcv
          go_wp2
          go_ret
          exact ⟨rfl, hbw.setCell (p := ⟨w.heap.size + 1, 6, none⟩) (by show w.heap.size ≤ w.heap.size + 1; omega) _⟩
        · have hcv := ((HB.out.set 6 (by omega) (96 + 2 * (n : Int) + 128)).set 6 (by omega) (96 + 2 * (n : Int) + 128 + 1)).conv
          rw [KEY.out _ (fun j hj => by by_cases e : j = 6 <;> simp [e, mkD, putF] <;> omega)] at hcv
          go_wp2
          go_ret
          exact ⟨rfl, (hbw.setCell (p := ⟨w.heap.size + 1, 6, none⟩) (by show w.heap.size ≤ w.heap.size + 1; omega) _).setCell (p := ⟨w.heap.size + 1, 6, none⟩) (by show w.heap.size ≤ w.heap.size + 1; omega) _⟩
end Go.Proofs.YtfmcngchcalcmaaDoor
