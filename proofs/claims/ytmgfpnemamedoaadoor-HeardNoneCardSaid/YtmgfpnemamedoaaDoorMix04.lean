/-
The landed code's Put of calls.
The landed code's reading of seven bytes.
The landed code's Get of calls.
A scope with several labels: what holds at each jump, and a measure that each jump lowers.
-/
import Derived.Test.YtmgfpnemamedoaaDoorMix03
import Derived.Lib.SmallJoins
import Derived.Lib.ItoaNum
import Derived.Lib.QuietBelow
import Derived.Lib.IndexBytes
import Derived.IntWalk
import Derived.Test.YtmgfpnemamedoaaDoorMix01
import Derived.Test.YtmgfpnemamedoaaDoorShelf
import Derived.Lib.LazyBuf
import Derived.BigRegion
import Derived.Test.YtmgfpnemamedoaaDoorProg
import Derived.WalkKit
import Derived.Scope
import Derived.WalkMore
namespace Go.Proofs.YtmgfpnemamedoaaDoor
open Go.RowKit Go.Sort
set_option maxRecDepth 20000
/-- seven bytes of which the first k are blanks, the others nothing yet -/
def blankF (k : Nat) (j : Nat) : Int := if j < k then 64 else 0
/-- seven bytes: the first k letters, blanks, nothing yet -/
def letF (b : List UInt8) (k : Nat) (j : Nat) : Int := if j = 6 then 0 else if j < k then 2 * ((b.getD j 0).toNat : Int) else 64
/-- a call's cells and seven bytes behind them -/
def RAt (w W : World) (b : ByteArray) (n : Nat) (f : Nat → Int) (m : Nat) : Prop := (W.cell? ⟨w.heap.size, 0, none⟩ = some (.string b) ∧ W.cell? ⟨w.heap.size, 1, none⟩ = some (.int .i64 (n : Int))) ∧ B7 W m f ∧ Below w.heap.size w W ∧ w.heap.size < m
theorem RAt.set {w W : World} {b : ByteArray} {n m : Nat} {f g : Nat → Int} (h : RAt w W b n f m) (i : Nat) (hi : i < 7) (v : Int) (hg : ∀ j, j < 7 → g j = if j = i then v else f j) : RAt w (W.setCell ⟨m, i, none⟩ (.int .u8 v)) b n g m := by
  obtain ⟨⟨a0, a1⟩, hB, hw, hm⟩ := h
  refine ⟨⟨?_, ?_⟩, ?_, hw.setCell (p := ⟨m, i, none⟩) (by show w.heap.size ≤ m; omega) _, hm⟩
  · rw [set_block _ _ _ _ _ _ (by omega)]; exact a0
  · rw [set_block _ _ _ _ _ _ (by omega)]; exact a1
  · have k := hB.set i hi v
    exact ⟨fun j hj => by rw [hg j hj]; exact k.1 j hj, k.2⟩
theorem RAt.start {w W : World} {b : ByteArray} {n : Nat} (h : CAt1 w W b (n : Int)) : RAt w (W.alloc (.cells #[.int .u8 0, .int .u8 0, .int .u8 0, .int .u8 0, .int .u8 0, .int .u8 0, .int .u8 0] 87)) b n (blankF 0) W.heap.size := by
  obtain ⟨⟨x0, x1⟩, hw, hs⟩ := h
  refine ⟨⟨(World.cell?_alloc_past _ _ _ (by simpa using hs)).trans x0, (World.cell?_alloc_past _ _ _ (by simpa using hs)).trans x1⟩, ⟨fun j hj => ?_, fun j => World.frozen?_alloc_at _ _ _ _ (by simp)⟩, hw.alloc hw.size _, hs⟩
  refine (World.cell?_alloc_at _ _ _ _ (by simp)).trans ?_
  obtain rfl | rfl | rfl | rfl | rfl | rfl | rfl : j = 0 ∨ j = 1 ∨ j = 2 ∨ j = 3 ∨ j = 4 ∨ j = 5 ∨ j = 6 := by omega
  all_goals rfl
theorem letF_next (b : ByteArray) (k : Nat) (hk : k < b.size) (hb : b.size ≤ 6) (j : Nat) : letF b.data.toList (k + 1) j = if j = k then (b[k].toNat : Int) * 2 else letF b.data.toList k j := by
  by_cases e : j = k
  · subst e
    have hl : j < b.data.toList.length := by simpa using hk
    rw [if_pos rfl]
    unfold letF
    rw [if_neg (by omega), if_pos (by omega), List.getD_eq_getElem?_getD, List.getElem?_eq_getElem hl, list_at b j hk]
    show 2 * (b[j].toNat : Int) = _
    omega
  · rw [if_neg e]
    unfold letF
    by_cases h6 : j = 6
    · rw [if_pos h6, if_pos h6]
    · rw [if_neg h6, if_neg h6]
      by_cases hjk : j < k
      · rw [if_pos hjk, if_pos (by omega)]
      · rw [if_neg hjk, if_neg (by omega)]
theorem or_facts (n : Nat) (hn : n ≤ 15) : bits BinOp.or .u8 96 ((n : Int) * 2) = 96 + 2 * (n : Int) ∧ bits BinOp.or .u8 (96 + 2 * (n : Int)) 128 = 96 + 2 * (n : Int) + 128 ∧ bits BinOp.or .u8 (96 + 2 * (n : Int)) 1 = 96 + 2 * (n : Int) + 1 ∧ bits BinOp.or .u8 (96 + 2 * (n : Int) + 128) 1 = 96 + 2 * (n : Int) + 128 + 1 := by
  obtain rfl | rfl | rfl | rfl | rfl | rfl | rfl | rfl | rfl | rfl | rfl | rfl | rfl | rfl | rfl | rfl : n = 0 ∨ n = 1 ∨ n = 2 ∨ n = 3 ∨ n = 4 ∨ n = 5 ∨ n = 6 ∨ n = 7 ∨ n = 8 ∨ n = 9 ∨ n = 10 ∨ n = 11 ∨ n = 12 ∨ n = 13 ∨ n = 14 ∨ n = 15 := by omega
  all_goals exact ⟨by decide +kernel, by decide +kernel, by decide +kernel, by decide +kernel⟩
theorem sign_low {x : UInt8} (h : signD x = true) : x.toNat < 128 := by
  simp only [signD, Bool.or_eq_true, Bool.and_eq_true, decide_eq_true_eq] at h
  omega
theorem cput_not (b : ByteArray) (n : Int) (mk la : Bool) (w : World) (hr : rightD b n = false) (h : b.size ≤ 300) :
    Calls Tryd.prog 32 #[.agg #[.string b, .int .i64 n], .bool mk, .bool la] w fun e w' => e = .returned (.tuple #[.string ⟨#[]⟩, .int .i64 12]) ∧ Below w.heap.size w w' := by
  have HM := Lib.hid (CAt1.start w b n)
  have hR := fun W => cright_ok b n W h
  rw [hr] at hR
  have HR := Lib.hid hR
  clear hR hr h
  go_enter Tryd.func32, Tryd.ntmps32
  go_wp2_with (go_at_call 28; (with_reducible refine (HR.out _).mono ?_); rintro e w1 ⟨rfl, hb⟩; replace HM := Lib.hid (HM.out.below hb); clear hb)
  go_ret2
  exact ⟨rfl, HM.out.2.1⟩
set_option maxHeartbeats 1000000 in
theorem cput_yes (b : ByteArray) (n : Nat) (mk la : Bool) (w : World) (hr : rightD b (n : Int) = true) (hb6 : b.size ≤ 6) (hn : n ≤ 15) (hs : ∀ i (h : i < b.size), b[i].toNat < 128) :
    Calls Tryd.prog 32 #[.agg #[.string b, .int .i64 (n : Int)], .bool mk, .bool la] w fun e w' => e = .returned (.tuple #[.string ⟨(putD b.data.toList n mk la).toArray⟩, .int .i64 0]) ∧ Below w.heap.size w w' := by
  have HM := Lib.hid (CAt1.start w b (n : Int))
  have hR := fun W => cright_ok b (n : Int) W (by omega)
  rw [hr] at hR
  have HR := Lib.hid hR
  obtain ⟨R, hR⟩ : ∃ R : ByteArray, R = ⟨(putD b.data.toList n mk la).toArray⟩ := ⟨_, rfl⟩
  rw [← hR]
  have HRR := Lib.hid hR
  have HS := Lib.hid hs
  clear hr hs
  go_enter Tryd.func32, Tryd.ntmps32
  go_wp2_with (go_at_call 28; (with_reducible refine (HR.out _).mono ?_); rintro e w1 ⟨rfl, hb⟩; replace HM := Lib.hid (HM.out.below hb); clear hb)
  have HA := Lib.hid (RAt.start HM.out)
  clear hR
  clear HM HR
  go_loopw [14] (fun i wx => ∃ k : Nat, k ≤ 6 ∧ i = .int .i64 k ∧ Hid (RAt w wx b n (blankF k) w1.heap.size)) (fun i _ => 6 - (intOf i).toNat)
  case atStart => exact ⟨0, by omega, rfl, HA.out⟩
  case round =>
    obtain ⟨k, hk, rfl, HK⟩ := hrel
    clear HA
    obtain ⟨⟨a0, a1⟩, hB, hbw, hm⟩ := HK.out
    by_cases hlt : k < 6
    · have dk : decide ((k : Int) < 6) = true := decide_eq_true (by omega)
      have hkc := hB.1 k (by omega)
      have hkf := hB.2 k
      have HN := Lib.hid (HK.out.set (g := blankF (k + 1)) k (by omega) 64 (fun j hj => by unfold blankF; by_cases e : j = k <;> simp [e] <;> split <;> split <;> omega))
      clear hB HK hbw
      go_wp2
      go_roundw
      case rel => exact ⟨k + 1, by omega, by go_num, HN.out⟩
      case measure => simp [intOf]; omega
    · obtain rfl : k = 6 := by omega
      have HL := Lib.hid (show RAt w wr b n (letF b.data.toList 0) w1.heap.size from ⟨HK.out.1, ⟨fun j hj => by rw [HK.out.2.1.1 j hj]; unfold blankF letF; split <;> split <;> first | rfl | omega, HK.out.2.1.2⟩, HK.out.2.2⟩)
      clear hB HK hbw
      go_wp2
      go_loopw [23] (fun i wx => ∃ k : Nat, k ≤ b.size ∧ i = .int .i64 k ∧ Hid (RAt w wx b n (letF b.data.toList k) w1.heap.size)) (fun i _ => b.size - (intOf i).toNat)
      case atStart => exact ⟨0, by omega, rfl, HL.out⟩
      case round =>
        obtain ⟨k, hk, rfl, HK⟩ := hrel
        clear HL a0 a1
        obtain ⟨⟨a0, a1⟩, hB, hbw, hm⟩ := HK.out
        by_cases hlt : k < b.size
        · have dk : decide ((k : Int) < (b.size : Int)) = true := decide_eq_true (by omega)
          have hkc := hB.1 k (by omega)
          have hkf := hB.2 k
          have hlim := HS.out k hlt
          have HN := Lib.hid (HK.out.set (g := letF b.data.toList (k + 1)) k (by omega) ((b[k].toNat : Int) * 2) (fun j hj => letF_next b k hlt hb6 j))
          clear hB HK hbw
          go_wp2
          go_roundw
          case rel => exact ⟨k + 1, by omega, by go_num, HN.out⟩
          case measure => simp [intOf]; omega
        · obtain rfl : k = b.size := by omega
          have dk : decide ((b.size : Int) < (b.size : Int)) = false := decide_eq_false (by omega)
          have c6 := hB.1 6 (by omega)
          have f6 := hB.2 6
          have HB := Lib.hid hB
          have key : ∀ (f : Nat → Int), (∀ j, j < 7 → f j = if j = 6 then 96 + 2 * (n : Int) + mkD mk la else letF b.data.toList b.size j) → (⟨((List.range 7).map fun j => UInt8.ofNat (f j).toNat).toArray⟩ : ByteArray) = R := fun f hf => by
            rw [HRR.out]
            unfold putD
            congr 2
            apply List.map_congr_left
            intro j hj
            rw [hf j (List.mem_range.1 hj), show b.data.toList.length = b.size by simp]
            by_cases e : j = 6
            · rw [if_pos e, if_pos e]
            · rw [if_neg e, if_neg e]
              unfold letF putF
              rw [if_neg e, if_neg e]
          have KEY := Lib.hid key
          have HW := Lib.hid hbw
          obtain ⟨e1, e2, e3, e4⟩ := or_facts n hn
          clear key HRR hB HK hbw
          cases mk
          · cases la
            · have hcv := (HB.out.set 6 (by omega) (96 + 2 * (n : Int))).conv
              rw [KEY.out _ (fun j hj => by by_cases e : j = 6 <;> simp [e, mkD])] at hcv
              go_wp2
              go_ret2
              exact ⟨rfl, HW.out.setCell (p := ⟨w1.heap.size, 6, none⟩) (by show w.heap.size ≤ w1.heap.size; omega) _⟩
            · have hcv := ((HB.out.set 6 (by omega) (96 + 2 * (n : Int))).set 6 (by omega) (96 + 2 * (n : Int) + 1)).conv
              rw [KEY.out _ (fun j hj => by by_cases e : j = 6 <;> simp [e, mkD])] at hcv
              go_wp2
              go_ret2
              exact ⟨rfl, (HW.out.setCell (p := ⟨w1.heap.size, 6, none⟩) (by show w.heap.size ≤ w1.heap.size; omega) _).setCell (p := ⟨w1.heap.size, 6, none⟩) (by show w.heap.size ≤ w1.heap.size; omega) _⟩
          · cases la
            · have hcv := ((HB.out.set 6 (by omega) (96 + 2 * (n : Int))).set 6 (by omega) (96 + 2 * (n : Int) + 128)).conv
              rw [KEY.out _ (fun j hj => by by_cases e : j = 6 <;> simp [e, mkD])] at hcv
              go_wp2
              go_ret2
              exact ⟨rfl, (HW.out.setCell (p := ⟨w1.heap.size, 6, none⟩) (by show w.heap.size ≤ w1.heap.size; omega) _).setCell (p := ⟨w1.heap.size, 6, none⟩) (by show w.heap.size ≤ w1.heap.size; omega) _⟩
            · have hcv := (((HB.out.set 6 (by omega) (96 + 2 * (n : Int))).set 6 (by omega) (96 + 2 * (n : Int) + 128)).set 6 (by omega) (96 + 2 * (n : Int) + 128 + 1)).conv
              rw [KEY.out _ (fun j hj => by by_cases e : j = 6 <;> simp [e, mkD] <;> omega)] at hcv
              go_wp2
              go_ret2
              exact ⟨rfl, ((HW.out.setCell (p := ⟨w1.heap.size, 6, none⟩) (by show w.heap.size ≤ w1.heap.size; omega) _).setCell (p := ⟨w1.heap.size, 6, none⟩) (by show w.heap.size ≤ w1.heap.size; omega) _).setCell (p := ⟨w1.heap.size, 6, none⟩) (by show w.heap.size ≤ w1.heap.size; omega) _⟩
theorem cput_ok : CPutOk := fun b n mk la w h => by
  unfold putE
  cases hr : rightD b n
  · rw [if_neg (by simp)]
    exact cput_not b n mk la w hr h
  · rw [if_pos rfl]
    obtain ⟨h1, h2, h3, h4, h5⟩ := right_facts b n hr
    have e : ((n.toNat : Nat) : Int) = n := by omega
    have k := cput_yes b n.toNat mk la w (by rw [e]; exact hr) h2 (by omega) (fun i hi => sign_low (h5 b[i] (by rw [← list_at b i hi]; exact List.getElem_mem _)))
    rw [e] at k
    exact k
end Go.Proofs.YtmgfpnemamedoaaDoor
namespace Go.Proofs.YtmgfpnemamedoaaDoor
open Go.RowKit Go.Sort
set_option maxRecDepth 20000
/-- what the code takes for the letters: half of each, without blanks behind -/
def rdD (s : List UInt8) : List UInt8 := Lib.trimRightB ((s.take 6).map fun x => x / 2) 32
theorem trim_end (l : List UInt8) (k : Nat) (h : ∀ x ∈ l, x ≠ 32) : Lib.trimRightB (l ++ List.replicate k 32) 32 = l := by
  unfold Lib.trimRightB
  rw [List.reverse_append, List.reverse_replicate]
  have e : ∀ k : Nat, (List.replicate k (32 : UInt8) ++ l.reverse).dropWhile (· == 32) = l.reverse := by
    intro k
    induction k with
    | zero =>
      rw [List.replicate_zero, List.nil_append]
      cases hl : l.reverse with
      | nil => rfl
      | cons x r =>
        have hx : x ≠ 32 := h x (by rw [← List.mem_reverse, hl]; exact List.mem_cons_self)
        rw [List.dropWhile_cons, if_neg (by simpa using hx)]
    | succ k ih =>
      rw [List.replicate_succ, List.cons_append, List.dropWhile_cons, if_pos (by simp)]
      exact ih
  rw [e, List.reverse_reverse]
theorem rd_put (l : List UInt8) (n : Nat) (mk la : Bool) (h : l.length ≤ 6) (hs : ∀ x ∈ l, signD x = true) : rdD (putD l n mk la) = l := by
  unfold rdD
  rw [put_take l n mk la h, List.map_append, List.map_map, List.map_replicate]
  rw [List.map_congr_left (g := id), List.map_id]
  · exact trim_end l _ (fun x hx e => (sign_facts x (hs x hx)).2.2.1 (by rw [e]; rfl))
  · intro x hx
    have h128 := (sign_facts x (hs x hx)).2.2.2
    apply UInt8.toNat_inj.1
    show (UInt8.ofNat (2 * x.toNat) / 2).toNat = x.toNat
    rw [UInt8.toNat_div, UInt8.toNat_ofNat', Nat.mod_eq_of_lt (by omega)]
    show 2 * x.toNat / 2 = x.toNat
    omega
theorem code_yes (s : List UInt8) (n : Nat) (mk la : Bool) (h1 : rightD ⟨(rdD s).toArray⟩ (n : Int) = true) (h2 : putD (rdD s) n mk la = s) : getD7 s = (true, rdD s, n, mk, la) := by
  have k := get_put ⟨(rdD s).toArray⟩ (n : Int) mk la h1
  rw [show ((⟨(rdD s).toArray⟩ : ByteArray).data.toList) = rdD s from rfl, show ((n : Int)).toNat = n by omega, h2] at k
  exact k
theorem code_no (s : List UInt8) (h : ¬(rightD ⟨(rdD s).toArray⟩ (((s.getD 6 0).toNat / 2 % 16 : Nat) : Int) = true ∧ putD (rdD s) ((s.getD 6 0).toNat / 2 % 16) (decide ((128 : Int) ≤ ((s.getD 6 0).toNat : Int))) (((s.getD 6 0).toNat : Int) % 2 == 1) = s)) : getD7 s = (false, [], 0, false, false) := by
  unfold getD7
  rw [if_neg]
  rintro ⟨_, k2, k3⟩
  obtain ⟨f1, f2, f3, f4, f5⟩ := right_facts _ _ k2
  have e : rdD s = gotD s 6 := by
    have q := rd_put (gotD s 6) ((s.getD 6 0).toNat / 2 % 16) (decide ((128 : Int) ≤ ((s.getD 6 0).toNat : Int))) (((s.getD 6 0).toNat : Int) % 2 == 1) (gotD_len s 6) f5
    rw [k3] at q
    exact q
  rw [e] at h
  exact h ⟨k2, k3⟩
/-- seven bytes of which the first k are halved -/
def halfF (s : List UInt8) (k : Nat) (j : Nat) : Int := if j < k then ((s.getD j 0).toNat : Int) / 2 else ((s.getD j 0).toNat : Int)
theorem B7.conv6 {W : World} {m : Nat} {f : Nat → Int} (h : B7 W m f) : (convert 61 9 (.slice (some ⟨m, 0, none⟩) 6 7)).run Tryd.prog W = .ok (.string ⟨((List.range 6).map fun j => UInt8.ofNat (f j).toNat).toArray⟩) W := by
  rw [run_convert_bytes_arg _ 61 5 Tryd.underlying61 Tryd.underlying5 m 0 6 7 [f 0, f 1, f 2, f 3, f 4, f 5] rfl (fun i hi => by
    rw [Nat.zero_add, h.1 i (by omega)]
    obtain rfl | rfl | rfl | rfl | rfl | rfl : i = 0 ∨ i = 1 ∨ i = 2 ∨ i = 3 ∨ i = 4 ∨ i = 5 := by omega
    all_goals rfl) 9 Tryd.underlying9]
  rfl
theorem B7.cells {m : Nat} : ∀ (l : List UInt8) (o : Nat) {W : World} {f : Nat → Int}, B7 W m f → o + l.length ≤ 7 → B7 (W.setCells m o (l.map fun x => Value.int .u8 (x.toNat : Int))) m (fun j => if o ≤ j ∧ j < o + l.length then ((l.getD (j - o) 0).toNat : Int) else f j)
  | [], o, W, f, h, _ => by
    have e : (fun j => if o ≤ j ∧ j < o + ([] : List UInt8).length then ((([] : List UInt8).getD (j - o) 0).toNat : Int) else f j) = f := by
      funext j
      rw [if_neg (by simp only [List.length_nil]; omega)]
    rw [e]
    exact h
  | x :: l, o, W, f, h, hl => by
    have hlen : (x :: l).length = l.length + 1 := rfl
    have k := B7.cells l (o + 1) (h.set o (by omega) (x.toNat : Int)) (by omega)
    have e : (fun j => if o + 1 ≤ j ∧ j < o + 1 + l.length then ((l.getD (j - (o + 1)) 0).toNat : Int) else if j = o then (x.toNat : Int) else f j) = (fun j => if o ≤ j ∧ j < o + (x :: l).length then (((x :: l).getD (j - o) 0).toNat : Int) else f j) := by
      funext j
      by_cases h1 : j = o
      · subst h1
        rw [if_neg (by omega), if_pos rfl, if_pos (by omega), Nat.sub_self]
        rfl
      · by_cases h2 : o + 1 ≤ j ∧ j < o + 1 + l.length
        · rw [if_pos h2, if_pos (by omega)]
          have e2 : j - o = (j - (o + 1)) + 1 := by omega
          rw [e2]
          rfl
        · rw [if_neg h2, if_neg h1, if_neg (by omega)]
    rw [← e]
    exact k
/-- the answer's cells, and seven bytes behind them -/
def GAt (w W : World) (b : ByteArray) (n : Int) (f : Nat → Int) : Prop :=
  (W.cell? ⟨w.heap.size, 0, none⟩ = some (.string b) ∧ W.cell? ⟨w.heap.size, 1, none⟩ = some (.int .i64 n)) ∧ (∀ i, W.frozen? ⟨w.heap.size, i, none⟩ = false) ∧ B7 W (w.heap.size + 1) f ∧ Below w.heap.size w W
theorem GAt.start (w : World) : GAt w ((w.alloc (.cells #[.string ⟨#[]⟩, .int .i64 0] 27)).alloc (.cells #[.int .u8 0, .int .u8 0, .int .u8 0, .int .u8 0, .int .u8 0, .int .u8 0, .int .u8 0] 87)) ⟨#[]⟩ 0 (fun _ => 0) := by
  refine ⟨⟨(World.cell?_alloc_past _ _ _ (by simp)).trans (World.cell?_alloc_at _ _ _ _ rfl), (World.cell?_alloc_past _ _ _ (by simp)).trans (World.cell?_alloc_at _ _ _ _ rfl)⟩, fun i => (World.frozen?_alloc_past _ _ _ (by simp)).trans (World.frozen?_alloc_at _ _ _ _ rfl), ⟨fun j hj => ?_, fun j => World.frozen?_alloc_at _ _ _ _ (by simp)⟩, ((Below.refl _ w).alloc (Nat.le_refl _) _).alloc (by simp) _⟩
  refine (World.cell?_alloc_at _ _ _ _ (by simp)).trans ?_
  obtain rfl | rfl | rfl | rfl | rfl | rfl | rfl : j = 0 ∨ j = 1 ∨ j = 2 ∨ j = 3 ∨ j = 4 ∨ j = 5 ∨ j = 6 := by omega
  all_goals rfl
theorem GAt.set {w W : World} {b : ByteArray} {n : Int} {f g : Nat → Int} (h : GAt w W b n f) (i : Nat) (hi : i < 7) (v : Int) (hg : ∀ j, j < 7 → g j = if j = i then v else f j) : GAt w (W.setCell ⟨w.heap.size + 1, i, none⟩ (.int .u8 v)) b n g := by
  obtain ⟨⟨a0, a1⟩, hf, hB, hw⟩ := h
  refine ⟨⟨?_, ?_⟩, fun i => by rw [World.frozen?_setCell]; exact hf i, ?_, hw.setCell (p := ⟨w.heap.size + 1, i, none⟩) (by show w.heap.size ≤ w.heap.size + 1; omega) _⟩
  · rw [set_block _ _ _ _ _ _ (by omega)]; exact a0
  · rw [set_block _ _ _ _ _ _ (by omega)]; exact a1
  · have k := hB.set i hi v
    exact ⟨fun j hj => by rw [hg j hj]; exact k.1 j hj, k.2⟩
theorem setCells_off (m : Nat) (a : Addr) (ha : a.block ≠ m) : ∀ (vs : List Value) (o : Nat) (W : World), (W.setCells m o vs).cell? a = W.cell? a ∧ (W.setCells m o vs).frozen? a = W.frozen? a
  | [], _, _ => ⟨rfl, rfl⟩
  | v :: r, o, W => by
    obtain ⟨h1, h2⟩ := setCells_off m a ha r (o + 1) (W.setCell ⟨m, o, none⟩ v)
    refine ⟨h1.trans ?_, h2.trans (World.frozen?_setCell _ _ _ _)⟩
    obtain ⟨bl, off, sp⟩ := a
    exact World.cell?_setCell_other W ⟨m, o, none⟩ ⟨bl, off, sp⟩ v (fun he => ha (Addr.mk.inj he).1.symm)
theorem below_cells_in {B b : Nat} {a : World} (hb : B ≤ b) : ∀ (vs : List Value) (o : Nat) (w : World), Below B a w → Below B a (w.setCells b o vs)
  | [], _, _, h => h
  | v :: r, o, _, h => below_cells_in hb r (o + 1) _ (h.setCell (p := ⟨b, o, none⟩) hb v)
theorem GAt.copied {w W : World} {b : ByteArray} {n : Int} {f : Nat → Int} (h : GAt w W b n f) (s : ByteArray) (hs : s.size = 7) : GAt w (W.setCells (w.heap.size + 1) 0 (s.data.toList.map fun x => Value.int .u8 (x.toNat : Int))) b n (halfF s.data.toList 0) := by
  obtain ⟨⟨a0, a1⟩, hf, hB, hw⟩ := h
  have hl : s.data.toList.length = 7 := by simpa using hs
  have q := fun (i : Nat) => setCells_off (w.heap.size + 1) ⟨w.heap.size, i, none⟩ (by show w.heap.size ≠ w.heap.size + 1; omega) (s.data.toList.map fun x => Value.int .u8 (x.toNat : Int)) 0 W
  have kb := B7.cells s.data.toList 0 hB (by omega)
  refine ⟨⟨(q 0).1.trans a0, (q 1).1.trans a1⟩, fun i => (q i).2.trans (hf i), ⟨fun j hj => ?_, kb.2⟩, below_cells_in (by omega) _ _ _ hw⟩
  rw [kb.1 j hj]
  show some (Value.int .u8 (if 0 ≤ j ∧ j < 0 + s.data.toList.length then ((s.data.toList.getD (j - 0) 0).toNat : Int) else f j)) = _
  rw [if_pos (by omega)]
  unfold halfF
  rw [if_neg (by omega), Nat.sub_zero]
theorem halfF_next (s : List UInt8) (k : Nat) (j : Nat) : halfF s (k + 1) j = if j = k then ((s.getD k 0).toNat : Int) / 2 else halfF s k j := by
  unfold halfF
  by_cases e : j = k
  · subst e
    rw [if_pos (by omega), if_pos rfl]
  · rw [if_neg e]
    by_cases h : j < k
    · rw [if_pos h, if_pos (by omega)]
    · rw [if_neg h, if_neg (by omega)]
theorem and_facts : ∀ x : Fin 256, bits BinOp.and .i64 ((x.val : Int) / 2) 15 = (x.val : Int) / 2 % 16 ∧ bits BinOp.and .u8 (x.val : Int) 128 = (if 128 ≤ x.val then 128 else 0) ∧ bits BinOp.and .u8 (x.val : Int) 1 = (x.val : Int) % 2 := by decide +kernel
theorem half_six (s : ByteArray) (h : s.size = 7) : ((List.range 6).map fun j => UInt8.ofNat (halfF s.data.toList 6 j).toNat) = (s.data.toList.take 6).map fun x => x / 2 := by
  have hl : s.data.toList.length = 7 := by simpa using h
  apply List.ext_getElem (by simp [hl])
  intro j h1 h2
  have hj : j < 6 := by simpa using h1
  rw [List.getElem_map, List.getElem_map, List.getElem_range, List.getElem_take]
  unfold halfF
  rw [if_pos hj, List.getD_eq_getElem?_getD, List.getElem?_eq_getElem (by omega)]
  apply UInt8.toNat_inj.1
  rw [UInt8.toNat_ofNat', UInt8.toNat_div]
  have := (s.data.toList[j]'(by omega)).toNat_lt
  show ((((s.data.toList[j]'(by omega)).toNat : Int) / 2).toNat) % 256 = (s.data.toList[j]'(by omega)).toNat / 2
  omega
set_option maxHeartbeats 1000000 in
theorem cread_any (s : ByteArray) (w : World) (h : s.size = 7) :
    Calls Tryd.prog 46 #[.string s] w fun e w' => e = .returned (.tuple #[.agg #[.string ⟨(rdD s.data.toList).toArray⟩, .int .i64 (((s.data.toList.getD 6 0).toNat / 2 % 16 : Nat) : Int)], .bool (decide ((128 : Int) ≤ ((s.data.toList.getD 6 0).toNat : Int))), .bool (((s.data.toList.getD 6 0).toNat : Int) % 2 == 1)]) ∧ Below w.heap.size w w' := by
  obtain ⟨R, hR⟩ : ∃ R : ByteArray, R = ⟨(rdD s.data.toList).toArray⟩ := ⟨_, rfl⟩
  obtain ⟨x, hx⟩ : ∃ x, x = s.data.toList.getD 6 0 := ⟨_, rfl⟩
  rw [← hR, ← hx]
  have HR := Lib.hid hR
  have HX := Lib.hid hx
  have hlim := x.toNat_lt
  obtain ⟨e1, e2, e3⟩ := and_facts ⟨x.toNat, x.toNat_lt⟩
  simp only at e1 e2 e3
  obtain ⟨N, hN⟩ : ∃ N : Int, N = ((x.toNat / 2 % 16 : Nat) : Int) := ⟨_, rfl⟩
  obtain ⟨M, hM⟩ : ∃ M : Bool, M = decide ((128 : Int) ≤ (x.toNat : Int)) := ⟨_, rfl⟩
  obtain ⟨L, hL⟩ : ∃ L : Bool, L = ((x.toNat : Int) % 2 == 1) := ⟨_, rfl⟩
  rw [← hN, ← hM, ← hL]
  rw [show (x.toNat : Int) / 2 % 16 = N by rw [hN]; omega] at e1
  have b2 : (bits BinOp.and .u8 (x.toNat : Int) 128 != 0) = M := by
    rw [e2, hM]
    by_cases q : 128 ≤ x.toNat
    · rw [if_pos q, decide_eq_true (by omega)]; rfl
    · rw [if_neg q, decide_eq_false (by omega)]; rfl
  have b3 : (bits BinOp.and .u8 (x.toNat : Int) 1 != 0) = L := by
    rw [e3, hL]
    by_cases q : (x.toNat : Int) % 2 = 1
    · rw [q]; rfl
    · have q0 : (x.toNat : Int) % 2 = 0 := by omega
      rw [q0]; rfl
  clear hR hx hN hM hL e2 e3
  have HG0 := Lib.hid (GAt.start w)
  have HG := Lib.hid ((GAt.start w).copied s h)
  have hcp := run_copy_string (P := Tryd.prog) ((w.alloc (.cells #[.string ⟨#[]⟩, .int .i64 0] 27)).alloc (.cells #[.int .u8 0, .int .u8 0, .int .u8 0, .int .u8 0, .int .u8 0, .int .u8 0, .int .u8 0] 87)) 61 9 3 5 (w.heap.size + 1) 0 7 7 s Tryd.underlying61 (fun w => by kernel_rfl) (by omega) (fun j hj => by rw [Nat.zero_add, HG0.out.2.2.1.1 j (by omega)]; rfl) (fun j hj => by rw [Nat.zero_add]; exact HG0.out.2.2.1.2 j)
  generalize ((w.alloc (.cells #[.string ⟨#[]⟩, .int .i64 0] 27)).alloc (.cells #[.int .u8 0, .int .u8 0, .int .u8 0, .int .u8 0, .int .u8 0, .int .u8 0, .int .u8 0] 87)).setCells (w.heap.size + 1) 0 (s.data.toList.map fun x => Value.int .u8 (x.toNat : Int)) = W1 at hcp HG
  clear HG0
  go_enter Tryd.func46, Tryd.ntmps46
  go_wp2
  go_loopw [10] (fun i wx => ∃ k : Nat, k ≤ 6 ∧ i = .int .i64 k ∧ Hid (GAt w wx ⟨#[]⟩ 0 (halfF s.data.toList k))) (fun i _ => 6 - (intOf i).toNat)
  case atStart => exact ⟨0, by omega, rfl, HG.out⟩
  case round =>
    obtain ⟨k, hk, rfl, HK⟩ := hrel
    clear HG
    obtain ⟨⟨a0, a1⟩, hf, hB, hbw⟩ := HK.out
    by_cases hlt : k < 6
    · have dk : decide ((k : Int) < 6) = true := decide_eq_true (by omega)
      have hkc : wr.cell? ⟨w.heap.size + 1, k, none⟩ = some (.int .u8 ((s.data.toList.getD k 0).toNat : Int)) := by
        rw [hB.1 k (by omega)]
        unfold halfF
        rw [if_neg (by omega)]
      have hkf := hB.2 k
      have hlim := (s.data.toList.getD k 0).toNat_lt
      have HN := Lib.hid (HK.out.set (g := halfF s.data.toList (k + 1)) k (by omega) (((s.data.toList.getD k 0).toNat : Int) / 2) (fun j _ => halfF_next _ _ _))
      clear hB HK hbw hf
      generalize s.data.toList.getD k 0 = x at *
      go_wp2
      go_roundw
      case rel => exact ⟨k + 1, by omega, by go_num, HN.out⟩
      case measure => simp [intOf]; omega
    · obtain rfl : k = 6 := by omega
      have hT : ((List.range 6).map fun j => UInt8.ofNat (halfF s.data.toList 6 j).toNat) = (s.data.toList.take 6).map fun x => x / 2 := half_six s h
      have hcv := hB.conv6
      rw [hT] at hcv
      have hc6 : wr.cell? ⟨w.heap.size + 1, 6, none⟩ = some (.int .u8 ((s.data.toList.getD 6 0).toNat : Int)) := by
        rw [hB.1 6 (by omega)]
        unfold halfF
        rw [if_neg (by omega)]
      obtain ⟨T, hT2⟩ : ∃ T : ByteArray, T = ⟨((s.data.toList.take 6).map fun x => x / 2).toArray⟩ := ⟨_, rfl⟩
      have HT := Lib.hid (fun W => show Calls Tryd.prog 47 #[.string T, .string ⟨#[32]⟩] W (fun e w' => e = .returned (.string R) ∧ w' = W) from by
        rw [HR.out]
        have k := Tryd.strings_TrimRight_one T 32 (by decide) W (by rw [hT2]; show (List.toArray _).size ≤ _; rw [List.size_toArray, List.length_map]; have := List.length_take_le 6 s.data.toList; omega)
        rw [show T.data.toList = (s.data.toList.take 6).map fun x => x / 2 from by rw [hT2]] at k
        exact k)
      rw [← hT2] at hcv
      clear hT hT2 HR
      have hf0 := hf 0
      have hf1 := hf 1
      have HW := Lib.hid hbw
      rw [← HX.out] at hc6
      clear HX HK hbw hf hB
      go_wp2_with (go_at_call 47; (with_reducible refine (HT.out _).mono ?_); rintro e w1 ⟨rfl, rfl⟩)
      obtain ⟨q0, q1⟩ := stored2 (.string R) (.int .i64 N) a0 a1
      have q6 : ((w1.setCell ⟨w.heap.size, 0, none⟩ (.string R)).setCell ⟨w.heap.size, 1, none⟩ (.int .i64 N)).cell? ⟨w.heap.size + 1, 6, none⟩ = some (.int .u8 (x.toNat : Int)) := by
        rw [set_block _ _ _ _ _ _ (by omega), set_block _ _ _ _ _ _ (by omega)]
        exact hc6
      have p0 : ((w1.setCell ⟨w.heap.size, 0, none⟩ (.string R)).setCell ⟨w.heap.size, 1, none⟩ (.int .i64 N)).frozen? ⟨w.heap.size, 0, none⟩ = false := by rw [World.frozen?_setCell, World.frozen?_setCell]; exact hf0
      have p1 : ((w1.setCell ⟨w.heap.size, 0, none⟩ (.string R)).setCell ⟨w.heap.size, 1, none⟩ (.int .i64 N)).frozen? ⟨w.heap.size, 1, none⟩ = false := by rw [World.frozen?_setCell, World.frozen?_setCell]; exact hf1
      have HB9 := Lib.hid (set2_below HW.out (Nat.le_refl _) (.string R) (.int .i64 N))
      clear a0 a1 hc6 hf0 hf1 hcv HW HT
      generalize (w1.setCell ⟨w.heap.size, 0, none⟩ (.string R)).setCell ⟨w.heap.size, 1, none⟩ (.int .i64 N) = W9 at *
      go_region
      go_wp2
      obtain ⟨z0, z1⟩ := stored2 (W := W9) (.string R) (.int .i64 N) q0 q1
      exact bodyPost_ret (v := .tuple #[.agg #[.string R, .int .i64 N], .bool M, .bool L]) (by simp [results, Tryd.results46, go_sem, z0, z1]) rfl ⟨rfl, (set2_below HB9.out (Nat.le_refl _) _ _).drew⟩
end Go.Proofs.YtmgfpnemamedoaaDoor
namespace Go.Proofs.YtmgfpnemamedoaaDoor
open Go.RowKit Go.Sort
set_option maxRecDepth 20000
theorem cget_short (s : ByteArray) (w : World) (h : s.size < 7) :
    Calls Tryd.prog 35 #[.string s] w fun e w' => e = .returned (.tuple #[.agg #[.string ⟨#[]⟩, .int .i64 0], .bool false, .bool false, .int .i64 4]) ∧ Below w.heap.size w w' := by
  have d7 : decide ((s.size : Int) < 7) = true := decide_eq_true (by omega)
  go_enter Tryd.func35, Tryd.ntmps35
  go_wp2
  exact bodyPost_ret (v := .tuple #[.agg #[.string ⟨#[]⟩, .int .i64 0], .bool false, .bool false, .int .i64 4]) (by simp [results, Tryd.results35, go_sem]) rfl ⟨rfl, (Below.refl _ w).alloc (Nat.le_refl _) _⟩
theorem cget_long (s : ByteArray) (w : World) (h : 7 < s.size) :
    Calls Tryd.prog 35 #[.string s] w fun e w' => e = .returned (.tuple #[.agg #[.string ⟨#[]⟩, .int .i64 0], .bool false, .bool false, .int .i64 5]) ∧ Below w.heap.size w w' := by
  have d7 : decide ((s.size : Int) < 7) = false := decide_eq_false (by omega)
  have d8 : decide ((7 : Int) < (s.size : Int)) = true := decide_eq_true (by omega)
  go_enter Tryd.func35, Tryd.ntmps35
  go_wp2
  exact bodyPost_ret (v := .tuple #[.agg #[.string ⟨#[]⟩, .int .i64 0], .bool false, .bool false, .int .i64 5]) (by simp [results, Tryd.results35, go_sem]) rfl ⟨rfl, (Below.refl _ w).alloc (Nat.le_refl _) _⟩
/-- the answer's cells, still empty, and those of a call that was read -/
def EAt (w W : World) (b : ByteArray) (n : Int) (m : Nat) : Prop :=
  (W.cell? ⟨w.heap.size, 0, none⟩ = some (.string ⟨#[]⟩) ∧ W.cell? ⟨w.heap.size, 1, none⟩ = some (.int .i64 0)) ∧
  (W.cell? ⟨m, 0, none⟩ = some (.string b) ∧ W.cell? ⟨m, 1, none⟩ = some (.int .i64 n)) ∧
  (∀ i, W.frozen? ⟨w.heap.size, i, none⟩ = false) ∧ Below w.heap.size w W ∧ w.heap.size < m ∧ m < W.heap.size
theorem EAt.below {w W W' : World} {b : ByteArray} {n : Int} {m : Nat} (h : EAt w W b n m) (hb : Below W.heap.size W W') : EAt w W' b n m := by
  obtain ⟨⟨a0, a1⟩, ⟨c0, c1⟩, f, hw, h1, h2⟩ := h
  have k := fun (j i : Nat) (hm : j < W.heap.size) => hb.cell (p := ⟨j, i, none⟩) hm
  have q := fun (j i : Nat) (hm : j < W.heap.size) => hb.frozen (p := ⟨j, i, none⟩) hm
  exact ⟨⟨(k _ _ (by omega)).trans a0, (k _ _ (by omega)).trans a1⟩, ⟨(k _ _ h2).trans c0, (k _ _ h2).trans c1⟩, fun i => (q _ _ (by omega)).trans (f i), hw.trans (hb.mono hw.size), h1, Nat.lt_of_lt_of_le h2 hb.size⟩
theorem EAt.start (w w1 : World) (b : ByteArray) (n : Int) (hb : Below (w.alloc (.cells #[.string ⟨#[]⟩, .int .i64 0] 27)).heap.size (w.alloc (.cells #[.string ⟨#[]⟩, .int .i64 0] 27)) w1) : EAt w (w1.alloc (.cells #[.string b, .int .i64 n] 27)) b n w1.heap.size := by
  have hs : w.heap.size < w1.heap.size := Nat.lt_of_lt_of_le (by simp) hb.size
  have k := fun (i : Nat) => (show (w1.alloc (.cells #[.string b, .int .i64 n] 27)).cell? ⟨w.heap.size, i, none⟩ = w1.cell? ⟨w.heap.size, i, none⟩ from World.cell?_alloc_past _ _ _ (by simpa using hs)).trans (hb.cell (p := ⟨w.heap.size, i, none⟩) (by simp))
  have q := fun (i : Nat) => (show (w1.alloc (.cells #[.string b, .int .i64 n] 27)).frozen? ⟨w.heap.size, i, none⟩ = w1.frozen? ⟨w.heap.size, i, none⟩ from World.frozen?_alloc_past _ _ _ (by simpa using hs)).trans (hb.frozen (p := ⟨w.heap.size, i, none⟩) (by simp))
  exact ⟨⟨(k 0).trans (World.cell?_alloc_at _ _ _ _ rfl), (k 1).trans (World.cell?_alloc_at _ _ _ _ rfl)⟩, ⟨World.cell?_alloc_at _ _ _ _ rfl, World.cell?_alloc_at _ _ _ _ rfl⟩, fun i => (q i).trans (World.frozen?_alloc_at _ _ _ _ rfl), (((Below.refl _ w).alloc (Nat.le_refl _) _).trans (hb.mono (by simp))).alloc (by omega) _, hs, by simp⟩
set_option maxHeartbeats 1000000 in
theorem cget_seven (s : ByteArray) (w : World) (h : s.size = 7) :
    Calls Tryd.prog 35 #[.string s] w fun e w' => e = .returned (getE s.data.toList) ∧ Below w.heap.size w w' := by
  have d7 : decide ((s.size : Int) < 7) = false := decide_eq_false (by omega)
  have d8 : decide ((7 : Int) < (s.size : Int)) = false := decide_eq_false (by omega)
  have hl : s.data.toList.length = 7 := by simpa using h
  have HD := Lib.hid (fun W => cread_any s W h)
  have hno := code_no s.data.toList
  obtain ⟨x, hx⟩ : ∃ x, x = (s.data.toList.getD 6 0).toNat := ⟨_, rfl⟩
  rw [← hx] at HD hno
  obtain ⟨N, hN⟩ : ∃ N : Nat, N = x / 2 % 16 := ⟨_, rfl⟩
  obtain ⟨M, hM⟩ : ∃ M : Bool, M = decide ((128 : Int) ≤ (x : Int)) := ⟨_, rfl⟩
  obtain ⟨L, hL⟩ : ∃ L : Bool, L = ((x : Int) % 2 == 1) := ⟨_, rfl⟩
  rw [← hN, ← hM, ← hL] at HD hno
  have hyes := code_yes s.data.toList N M L
  obtain ⟨R, hR⟩ : ∃ R : ByteArray, R = ⟨(rdD s.data.toList).toArray⟩ := ⟨_, rfl⟩
  have hRl : R.data.toList = rdD s.data.toList := by rw [hR]
  have hRs : R.size ≤ 300 := by
    have k1 : R.data.toList.length = R.size := by simp
    have k2 : (rdD s.data.toList).length ≤ 6 := by
      unfold rdD Lib.trimRightB
      rw [List.length_reverse]
      refine Nat.le_trans (List.dropWhile_sublist _).length_le ?_
      rw [List.length_reverse, List.length_map]
      exact List.length_take_le _ _
    rw [hRl] at k1
    omega
  rw [← hR] at HD hno hyes
  have HU := Lib.hid (fun W => cput_ok R (N : Int) M L W hRs)
  unfold putE at HU
  rw [hRl, show ((N : Int)).toNat = N by omega] at HU
  by_cases h1 : rightD R (N : Int) = true
  · rw [if_pos h1] at HU
    have ez : ((0 : Int) != 0) = false := rfl
    by_cases h2 : putD (rdD s.data.toList) N M L = s.data.toList
    · have hg := hyes h1 h2
      have hne : (s.toList == s.toList) = true := beq_self_eq_true _
      rw [h2, back_bytes] at HU
      have he : getE s.data.toList = .tuple #[.agg #[.string R, .int .i64 (N : Int)], .bool M, .bool L, .int .i64 0] := by
        unfold getE
        rw [hg, hR]
        rfl
      rw [he]
      clear he hg hyes hno hl h1 h2 hx hN hM hL hR hRl hRs
      go_enter Tryd.func35, Tryd.ntmps35
      go_wp2_with (first
        | (go_at_call 46; go_loud (refine (HD.out _).mono ?_; rintro e w1 ⟨rfl, hb⟩; have HE := Lib.hid (EAt.start w w1 R (N : Int) hb); clear hb; obtain ⟨⟨a0, a1⟩, ⟨c0, c1⟩, hf, hw, hm, hm2⟩ := HE.out))
        | (go_at_call 32; ((with_reducible refine (HU.out _).mono ?_); rintro e w2 ⟨rfl, hb⟩; replace HE := Lib.hid (HE.out.below hb); clear hb a0 a1 c0 c1 hf hw hm hm2; obtain ⟨⟨a0, a1⟩, ⟨c0, c1⟩, hf, hw, hm, hm2⟩ := HE.out)))
      obtain ⟨z0, z1⟩ := stored2 (W := w2) (.string R) (.int .i64 (N : Int)) a0 a1
      exact bodyPost_ret (v := .tuple #[.agg #[.string R, .int .i64 (N : Int)], .bool M, .bool L, .int .i64 0]) (by simp [results, Tryd.results35, go_sem, z0, z1]) rfl ⟨rfl, set2_below hw (Nat.le_refl _) _ _⟩
    · have hg := hno (fun q => h2 q.2)
      obtain ⟨U, hU⟩ : ∃ U : ByteArray, U = ⟨(putD (rdD s.data.toList) N M L).toArray⟩ := ⟨_, rfl⟩
      rw [← hU] at HU
      have hne : (U.toList == s.toList) = false := by
        rw [Lib.toList_data, Lib.toList_data, beq_eq_false_iff_ne, hU]
        exact h2
      have hnn : (U.toList != s.toList) = true := by
        show (!(U.toList == s.toList)) = true
        rw [hne]; rfl
      have he : getE s.data.toList = .tuple #[.agg #[.string ⟨#[]⟩, .int .i64 0], .bool false, .bool false, .int .i64 2] := by
        unfold getE
        rw [hg, hl]
        rfl
      rw [he]
      clear he hg hyes hno hl h1 h2 hx hN hM hL hR hRl hRs hU
      go_enter Tryd.func35, Tryd.ntmps35
      go_wp2_with (first
        | (go_at_call 46; go_loud (refine (HD.out _).mono ?_; rintro e w1 ⟨rfl, hb⟩; have HE := Lib.hid (EAt.start w w1 R (N : Int) hb); clear hb; obtain ⟨⟨a0, a1⟩, ⟨c0, c1⟩, hf, hw, hm, hm2⟩ := HE.out))
        | (go_at_call 32; ((with_reducible refine (HU.out _).mono ?_); rintro e w2 ⟨rfl, hb⟩; replace HE := Lib.hid (HE.out.below hb); clear hb a0 a1 c0 c1 hf hw hm hm2; obtain ⟨⟨a0, a1⟩, ⟨c0, c1⟩, hf, hw, hm, hm2⟩ := HE.out)))
      obtain ⟨z0, z1⟩ := stored2 (W := w2) (.string ⟨#[]⟩) (.int .i64 0) a0 a1
      exact bodyPost_ret (v := .tuple #[.agg #[.string ⟨#[]⟩, .int .i64 0], .bool false, .bool false, .int .i64 2]) (by simp [results, Tryd.results35, go_sem, z0, z1]) rfl ⟨rfl, set2_below hw (Nat.le_refl _) _ _⟩
  · rw [if_neg h1] at HU
    have hg := hno (fun q => h1 q.1)
    have he : getE s.data.toList = .tuple #[.agg #[.string ⟨#[]⟩, .int .i64 0], .bool false, .bool false, .int .i64 2] := by
      unfold getE
      rw [hg, hl]
      rfl
    rw [he]
    clear he hg hyes hno hl h1 hx hN hM hL hR hRl hRs
    go_enter Tryd.func35, Tryd.ntmps35
    go_wp2_with (first
      | (go_at_call 46; go_loud (refine (HD.out _).mono ?_; rintro e w1 ⟨rfl, hb⟩; have HE := Lib.hid (EAt.start w w1 R (N : Int) hb); clear hb; obtain ⟨⟨a0, a1⟩, ⟨c0, c1⟩, hf, hw, hm, hm2⟩ := HE.out))
      | (go_at_call 32; ((with_reducible refine (HU.out _).mono ?_); rintro e w2 ⟨rfl, hb⟩; replace HE := Lib.hid (HE.out.below hb); clear hb a0 a1 c0 c1 hf hw hm hm2; obtain ⟨⟨a0, a1⟩, ⟨c0, c1⟩, hf, hw, hm, hm2⟩ := HE.out)))
    obtain ⟨z0, z1⟩ := stored2 (W := w2) (.string ⟨#[]⟩) (.int .i64 0) a0 a1
    exact bodyPost_ret (v := .tuple #[.agg #[.string ⟨#[]⟩, .int .i64 0], .bool false, .bool false, .int .i64 2]) (by simp [results, Tryd.results35, go_sem, z0, z1]) rfl ⟨rfl, set2_below hw (Nat.le_refl _) _ _⟩
theorem cget_ok : CGetOk := fun s w _ => by
  have hl : s.data.toList.length = s.size := by simp
  by_cases h7 : s.size = 7
  · exact cget_seven s w h7
  · have hg : getD7 s.data.toList = (false, [], 0, false, false) := by
      unfold getD7
      rw [if_neg (fun q => h7 (by rw [← hl]; exact q.1))]
    unfold getE
    rw [hg, hl]
    by_cases h : s.size < 7
    · rw [if_neg (by simp), if_pos h]
      exact cget_short s w h
    · rw [if_neg (by simp), if_neg h, if_pos (by omega)]
      exact cget_long s w (by omega)
end Go.Proofs.YtmgfpnemamedoaaDoor
namespace Go.Proofs.YtmgfpnemamedoaaDoor
set_option maxRecDepth 20000
/-- by a goto to l: J l; else Q -/
def jumps (J : Nat → Act → World → Prop) (Q : Exit → Act → World → Prop) : Exit → Act → World → Prop
  | .goto l, a, w => J l a w
  | e, a, w => Q e a w
theorem jumps_ret (J : Nat → Act → World → Prop) (Q : Exit → Act → World → Prop) (a : Act) (w : World) : jumps J Q .ret a w = Q .ret a w := rfl
theorem jumps_goto (J : Nat → Act → World → Prop) (Q : Exit → Act → World → Prop) (l : Nat) (a : Act) (w : World) : jumps J Q (.goto l) a w = J l a w := rfl
theorem scope_places {P : Program} {a : Act} {w : World} {Q : Exit → Act → World → Prop} {c : Code} (J : Nat → Act → World → Prop) (μ : Nat → Act → World → Nat)
    (first : c.wp P (jumps J Q) a w)
    (pass : ∀ l a w, J l a w → ∃ rest, findLabel c l = some rest ∧ rest.wp P (jumps (fun l' a' w' => J l' a' w' ∧ μ l' a' w' < μ l a w) Q) a w) : (Code.scope c).wp P Q a w := by
  intro b k cs
  have hg : ∀ l rest, findLabel c l = some rest → gotoIn l (.inScope c :: k) = some (.code rest :: .inScope c :: k) := fun l rest hf => by simp [gotoIn, hf]
  have key : ∀ n l a w rest, findLabel c l = some rest → μ l a w = n → J l a w → ∃ e a' w', Q e a' w' ∧ Arrives P (lone (b.at a (.code rest :: .inScope c :: k)) cs w) b k cs e a' w' := by
    intro n
    induction n using Nat.strongRecOn with
    | _ n ih =>
      intro l a w rest hf hn hJ
      obtain ⟨rest', hf', hp⟩ := pass l a w hJ
      rw [hf] at hf'
      obtain rfl := Option.some.inj hf'
      obtain ⟨e, a₁, w₁, hq, harr⟩ := hp b (.inScope c :: k) cs
      cases e with
      | normal => exact ⟨.normal, a₁, w₁, hq, Steps.trans harr (.one step_inScope)⟩
      | exit id => exact ⟨.exit id, a₁, w₁, hq, fun k' hk => harr k' (by simp [exitTo, hk])⟩
      | goto l' =>
        obtain ⟨hJ', hlt⟩ := hq
        obtain ⟨rest2, hf2, _⟩ := pass l' a₁ w₁ hJ'
        obtain ⟨e₂, a₂, w₂, hq₂, harr₂⟩ := ih _ (by omega) l' a₁ w₁ rest2 hf2 rfl hJ'
        exact ⟨e₂, a₂, w₂, hq₂, .of_steps (harr _ (hg l' rest2 hf2)) harr₂⟩
      | ret => exact ⟨_, a₁, w₁, hq, harr⟩
      | panic ch => exact ⟨_, a₁, w₁, hq, harr⟩
      | outgrown => exact ⟨_, a₁, w₁, hq, harr⟩
  obtain ⟨e, a₁, w₁, hq, harr⟩ := first b (.inScope c :: k) cs
  cases e with
  | normal => exact ⟨.normal, a₁, w₁, hq, .head step_scope (Steps.trans harr (.one step_inScope))⟩
  | exit id => exact ⟨.exit id, a₁, w₁, hq, fun k' hk => .head step_scope (harr k' (by simp [exitTo, hk]))⟩
  | goto l' =>
    obtain ⟨rest, hf, _⟩ := pass l' a₁ w₁ hq
    obtain ⟨e₂, a₂, w₂, hq₂, harr₂⟩ := key _ l' a₁ w₁ rest hf rfl hq
    exact ⟨e₂, a₂, w₂, hq₂, .of_steps (.head step_scope (harr _ (hg l' rest hf))) harr₂⟩
  | ret => exact ⟨_, a₁, w₁, hq, .of_steps (.one step_scope) harr⟩
  | panic ch => exact ⟨_, a₁, w₁, hq, .of_steps (.one step_scope) harr⟩
  | outgrown => exact ⟨_, a₁, w₁, hq, .of_steps (.one step_scope) harr⟩
end Go.Proofs.YtmgfpnemamedoaaDoor
