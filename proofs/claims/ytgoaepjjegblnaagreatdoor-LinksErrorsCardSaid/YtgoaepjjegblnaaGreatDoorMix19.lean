/-
The landed code's reading of seven bytes.
-/
import Derived.Test.YtgoaepjjegblnaaGreatDoorMix01
import Derived.Test.YtgoaepjjegblnaaGreatDoorMix03
import Derived.Lib.LazyBuf
import Derived.BigRegion
import Derived.Lib.SmallJoins
import Derived.Lib.ItoaNum
import Derived.Lib.QuietBelow
import Derived.Lib.IndexBytes
import Derived.IntWalk
namespace Go.Proofs.YtgoaepjjegblnaaGreatDoor
open Go.RowKit Go.Sort
set_option maxRecDepth 20000
/-- what the code takes for the letters: half of each, without blanks behind -/
def rdD (s : List UInt8) : List UInt8 := Lib.trimRightB ((s.take 6).map fun x => x / 2) 32
theorem trim_end (l : List UInt8) (k : Nat) (h : ∀ x ∈ l, x ≠ 32) : Lib.trimRightB (l ++ List.replicate k 32) 32 = l := by
  unfold Lib.trimRightB
  rw [List.reverse_append, List.reverse_replicate]
  have e : ∀ k : Nat, (List.replicate k (32 : UInt8) ++ l.reverse).dropWhile (· == 32) = l.reverse := by
    intro k
    induction k with
    | zero =>
      rw [List.replicate_zero, List.nil_append]
      cases hl : l.reverse with
      | nil => rfl
      | cons x r =>
        have hx : x ≠ 32 := h x (by rw [← List.mem_reverse, hl]; exact List.mem_cons_self)
        rw [List.dropWhile_cons, if_neg (by simpa using hx)]
    | succ k ih =>
      rw [List.replicate_succ, List.cons_append, List.dropWhile_cons, if_pos (by simp)]
      exact ih
  rw [e, List.reverse_reverse]
theorem rd_put (l : List UInt8) (n : Nat) (mk la : Bool) (h : l.length ≤ 6) (hs : ∀ x ∈ l, signD x = true) : rdD (putD l n mk la) = l := by
  unfold rdD
  rw [put_take l n mk la h, List.map_append, List.map_map, List.map_replicate]
  rw [List.map_congr_left (g := id), List.map_id]
  · exact trim_end l _ (fun x hx e => (sign_facts x (hs x hx)).2.2.1 (by rw [e]; rfl))
  · intro x hx
    have h128 := (sign_facts x (hs x hx)).2.2.2
    apply UInt8.toNat_inj.1
    show (UInt8.ofNat (2 * x.toNat) / 2).toNat = x.toNat
    rw [UInt8.toNat_div, UInt8.toNat_ofNat', Nat.mod_eq_of_lt (by omega)]
    show 2 * x.toNat / 2 = x.toNat
    omega
theorem code_yes (s : List UInt8) (n : Nat) (mk la : Bool) (h1 : rightD ⟨(rdD s).toArray⟩ (n : Int) = true) (h2 : putD (rdD s) n mk la = s) : getD7 s = (true, rdD s, n, mk, la) := by
  have k := get_put ⟨(rdD s).toArray⟩ (n : Int) mk la h1
  rw [show ((⟨(rdD s).toArray⟩ : ByteArray).data.toList) = rdD s from rfl, show ((n : Int)).toNat = n by omega, h2] at k
  exact k
theorem code_no (s : List UInt8) (h : ¬(rightD ⟨(rdD s).toArray⟩ (((s.getD 6 0).toNat / 2 % 16 : Nat) : Int) = true ∧ putD (rdD s) ((s.getD 6 0).toNat / 2 % 16) (decide ((128 : Int) ≤ ((s.getD 6 0).toNat : Int))) (((s.getD 6 0).toNat : Int) % 2 == 1) = s)) : getD7 s = (false, [], 0, false, false) := by
  unfold getD7
  rw [if_neg]
  rintro ⟨_, k2, k3⟩
  obtain ⟨f1, f2, f3, f4, f5⟩ := right_facts _ _ k2
  have e : rdD s = gotD s 6 := by
    have q := rd_put (gotD s 6) ((s.getD 6 0).toNat / 2 % 16) (decide ((128 : Int) ≤ ((s.getD 6 0).toNat : Int))) (((s.getD 6 0).toNat : Int) % 2 == 1) (gotD_len s 6) f5
    rw [k3] at q
    exact q
  rw [e] at h
  exact h ⟨k2, k3⟩
/-- seven bytes of which the first k are halved -/
def halfF (s : List UInt8) (k : Nat) (j : Nat) : Int := if j < k then ((s.getD j 0).toNat : Int) / 2 else ((s.getD j 0).toNat : Int)
theorem B7.conv6 {W : World} {m : Nat} {f : Nat → Int} (h : B7 W m f) : (convert 194 9 (.slice (some ⟨m, 0, none⟩) 6 7)).run Tryz.prog W = .ok (.string ⟨((List.range 6).map fun j => UInt8.ofNat (f j).toNat).toArray⟩) W := by
  rw [run_convert_bytes_arg _ 194 5 Tryz.underlying194 Tryz.underlying5 m 0 6 7 [f 0, f 1, f 2, f 3, f 4, f 5] rfl (fun i hi => by
    rw [Nat.zero_add, h.1 i (by omega)]
    obtain rfl | rfl | rfl | rfl | rfl | rfl : i = 0 ∨ i = 1 ∨ i = 2 ∨ i = 3 ∨ i = 4 ∨ i = 5 := by omega
    all_goals rfl) 9 Tryz.underlying9]
  rfl
theorem B7.cells {m : Nat} : ∀ (l : List UInt8) (o : Nat) {W : World} {f : Nat → Int}, B7 W m f → o + l.length ≤ 7 → B7 (W.setCells m o (l.map fun x => Value.int .u8 (x.toNat : Int))) m (fun j => if o ≤ j ∧ j < o + l.length then ((l.getD (j - o) 0).toNat : Int) else f j)
  | [], o, W, f, h, _ => by
    have e : (fun j => if o ≤ j ∧ j < o + ([] : List UInt8).length then ((([] : List UInt8).getD (j - o) 0).toNat : Int) else f j) = f := by
      funext j
      rw [if_neg (by simp only [List.length_nil]; omega)]
    rw [e]
    exact h
  | x :: l, o, W, f, h, hl => by
    have hlen : (x :: l).length = l.length + 1 := rfl
    have k := B7.cells l (o + 1) (h.set o (by omega) (x.toNat : Int)) (by omega)
    have e : (fun j => if o + 1 ≤ j ∧ j < o + 1 + l.length then ((l.getD (j - (o + 1)) 0).toNat : Int) else if j = o then (x.toNat : Int) else f j) = (fun j => if o ≤ j ∧ j < o + (x :: l).length then (((x :: l).getD (j - o) 0).toNat : Int) else f j) := by
      funext j
      by_cases h1 : j = o
      · subst h1
        rw [if_neg (by omega), if_pos rfl, if_pos (by omega), Nat.sub_self]
        rfl
      · by_cases h2 : o + 1 ≤ j ∧ j < o + 1 + l.length
        · rw [if_pos h2, if_pos (by omega)]
          have e2 : j - o = (j - (o + 1)) + 1 := by omega
          rw [e2]
          rfl
        · rw [if_neg h2, if_neg h1, if_neg (by omega)]
    rw [← e]
    exact k
/-- the answer's cells, and seven bytes behind them -/
def GAt (w W : World) (b : ByteArray) (n : Int) (f : Nat → Int) : Prop :=
  (W.cell? ⟨w.heap.size, 0, none⟩ = some (.string b) ∧ W.cell? ⟨w.heap.size, 1, none⟩ = some (.int .i64 n)) ∧ (∀ i, W.frozen? ⟨w.heap.size, i, none⟩ = false) ∧ B7 W (w.heap.size + 1) f ∧ Below w.heap.size w W
theorem GAt.start (w : World) : GAt w ((w.alloc (.cells #[.string ⟨#[]⟩, .int .i64 0] 54)).alloc (.cells #[.int .u8 0, .int .u8 0, .int .u8 0, .int .u8 0, .int .u8 0, .int .u8 0, .int .u8 0] 277)) ⟨#[]⟩ 0 (fun _ => 0) := by
  refine ⟨⟨(World.cell?_alloc_past _ _ _ (by simp)).trans (World.cell?_alloc_at _ _ _ _ rfl), (World.cell?_alloc_past _ _ _ (by simp)).trans (World.cell?_alloc_at _ _ _ _ rfl)⟩, fun i => (World.frozen?_alloc_past _ _ _ (by simp)).trans (World.frozen?_alloc_at _ _ _ _ rfl), ⟨fun j hj => ?_, fun j => World.frozen?_alloc_at _ _ _ _ (by simp)⟩, ((Below.refl _ w).alloc (Nat.le_refl _) _).alloc (by simp) _⟩
  refine (World.cell?_alloc_at _ _ _ _ (by simp)).trans ?_
  obtain rfl | rfl | rfl | rfl | rfl | rfl | rfl : j = 0 ∨ j = 1 ∨ j = 2 ∨ j = 3 ∨ j = 4 ∨ j = 5 ∨ j = 6 := by omega
  all_goals rfl
theorem GAt.set {w W : World} {b : ByteArray} {n : Int} {f g : Nat → Int} (h : GAt w W b n f) (i : Nat) (hi : i < 7) (v : Int) (hg : ∀ j, j < 7 → g j = if j = i then v else f j) : GAt w (W.setCell ⟨w.heap.size + 1, i, none⟩ (.int .u8 v)) b n g := by
  obtain ⟨⟨a0, a1⟩, hf, hB, hw⟩ := h
  refine ⟨⟨?_, ?_⟩, fun i => by rw [World.frozen?_setCell]; exact hf i, ?_, hw.setCell (p := ⟨w.heap.size + 1, i, none⟩) (by show w.heap.size ≤ w.heap.size + 1; omega) _⟩
  · rw [set_block _ _ _ _ _ _ (by omega)]; exact a0
  · rw [set_block _ _ _ _ _ _ (by omega)]; exact a1
  · have k := hB.set i hi v
    exact ⟨fun j hj => by rw [hg j hj]; exact k.1 j hj, k.2⟩
theorem setCells_off (m : Nat) (a : Addr) (ha : a.block ≠ m) : ∀ (vs : List Value) (o : Nat) (W : World), (W.setCells m o vs).cell? a = W.cell? a ∧ (W.setCells m o vs).frozen? a = W.frozen? a
  | [], _, _ => ⟨rfl, rfl⟩
  | v :: r, o, W => by
    obtain ⟨h1, h2⟩ := setCells_off m a ha r (o + 1) (W.setCell ⟨m, o, none⟩ v)
    refine ⟨h1.trans ?_, h2.trans (World.frozen?_setCell _ _ _ _)⟩
    obtain ⟨bl, off, sp⟩ := a
    exact World.cell?_setCell_other W ⟨m, o, none⟩ ⟨bl, off, sp⟩ v (fun he => ha (Addr.mk.inj he).1.symm)
theorem below_cells_in {B b : Nat} {a : World} (hb : B ≤ b) : ∀ (vs : List Value) (o : Nat) (w : World), Below B a w → Below B a (w.setCells b o vs)
  | [], _, _, h => h
  | v :: r, o, _, h => below_cells_in hb r (o + 1) _ (h.setCell (p := ⟨b, o, none⟩) hb v)
theorem GAt.copied {w W : World} {b : ByteArray} {n : Int} {f : Nat → Int} (h : GAt w W b n f) (s : ByteArray) (hs : s.size = 7) : GAt w (W.setCells (w.heap.size + 1) 0 (s.data.toList.map fun x => Value.int .u8 (x.toNat : Int))) b n (halfF s.data.toList 0) := by
  obtain ⟨⟨a0, a1⟩, hf, hB, hw⟩ := h
  have hl : s.data.toList.length = 7 := by simpa using hs
  have q := fun (i : Nat) => setCells_off (w.heap.size + 1) ⟨w.heap.size, i, none⟩ (by show w.heap.size ≠ w.heap.size + 1; omega) (s.data.toList.map fun x => Value.int .u8 (x.toNat : Int)) 0 W
  have kb := B7.cells s.data.toList 0 hB (by omega)
  refine ⟨⟨(q 0).1.trans a0, (q 1).1.trans a1⟩, fun i => (q i).2.trans (hf i), ⟨fun j hj => ?_, kb.2⟩, below_cells_in (by omega) _ _ _ hw⟩
  rw [kb.1 j hj]
  show some (Value.int .u8 (if 0 ≤ j ∧ j < 0 + s.data.toList.length then ((s.data.toList.getD (j - 0) 0).toNat : Int) else f j)) = _
  rw [if_pos (by omega)]
  unfold halfF
  rw [if_neg (by omega), Nat.sub_zero]
theorem halfF_next (s : List UInt8) (k : Nat) (j : Nat) : halfF s (k + 1) j = if j = k then ((s.getD k 0).toNat : Int) / 2 else halfF s k j := by
  unfold halfF
  by_cases e : j = k
  · subst e
    rw [if_pos (by omega), if_pos rfl]
  · rw [if_neg e]
    by_cases h : j < k
    · rw [if_pos h, if_pos (by omega)]
    · rw [if_neg h, if_neg (by omega)]
theorem and_facts : ∀ x : Fin 256, bits BinOp.and .i64 ((x.val : Int) / 2) 15 = (x.val : Int) / 2 % 16 ∧ bits BinOp.and .u8 (x.val : Int) 128 = (if 128 ≤ x.val then 128 else 0) ∧ bits BinOp.and .u8 (x.val : Int) 1 = (x.val : Int) % 2 := by decide +kernel
theorem half_six (s : ByteArray) (h : s.size = 7) : ((List.range 6).map fun j => UInt8.ofNat (halfF s.data.toList 6 j).toNat) = (s.data.toList.take 6).map fun x => x / 2 := by
  have hl : s.data.toList.length = 7 := by simpa using h
  apply List.ext_getElem (by simp [hl])
  intro j h1 h2
  have hj : j < 6 := by simpa using h1
  rw [List.getElem_map, List.getElem_map, List.getElem_range, List.getElem_take]
  unfold halfF
  rw [if_pos hj, List.getD_eq_getElem?_getD, List.getElem?_eq_getElem (by omega)]
  apply UInt8.toNat_inj.1
  rw [UInt8.toNat_ofNat', UInt8.toNat_div]
  have := (s.data.toList[j]'(by omega)).toNat_lt
  show ((((s.data.toList[j]'(by omega)).toNat : Int) / 2).toNat) % 256 = (s.data.toList[j]'(by omega)).toNat / 2
  omega
set_option maxHeartbeats 1000000 in
theorem cread_any (s : ByteArray) (w : World) (h : s.size = 7) :
    Calls Tryz.prog 225 #[.string s] w fun e w' => e = .returned (.tuple #[.agg #[.string ⟨(rdD s.data.toList).toArray⟩, .int .i64 (((s.data.toList.getD 6 0).toNat / 2 % 16 : Nat) : Int)], .bool (decide ((128 : Int) ≤ ((s.data.toList.getD 6 0).toNat : Int))), .bool (((s.data.toList.getD 6 0).toNat : Int) % 2 == 1)]) ∧ Below w.heap.size w w' := by
  obtain ⟨R, hR⟩ : ∃ R : ByteArray, R = ⟨(rdD s.data.toList).toArray⟩ := ⟨_, rfl⟩
  obtain ⟨x, hx⟩ : ∃ x, x = s.data.toList.getD 6 0 := ⟨_, rfl⟩
  rw [← hR, ← hx]
  have HR := Lib.hid hR
  have HX := Lib.hid hx
  have hlim := x.toNat_lt
  obtain ⟨e1, e2, e3⟩ := and_facts ⟨x.toNat, x.toNat_lt⟩
  simp only at e1 e2 e3
  obtain ⟨N, hN⟩ : ∃ N : Int, N = ((x.toNat / 2 % 16 : Nat) : Int) := ⟨_, rfl⟩
  obtain ⟨M, hM⟩ : ∃ M : Bool, M = decide ((128 : Int) ≤ (x.toNat : Int)) := ⟨_, rfl⟩
  obtain ⟨L, hL⟩ : ∃ L : Bool, L = ((x.toNat : Int) % 2 == 1) := ⟨_, rfl⟩
  rw [← hN, ← hM, ← hL]
  rw [show (x.toNat : Int) / 2 % 16 = N by rw [hN]; omega] at e1
  have b2 : (bits BinOp.and .u8 (x.toNat : Int) 128 != 0) = M := by
    rw [e2, hM]
    by_cases q : 128 ≤ x.toNat
    · rw [if_pos q, decide_eq_true (by omega)]; rfl
    · rw [if_neg q, decide_eq_false (by omega)]; rfl
  have b3 : (bits BinOp.and .u8 (x.toNat : Int) 1 != 0) = L := by
    rw [e3, hL]
    by_cases q : (x.toNat : Int) % 2 = 1
    · rw [q]; rfl
    · have q0 : (x.toNat : Int) % 2 = 0 := by omega
      rw [q0]; rfl
  clear hR hx hN hM hL e2 e3
  have HG0 := Lib.hid (GAt.start w)
  have HG := Lib.hid ((GAt.start w).copied s h)
  have hcp := run_copy_string (P := Tryz.prog) ((w.alloc (.cells #[.string ⟨#[]⟩, .int .i64 0] 54)).alloc (.cells #[.int .u8 0, .int .u8 0, .int .u8 0, .int .u8 0, .int .u8 0, .int .u8 0, .int .u8 0] 277)) 194 9 3 5 (w.heap.size + 1) 0 7 7 s Tryz.underlying194 (fun w => by kernel_rfl) (by omega) (fun j hj => by rw [Nat.zero_add, HG0.out.2.2.1.1 j (by omega)]; rfl) (fun j hj => by rw [Nat.zero_add]; exact HG0.out.2.2.1.2 j)
  generalize ((w.alloc (.cells #[.string ⟨#[]⟩, .int .i64 0] 54)).alloc (.cells #[.int .u8 0, .int .u8 0, .int .u8 0, .int .u8 0, .int .u8 0, .int .u8 0, .int .u8 0] 277)).setCells (w.heap.size + 1) 0 (s.data.toList.map fun x => Value.int .u8 (x.toNat : Int)) = W1 at hcp HG
  clear HG0
  go_enter Tryz.func225, Tryz.ntmps225
  go_wp2
  go_loopw [10] (fun i wx => ∃ k : Nat, k ≤ 6 ∧ i = .int .i64 k ∧ Hid (GAt w wx ⟨#[]⟩ 0 (halfF s.data.toList k))) (fun i _ => 6 - (intOf i).toNat)
  case atStart => exact ⟨0, by omega, rfl, HG.out⟩
  case round =>
    obtain ⟨k, hk, rfl, HK⟩ := hrel
    clear HG
    obtain ⟨⟨a0, a1⟩, hf, hB, hbw⟩ := HK.out
    by_cases hlt : k < 6
    · have dk : decide ((k : Int) < 6) = true := decide_eq_true (by omega)
      have hkc : wr.cell? ⟨w.heap.size + 1, k, none⟩ = some (.int .u8 ((s.data.toList.getD k 0).toNat : Int)) := by
        rw [hB.1 k (by omega)]
        unfold halfF
        rw [if_neg (by omega)]
      have hkf := hB.2 k
      have hlim := (s.data.toList.getD k 0).toNat_lt
      have HN := Lib.hid (HK.out.set (g := halfF s.data.toList (k + 1)) k (by omega) (((s.data.toList.getD k 0).toNat : Int) / 2) (fun j _ => halfF_next _ _ _))
      clear hB HK hbw hf
      generalize s.data.toList.getD k 0 = x at *
      go_wp2
      go_roundw
      case rel => exact ⟨k + 1, by omega, by go_num, HN.out⟩
      case measure => simp [intOf]; omega
    · obtain rfl : k = 6 := by omega
      have hT : ((List.range 6).map fun j => UInt8.ofNat (halfF s.data.toList 6 j).toNat) = (s.data.toList.take 6).map fun x => x / 2 := half_six s h
      have hcv := hB.conv6
      rw [hT] at hcv
      have hc6 : wr.cell? ⟨w.heap.size + 1, 6, none⟩ = some (.int .u8 ((s.data.toList.getD 6 0).toNat : Int)) := by
        rw [hB.1 6 (by omega)]
        unfold halfF
        rw [if_neg (by omega)]
      obtain ⟨T, hT2⟩ : ∃ T : ByteArray, T = ⟨((s.data.toList.take 6).map fun x => x / 2).toArray⟩ := ⟨_, rfl⟩
      have HT := Lib.hid (fun W => show Calls Tryz.prog 236 #[.string T, .string ⟨#[32]⟩] W (fun e w' => e = .returned (.string R) ∧ w' = W) from by
        rw [HR.out]
        have k := Tryz.strings_TrimRight_one T 32 (by decide) W (by rw [hT2]; show (List.toArray _).size ≤ _; rw [List.size_toArray, List.length_map]; have := List.length_take_le 6 s.data.toList; omega)
        rw [show T.data.toList = (s.data.toList.take 6).map fun x => x / 2 from by rw [hT2]] at k
        exact k)
      rw [← hT2] at hcv
      clear hT hT2 HR
      have hf0 := hf 0
      have hf1 := hf 1
      have HW := Lib.hid hbw
      rw [← HX.out] at hc6
      clear HX HK hbw hf hB
      go_wp2_with (go_at_call 236; (with_reducible refine (HT.out _).mono ?_); rintro e w1 ⟨rfl, rfl⟩)
      obtain ⟨q0, q1⟩ := stored2 (.string R) (.int .i64 N) a0 a1
      have q6 : ((w1.setCell ⟨w.heap.size, 0, none⟩ (.string R)).setCell ⟨w.heap.size, 1, none⟩ (.int .i64 N)).cell? ⟨w.heap.size + 1, 6, none⟩ = some (.int .u8 (x.toNat : Int)) := by
        rw [set_block _ _ _ _ _ _ (by omega), set_block _ _ _ _ _ _ (by omega)]
        exact hc6
      have p0 : ((w1.setCell ⟨w.heap.size, 0, none⟩ (.string R)).setCell ⟨w.heap.size, 1, none⟩ (.int .i64 N)).frozen? ⟨w.heap.size, 0, none⟩ = false := by rw [World.frozen?_setCell, World.frozen?_setCell]; exact hf0
      have p1 : ((w1.setCell ⟨w.heap.size, 0, none⟩ (.string R)).setCell ⟨w.heap.size, 1, none⟩ (.int .i64 N)).frozen? ⟨w.heap.size, 1, none⟩ = false := by rw [World.frozen?_setCell, World.frozen?_setCell]; exact hf1
      have HB9 := Lib.hid (set2_below HW.out (Nat.le_refl _) (.string R) (.int .i64 N))
      clear a0 a1 hc6 hf0 hf1 hcv HW HT
      generalize (w1.setCell ⟨w.heap.size, 0, none⟩ (.string R)).setCell ⟨w.heap.size, 1, none⟩ (.int .i64 N) = W9 at *
      go_region
      go_wp2
      obtain ⟨z0, z1⟩ := stored2 (W := W9) (.string R) (.int .i64 N) q0 q1
      exact bodyPost_ret (v := .tuple #[.agg #[.string R, .int .i64 N], .bool M, .bool L]) (by simp [results, Tryz.results225, go_sem, z0, z1]) rfl ⟨rfl, (set2_below HB9.out (Nat.le_refl _) _ _).drew⟩
end Go.Proofs.YtgoaepjjegblnaaGreatDoor
