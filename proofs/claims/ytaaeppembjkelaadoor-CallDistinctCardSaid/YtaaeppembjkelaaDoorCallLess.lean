/-
The document's own Less of calls.
-/
import Derived.Test.YtaaeppembjkelaaDoorCallText
import Derived.BigQuiet
import Derived.Deep.QuietTactic
namespace Go.Proofs.YtaaeppembjkelaaDoor
open Go.RowKit Go.Sort
/-- which one stands ahead, by their letters; none: they are the same -/
def ltD : List UInt8 → List UInt8 → Option Bool
  | [], [] => none
  | [], _ :: _ => some true
  | _ :: _, [] => some false
  | x :: l, y :: r => if x = y then ltD l r else some (decide (x.toNat < y.toNat))
def lessD (a : List UInt8) (n : Int) (b : List UInt8) (m : Int) : Bool := (ltD a b).getD (decide (n < m))
theorem ltD_same (p a b : List UInt8) : ltD (p ++ a) (p ++ b) = ltD a b := by
  induction p with
  | nil => rfl
  | cons c p ih => simp [ltD, ih]
theorem ltD_drop (a b : List UInt8) (k : Nat) (h : a.take k = b.take k) : ltD a b = ltD (a.drop k) (b.drop k) := by
  have e := ltD_same (a.take k) (a.drop k) (b.drop k)
  rw [List.take_append_drop] at e
  rw [← e, h, List.take_append_drop]
theorem ltD_at (a b : ByteArray) (k : Nat) (ha : k < a.size) (hb : k < b.size) (h : a.data.toList.take k = b.data.toList.take k) (hne : a[k] ≠ b[k]) : ltD a.data.toList b.data.toList = some (decide (a[k].toNat < b[k].toNat)) := by
  have la : k < a.data.toList.length := by simpa using ha
  have lb : k < b.data.toList.length := by simpa using hb
  rw [ltD_drop _ _ k h, List.drop_eq_getElem_cons la, List.drop_eq_getElem_cons lb, list_at a k ha, list_at b k hb]
  simp [ltD, hne]
theorem ltD_end (a b : ByteArray) (k : Nat) (h : a.data.toList.take k = b.data.toList.take k) (hk : k ≤ a.size ∧ k ≤ b.size) (he : k = a.size ∨ k = b.size) : ltD a.data.toList b.data.toList = if a.size = b.size then none else some (decide (a.size < b.size)) := by
  rw [ltD_drop _ _ k h]
  by_cases h1 : k = a.size
  · rw [List.drop_of_length_le (by simp; omega)]
    by_cases h2 : a.size = b.size
    · rw [List.drop_of_length_le (by simp; omega), if_pos h2]; rfl
    · have lb : k < b.data.toList.length := by simp; omega
      rw [List.drop_eq_getElem_cons lb, if_neg h2, decide_eq_true (by omega)]; rfl
  · have h2 : k = b.size := by omega
    have la : k < a.data.toList.length := by simp; omega
    have hz : b.data.toList.drop k = [] := List.drop_of_length_le (by simp; omega)
    rw [List.drop_eq_getElem_cons la, hz, if_neg (by omega), decide_eq_false (by omega)]; rfl
theorem take_both (a b : ByteArray) (k : Nat) (ha : k < a.size) (hb : k < b.size) (h : a.data.toList.take k = b.data.toList.take k) (he : a[k] = b[k]) : a.data.toList.take (k + 1) = b.data.toList.take (k + 1) := by
  have la : k < a.data.toList.length := by simpa using ha
  have lb : k < b.data.toList.length := by simpa using hb
  rw [List.take_succ_eq_append_getElem la, List.take_succ_eq_append_getElem lb, h, list_at a k ha, list_at b k hb, he]
/-- two calls' cells -/
def LAt (w W : World) (a : ByteArray) (n : Int) (b : ByteArray) (m : Int) : Prop := (W.cell? ⟨w.heap.size, 0, none⟩ = some (.string a) ∧ W.cell? ⟨w.heap.size, 1, none⟩ = some (.int .i64 n)) ∧
  (W.cell? ⟨w.heap.size + 1, 0, none⟩ = some (.string b) ∧ W.cell? ⟨w.heap.size + 1, 1, none⟩ = some (.int .i64 m)) ∧ Below w.heap.size w W
theorem LAt.start (w : World) (a : ByteArray) (n : Int) (b : ByteArray) (m : Int) : LAt w ((w.alloc (.cells #[.string a, .int .i64 n] 23)).alloc (.cells #[.string b, .int .i64 m] 23)) a n b m :=
  ⟨⟨(World.cell?_alloc_past _ _ _ (by simp)).trans (World.cell?_alloc_at _ _ _ _ rfl), (World.cell?_alloc_past _ _ _ (by simp)).trans (World.cell?_alloc_at _ _ _ _ rfl)⟩, ⟨World.cell?_alloc_at _ _ _ _ (by simp), World.cell?_alloc_at _ _ _ _ (by simp)⟩, ((Below.refl _ w).alloc (Nat.le_refl _) _).alloc (by simp) _⟩
theorem LAt.drewN {w W : World} {a b : ByteArray} {n m : Int} (h : LAt w W a n b m) (k : Nat) : LAt w (W.drewN k) a n b m :=
  ⟨h.1, h.2.1, ⟨h.2.2.os, h.2.2.tape, h.2.2.output, h.2.2.size, h.2.2.block⟩⟩
set_option maxHeartbeats 1000000 in
theorem rless_any (a b : ByteArray) (n m : Int) (w : World) (ha : a.size ≤ 1000) (hb : b.size ≤ 1000) :
    Calls Tryd.prog 19 #[.agg #[.string a, .int .i64 n], .agg #[.string b, .int .i64 m]] w fun e w' => e = .returned (.bool (lessD a.data.toList n b.data.toList m)) ∧ Below w.heap.size w w' := by
  have HL := Lib.hid (LAt.start w a n b m)
  obtain ⟨R, hR⟩ : ∃ R, R = lessD a.data.toList n b.data.toList m := ⟨_, rfl⟩
  rw [← hR]
  have HR := Lib.hid hR
  clear hR
  go_enter Tryd.func19, Tryd.ntmps19
  go_wp2
  go_loopw [5] (fun i wx => ∃ k : Nat, k ≤ a.size ∧ k ≤ b.size ∧ i = .int .i64 k ∧ Hid (a.data.toList.take k = b.data.toList.take k ∧ LAt w wx a n b m)) (fun i _ => a.size - (intOf i).toNat)
  case atStart => exact ⟨0, by omega, by omega, rfl, by simp, HL.out⟩
  case round =>
    obtain ⟨k, hk, hk2, rfl, HT⟩ := hrel
    clear HL
    obtain ⟨_, ⟨a0, a1⟩, ⟨b0, b1⟩, hbw⟩ := HT.out
    by_cases hlt : k < a.size ∧ k < b.size
    · obtain ⟨hla, hlb⟩ := hlt
      by_cases he : a[k] = b[k]
      · have hee : ((a[k].toNat : Int) != (b[k].toNat : Int)) = false := by rw [he]; simp
        have HN := Lib.hid (take_both a b k hla hlb HT.out.1 he)
        have HLT := Lib.hid HT.out.2
        clear he HT
        go_wp2
        go_quiet (fail)
        go_wp2
        go_roundw
        case rel => exact ⟨k + 1, by omega, by omega, by go_num, HN.out, HLT.out.drewN _⟩
        case measure => simp [intOf]; omega
      · have hee : ((a[k].toNat : Int) != (b[k].toNat : Int)) = true := by
          rw [bne_iff_ne]; intro e; exact he (UInt8.toNat_inj.1 (by omega))
        have hfin : R = decide (a[k].toNat < b[k].toNat) := by
          rw [HR.out]
          unfold lessD
          rw [ltD_at a b k hla hlb HT.out.1 he]
          rfl
        have HF := Lib.hid hfin
        have HLT := Lib.hid HT.out.2
        clear he HT hfin
        go_wp2
        go_quiet (fail)
        go_wp2
        go_quiet (fail)
        go_wp2
        go_ret
        exact ⟨by rw [HF.out]; rfl, ((HLT.out.drewN _).drewN _).2.2⟩
    · have hend := ltD_end a b k HT.out.1 ⟨hk, hk2⟩ (by omega)
      have HLT := Lib.hid HT.out.2
      by_cases hab : a.size = b.size
      · rw [if_pos hab] at hend
        have hfin : R = decide (n < m) := by rw [HR.out]; unfold lessD; rw [hend]; rfl
        have HF := Lib.hid hfin
        have hne : ((a.size : Int) != (b.size : Int)) = false := by rw [hab]; simp
        obtain rfl : k = a.size := by omega
        clear HT hend hfin hlt
        go_wp2
        go_ret
        exact ⟨by rw [HF.out]; rfl, hbw⟩
      · rw [if_neg hab] at hend
        have hfin : R = decide (a.size < b.size) := by rw [HR.out]; unfold lessD; rw [hend]; rfl
        have HF := Lib.hid hfin
        have hne : ((a.size : Int) != (b.size : Int)) = true := by rw [bne_iff_ne]; omega
        clear HT hend hfin
        by_cases hka : k < a.size
        · obtain rfl : k = b.size := by omega
          clear hlt
          go_wp2
          go_ret
          exact ⟨by rw [HF.out]; simp, hbw⟩
        · obtain rfl : k = a.size := by omega
          clear hlt hka
          go_wp2
          go_ret
          exact ⟨by rw [HF.out]; simp, hbw⟩
end Go.Proofs.YtaaeppembjkelaaDoor
