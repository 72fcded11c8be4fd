/-
The landed code's gatherer: New, Reset, Open, Take.
-/
import Derived.Test.YtchjljmcgjlkiaaSegCAfter
namespace Go.Proofs.Ytchjljmcgjlkiaa
open Go.RowKit
set_option maxRecDepth 20000
/-- a gatherer's three cells -/
def csV (s : Gs) : List Value := [.int .i64 s.left, .int .i64 s.pid, .string s.text]
structure GOk (s : Gs) : Prop where
  off : s.on = false → s = zeroG
  on : s.on = true → 1 ≤ s.left ∧ s.left ≤ 127
  text : s.text.size ≤ 600
theorem GOk.zero : GOk zeroG := ⟨fun _ => rfl, fun h => by simp [zeroG] at h, Nat.zero_le _⟩
theorem GOk.left {s : Gs} (h : GOk s) : 0 ≤ s.left ∧ s.left ≤ 128 := by
  cases ho : s.on with
  | false => rw [h.off ho]; exact ⟨by decide, by decide⟩
  | true => have := h.on ho; omega
theorem goOn_ok (s : Gs) (k : Int) (t : List UInt8) (hk : 0 ≤ k) (hk2 : k ≤ 127) : GOk (goOn s k t).1 := by
  unfold goOn
  split
  · exact GOk.zero
  · rename_i h1
    split
    · exact GOk.zero
    · rename_i h2
      split
      · rename_i h3
        refine ⟨fun h => ?_, fun _ => ?_, ?_⟩
        · simp only at h
          rw [h] at h1
          simp at h1
        · show 1 ≤ k ∧ k ≤ 127
          omega
        · show (s.text ++ ⟨t.toArray⟩ : ByteArray).size ≤ 600
          have e : (⟨t.toArray⟩ : ByteArray).size = t.length := by show t.toArray.size = _; simp
          rw [ByteArray.size_append, e]
          omega
      · exact GOk.zero
theorem take_ok (s : Gs) (p : Pc) (h : GOk s) : GOk (takeD s p).1 := by
  unfold takeD
  split
  · exact h
  · split
    · split
      · exact GOk.zero
      · exact h
    · split
      · exact GOk.zero
      · rename_i x l _
        have := int8_low x
        split
        · split
          · exact GOk.zero
          · exact goOn_ok _ _ _ (by omega) (by omega)
        · exact goOn_ok _ _ _ (by omega) (by omega)
/-- what gather makes of what after answers -/
def gatherD (r : (Int × Int × ByteArray) × Int) : Gs × Pc × Bool × Int :=
  if r.2 ≠ 0 then (zeroG, zeroP, false, r.2) else if 0 < r.1.1 then (⟨true, r.1.2.1, r.1.1, r.1.2.2⟩, zeroP, false, 0) else (zeroG, ⟨r.1.2.1, r.1.2.2⟩, true, 0)
theorem gather_doc (s : Gs) (I : ByteArray) (h : GOk s) : takeD s ⟨8, I⟩ = gatherD (afterD s.left s.pid s.text I.data.toList) := by
  unfold takeD
  rw [if_neg (show ¬ ((8 : Int) < 0 ∨ 255 < (8 : Int)) by decide), if_neg (show ¬ ((8 : Int) ≠ 8) by decide)]
  simp only
  cases I.data.toList with
  | nil => rfl
  | cons x l =>
    have hx0 := int8_low x
    simp only
    by_cases hx : 128 ≤ int8 x
    · rw [if_pos hx]
      cases l with
      | nil => unfold afterD; simp only; rw [if_pos hx]; rfl
      | cons y c =>
        unfold afterD goOn
        simp only
        rw [if_pos hx, if_neg (by simp)]
        have e0 : (⟨#[]⟩ : ByteArray) ++ ⟨c.toArray⟩ = ⟨c.toArray⟩ := bytes_ext' (by simp)
        by_cases hl : 600 < c.length
        · rw [if_pos hl, if_pos (show 600 < (((⟨#[]⟩ : ByteArray).size : Nat) : Int) + c.length by show 600 < ((0 : Nat) : Int) + c.length; omega)]
          rfl
        · rw [if_neg hl, if_neg (show ¬ 600 < (((⟨#[]⟩ : ByteArray).size : Nat) : Int) + c.length by show ¬ 600 < ((0 : Nat) : Int) + c.length; omega), e0]
          unfold gatherD
          rw [if_neg (show ¬ ((0 : Int) ≠ 0) from fun h => h rfl)]
    · rw [if_neg hx]
      unfold afterD goOn
      simp only
      rw [if_neg hx]
      cases ho : s.on with
      | false =>
        have e := h.off ho
        rw [if_pos (by simp), if_pos (by rw [e]; show int8 x ≠ 0 - 1; omega)]
        rfl
      | true =>
        by_cases hl : int8 x + 1 = s.left
        · rw [if_neg (by simp [hl]), if_neg (show ¬ int8 x ≠ s.left - 1 by omega)]
          by_cases hz : 600 < s.text.size + l.length
          · rw [if_pos hz, if_pos (by omega)]
            rfl
          · rw [if_neg hz, if_neg (by omega)]
            unfold gatherD
            rw [if_neg (show ¬ ((0 : Int) ≠ 0) from fun h => h rfl), ← ho]
        · rw [if_pos (by simp [hl]), if_pos (by omega)]
          rfl
theorem cpid_any (n : Int) (w : World) : Calls Try.prog 27 #[.int .i64 n] w fun e w' => e = .returned (.bool (decide (0 ≤ n) && decide (n ≤ 255))) ∧ w' = w := by
  by_cases h0 : 0 ≤ n
  · by_cases h1 : n ≤ 255
    · go_enter Try.func27, Try.ntmps27
      go_wp2
      go_ret
      exact ⟨by simp [h0, h1], rfl⟩
    · go_enter Try.func27, Try.ntmps27
      go_wp2
      go_ret
      exact ⟨by simp [h1], rfl⟩
  · go_enter Try.func27, Try.ntmps27
    go_wp2
    go_ret
    exact ⟨by simp; omega, rfl⟩
theorem cnew_any (w : World) : Calls Try.prog 19 #[] w fun e w' => e = .returned (.pointer (some ⟨w.heap.size, 0, none⟩)) ∧ w' = w.alloc (.cells #[.int .i64 0, .int .i64 0, .string ⟨#[]⟩] 67) := by
  go_enter Try.func19, Try.ntmps19
  go_wp2
  go_ret
  exact ⟨rfl, rfl⟩
theorem creset_any (m : Nat) (s : Gs) (w : World) (h : RowAt w m (csV s)) : Calls Try.prog 29 #[.pointer (some ⟨m, 0, none⟩)] w fun e w' => e = .returned (.tuple #[]) ∧ RowAt w' m (csV zeroG) ∧ Turn (fun k => k = m) w w' := by
  have c0 := h.cell 0 rfl
  have c1 := h.cell 1 rfl
  have c2 := h.cell 2 rfl
  have f0 := (h.get 0 rfl).free
  have f1 := (h.get 1 rfl).free
  have f2 := (h.get 2 rfl).free
  have HR := Lib.hid (show RowAt _ m (csV zeroG) from (((h.put 0 (.int .i64 0) _ rfl).put 1 (.int .i64 0) _ rfl).put 2 (.string ⟨#[]⟩) _ rfl))
  have HT := Lib.hid ((((Turn.refl (fun k => k = m) w).set (p := ⟨m, 0, none⟩) (Or.inl rfl) (.int .i64 0)).set (p := ⟨m, 1, none⟩) (Or.inl rfl) (.int .i64 0)).set (p := ⟨m, 2, none⟩) (Or.inl rfl) (.string ⟨#[]⟩))
  clear h
  go_enter Try.func29, Try.ntmps29
  go_wp2
  go_end0
  exact ⟨rfl, HR.out, HT.out⟩
theorem calone_any (p : Pc) (w : World) (hz : p.info.size ≤ 2000) : Calls Try.prog 30 #[.int .i64 p.pid, .string p.info] w fun e w' => e = .returned (pcV p) ∧ Below w.heap.size w w' := by
  obtain ⟨P, I⟩ := p
  have HCL := Lib.hid (fun W => clone_any I W (by simp only at hz; omega))
  have HR := Lib.hid (RowAt.new w w.heap.size rfl [.int .i64 0, .string ⟨#[]⟩] 36)
  have HB := Lib.hid ((Below.refl _ w).alloc (Nat.le_refl _) (.cells #[.int .i64 0, .string ⟨#[]⟩] 36))
  unfold pcV
  go_enter Try.func30, Try.ntmps30
  go_upto_region 1 with (fail)
  generalize w.alloc (.cells #[.int .i64 0, .string ⟨#[]⟩] 36) = w1 at *
  go_wp2_with (go_at_call 39; (with_reducible refine (HCL.out _).mono ?_); rintro e w2 ⟨rfl, hb⟩; have HR2 := Lib.hid (HR.out.below hb); have HB2 := Lib.hid (HB.out.trans (hb.mono HB.out.size)); clear hb HR HB; have r0 := HR2.out.cell 0 rfl; have rf0 := (HR2.out.get 0 rfl).free; have r1 := HR2.out.cell 1 rfl; have rf1 := (HR2.out.get 1 rfl).free)
  clear r0 r1 rf0 rf1
  have HR3 := Lib.hid ((HR2.out.put 0 (.int .i64 P) [.int .i64 P, .string ⟨#[]⟩] rfl).put 1 (.string I) [.int .i64 P, .string I] rfl)
  have HB3 := Lib.hid ((HB2.out.setCell (p := ⟨w.heap.size, 0, none⟩) (Nat.le_refl _) (.int .i64 P)).setCell (p := ⟨w.heap.size, 1, none⟩) (Nat.le_refl _) (.string I))
  have s0 := HR3.out.cell 0 rfl
  have s1 := HR3.out.cell 1 rfl
  exact bodyPost_ret (v := .agg #[.int .i64 P, .string I]) (by simp [results, Try.results30, go_sem, s0, s1]) rfl ⟨rfl, HB3.out⟩
end Go.Proofs.Ytchjljmcgjlkiaa
