/-
Walk of the statement KissEnds.
-/
import Derived.Test.YtcnljojbkjfebaaKissAwake
namespace Go.Proofs.Ytcnljojbkjfebaa
open Go.RowKit
/-- between the ends: no FEND, and FESC stands ahead of TFEND and TFESC alone -/
def Tame (l : List UInt8) : Prop := ∀ i (h : i < l.length), l[i] ≠ 192 ∧ (l[i] = 219 → ∃ h2 : i + 1 < l.length, l[i + 1] = 220 ∨ l[i + 1] = 221)
theorem esc_tame (c : UInt8) : Tame (esc c) := by
  unfold esc
  split
  · intro i h
    match i, h with
    | 0, _ => exact ⟨(by decide : (219 : UInt8) ≠ 192), fun _ => ⟨by simp, Or.inl rfl⟩⟩
    | 1, _ => exact ⟨(by decide : (220 : UInt8) ≠ 192), fun h => absurd h (by decide : (220 : UInt8) ≠ 219)⟩
  · split
    · intro i h
      match i, h with
      | 0, _ => exact ⟨(by decide : (219 : UInt8) ≠ 192), fun _ => ⟨by simp, Or.inr rfl⟩⟩
      | 1, _ => exact ⟨(by decide : (221 : UInt8) ≠ 192), fun h => absurd h (by decide : (221 : UInt8) ≠ 219)⟩
    · rename_i h1 h2
      intro i h
      match i, h with
      | 0, _ => exact ⟨h1, fun h => absurd h h2⟩
theorem tame_append (a b : List UInt8) (ha : Tame a) (hb : Tame b) : Tame (a ++ b) := by
  intro i h
  by_cases hi : i < a.length
  · rw [List.getElem_append_left hi]
    refine ⟨(ha i hi).1, fun e => ?_⟩
    obtain ⟨h2, h3⟩ := (ha i hi).2 e
    refine ⟨by rw [List.length_append]; omega, ?_⟩
    rw [List.getElem_append_left h2]
    exact h3
  · have hi2 : i - a.length < b.length := by rw [List.length_append] at h; omega
    rw [List.getElem_append_right (by omega)]
    refine ⟨(hb _ hi2).1, fun e => ?_⟩
    obtain ⟨h2, h3⟩ := (hb _ hi2).2 e
    refine ⟨by rw [List.length_append]; omega, ?_⟩
    rw [List.getElem_append_right (by omega)]
    have e3 : i + 1 - a.length = i - a.length + 1 := by omega
    simp only [e3]
    exact h3
theorem escs_tame (T : List UInt8) : Tame (escs T) := by
  induction T with
  | nil => intro i h; simp [escs] at h
  | cons c T ih => simp only [escs, List.flatMap_cons] at ih ⊢; exact tame_append _ _ (esc_tame c) ih
theorem escs_pos (c : UInt8) (T : List UInt8) : 1 ≤ (escs (c :: T)).length := by
  have := (esc_len c).1
  simp only [escs, List.flatMap_cons, List.length_append]
  omega
/-- what the statement asks of the bytes -/
theorem frame_ends (P C : Nat) (s : ByteArray) (T : ByteArray) (hT : T = ⟨(frameBytes P C s).toArray⟩) : ∃ n, T.size = n + 1 ∧ 2 ≤ n ∧ n ≤ 2 * s.size + 3 ∧ (∃ h : 0 < T.size, T[0] = 192) ∧ (∃ h : n < T.size, T[n] = 192) ∧
    ∀ i, 1 ≤ i → (h : i < n) → ∃ (h1 : i < T.size) (h2 : i + 1 < T.size), T[i] ≠ 192 ∧ (T[i] = 219 → T[i + 1] = 220 ∨ T[i + 1] = 221) := by
  subst hT
  have hL : frameBytes P C s = 192 :: (escs (inner P C s).data.toList ++ [192]) := rfl
  have hil := inner_list P C s
  have h1 := escs_pos (UInt8.ofNat (16 * P + C)) s.data.toList
  rw [← hil] at h1
  have h2 := escs_len (inner P C s).data.toList
  have h3 : (inner P C s).data.toList.length = s.size + 1 := by rw [hil]; simp
  have ht := escs_tame (inner P C s).data.toList
  generalize escs (inner P C s).data.toList = E at *
  have hsz : (⟨(frameBytes P C s).toArray⟩ : ByteArray).size = E.length + 2 := by
    show (frameBytes P C s).toArray.size = _
    rw [hL]; simp
  have hget : ∀ i (h : i < (⟨(frameBytes P C s).toArray⟩ : ByteArray).size), (⟨(frameBytes P C s).toArray⟩ : ByteArray)[i] = (192 :: (E ++ [192]))[i]'(by rw [hsz] at h; simp; omega) := by
    intro i h
    show (frameBytes P C s).toArray[i] = _
    simp [hL]
  refine ⟨E.length + 1, by rw [hsz], by omega, by omega, ⟨by rw [hsz]; omega, by rw [hget]; rfl⟩, ⟨by rw [hsz]; omega, by rw [hget]; simp⟩, fun i hi hn => ?_⟩
  obtain ⟨j, rfl⟩ : ∃ j, i = j + 1 := ⟨i - 1, by omega⟩
  have hj : j < E.length := by omega
  refine ⟨by rw [hsz]; omega, by rw [hsz]; omega, ?_, ?_⟩
  · rw [hget, List.getElem_cons_succ, List.getElem_append_left hj]; exact (ht j hj).1
  · rw [hget, hget, List.getElem_cons_succ, List.getElem_cons_succ, List.getElem_append_left hj]
    intro e
    obtain ⟨h5, h6⟩ := (ht j hj).2 e
    rw [List.getElem_append_left h5]
    exact h6
set_option maxHeartbeats 400000 in
theorem ends_long (p c : Int) (s : ByteArray) (w : World) (hs : 3000 < s.size) (hs2 : s.size ≤ 9223372036854775807) :
    Calls Try.prog 7 #[.agg #[.int .i64 p, .int .i64 c, .string s]] w fun e w' => e = .returned (.bool true) ∧ Below w.heap.size w w' := by
  have bx := fun i => World.cell?_alloc_new w #[Value.int .i64 p, .int .i64 c, .string s] 23 i
  have b0 := bx 0
  have b1 := bx 1
  have b2 := bx 2
  simp only [List.getElem?_toArray, List.getElem?_cons_zero, List.getElem?_cons_succ] at b0 b1 b2
  have HX0 := Lib.hid b0
  have HX1 := Lib.hid b1
  have HX2 := Lib.hid b2
  clear bx b0 b1 b2
  go_enter Try.func7, Try.ntmps7
  go_wp2_with (first
    | (go_at_call 8; refine (awake_any _).mono ?_; rintro e w1 ⟨rfl, hb1⟩; have HB1 := Lib.hid hb1; clear hb1; have k0 := (HB1.out.cell (p := ⟨w.heap.size, 0, none⟩) (by simp)).trans HX0.out; have k1 := (HB1.out.cell (p := ⟨w.heap.size, 1, none⟩) (by simp)).trans HX1.out; have k2 := (HB1.out.cell (p := ⟨w.heap.size, 2, none⟩) (by simp)).trans HX2.out))
  go_ret
  exact ⟨rfl, ((Below.refl _ w).alloc (Nat.le_refl _) _).trans (HB1.out.mono (by simp))⟩
set_option maxHeartbeats 400000 in
theorem ends_no (p c : Int) (s : ByteArray) (w : World) (h : p < 0 ∨ 15 < p ∨ c < 0 ∨ 15 < c) (hs : s.size ≤ 3000) :
    Calls Try.prog 7 #[.agg #[.int .i64 p, .int .i64 c, .string s]] w fun e w' => e = .returned (.bool true) ∧ Below w.heap.size w w' := by
  have bx := fun i => World.cell?_alloc_new w #[Value.int .i64 p, .int .i64 c, .string s] 23 i
  have b0 := bx 0
  have b1 := bx 1
  have b2 := bx 2
  simp only [List.getElem?_toArray, List.getElem?_cons_zero, List.getElem?_cons_succ] at b0 b1 b2
  have HX0 := Lib.hid b0
  have HX1 := Lib.hid b1
  have HX2 := Lib.hid b2
  clear bx b0 b1 b2
  have HE := Lib.hid (fun W => enc_no p c s W h)
  clear h
  go_enter Try.func7, Try.ntmps7
  go_wp2_with (first
    | (go_at_call 8; refine (awake_any _).mono ?_; rintro e w1 ⟨rfl, hb1⟩; have HB1 := Lib.hid hb1; clear hb1; have k0 := (HB1.out.cell (p := ⟨w.heap.size, 0, none⟩) (by simp)).trans HX0.out; have k1 := (HB1.out.cell (p := ⟨w.heap.size, 1, none⟩) (by simp)).trans HX1.out; have k2 := (HB1.out.cell (p := ⟨w.heap.size, 2, none⟩) (by simp)).trans HX2.out)
    | (go_at_call 9; refine (HE.out _).mono ?_; rintro e w2 ⟨rfl, hb2⟩; have HB2 := Lib.hid (HB1.out.trans (hb2.mono HB1.out.size)); clear hb2 k0 k1 k2))
  go_ret
  exact ⟨rfl, ((Below.refl _ w).alloc (Nat.le_refl _) _).trans (HB2.out.mono (by simp))⟩
set_option maxHeartbeats 1000000 in
theorem ends_ok (P C : Nat) (s : ByteArray) (w : World) (hp : P ≤ 15) (hc : C ≤ 15) (hs : s.size ≤ 3000) :
    Calls Try.prog 7 #[.agg #[.int .i64 P, .int .i64 C, .string s]] w fun e w' => e = .returned (.bool true) ∧ Below w.heap.size w w' := by
  have bx := fun i => World.cell?_alloc_new w #[Value.int .i64 (P : Int), .int .i64 (C : Int), .string s] 23 i
  have b0 := bx 0
  have b1 := bx 1
  have b2 := bx 2
  simp only [List.getElem?_toArray, List.getElem?_cons_zero, List.getElem?_cons_succ] at b0 b1 b2
  have HX0 := Lib.hid b0
  have HX1 := Lib.hid b1
  have HX2 := Lib.hid b2
  clear bx b0 b1 b2
  have HE := Lib.hid (fun W => enc_ok P C s W hp hc hs)
  obtain ⟨T, hT⟩ : ∃ T : ByteArray, T = ⟨(frameBytes P C s).toArray⟩ := ⟨_, rfl⟩
  rw [← hT] at HE
  obtain ⟨n, hn, hn2, hn3, ⟨q0, t0⟩, ⟨q1, t1⟩, hmid⟩ := frame_ends P C s T hT
  have HM := Lib.hid hmid
  have g0 : (((T[0].toNat : Nat) : Int) != 192) = false := by rw [t0]; rfl
  have g1 : (((T[n].toNat : Nat) : Int) != 192) = false := by rw [t1]; rfl
  have hsz : T.size ≤ 6004 := by omega
  have HN := Lib.hid hn
  clear hT t0 t1 hmid
  go_enter Try.func7, Try.ntmps7
  go_wp2_with (first
    | (go_at_call 8; refine (awake_any _).mono ?_; rintro e w1 ⟨rfl, hb1⟩; have HB1 := Lib.hid hb1; clear hb1; have k0 := (HB1.out.cell (p := ⟨w.heap.size, 0, none⟩) (by simp)).trans HX0.out; have k1 := (HB1.out.cell (p := ⟨w.heap.size, 1, none⟩) (by simp)).trans HX1.out; have k2 := (HB1.out.cell (p := ⟨w.heap.size, 2, none⟩) (by simp)).trans HX2.out)
    | (go_at_call 9; refine (HE.out _).mono ?_; rintro e w2 ⟨rfl, hb2⟩; have HB2 := Lib.hid (HB1.out.trans (hb2.mono HB1.out.size)); clear hb2 k0 k1 k2))
  have hne : 2 ≤ n := hn2
  go_loop [6] (fun i => ∃ k : Nat, 1 ≤ k ∧ k ≤ n ∧ i = .int .i64 k) (fun i => n - (intOf i).toNat)
  case atStart => exact ⟨1, by omega, by omega, rfl⟩
  case round =>
    obtain ⟨k, hk1, hk2, rfl⟩ := hrel
    have hT := HN.out
    clear g0 g1
    by_cases hlt : k < n
    · obtain ⟨m1, m2, m3, m4⟩ := HM.out k hk1 hlt
      have hlt1 : k < T.size := m1
      have hlt2 : k + 1 < T.size := m2
      have n1 := u8_ne (n := 192) (by omega) m3
      have f1 : (((T[k].toNat : Nat) : Int) == 192) = false := by rw [beq_eq_false_iff_ne]; omega
      by_cases e : T[k] = 219
      · have f2 : (((T[k].toNat : Nat) : Int) == 219) = true := by rw [e]; rfl
        rcases m4 e with h5 | h5
        · have f3 : (((T[k + 1].toNat : Nat) : Int) != 220) = false := by rw [h5]; rfl
          clear m3 m4 e n1 h5 hT
          go_wp2
          go_round
          case rel => exact ⟨k + 1, by omega, by omega, by go_num⟩
          case measure => simp [intOf]; omega
        · have f3 : (((T[k + 1].toNat : Nat) : Int) != 220) = true := by rw [h5]; rfl
          have f4 : (((T[k + 1].toNat : Nat) : Int) != 221) = false := by rw [h5]; rfl
          clear m3 m4 e n1 h5 hT
          go_wp2
          go_round
          case rel => exact ⟨k + 1, by omega, by omega, by go_num⟩
          case measure => simp [intOf]; omega
      · have n2 := u8_ne (n := 219) (by omega) e
        have f2 : (((T[k].toNat : Nat) : Int) == 219) = false := by rw [beq_eq_false_iff_ne]; omega
        clear m3 m4 e n1 n2 hT
        go_wp2
        go_round
        case rel => exact ⟨k + 1, by omega, by omega, by go_num⟩
        case measure => simp [intOf]; omega
    · obtain rfl : k = n := by omega
      go_wp2
      go_ret
      exact ⟨rfl, ((Below.refl _ w).alloc (Nat.le_refl _) _).trans (HB2.out.mono (by simp))⟩
theorem ends_any (p c : Int) (s : ByteArray) (w : World) (hs : s.size ≤ 9223372036854775807) :
    Calls Try.prog 7 #[.agg #[.int .i64 p, .int .i64 c, .string s]] w fun e w' => e = .returned (.bool true) ∧ Below w.heap.size w w' := by
  by_cases h1 : 3000 < s.size
  · exact ends_long p c s w h1 hs
  by_cases h2 : p < 0 ∨ 15 < p ∨ c < 0 ∨ 15 < c
  · exact ends_no p c s w h2 (by omega)
  · obtain ⟨P, rfl⟩ : ∃ P : Nat, p = P := ⟨p.toNat, by omega⟩
    obtain ⟨C, rfl⟩ : ∃ C : Nat, c = C := ⟨c.toNat, by omega⟩
    exact ends_ok P C s w (by omega) (by omega) (by omega)
end Go.Proofs.Ytcnljojbkjfebaa
