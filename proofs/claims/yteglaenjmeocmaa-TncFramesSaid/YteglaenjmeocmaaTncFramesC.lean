/-
The code's own Frames.
-/
import Derived.Test.YteglaenjmeocmaaTncSetter
import Derived.Test.YteglaenjmeocmaaKissOne
namespace Go.Proofs.Yteglaenjmeocmaa
open Go.RowKit Go.Sort
theorem frames_port (a b c d : Int) (f : Bool) (port : Int) (w : World) (hp : ¬ (0 ≤ port ∧ port ≤ 15)) :
    Calls Try.prog 12 #[.int .i64 port, .agg #[.int .i64 a, .int .i64 b, .int .i64 c, .int .i64 d, .bool f]] w fun e w' => e = .returned (.slice none 0 0) ∧ Below w.heap.size w w' := by
  have HH := Lib.hid (fun W => thalf_no port W hp)
  clear hp
  go_enter Try.func12, Try.ntmps12
  go_wp2_with (go_at_call 21; ((with_reducible refine (HH.out _).mono ?_); rintro e w1 ⟨rfl, rfl⟩))
  go_ret
  exact ⟨rfl, (Below.refl _ w).alloc (Nat.le_refl _) _⟩
theorem frames_right (a b c d : Int) (f : Bool) (port : Int) (w : World) (h0 : 0 ≤ port) (h1 : port ≤ 15) (hok : Par.ok ⟨a, b, c, d, f⟩ = false) :
    Calls Try.prog 12 #[.int .i64 port, .agg #[.int .i64 a, .int .i64 b, .int .i64 c, .int .i64 d, .bool f]] w fun e w' => e = .returned (.slice none 0 0) ∧ Below w.heap.size w w' := by
  have HH := Lib.hid (fun W => thalf_yes port W h0 h1)
  have HR := Lib.hid (fun W => right_ok ⟨a, b, c, d, f⟩ W)
  rw [hok] at HR
  simp only [Par.v] at HR
  clear hok
  go_enter Try.func12, Try.ntmps12
  go_wp2_with (first
    | (go_at_call 21; ((with_reducible refine (HH.out _).mono ?_); rintro e w1 ⟨rfl, rfl⟩))
    | (go_at_call 10; ((with_reducible refine (HR.out _).mono ?_); rintro e w2 ⟨rfl, hb⟩)))
  go_ret
  exact ⟨rfl, ((Below.refl _ w).alloc (Nat.le_refl _) _).trans (hb.mono (by simp))⟩
theorem ParAt.nth {w : World} {n : Nat} {p : Par} (h : ParAt w n p) (k : Nat) (hk : k < 4) : w.cell? ⟨n, k, none⟩ = some (.int .i64 (parN p k)) := by
  obtain ⟨h0, h1, h2, h3, _⟩ := h
  obtain rfl | rfl | rfl | rfl : k = 0 ∨ k = 1 ∨ k = 2 ∨ k = 3 := by omega
  · exact h0
  · exact h1
  · exact h2
  · exact h3
set_option maxHeartbeats 1000000 in
theorem frames_yes (a b c d : Int) (f : Bool) (P : Nat) (w : World) (h1 : P ≤ 15) (hok : Par.ok ⟨a, b, c, d, f⟩ = true) :
    Calls Try.prog 12 #[.int .i64 P, .agg #[.int .i64 a, .int .i64 b, .int .i64 c, .int .i64 d, .bool f]] w fun e w' => ∃ v, e = .returned v ∧ OwnF 25 w' w.heap.size v (setK P ⟨a, b, c, d, f⟩ 5) ∧ Below w.heap.size w w' := by
  obtain ⟨i0, hi0, hz0, hz1, hz2⟩ := info_parts infoF
  have HH := Lib.hid (fun W => thalf_yes (P : Int) W (by omega) (by omega))
  have HR := Lib.hid (fun W => right_ok ⟨a, b, c, d, f⟩ W)
  have HN := Lib.hid numbers_any
  have HPB := Lib.hid (parN_byte ⟨a, b, c, d, f⟩ hok)
  have HP0 := Lib.hid (show ParAt _ _ ⟨a, b, c, d, f⟩ from par_cells ⟨a, b, c, d, f⟩ w 23)
  rw [hok] at HR
  simp only [Par.v] at HR
  clear hok
  go_enter Try.func12, Try.ntmps12
  go_wp2_with (first
    | (go_at_call 21; ((with_reducible refine (HH.out _).mono ?_); rintro e w1 ⟨rfl, rfl⟩))
    | (go_at_call 10; ((with_reducible refine (HR.out _).mono ?_); rintro e w2 ⟨rfl, hb⟩; have HB := Lib.hid hb; clear hb))
    | (go_at_call 20; ((with_reducible refine (HN.out _ _).mono ?_); rintro e w3 ⟨rfl, hb⟩; replace HB := Lib.hid (HB.out.trans (hb.mono HB.out.size)); clear hb)))
  simp only [ptrs]
  have PI := fun k hk => pidx w.heap.size k hk
  obtain ⟨w0, hw0⟩ : ∃ w0, w0 = w.alloc (.cells #[.int .i64 a, .int .i64 b, .int .i64 c, .int .i64 d, .bool f] 23) := ⟨_, rfl⟩
  have HB0 := Lib.hid (show Below w.heap.size w w0 from by rw [hw0]; exact (Below.refl _ w).alloc (Nat.le_refl _) _)
  have HZ0 := Lib.hid (show w0.heap.size = w.heap.size + 1 from by rw [hw0]; simp)
  rw [← hw0] at HB HP0
  clear hw0 HN HR HH
  go_loopw [5, 17] (fun tv i wx => ∃ k : Nat, k ≤ 4 ∧ i = .int .i64 k ∧ Hid (OwnF 25 wx w0.heap.size tv (setK P ⟨a, b, c, d, f⟩ k) ∧ Below w0.heap.size w0 wx)) (fun _ i _ => 4 - (intOf i).toNat)
  case atStart => exact ⟨0, by omega, rfl, OwnF.nil _ _ _, HB.out⟩
  case round =>
    obtain ⟨k, hk, rfl, HR⟩ := hrel
    have HC := Lib.hid (HP0.out.below (B := w0.heap.size) (by rw [HZ0.out]; exact Nat.lt_succ_self _) HR.out.2)
    have hsz := HR.out.2.size
    have hlen := setK_length P ⟨a, b, c, d, f⟩ k
    by_cases hlt : k < 4
    · have hcell := HC.out.nth k hlt
      have hpk := PI k hlt
      obtain ⟨hn0, hn1⟩ := HPB.out k
      have HFV := Lib.hid (rawK_frV P ⟨a, b, c, d, f⟩ k h1 (by omega))
      have HSK := Lib.hid (setK_succ P ⟨a, b, c, d, f⟩ k)
      have HS := Lib.hid (fun W => setter_any (P : Int) (1 + (k : Int)) (parN ⟨a, b, c, d, f⟩ k) W hn0 hn1)
      rw [show ((k + 1 : Nat) : Int) = 1 + (k : Int) by omega] at HFV
      generalize parN ⟨a, b, c, d, f⟩ k = pn at *
      generalize (rawK P ⟨a, b, c, d, f⟩ k).fr = fr at *
      generalize setK P ⟨a, b, c, d, f⟩ k = F at *
      generalize (⟨#[UInt8.ofNat pn.toNat]⟩ : ByteArray) = sx at *
      clear PI HC
      go_wp2_with (first
        | (go_at_call 22; go_loud (refine (HS.out _).mono ?_; rintro e w5 ⟨rfl, hb⟩; have HO2 := Lib.hid (OwnF.below HR.out.1 hb); have HBW := Lib.hid (HR.out.2.trans (hb.mono HR.out.2.size)); clear hb))
        | (at_builtin; go_loud (refine wpList_append_own _ rfl (.tmp 21) (.tmp 29) 40 rfl w0.heap.size 25 i0 _ 3 32 Try.underlying40 hi0 hz0 hz1 hz2 rfl (by decide) _ _ _ rfl (World.ownsRow.alloc HO2.out _) ⟨w5.heap.size, 0, none⟩ 1 1 [.int .i64 (P : Int), .int .i64 (1 + (k : Int)), .string sx] rfl rfl (cells_new' _ _ rfl #[.int .i64 (P : Int), .int .i64 (1 + (k : Int)), .string sx] _) (by rw [← HFV.out]; exact frsV_one _) (by unfold maxLen; omega) (by omega) (by have := HBW.out.size; simp; omega) ?_; intro v' w6 hown1 hgrow1 _; have HX := Lib.hid (want_after HO2.out HBW.out hown1 HFV.out hgrow1); clear hown1 hgrow1)))
      go_roundw
      case rel => exact ⟨k + 1, by omega, by go_num, by rw [HSK.out]; exact HX.out.1, HX.out.2⟩
      case measure => simp [intOf]; omega
    · obtain rfl : k = 4 := by omega
      obtain ⟨_, _, _, _, y4⟩ := HC.out
      simp only at y4
      have HFV := Lib.hid (rawK_frV P ⟨a, b, c, d, f⟩ 4 h1 (by omega))
      have HSK := Lib.hid (setK_succ P ⟨a, b, c, d, f⟩ 4)
      obtain ⟨fr, hfr⟩ : ∃ fr, fr = (rawK P ⟨a, b, c, d, f⟩ 4).fr := ⟨_, rfl⟩
      rw [← hfr] at HFV HSK
      clear hfr PI HC HP0
      cases f
      all_goals
        have HS := Lib.hid (fun W => setter_any (P : Int) 5 (parN ⟨a, b, c, d, _⟩ 4) W (HPB.out 4).1 (HPB.out 4).2)
        change Hid (frsV [fr] = [.int .i64 (P : Int), .int .i64 5, .string ⟨#[UInt8.ofNat (parN ⟨a, b, c, d, _⟩ 4).toNat]⟩]) at HFV
      · change Hid (∀ W, Calls _ _ #[_, _, .int .i64 0] W _) at HS
        generalize setK P ⟨a, b, c, d, false⟩ 4 = F at *
        generalize (⟨#[UInt8.ofNat (parN ⟨a, b, c, d, false⟩ 4).toNat]⟩ : ByteArray) = sx at *
        go_wp2_with (first
          | (go_at_call 22; go_loud (refine (HS.out _).mono ?_; rintro e w5 ⟨rfl, hb⟩; have HO2 := Lib.hid (OwnF.below HR.out.1 hb); have HBW := Lib.hid (HR.out.2.trans (hb.mono HR.out.2.size)); clear hb))
          | (at_builtin; go_loud (refine wpList_append_own _ rfl (.tmp 39) (.tmp 42) 40 rfl w0.heap.size 25 i0 _ 3 32 Try.underlying40 hi0 hz0 hz1 hz2 rfl (by decide) _ _ _ rfl (World.ownsRow.alloc HO2.out _) ⟨w5.heap.size, 0, none⟩ 1 1 [.int .i64 (P : Int), .int .i64 5, .string sx] rfl rfl (cells_new' _ _ rfl #[.int .i64 (P : Int), .int .i64 5, .string sx] _) (by rw [← HFV.out]; exact frsV_one _) (by unfold maxLen; omega) (by omega) (by have := HBW.out.size; simp; omega) ?_; intro v' w6 hown1 hgrow1 _; have HX := Lib.hid (want_after HO2.out HBW.out hown1 HFV.out hgrow1); clear hown1 hgrow1)))
        go_ret
        exact ⟨_, rfl, by rw [HSK.out]; exact OwnF.base HX.out.1 HB0.out.size, HB0.out.trans (HX.out.2.mono HB0.out.size)⟩
      · change Hid (∀ W, Calls _ _ #[_, _, .int .i64 1] W _) at HS
        generalize setK P ⟨a, b, c, d, true⟩ 4 = F at *
        generalize (⟨#[UInt8.ofNat (parN ⟨a, b, c, d, true⟩ 4).toNat]⟩ : ByteArray) = sx at *
        go_wp2_with (first
          | (go_at_call 22; go_loud (refine (HS.out _).mono ?_; rintro e w5 ⟨rfl, hb⟩; have HO2 := Lib.hid (OwnF.below HR.out.1 hb); have HBW := Lib.hid (HR.out.2.trans (hb.mono HR.out.2.size)); clear hb))
          | (at_builtin; go_loud (refine wpList_append_own _ rfl (.tmp 34) (.tmp 37) 40 rfl w0.heap.size 25 i0 _ 3 32 Try.underlying40 hi0 hz0 hz1 hz2 rfl (by decide) _ _ _ rfl (World.ownsRow.alloc HO2.out _) ⟨w5.heap.size, 0, none⟩ 1 1 [.int .i64 (P : Int), .int .i64 5, .string sx] rfl rfl (cells_new' _ _ rfl #[.int .i64 (P : Int), .int .i64 5, .string sx] _) (by rw [← HFV.out]; exact frsV_one _) (by unfold maxLen; omega) (by omega) (by have := HBW.out.size; simp; omega) ?_; intro v' w6 hown1 hgrow1 _; have HX := Lib.hid (want_after HO2.out HBW.out hown1 HFV.out hgrow1); clear hown1 hgrow1)))
        go_ret
        exact ⟨_, rfl, by rw [HSK.out]; exact OwnF.base HX.out.1 HB0.out.size, HB0.out.trans (HX.out.2.mono HB0.out.size)⟩
end Go.Proofs.Yteglaenjmeocmaa
