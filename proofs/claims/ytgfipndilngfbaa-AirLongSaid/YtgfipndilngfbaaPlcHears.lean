/-
The landed Hears.
-/
import Derived.Test.YtgfipndilngfbaaPlcStand
import Derived.Deep.DeepCutAuto
namespace Go.Proofs.Ytgfipndilngfbaa
open Go.RowKit
set_option maxRecDepth 20000
theorem zeroU14 (w : World) : (zeroValue 96).run Try.prog w = .ok (.agg #[]) w := by kernel_rfl
/-- does one hear the other one? -/
def hearsB (D : DataW Unit) (i j : Int) (x y u v r : Int) : Bool := !Maps.has D (keyWay j i) && decide (farN x y u v ≤ r * r)
set_option maxHeartbeats 2000000 in
theorem hears_yes (p g : Nat) (L : List Stn) (D : DataW Unit) (F : Nat → Prop) (k m : Nat) (i j : Int) (hi : i = k + 1) (hk : k < L.length) (hj : j = m + 1) (hm : m < L.length) (hne : k ≠ m) (hl : L.length ≤ 16)
    (x y r0 u v r : Int) (hs : L[k].is ⟨x, y, r0⟩) (ht : L[m].is ⟨u, v, r⟩) (hx : x.natAbs ≤ 1000) (hy : y.natAbs ≤ 1000) (hu : u.natAbs ≤ 1000) (hv : v.natAbs ≤ 1000) (hr : 0 ≤ r ∧ r ≤ 4000) (w : World) (h : PlL w p g L D F) :
    Calls Try.prog 36 #[.pointer (some ⟨p, 0, none⟩), .int .i64 i, .int .i64 j] w fun e w' => e = .returned (.bool (hearsB D i j x y u v r)) ∧ Below w.heap.size w w' := by
  have h1 := there_yes L.length k i hi hk
  have h2 := there_yes L.length m j hj hm
  have dne : (i == j) = false := by rw [beq_eq_false_iff_ne]; omega
  have hkey := key_way j i (WalkArith.wf_i64 (by omega)) (WalkArith.wf_i64 (by omega))
  have hrr : wrap64 (r * r) = r * r := by
    have : r * r ≤ 4000 * 4000 := Int.mul_le_mul hr.2 hr.2 hr.1 (by omega)
    have h0 : 0 ≤ r * r := Int.mul_nonneg hr.1 hr.1
    exact IntWalk.wrap64_in _ (by omega)
  obtain ⟨sx, sy, sr⟩ := hs
  obtain ⟨tx, ty, tr⟩ := ht
  simp only at sx sy sr tx ty tr
  have HM := Lib.hid (RowAt.new w w.heap.size rfl [.int .i64 i, .int .i64 j] 3)
  have HP := Lib.hid (h.alloc (.cells #[.int .i64 i, .int .i64 j] 3))
  have HB := Lib.hid ((Below.refl _ w).alloc (Nat.le_refl _) (.cells #[.int .i64 i, .int .i64 j] 3))
  obtain ⟨c, b, x0, x1, ho⟩ := HP.out.cells
  have HO := Lib.hid ho
  have HT := Lib.hid (fun W hp hm => there_two p w.heap.size L.length (some ⟨g, 0, none⟩) c i j W hp hm)
  rw [h1, h2, show thereE (true && true) = 0 from rfl] at HT
  have HA := Lib.hid (fun W h => at_yes p g L D F k i hi hk hl W h)
  have HC := Lib.hid (fun W h => at_yes p g L D F m j hj hm hl W h)
  rw [sr] at HA
  rw [tr] at HC
  have HF := Lib.hid (fun W => apart_any _ _ _ _ x y u v W sx sy (by omega) (by omega) tx ty (by omega) (by omega))
  obtain ⟨hq, hhq⟩ : ∃ q, q = Maps.has D (keyWay j i) := ⟨_, rfl⟩
  obtain ⟨d, hd⟩ : ∃ d, d = decide (farN x y u v ≤ r * r) := ⟨_, rfl⟩
  unfold hearsB
  rw [← hhq, ← hd]
  have HD := Lib.hid hd
  have HHQ := Lib.hid hhq
  generalize farN x y u v = f at *
  generalize L[k].re = a0 at *
  generalize L[k].im = a1 at *
  generalize L[m].re = b0 at *
  generalize L[m].im = b1 at *
  clear hi hj hk hm hne sx sy sr tx ty tr hx hy hu hv hr h ho h1 h2 hhq hd
  cases hq
  · go_enter Try.func36, Try.ntmps36
    go_upto_region 6 with (first
      | (go_at_call 30; (with_reducible refine (HT.out _ x0 HM.out).mono ?_); rintro e w1 ⟨rfl, rfl⟩)
      | (at_lookup; refine wpList_lookup_own_unit _ rfl _ _ 73 rfl 99 96 keyedWay Try.underlying73 (zeroU14 _) b _ D rfl HO.out _ _ rfl hkey ?_; rw [← HHQ.out]))
    have HB1 := Lib.hid (HB.out.alloc (by simp) (.cells #[] 96))
    have HP1 := Lib.hid (HP.out.alloc (.cells #[] 96))
    clear x0 x1 HM HP HO HT hkey HB
    generalize (w.alloc (.cells #[.int .i64 i, .int .i64 j] 3)).alloc (.cells #[] 96) = w1 at *
    go_upto_region 7 with (go_at_call 44; (with_reducible refine (HA.out _ HP1.out).mono ?_); rintro e w2 ⟨rfl, hb⟩; have HB2 := Lib.hid (HB1.out.trans (hb.mono HB1.out.size)); have HP2 := Lib.hid (HP1.out.below hb); clear hb HA HP1 HB1)
    go_upto_region 8 with (go_at_call 44; (with_reducible refine (HC.out _ HP2.out).mono ?_); rintro e w3 ⟨rfl, hb⟩; have HB3 := Lib.hid (HB2.out.trans (hb.mono HB2.out.size)); clear hb HC HP2 HB2)
    have hdd := HD.out
    go_wp2_with (go_at_call 45; (with_reducible refine (HF.out _).mono ?_); rintro e w4 ⟨rfl, hb⟩; have HE := Lib.hid (HB3.out.trans (hb.mono HB3.out.size)); clear hb HF HB3)
    rw [← HD.out]
    exact bodyPost_ret (v := .bool d) (by simp [results, Try.results36, go_sem]) rfl ⟨by simp, HE.out⟩
  · go_enter Try.func36, Try.ntmps36
    go_wp2_with (first
      | (go_at_call 30; (with_reducible refine (HT.out _ x0 HM.out).mono ?_); rintro e w1 ⟨rfl, rfl⟩)
      | (at_lookup; refine wpList_lookup_own_unit _ rfl _ _ 73 rfl 99 96 keyedWay Try.underlying73 (zeroU14 _) b _ D rfl HO.out _ _ rfl hkey ?_; rw [← HHQ.out]))
    exact bodyPost_ret (v := .bool false) (by simp [results, Try.results36, go_sem]) rfl ⟨rfl, HB.out.alloc (by simp) _⟩
end Go.Proofs.Ytgfipndilngfbaa
