/-
The landed code's Text of calls.
-/
import Derived.Test.YtplandmnmdkjmaaDoorCallBase
import Derived.Test.YtplandmnmdkjmaaDoorShelf
import Derived.Lib.SmallJoins
import Derived.Lib.ItoaNum
import Derived.Lib.QuietBelow
import Derived.Lib.IndexBytes
import Derived.IntWalk
namespace Go.Proofs.YtplandmnmdkjmaaDoor
open Go.RowKit Go.Sort
set_option maxRecDepth 20000
theorem dec_digits (n : Nat) (h : n ≤ 15) : Lib.decDigits n = digD n := by
  unfold digD
  by_cases h10 : n < 10
  · rw [if_pos h10, Lib.decDigits, dif_pos h10]
  · rw [if_neg h10, Lib.decDigits, dif_neg h10, Lib.decDigits, dif_pos (by omega)]
    rfl
theorem clone_any (s : ByteArray) (w : World) (h : s.size ≤ 140737488351232) : Calls Tryd.prog 34 #[.string s] w fun e w' => e = .returned (.string s) ∧ Below w.heap.size w w' := by
  have HC := Lib.hid (Tryd.stringslite_Clone s w (by omega))
  clear h
  go_enter Tryd.func34, Tryd.ntmps34
  go_wp2_with (go_at_call 62; (with_reducible refine HC.out.mono ?_); rintro e w1 ⟨rfl, hb⟩; have HB := Lib.hid hb; clear hb)
  go_ret
  exact ⟨rfl, HB.out⟩
/-- a call's cells -/
def CAt1 (w W : World) (b : ByteArray) (n : Int) : Prop := (W.cell? ⟨w.heap.size, 0, none⟩ = some (.string b) ∧ W.cell? ⟨w.heap.size, 1, none⟩ = some (.int .i64 n)) ∧ Below w.heap.size w W ∧ w.heap.size < W.heap.size
theorem CAt1.start (w : World) (b : ByteArray) (n : Int) : CAt1 w (w.alloc (.cells #[.string b, .int .i64 n] 23)) b n :=
  ⟨⟨World.cell?_alloc_at _ _ _ _ rfl, World.cell?_alloc_at _ _ _ _ rfl⟩, (Below.refl _ w).alloc (Nat.le_refl _) _, by simp⟩
theorem CAt1.below {w W W' : World} {b : ByteArray} {n : Int} (h : CAt1 w W b n) (hb : Below W.heap.size W W') : CAt1 w W' b n := by
  obtain ⟨⟨x0, x1⟩, hw, hs⟩ := h
  have q := fun (m i : Nat) (hm : m < W.heap.size) => hb.cell (p := ⟨m, i, none⟩) hm
  exact ⟨⟨(q _ _ hs).trans x0, (q _ _ hs).trans x1⟩, hw.trans (hb.mono hw.size), Nat.lt_of_lt_of_le hs hb.size⟩
theorem ctext_not (b : ByteArray) (n : Int) (w : World) (hr : rightD b n = false) (h : b.size ≤ 300) :
    Calls Tryd.prog 67 #[.agg #[.string b, .int .i64 n]] w fun e w' => e = .returned (.string ⟨#[]⟩) ∧ Below w.heap.size w w' := by
  have HM := Lib.hid (CAt1.start w b n)
  have hR := fun W => cright_ok b n W h
  rw [hr] at hR
  have HR := Lib.hid hR
  clear hR hr h
  go_enter Tryd.func67, Tryd.ntmps67
  go_wp2_with (go_at_call 66; (with_reducible refine (HR.out _).mono ?_); rintro e w1 ⟨rfl, hb⟩; replace HM := Lib.hid (HM.out.below hb); clear hb)
  go_ret
  exact ⟨rfl, HM.out.2.1⟩
theorem ctext_zero (b : ByteArray) (w : World) (hr : rightD b 0 = true) (h : b.size ≤ 300) :
    Calls Tryd.prog 67 #[.agg #[.string b, .int .i64 0]] w fun e w' => e = .returned (.string b) ∧ Below w.heap.size w w' := by
  have HM := Lib.hid (CAt1.start w b 0)
  have hR := fun W => cright_ok b 0 W h
  rw [hr] at hR
  have HR := Lib.hid hR
  have HC := Lib.hid (fun W => clone_any b W (by omega))
  clear hR hr h
  go_enter Tryd.func67, Tryd.ntmps67
  go_wp2_with (first
    | (go_at_call 66; (with_reducible refine (HR.out _).mono ?_); rintro e w1 ⟨rfl, hb⟩; replace HM := Lib.hid (HM.out.below hb); clear hb; obtain ⟨⟨x0, x1⟩, hw, hsz⟩ := HM.out)
    | (go_at_call 34; (with_reducible refine (HC.out _).mono ?_); rintro e w2 ⟨rfl, hb⟩; replace HM := Lib.hid (HM.out.below hb); clear hb))
  go_ret
  exact ⟨rfl, HM.out.2.1⟩
theorem ctext_some (b : ByteArray) (n : Nat) (w : World) (hr : rightD b (n : Int) = true) (h0 : 1 ≤ n) (h : n ≤ 15) (hb : b.size ≤ 6) :
    Calls Tryd.prog 67 #[.agg #[.string b, .int .i64 (n : Int)]] w fun e w' => e = .returned (.string ⟨(b.data.toList ++ 45 :: digD n).toArray⟩) ∧ Below w.heap.size w w' := by
  have HM := Lib.hid (CAt1.start w b (n : Int))
  have hR := fun W => cright_ok b (n : Int) W (by omega)
  rw [hr] at hR
  have HR := Lib.hid hR
  have hD := fun W => Tryd.strconv_Itoa_small n (by omega) W
  rw [dec_digits n h] at hD
  obtain ⟨g, hg⟩ : ∃ g : ByteArray, g = ⟨(digD n).toArray⟩ := ⟨_, rfl⟩
  rw [← hg] at hD
  have HD := Lib.hid (fun W => show Calls Tryd.prog 49 #[.int .i64 (n : Int)] W (fun e w' => e = .returned (.string g) ∧ Below W.heap.size W w') from (hD W).mono fun e w' ⟨he, hw⟩ => ⟨he, by rw [hw]; exact Below.refl _ _⟩)
  have hgs : g.size ≤ 2 := by
    rw [hg]
    show (digD n).toArray.size ≤ 2
    unfold digD
    split <;> simp
  have ha1 := fun (w : World) => run_string_add_sum (P := Tryd.prog) (w := w) b ⟨#[45]⟩ (by show b.size + 1 ≤ _; omega)
  have ha2 := fun (w : World) => run_string_add_sum (P := Tryd.prog) (w := w) (b ++ ⟨#[45]⟩) g (by rw [ByteArray.size_append]; show b.size + 1 + _ ≤ _; omega)
  obtain ⟨r, hr⟩ : ∃ r : ByteArray, r = ⟨(b.data.toList ++ 45 :: digD n).toArray⟩ := ⟨_, rfl⟩
  have hrr : (b ++ ⟨#[45]⟩) ++ g = r := by
    rw [hr, hg]
    exact bytes_ext' (by simp [ByteArray.data_append])
  rw [hrr] at ha2
  rw [← hr]
  clear hr hrr hg hR hD
  have hn : ((n : Int) == 0) = false := by rw [beq_eq_false_iff_ne]; omega
  go_enter Tryd.func67, Tryd.ntmps67
  go_wp2_with (go_at_call 66; (with_reducible refine (HR.out _).mono ?_); rintro e w1 ⟨rfl, hb⟩; replace HM := Lib.hid (HM.out.below hb); clear hb; obtain ⟨⟨x0, x1⟩, hw, hsz⟩ := HM.out)
  have g0 := fun d' os => cell_regrown x0 d' os
  have g1 := fun d' os => cell_regrown x1 d' os
  refine wp_region_quiet_below (by kernel_rfl) (by kernel_rfl) ?_
  repeat (quiet_step (exact Calls.regrown_of (HD.out _)))
  refine wpQuiet_nil ?_
  intro _ hw'
  obtain ⟨pg, hw''⟩ := hw'
  subst hw''
  have HE := Lib.hid (below_regrown w1 pg.d pg.os)
  generalize grow (redrawn w1 pg.d) pg.os = w9 at *
  go_wp2
  go_ret
  exact ⟨rfl, hw.trans (HE.out.mono hw.size)⟩
theorem ctext_ok : CTextOk := fun b n w h => by
  cases hr : rightD b n
  · rw [if_neg (by simp)]
    exact ctext_not b n w hr h
  · rw [if_pos rfl]
    obtain ⟨h1, h2, h3, h4, _⟩ := right_facts b n hr
    unfold textD
    by_cases h0 : n = 0
    · subst h0
      rw [if_pos rfl, back_bytes]
      exact ctext_zero b w hr h
    · rw [if_neg h0]
      have e : ((n.toNat : Nat) : Int) = n := by omega
      have k := ctext_some b n.toNat w (by rw [e]; exact hr) (by omega) (by omega) h2
      rw [e] at k
      exact k
end Go.Proofs.YtplandmnmdkjmaaDoor
