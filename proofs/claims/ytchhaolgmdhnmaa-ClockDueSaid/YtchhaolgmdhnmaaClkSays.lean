/-
slices.Contains of names; the three functions that say which timers go.
-/
import Derived.Test.YtchhaolgmdhnmaaClkDrop
import Derived.BigQuiet
namespace Go.Proofs.Ytchhaolgmdhnmaa
open Go.RowKit
set_option maxRecDepth 20000
/-- two cells of a name -/
theorem AtL.nm {w : World} {g o : Nat} {L : List Nm} (h : AtL encN w (some ⟨g, o, none⟩) L) (i : Nat) (hi : i < L.length) :
    w.cell? ⟨g, o + i * 2, none⟩ = some (.int .i64 L[i].k) ∧ w.cell? ⟨g, o + i * 2 + 1, none⟩ = some (.int .i64 L[i].n) := by
  have h0 := h.get i hi 0 (u := .int .i64 L[i].k) rfl
  have h1 := h.get i hi 1 (u := .int .i64 L[i].n) rfl
  simp only [Nat.add_zero] at h0 h1
  exact ⟨h0, h1⟩
/-- one of the first i is it -/
def anyN (a : Nm) (L : List Nm) : Bool := L.any fun b => eqN a b
theorem anyN_take (a : Nm) (L : List Nm) (i : Nat) (hi : i < L.length) (h : anyN a (L.take i) = false) : anyN a (L.take (i + 1)) = eqN a L[i] ∧ (eqN a L[i] = true → anyN a L = true) := by
  unfold anyN at *
  constructor
  · rw [List.take_succ_eq_append_getElem hi, List.any_append, h]
    simp
  · intro q
    rw [List.any_eq_true]
    exact ⟨L[i], List.getElem_mem hi, q⟩
set_option maxHeartbeats 1000000 in
theorem cindex_any (a : Option Addr) (n c : Nat) (L : List Nm) (x : Nm) (w : World) (hn : L.length = n) (h : AtL encN w a L) (hl : n ≤ 1000) : Calls Try.prog 25 #[.slice a n c, .agg #[.int .i64 x.k, .int .i64 x.n]] w fun e w' =>
    ∃ i : Int, e = .returned (.int .i64 i) ∧ decide (0 ≤ i) = anyN x L ∧ Below w.heap.size w w' := by
  have HN := Lib.hid hn
  have HA := Lib.hid h
  obtain ⟨xk, xn⟩ := x
  have HB0 := Lib.hid ((Below.refl w.heap.size w).alloc (Nat.le_refl _) (.cells #[.int .i64 xk, .int .i64 xn] 31))
  have HR := Lib.hid (RowAt.new w w.heap.size rfl [.int .i64 xk, .int .i64 xn] 31)
  clear hn h
  go_enter Try.func25, Try.ntmps25
  go_wp2_with fail
  generalize hw1 : w.alloc (.cells #[.int .i64 xk, .int .i64 xn] 31) = w1 at *
  go_loopw [8] (fun v wx => ∃ i : Nat, i ≤ n ∧ v = .int .i64 i ∧ Hid (anyN ⟨xk, xn⟩ (L.take i) = false ∧ Below w1.heap.size w1 wx)) (fun v _ => n - (intOf v).toNat)
  case atStart => exact ⟨0, Nat.zero_le _, rfl, Lib.hid ⟨rfl, Below.refl _ _⟩⟩
  case round =>
    obtain ⟨i, hi, rfl, HK⟩ := hrel
    have HBW := Lib.hid (HB0.out.trans (HK.out.2.mono HB0.out.size))
    by_cases hlt : i < n
    · have hL : i < L.length := by rw [HN.out]; exact hlt
      obtain ⟨g, o, rfl, hg⟩ := HA.out.some_ (by omega)
      obtain ⟨y0, y1⟩ := (HA.out.below HBW.out).nm i hL
      have HT := Lib.hid (anyN_take ⟨xk, xn⟩ L i hL HK.out.1)
      have k0 := (HR.out.below HK.out.2).cell 0 rfl
      have k1 := (HR.out.below HK.out.2).cell 1 rfl
      have HBD := Lib.hid HK.out.2
      generalize L[i] = y at *
      obtain ⟨yk, yn⟩ := y
      have he := fun W => run_eq_nm xk xn yk yn W _ rfl
      cases hq : eqN ⟨xk, xn⟩ ⟨yk, yn⟩ with
      | true =>
        simp only [hq] at he
        have HE := Lib.hid (HT.out.2 hq)
        clear HT hq hw1
        go_upto_region 4 with (fail)
        go_quiet (fail)
        go_wp2_with fail
        exact bodyPost_ret (v := .int .i64 i) (by simp [results, Try.results25, go_sem]) rfl ⟨i, rfl, by rw [HE.out]; exact decide_eq_true (by omega), belowN HBW.out _⟩
      | false =>
        simp only [hq] at he
        have HE := Lib.hid (HT.out.1.trans hq)
        clear HT hq hw1
        go_upto_region 4 with (fail)
        go_quiet (fail)
        go_wp2_with fail
        go_roundw
        case rel => exact ⟨i + 1, by omega, rfl, Lib.hid ⟨HE.out, belowN HBD.out _⟩⟩
        case measure => simp [intOf]; omega
    · have e : L.take i = L := List.take_of_length_le (by rw [HN.out]; omega)
      have HE := Lib.hid (show anyN ⟨xk, xn⟩ L = false from e ▸ HK.out.1)
      clear hw1 e
      go_wp2_with fail
      exact bodyPost_ret (v := .int .i64 (-1)) (by simp [results, Try.results25, go_sem]) rfl ⟨-1, rfl, by rw [HE.out]; rfl, HBW.out⟩
set_option maxHeartbeats 1000000 in
theorem ccontains_any (a : Option Addr) (n c : Nat) (L : List Nm) (x : Nm) (w : World) (hn : L.length = n) (h : AtL encN w a L) (hl : n ≤ 1000) : Calls Try.prog 22 #[.slice a n c, .agg #[.int .i64 x.k, .int .i64 x.n]] w fun e w' =>
    e = .returned (.bool (anyN x L)) ∧ Below w.heap.size w w' := by
  have HI := Lib.hid (fun W (hb : Below w.heap.size w W) => cindex_any a n c L x W hn (h.below hb) hl)
  obtain ⟨xk, xn⟩ := x
  have HB0 := Lib.hid ((Below.refl w.heap.size w).alloc (Nat.le_refl _) (.cells #[.int .i64 xk, .int .i64 xn] 31))
  clear hn h
  generalize anyN ⟨xk, xn⟩ L = r at *
  go_enter Try.func22, Try.ntmps22
  go_wp2_with (go_at_call 25; (with_reducible refine (HI.out _ HB0.out).mono ?_); rintro e w2 ⟨i, rfl, hi, hb⟩)
  exact bodyPost_ret (v := .bool r) (by simp [results, Try.results22, go_sem]) rfl ⟨rfl, HB0.out.trans (hb.mono HB0.out.size)⟩
set_option maxHeartbeats 1000000 in
/-- Stop's -/
theorem cstop_fn (a : Option Addr) (n c b : Nat) (L : List Nm) (t : Tm) (w : World) (hn : L.length = n) (h : AtL encN w a L) (hl : n ≤ 1000) (hb : w.cell? ⟨b, 0, none⟩ = some (.slice a n c)) (hbw : b < w.heap.size) :
    Calls Try.prog 21 #[.agg #[.int .i64 t.k, .int .i64 t.n, .int .i64 t.l], .pointer (some ⟨b, 0, none⟩)] w fun e w' => e = .returned (.bool (anyN t.nm L)) ∧ Below w.heap.size w w' := by
  have HI := Lib.hid (fun W (hb : Below w.heap.size w W) => ccontains_any a n c L t.nm W hn (h.below hb) hl)
  obtain ⟨tk, tn, tl⟩ := t
  have HB0 := Lib.hid ((Below.refl w.heap.size w).alloc (Nat.le_refl _) (.cells #[.int .i64 tk, .int .i64 tn, .int .i64 tl] 54))
  clear hn h
  simp only [Tm.nm] at HI ⊢
  generalize anyN ⟨tk, tn⟩ L = r at *
  go_enter Try.func21, Try.ntmps21
  go_wp2_with (go_at_call 22; (with_reducible refine (HI.out _ HB0.out).mono ?_); rintro e w2 ⟨rfl, hb⟩)
  exact bodyPost_ret (v := .bool r) (by simp [results, Try.results21, go_sem]) rfl ⟨rfl, HB0.out.trans (hb.mono HB0.out.size)⟩
set_option maxHeartbeats 1000000 in
/-- Tick's -/
theorem ctick_fn (t : Tm) (w : World) : Calls Try.prog 23 #[.agg #[.int .i64 t.k, .int .i64 t.n, .int .i64 t.l]] w fun e w' => e = .returned (.bool (goneT t)) ∧ Below w.heap.size w w' := by
  obtain ⟨tk, tn, tl⟩ := t
  have HB0 := Lib.hid ((Below.refl w.heap.size w).alloc (Nat.le_refl _) (.cells #[.int .i64 tk, .int .i64 tn, .int .i64 tl] 54))
  have hq : goneT ⟨tk, tn, tl⟩ = (tl == 0) := rfl
  rw [hq]
  clear hq
  go_enter Try.func23, Try.ntmps23
  go_wp2_with fail
  exact bodyPost_ret (v := .bool (tl == 0)) (by simp [results, Try.results23, go_sem]) rfl ⟨rfl, HB0.out⟩
set_option maxHeartbeats 1000000 in
/-- Only's -/
theorem conly_fn (t : Tm) (b : Nat) (n : Int) (w : World) (hb : w.cell? ⟨b, 0, none⟩ = some (.int .i64 n)) (hbw : b < w.heap.size) : Calls Try.prog 24 #[.agg #[.int .i64 t.k, .int .i64 t.n, .int .i64 t.l], .pointer (some ⟨b, 0, none⟩)] w fun e w' =>
    e = .returned (.bool (numT n t)) ∧ Below w.heap.size w w' := by
  obtain ⟨tk, tn, tl⟩ := t
  have HB0 := Lib.hid ((Below.refl w.heap.size w).alloc (Nat.le_refl _) (.cells #[.int .i64 tk, .int .i64 tn, .int .i64 tl] 54))
  have hq : numT n ⟨tk, tn, tl⟩ = (tn == n) := rfl
  rw [hq]
  clear hq
  go_enter Try.func24, Try.ntmps24
  go_wp2_with fail
  exact bodyPost_ret (v := .bool (tn == n)) (by simp [results, Try.results24, go_sem]) rfl ⟨rfl, HB0.out⟩
theorem enters_stop : ∀ args W, (callFunc 21 args).run Try.prog W = .ok (.enter 21 args) W := enters_of Try.func21 (by kernel_rfl) rfl
theorem enters_tick : ∀ args W, (callFunc 23 args).run Try.prog W = .ok (.enter 23 args) W := enters_of Try.func23 (by kernel_rfl) rfl
theorem enters_only : ∀ args W, (callFunc 24 args).run Try.prog W = .ok (.enter 24 args) W := enters_of Try.func24 (by kernel_rfl) rfl
theorem says_stop (a : Option Addr) (n c b : Nat) (L : List Nm) (F : Nat → Prop) (w : World) (hn : L.length = n) (h : AtL encN w a L) (hl : n ≤ 1000) (hb : w.cell? ⟨b, 0, none⟩ = some (.slice a n c)) (hbw : b < w.heap.size) (hbF : ¬ F b) (haF : ∀ p, a = some p → ¬ F p.block) :
    Says 21 #[.pointer (some ⟨b, 0, none⟩)] (fun t => anyN t.nm L) F w :=
  ⟨enters_stop, fun t W ht => cstop_fn a n c b L t W hn (h.turn ht haF) hl ((ht.cell (p := ⟨b, 0, none⟩) hbw hbF).trans hb) (Nat.lt_of_lt_of_le hbw ht.size)⟩
theorem says_tick (F : Nat → Prop) (w : World) : Says 23 #[] goneT F w := ⟨enters_tick, fun t W _ => ctick_fn t W⟩
theorem says_only (b : Nat) (n : Int) (F : Nat → Prop) (w : World) (hb : w.cell? ⟨b, 0, none⟩ = some (.int .i64 n)) (hbw : b < w.heap.size) (hbF : ¬ F b) : Says 24 #[.pointer (some ⟨b, 0, none⟩)] (numT n) F w :=
  ⟨enters_only, fun t W ht => conly_fn t b n W ((ht.cell (p := ⟨b, 0, none⟩) hbw hbF).trans hb) (Nat.lt_of_lt_of_le hbw ht.size)⟩
end Go.Proofs.Ytchhaolgmdhnmaa
