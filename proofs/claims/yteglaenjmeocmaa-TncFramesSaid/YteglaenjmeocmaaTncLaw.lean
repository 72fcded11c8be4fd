/-
The statements of tnc, walked over what the code's own calls are to answer.
-/
import Derived.Test.YteglaenjmeocmaaTncAny
import Derived.Lib.QuietBelow
import Derived.IntWalk
import Derived.BigQuiet
import Derived.Deep.QuietTactic
namespace Go.Proofs.Yteglaenjmeocmaa
open Go.RowKit Go.Sort
/-- a draw wins -/
def winD (p : Par) (n : Int) : Bool := p.ok && decide (n % 256 ≤ p.b)
def usualP : Par := ⟨2, 63, 1, 1, false⟩
def UsualOk : Prop := ∀ w, Calls Try.prog 17 #[] w fun e w' => e = .returned usualP.v ∧ Below w.heap.size w w'
def ApplyOk : Prop := ∀ p port cmd s w, Calls Try.prog 7 #[Par.v p, .agg #[.int .i64 port, .int .i64 cmd, .string s]] w fun e w' => e = .returned (parE (appD p port cmd s.data.toList)) ∧ Below w.heap.size w w'
def RightOk : Prop := ∀ p w, Calls Try.prog 10 #[Par.v p] w fun e w' => e = .returned (.bool p.ok) ∧ Below w.heap.size w w'
def WinsOk : Prop := ∀ p n w, Calls Try.prog 16 #[Par.v p, .int .i64 n] w fun e w' => e = .returned (.bool (winD p n)) ∧ Below w.heap.size w w'
set_option maxHeartbeats 400000 in
theorem tawake_any (hU : UsualOk) (hA : ApplyOk) (hW : WinsOk) (w : World) :
    Calls Try.prog 6 #[] w fun e w' => e = .returned (.bool true) ∧ Below w.heap.size w w' := by
  have HU := Lib.hid (fun W => (show Calls Try.prog 17 #[] W (fun e w' => e = .returned (.agg #[.int .i64 2, .int .i64 63, .int .i64 1, .int .i64 1, .bool false]) ∧ Below W.heap.size W w') from hU W))
  have HA := Lib.hid (fun W => (show Calls Try.prog 7 #[.agg #[.int .i64 2, .int .i64 63, .int .i64 1, .int .i64 1, .bool false], .agg #[.int .i64 0, .int .i64 2, .string ⟨#[255]⟩]] W (fun e w' => e = .returned (.tuple #[.agg #[.int .i64 2, .int .i64 255, .int .i64 1, .int .i64 1, .bool false], .int .i64 0]) ∧ Below W.heap.size W w') from hA usualP 0 2 ⟨#[255]⟩ W))
  have HW1 := Lib.hid (fun W => (show Calls Try.prog 16 #[.agg #[.int .i64 2, .int .i64 255, .int .i64 1, .int .i64 1, .bool false], .int .i64 255] W (fun e w' => e = .returned (.bool true) ∧ Below W.heap.size W w') from hW ⟨2, 255, 1, 1, false⟩ 255 W))
  have HW2 := Lib.hid (fun W => (show Calls Try.prog 16 #[.agg #[.int .i64 2, .int .i64 63, .int .i64 1, .int .i64 1, .bool false], .int .i64 64] W (fun e w' => e = .returned (.bool false) ∧ Below W.heap.size W w') from hW usualP 64 W))
  have HW3 := Lib.hid (fun W => (show Calls Try.prog 16 #[.agg #[.int .i64 2, .int .i64 63, .int .i64 1, .int .i64 1, .bool false], .int .i64 63] W (fun e w' => e = .returned (.bool true) ∧ Below W.heap.size W w') from hW usualP 63 W))
  clear hU hA hW
  have HB := Lib.hid (Below.refl w.heap.size w)
  go_enter Try.func6, Try.ntmps6
  go_wp2_with (first
    | (go_at_call 17; refine (HU.out _).mono ?_; rintro e w1 ⟨rfl, hb⟩; replace HB := Lib.hid (HB.out.trans (hb.mono HB.out.size)); clear hb)
    | (go_at_call 7; refine (HA.out _).mono ?_; rintro e w1 ⟨rfl, hb⟩; replace HB := Lib.hid (HB.out.trans (hb.mono HB.out.size)); clear hb)
    | (go_at_call 16; ((with_reducible refine (HW1.out _).mono ?_); rintro e w1 ⟨rfl, hb⟩; replace HB := Lib.hid ((HB.out.alloc HB.out.size _).trans (hb.mono (by have := HB.out.size; simp; omega))); clear hb))
    | (go_at_call 16; ((with_reducible refine (HW2.out _).mono ?_); rintro e w1 ⟨rfl, hb⟩; replace HB := Lib.hid (HB.out.trans (hb.mono HB.out.size)); clear hb))
    | (go_at_call 16; ((with_reducible refine (HW3.out _).mono ?_); rintro e w1 ⟨rfl, hb⟩; replace HB := Lib.hid (HB.out.trans (hb.mono HB.out.size)); clear hb)))
  go_ret
  exact ⟨rfl, HB.out⟩
/-- draws below k that win -/
def wonD (p : Par) (k : Nat) : Nat := ((List.range k).filter fun (i : Nat) => winD p (i : Int)).length
theorem wonD_next (p : Par) (k : Nat) : wonD p (k + 1) = wonD p k + if winD p k then 1 else 0 := by
  unfold wonD
  rw [List.range_succ, List.filter_append, List.length_append]
  by_cases h : winD p k <;> simp [h]
theorem wonD_le (p : Par) (k : Nat) : wonD p k ≤ k := by
  unfold wonD
  have := List.length_filter_le (fun (i : Nat) => winD p (i : Int)) (List.range k)
  simpa using this
theorem wonD_at (p : Par) (hok : p.ok = true) (k : Nat) (hk : k ≤ 256) : (wonD p k : Int) = if (k : Int) ≤ p.b + 1 then (k : Int) else p.b + 1 := by
  have hb : 0 ≤ p.b ∧ p.b ≤ 255 := by
    simp only [Par.ok, Bool.and_eq_true] at hok
    exact (okN_iff p.b).1 hok.1.1.2
  induction k with
  | zero => simp [wonD]; omega
  | succ k ih =>
    have ih := ih (by omega)
    have hm : (k : Int) % 256 = k := by omega
    have hw : winD p k = decide ((k : Int) ≤ p.b) := by simp [winD, hok, hm]
    rw [wonD_next, hw]
    by_cases h : (k : Int) ≤ p.b
    · rw [if_pos (by omega)] at ih
      rw [decide_eq_true h, if_pos rfl, if_pos (show ((k + 1 : Nat) : Int) ≤ p.b + 1 by omega)]
      omega
    · have h3 : (wonD p k : Int) = p.b + 1 := by
        by_cases h2 : (k : Int) ≤ p.b + 1
        · rw [if_pos h2] at ih; omega
        · rw [if_neg h2] at ih; exact ih
      rw [decide_eq_false h, if_neg (by simp), if_neg (show ¬ ((k + 1 : Nat) : Int) ≤ p.b + 1 by omega)]
      omega
theorem wonD_all (p : Par) (hok : p.ok = true) : (wonD p 256 : Int) = p.b + 1 := by
  have hb : 0 ≤ p.b ∧ p.b ≤ 255 := by
    simp only [Par.ok, Bool.and_eq_true] at hok
    exact (okN_iff p.b).1 hok.1.1.2
  rw [wonD_at p hok 256 (by omega)]
  split <;> omega
theorem par_cells (p : Par) (w : World) (T : TypeId) : (w.alloc (.cells #[.int .i64 p.a, .int .i64 p.b, .int .i64 p.c, .int .i64 p.d, .bool p.f] T)).cell? ⟨w.heap.size, 0, none⟩ = some (.int .i64 p.a) ∧ (w.alloc (.cells #[.int .i64 p.a, .int .i64 p.b, .int .i64 p.c, .int .i64 p.d, .bool p.f] T)).cell? ⟨w.heap.size, 1, none⟩ = some (.int .i64 p.b) ∧
    (w.alloc (.cells #[.int .i64 p.a, .int .i64 p.b, .int .i64 p.c, .int .i64 p.d, .bool p.f] T)).cell? ⟨w.heap.size, 2, none⟩ = some (.int .i64 p.c) ∧ (w.alloc (.cells #[.int .i64 p.a, .int .i64 p.b, .int .i64 p.c, .int .i64 p.d, .bool p.f] T)).cell? ⟨w.heap.size, 3, none⟩ = some (.int .i64 p.d) ∧
    (w.alloc (.cells #[.int .i64 p.a, .int .i64 p.b, .int .i64 p.c, .int .i64 p.d, .bool p.f] T)).cell? ⟨w.heap.size, 4, none⟩ = some (.bool p.f) := by
  refine ⟨?_, ?_, ?_, ?_, ?_⟩ <;> (rw [World.cell?_alloc_new]; rfl)
/-- the five cells of parameters -/
def ParAt (w : World) (n : Nat) (p : Par) : Prop := w.cell? ⟨n, 0, none⟩ = some (.int .i64 p.a) ∧ w.cell? ⟨n, 1, none⟩ = some (.int .i64 p.b) ∧ w.cell? ⟨n, 2, none⟩ = some (.int .i64 p.c) ∧ w.cell? ⟨n, 3, none⟩ = some (.int .i64 p.d) ∧ w.cell? ⟨n, 4, none⟩ = some (.bool p.f)
theorem ParAt.below {w w' : World} {n B : Nat} {p : Par} (h : ParAt w n p) (hn : n < B) (hb : Below B w w') : ParAt w' n p := by
  obtain ⟨a, b, c, d, e⟩ := h
  exact ⟨(hb.cell (p := ⟨n, 0, none⟩) hn).trans a, (hb.cell (p := ⟨n, 1, none⟩) hn).trans b, (hb.cell (p := ⟨n, 2, none⟩) hn).trans c, (hb.cell (p := ⟨n, 3, none⟩) hn).trans d, (hb.cell (p := ⟨n, 4, none⟩) hn).trans e⟩
theorem and_255 (n : Int) : bits BinOp.and IntKind.i64 n 255 = n % 256 := by
  have e : (BitVec.ofInt 64 255).toNat = 2 ^ 8 - 1 := by decide
  have h : bits BinOp.and IntKind.i64 n 255 = IntKind.i64.wrap (((BitVec.ofInt 64 n).toNat &&& (2 ^ 8 - 1) : Nat) : Int) := by
    rw [← e, ← BitVec.toNat_and]; rfl
  rw [h, Nat.and_two_pow_sub_one_eq_mod, BitVec.toNat_ofInt, IntKind.wrap_i64]
  omega
set_option maxHeartbeats 1000000 in
set_option maxRecDepth 100000 in
theorem twins_core (hU : UsualOk) (hA : ApplyOk) (hW : WinsOk) (p : Par) (n : Int) (w : World) :
    Calls Try.prog 5 #[p.v, .int .i64 n] w fun e w' => e = .returned (.bool true) ∧ Below w.heap.size w w' := by
  have HAW := Lib.hid (fun W => tawake_any hU hA hW W)
  have HW := Lib.hid hW
  have hwa := wonD_all p
  have hpc : ParAt (w.alloc (.cells #[.int .i64 p.a, .int .i64 p.b, .int .i64 p.c, .int .i64 p.d, .bool p.f] 23)) w.heap.size p := par_cells p w _
  have HPC := Lib.hid hpc
  have HR := Lib.hid (fun W => rright_any p W)
  have HP := Lib.hid (fun W => plain_par p W)
  have hb2 : p.ok = true → 0 ≤ p.b ∧ p.b ≤ 255 := fun hok => by
    simp only [Par.ok, Bool.and_eq_true] at hok
    exact (okN_iff p.b).1 hok.1.1.2
  obtain ⟨a, b, c, d, f⟩ := p
  simp only [Par.v] at HPC HR HP
  cases hok : Par.ok ⟨a, b, c, d, f⟩
  · have HWN := Lib.hid (fun W => (show Calls Try.prog 16 #[.agg #[.int .i64 a, .int .i64 b, .int .i64 c, .int .i64 d, .bool f], .int .i64 n] W (fun e w' => e = .returned (.bool false) ∧ Below W.heap.size W w') from by
      have h := HW.out ⟨a, b, c, d, f⟩ n W
      simp only [winD, hok, Bool.false_and] at h
      exact h))
    rw [hok] at HR
    clear hwa hb2 hU hA hW hpc hok
    show Calls Try.prog 5 #[.agg #[.int .i64 a, .int .i64 b, .int .i64 c, .int .i64 d, .bool f], .int .i64 n] w _
    go_enter Try.func5, Try.ntmps5
    go_wp2_with (first
      | (go_at_call 6; refine (HAW.out _).mono ?_; rintro e w1 ⟨rfl, hb⟩; obtain ⟨k0, k1, k2, k3, k4⟩ := HPC.out.below (by simp) hb; have HB := Lib.hid (((Below.refl _ w).alloc (Nat.le_refl _) _).trans (hb.mono (by simp))); have HC := Lib.hid hb; clear hb)
      | (go_at_call 9; refine (HP.out _).mono ?_; rintro e w1 ⟨rfl, hb⟩; obtain ⟨k0, k1, k2, k3, k4⟩ := HPC.out.below (by simp) (HC.out.trans (hb.mono HC.out.size)); replace HB := Lib.hid (HB.out.trans (hb.mono HB.out.size)); replace HC := Lib.hid (HC.out.trans (hb.mono HC.out.size)); clear hb)
      | (go_at_call 11; refine (HR.out _).mono ?_; rintro e w1 ⟨rfl, hb⟩; obtain ⟨k0, k1, k2, k3, k4⟩ := HPC.out.below (by simp) (HC.out.trans (hb.mono HC.out.size)); replace HB := Lib.hid (HB.out.trans (hb.mono HB.out.size)); replace HC := Lib.hid (HC.out.trans (hb.mono HC.out.size)); clear hb)
      | (go_at_call 16; refine (HWN.out _).mono ?_; rintro e w1 ⟨rfl, hb⟩; replace HB := Lib.hid (HB.out.trans (hb.mono HB.out.size)); clear hb))
    go_ret
    exact ⟨rfl, HB.out⟩
  · have HWN := Lib.hid (fun (i : Int) W => (show Calls Try.prog 16 #[.agg #[.int .i64 a, .int .i64 b, .int .i64 c, .int .i64 d, .bool f], .int .i64 i] W (fun e w' => e = .returned (.bool (winD ⟨a, b, c, d, f⟩ i)) ∧ Below W.heap.size W w') from HW.out ⟨a, b, c, d, f⟩ i W))
    rw [hok] at HR
    have hb3 := hb2 hok
    simp only at hb3
    obtain ⟨hb4, hb5⟩ := hb3
    have HWA := Lib.hid (hwa hok)
    have HWD := Lib.hid (show winD ⟨a, b, c, d, f⟩ n = decide (n % 256 ≤ b) by simp [winD, hok])
    have HNX := Lib.hid (wonD_next ⟨a, b, c, d, f⟩)
    have HLE := Lib.hid (wonD_le ⟨a, b, c, d, f⟩)
    clear hwa hb2 hU hA hW hpc hok HW
    show Calls Try.prog 5 #[.agg #[.int .i64 a, .int .i64 b, .int .i64 c, .int .i64 d, .bool f], .int .i64 n] w _
    go_enter Try.func5, Try.ntmps5
    go_wp2_with (first
      | (go_at_call 6; refine (HAW.out _).mono ?_; rintro e w1 ⟨rfl, hb⟩; obtain ⟨k0, k1, k2, k3, k4⟩ := HPC.out.below (by simp) hb; have HC := Lib.hid hb; clear hb)
      | (go_at_call 9; refine (HP.out _).mono ?_; rintro e w1 ⟨rfl, hb⟩; obtain ⟨k0, k1, k2, k3, k4⟩ := HPC.out.below (by simp) (HC.out.trans (hb.mono HC.out.size)); replace HC := Lib.hid (HC.out.trans (hb.mono HC.out.size)); clear hb)
      | (go_at_call 11; refine (HR.out _).mono ?_; rintro e w1 ⟨rfl, hb⟩; replace HC := Lib.hid (HC.out.trans (hb.mono HC.out.size)); clear hb))
    clear k0 k1 k2 k3 k4
    go_loopw [5, 6] (fun s i wx => ∃ k : Nat, k ≤ 256 ∧ i = .int .i64 k ∧ s = .int .i64 (wonD ⟨a, b, c, d, f⟩ k) ∧ Hid (Below (w.alloc (.cells #[.int .i64 a, .int .i64 b, .int .i64 c, .int .i64 d, .bool f] 23)).heap.size (w.alloc (.cells #[.int .i64 a, .int .i64 b, .int .i64 c, .int .i64 d, .bool f] 23)) wx)) (fun _ i _ => 256 - (intOf i).toNat)
    case atStart => exact ⟨0, by omega, rfl, rfl, HC.out⟩
    case round =>
      obtain ⟨k, hk, rfl, rfl, HK⟩ := hrel
      obtain ⟨k0, k1, k2, k3, k4⟩ := HPC.out.below (by simp) HK.out
      clear HC
      by_cases hlt : k < 256
      · have hnx := HNX.out k
        have hle := HLE.out k
        cases hwk : winD ⟨a, b, c, d, f⟩ k
        all_goals
          rw [hwk] at hnx
          have HWK := Lib.hid (HWN.out k)
          rw [hwk] at HWK
          have HNK := Lib.hid hnx
          clear hnx hwk
          go_wp2_with (first
            | (go_at_call 16; refine (HWK.out _).mono ?_; rintro e w1 ⟨rfl, hb⟩; replace HK := Lib.hid (HK.out.trans (hb.mono HK.out.size)); clear hb))
          go_roundw
          case rel => exact ⟨k + 1, by omega, by go_num, by rw [HNK.out]; go_num, HK.out⟩
          case measure => simp [intOf]; omega
      · obtain rfl : k = 256 := by omega
        go_wp2
        have hwa2 : (((wonD ⟨a, b, c, d, f⟩ 256 : Nat) : Int) == b + 1) = true := by rw [beq_iff_eq]; exact HWA.out
        have HW9 := Lib.hid (HWN.out n)
        rw [HWD.out] at HW9
        have g0 := fun d' os => cell_regrown k0 d' os
        have g1 := fun d' os => cell_regrown k1 d' os
        have g2 := fun d' os => cell_regrown k2 d' os
        have g3 := fun d' os => cell_regrown k3 d' os
        have g4 := fun d' os => cell_regrown k4 d' os
        have hand := and_255 n
        have hwr : IntKind.i64.wrap (b + 1) = b + 1 := IntWalk.i64_in _ (by omega)
        generalize wonD ⟨a, b, c, d, f⟩ 256 = won at *
        refine wp_region_quiet_below (by kernel_rfl) (by kernel_rfl) ?_
        repeat (quiet_step (exact Calls.regrown_of (HW9.out _)))
        refine wpQuiet_nil ?_
        intro _ hw'
        obtain ⟨pg, hw''⟩ := hw'
        subst hw''
        have HE := Lib.hid (below_regrown wr pg.d pg.os)
        generalize grow (redrawn wr pg.d) pg.os = w9 at *
        go_wp2
        go_ret
        exact ⟨rfl, ((Below.refl _ w).alloc (Nat.le_refl _) _).trans ((HK.out.trans (HE.out.mono HK.out.size)).mono (by simp))⟩
end Go.Proofs.Yteglaenjmeocmaa
