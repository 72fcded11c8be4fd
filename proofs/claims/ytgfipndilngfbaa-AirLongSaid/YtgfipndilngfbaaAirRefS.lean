/-
The document's plane: Stand where a station may; New.
-/
import Derived.Test.YtgfipndilngfbaaAirRefP
import Derived.Laws.MakeOwn
namespace Go.Proofs.Ytgfipndilngfbaa
open Go.RowKit
set_option maxRecDepth 20000
set_option maxHeartbeats 1000000 in
theorem stand14 (q n : Nat) (F : Nat → Prop) (k : Nat) (i x y r : Int) (a b : Nat) (ha : Fl a x) (hb : Fl b y) (hi : i = k + 1) (hk : k < n) (hn : n ≤ 16) (hx : -1000 ≤ x ∧ x ≤ 1000) (hy : -1000 ≤ y ∧ y ≤ 1000) (hr : 0 ≤ r ∧ r ≤ 4000) (w : World) (h : RefPl w q n F) :
    Calls Try.prog 17 #[.pointer (some ⟨q, 0, none⟩), .int .i64 i, .float .f64 a, .float .f64 b, .int .i64 r] w fun e w' => e = .returned (.int .i64 0) ∧ RefPl w' q n F ∧ Turn F w w' := by
  have HH := Lib.hid (fun W h => has14 q n F i (by omega) W h)
  have HA := Lib.hid (fun W => whole14 a x ha hx W)
  have HB := Lib.hid (fun W => whole14 b y hb hy W)
  have HP := Lib.hid (fun W h => put14 q n F k i x y hi hk hn hx hy W h)
  have hh := h
  obtain ⟨gx, gy, gr, cx, cy, cr, h, rfl⟩ := h
  have hz : wrap64 (i - 1) = k := by rw [hi]; rw [show (k : Int) + 1 - 1 = k by omega]; exact IntWalk.wrap64_in _ (by omega)
  have a0 : decide (r < 0) = false := decide_eq_false (by omega)
  have a1 : decide (4000 < r) = false := decide_eq_false (by omega)
  have x2 := h.k2.cell
  obtain ⟨⟨z0, y0⟩, f0⟩ := h.i2.cell k hk
  have HS := Lib.hid (show RefPl (w.setCell ⟨gr, k, none⟩ (.int .i64 r)) q n (refF q gx gy gr) from ⟨gx, gy, gr, cx, cy, cr, h.put h.n2 k hk r, rfl⟩)
  have HT := Lib.hid ((Turn.refl (refF q gx gy gr) w).set (p := ⟨gr, k, none⟩) (Or.inl (Or.inr (Or.inr (Or.inr rfl)))) (.int .i64 r))
  have HX := Lib.hid hh
  clear hi hx hy hr h hh ha hb
  go_enter Try.func17, Try.ntmps17
  go_upto_region 4 with (first
    | (go_at_call 32; (with_reducible refine (HH.out _ HX.out).mono ?_); rintro e w ⟨rfl, rfl⟩)
    | (go_at_call 33; (with_reducible refine (HA.out _).mono ?_); rintro e w ⟨rfl, rfl⟩))
  go_wp2_with (first
    | (go_at_call 33; (with_reducible refine (HB.out _).mono ?_); rintro e w ⟨rfl, rfl⟩)
    | (go_at_call 34; (with_reducible refine (HP.out _ HS.out).mono ?_); rintro e w2 ⟨rfl, k1, k2⟩; have HE := Lib.hid (And.intro k1 (HT.out.trans k2 (Grew.refl _ _))); clear k1 k2))
  exact bodyPost_ret (v := .int .i64 0) (by simp [results, Try.results17, go_sem]) rfl ⟨rfl, HE.out⟩
/-- zeros -/
theorem info_int : (Try.prog.info? 3).map (fun i => (i.zero, i.size, i.bytes)) = some (some (.int .i64 0), 1, 8) := by kernel_rfl
theorem made_ints (k : Nat) (h : 1 ≤ k ∧ k ≤ 16) : madeCells (Value.int .i64 0).cells (k * 1) = (flatE encI (List.replicate k 0)).toArray := by
  obtain rfl | rfl | rfl | rfl | rfl | rfl | rfl | rfl | rfl | rfl | rfl | rfl | rfl | rfl | rfl | rfl : k = 1 ∨ k = 2 ∨ k = 3 ∨ k = 4 ∨ k = 5 ∨ k = 6 ∨ k = 7 ∨ k = 8 ∨ k = 9 ∨ k = 10 ∨ k = 11 ∨ k = 12 ∨ k = 13 ∨ k = 14 ∨ k = 15 ∨ k = 16 := by omega
  all_goals kernel_rfl
theorem run_ints (k : Nat) (n : Int) (hn : n = k) (h : 1 ≤ k ∧ k ≤ 16) (W : World) :
    ∃ W', (Instr.makeSlice 62 (.int .i64 n) (.int .i64 n)).run Try.prog W = .ok (.slice (some ⟨W.heap.size, 0, none⟩) k k) W' ∧ IntsAt W' W.heap.size k k ∧ Below W.heap.size W W' := by
  subst hn
  obtain ⟨i0, hi0, hz0, hz1, hz2⟩ := info_parts info_int
  have hr := run_make W 62 3 i0 _ Try.underlying62 hi0 hz0 .i64 .i64 (k : Int) (k : Int) (by omega) (by omega) (by rw [hz2]; omega) (by omega)
  rw [Int.toNat_natCast, hz1, made_ints k h] at hr
  refine ⟨_, hr, ⟨List.replicate k 0, by simp, ?_⟩, (Below.refl _ W).alloc (Nat.le_refl _) _⟩
  exact OwnL.lit encI 3 W 0 (List.replicate k 0) _ rfl (Nat.zero_le _) (by simp; omega) k (by simp)
/-- its cells at first -/
def zero78 : Array Value := (List.replicate 3 (Value.slice none 0 0) ++ List.replicate 289 (Value.bool false)).toArray
theorem zero78_run (W : World) : (zeroValue 79).run Try.prog W = .ok (.agg zero78) W := by kernel_rfl
abbrev cells78 (s0 s1 s2 : Value) : Array Value := ((zero78.setIfInBounds 0 s0).setIfInBounds 1 s1).setIfInBounds 2 s2
theorem cells78_at (s0 s1 s2 : Value) : (cells78 s0 s1 s2)[0]? = some s0 ∧ (cells78 s0 s1 s2)[1]? = some s1 ∧ (cells78 s0 s1 s2)[2]? = some s2 := by
  refine ⟨?_, ?_, ?_⟩ <;> simp [cells78, zero78]
/-- what is told while it is made -/
def newPhi (B k : Nat) (n : Int) (j : Nat) (v : Value) (w : World) : Prop :=
  match j with
  | 0 => v = .int .i64 n
  | 2 => v = .int .i64 n
  | 4 => v = .int .i64 n
  | 1 => ∃ g, v = .slice (some ⟨g, 0, none⟩) k k ∧ IntsAt w g k k ∧ B ≤ g
  | 3 => ∃ g, v = .slice (some ⟨g, 0, none⟩) k k ∧ IntsAt w g k k ∧ B ≤ g
  | 5 => ∃ g, v = .slice (some ⟨g, 0, none⟩) k k ∧ IntsAt w g k k ∧ B ≤ g
  | 6 => ∃ g0 g1 g2, v = .agg (cells78 (.slice (some ⟨g0, 0, none⟩) k k) (.slice (some ⟨g1, 0, none⟩) k k) (.slice (some ⟨g2, 0, none⟩) k k)) ∧ (IntsAt w g0 k k ∧ B ≤ g0) ∧ (IntsAt w g1 k k ∧ B ≤ g1) ∧ IntsAt w g2 k k ∧ B ≤ g2
  | _ => ∃ q F, v = .pointer (some ⟨q, 0, none⟩) ∧ RefPl w q k F ∧ ∀ b, F b → B ≤ b
theorem newPhi_stay (B k : Nat) (n : Int) (j : Nat) (v : Value) (w w' : World) (hb : Below w.heap.size w w') (h : newPhi B k n j v w) : newPhi B k n j v w' := by
  unfold newPhi at *
  split at h
  · exact h
  · exact h
  · exact h
  · obtain ⟨g, h1, h2, h3⟩ := h
    exact ⟨g, h1, h2.below hb, h3⟩
  · obtain ⟨g, h1, h2, h3⟩ := h
    exact ⟨g, h1, h2.below hb, h3⟩
  · obtain ⟨g, h1, h2, h3⟩ := h
    exact ⟨g, h1, h2.below hb, h3⟩
  · obtain ⟨g0, g1, g2, h1, ⟨h2, h3⟩, ⟨h4, h5⟩, h6, h7⟩ := h
    exact ⟨g0, g1, g2, h1, ⟨h2.below hb, h3⟩, ⟨h4.below hb, h5⟩, h6.below hb, h7⟩
  · obtain ⟨q, F, h1, h2, h3⟩ := h
    exact ⟨q, F, h1, h2.below hb, h3⟩
/-- the plane's box -/
theorem ref_box (W : World) (B k g0 g1 g2 : Nat) (hB : B ≤ W.heap.size) (h0 : IntsAt W g0 k k ∧ B ≤ g0) (h1 : IntsAt W g1 k k ∧ B ≤ g1) (h2 : IntsAt W g2 k k ∧ B ≤ g2) :
    RefPl (W.alloc (.cells (cells78 (.slice (some ⟨g0, 0, none⟩) k k) (.slice (some ⟨g1, 0, none⟩) k k) (.slice (some ⟨g2, 0, none⟩) k k)) 79)) W.heap.size k (refF W.heap.size g0 g1 g2) ∧ ∀ b, refF W.heap.size g0 g1 g2 b → B ≤ b := by
  obtain ⟨c0, c1, c2⟩ := cells78_at (.slice (some ⟨g0, 0, none⟩) k k) (.slice (some ⟨g1, 0, none⟩) k k) (.slice (some ⟨g2, 0, none⟩) k k)
  generalize cells78 (.slice (some ⟨g0, 0, none⟩) k k) (.slice (some ⟨g1, 0, none⟩) k k) (.slice (some ⟨g2, 0, none⟩) k k) = C at *
  have hb : ∀ o, Below W.heap.size W (W.alloc o) := fun o => (Below.refl _ W).alloc (Nat.le_refl _) o
  have ne : ∀ g, IntsAt W g k k → g ≠ W.heap.size := fun g h => Nat.ne_of_lt h.lt
  refine ⟨⟨g0, g1, g2, k, k, k, ⟨?_, ?_, ?_, h0.1.below (hb _), h1.1.below (hb _), h2.1.below (hb _), ne _ h0.1, ne _ h1.1, ne _ h2.1⟩, rfl⟩, ?_⟩
  · exact ⟨(World.cell?_alloc_at _ _ _ _ rfl).trans c0, World.frozen?_alloc_at _ _ _ _ rfl, by simp⟩
  · exact ⟨(World.cell?_alloc_at _ _ _ _ rfl).trans c1, World.frozen?_alloc_at _ _ _ _ rfl, by simp⟩
  · exact ⟨(World.cell?_alloc_at _ _ _ _ rfl).trans c2, World.frozen?_alloc_at _ _ _ _ rfl, by simp⟩
  · rintro b (rfl | rfl | rfl | rfl)
    · exact hB
    · exact h0.2
    · exact h1.2
    · exact h2.2
set_option maxHeartbeats 2000000 in
theorem new14 (k : Nat) (n : Int) (hn : n = k) (h : 1 ≤ k ∧ k ≤ 16) (w : World) : Calls Try.prog 15 #[.int .i64 n] w fun e w' =>
    ∃ q F, e = .returned (.pointer (some ⟨q, 0, none⟩)) ∧ RefPl w' q k F ∧ (∀ b, F b → w.heap.size ≤ b) ∧ Below w.heap.size w w' := by
  have HI := Lib.hid (fun W => run_ints k n hn h W)
  have d0 : decide (n < 1) = false := decide_eq_false (by omega)
  have d1 : decide (16 < n) = false := decide_eq_false (by omega)
  have hzz := zero78_run
  have HBX := Lib.hid (fun W g0 g1 g2 => ref_box W w.heap.size k g0 g1 g2)
  clear hn h
  go_enter Try.func15, Try.ntmps15
  go_upto_region 3 with fail
  refine wp_region_facts (fun W W' => Below W.heap.size W W') (fun W => Below w.heap.size w W) (newPhi w.heap.size k n) (by kernel_rfl) (by kernel_rfl) (newPhi_stay w.heap.size k n) (fun W W' hb h => h.trans (hb.mono h.size))
    (fun i => if i = 8 then .pointer none else undef) (by kernel_rfl) ((Below.refl _ w).drew) ?F1 ?hF1 ?hstep1 ?hend1
  case hF1 =>
    intro u
    simp only [fillAct]
    go_simp
    rfl
  case hstep1 =>
    refine FSteps.cons ?_ ?_
    · intro u W hS hd K hK
      clear hd
      simp only [upd, reduceIte, Nat.reduceEqDiff] at hK
      go_simp
      exact hK.out _ _ (Below.refl _ _) rfl
    refine FSteps.cons ?_ ?_
    · intro u W hS hd K hK
      have h0 : u 0 = _ := hd 0 rfl
      clear hd
      simp only [upd, h0, reduceIte, Nat.reduceEqDiff] at hK
      obtain ⟨W', hr, hI, hb⟩ := HI.out W
      go_simp
      exact hK.out _ _ hb ⟨W.heap.size, rfl, hI, hS.size⟩
    refine FSteps.cons ?_ ?_
    · intro u W hS hd K hK
      clear hd
      simp only [upd, reduceIte, Nat.reduceEqDiff] at hK
      go_simp
      exact hK.out _ _ (Below.refl _ _) rfl
    refine FSteps.cons ?_ ?_
    · intro u W hS hd K hK
      have h2 : u 2 = _ := hd 2 rfl
      clear hd
      simp only [upd, h2, reduceIte, Nat.reduceEqDiff] at hK
      obtain ⟨W', hr, hI, hb⟩ := HI.out W
      go_simp
      exact hK.out _ _ hb ⟨W.heap.size, rfl, hI, hS.size⟩
    refine FSteps.cons ?_ ?_
    · intro u W hS hd K hK
      clear hd
      simp only [upd, reduceIte, Nat.reduceEqDiff] at hK
      go_simp
      exact hK.out _ _ (Below.refl _ _) rfl
    refine FSteps.cons ?_ ?_
    · intro u W hS hd K hK
      have h4 : u 4 = _ := hd 4 rfl
      clear hd
      simp only [upd, h4, reduceIte, Nat.reduceEqDiff] at hK
      obtain ⟨W', hr, hI, hb⟩ := HI.out W
      go_simp
      exact hK.out _ _ hb ⟨W.heap.size, rfl, hI, hS.size⟩
    refine FSteps.cons ?_ ?_
    · intro u W hS hd K hK
      obtain ⟨g1, h1, i1, b1⟩ := hd 1 rfl
      obtain ⟨g3, h3, i3, b3⟩ := hd 3 rfl
      obtain ⟨g5, h5, i5, b5⟩ := hd 5 rfl
      clear hd
      simp only [upd, h1, h3, h5, reduceIte, Nat.reduceEqDiff] at hK
      go_simp
      exact hK.out _ _ (Below.refl _ _) ⟨g1, g3, g5, rfl, ⟨i1, b1⟩, ⟨i3, b3⟩, i5, b5⟩
    refine FSteps.cons ?_ ?_
    · intro u W hS hd K hK
      obtain ⟨g0, g1, g2, h6, i0, i1, i2⟩ := hd 6 rfl
      clear hd
      simp only [upd, h6, reduceIte, Nat.reduceEqDiff] at hK
      obtain ⟨k1, k2⟩ := HBX.out W g0 g1 g2 hS.size i0 i1 i2
      go_simp
      exact hK.out _ _ ((Below.refl _ _).alloc (Nat.le_refl _) _) ⟨W.heap.size, _, rfl, k1, k2⟩
    refine FSteps.cons ?_ ?_
    · intro u W hS hd K hK
      obtain ⟨q, F, h7, k1, k2⟩ := hd 7 rfl
      clear hd
      simp only [upd, h7, reduceIte, Nat.reduceEqDiff] at hK
      go_simp
      exact hK.out _ _ (Below.refl _ _) ⟨q, F, rfl, k1, k2⟩
    exact trivial
  case hend1 =>
    intro u w6 hS hd
    obtain ⟨q, F, h8, k1, k2⟩ := hd 8 rfl
    rw [h8]
    have HE := Lib.hid (And.intro k1 (And.intro k2 hS))
    clear hd hS h8 k1 k2
    go_wp2_with fail
    exact bodyPost_ret (v := .pointer (some ⟨q, 0, none⟩)) (by simp [results, Try.results15, go_sem]) rfl ⟨q, F, rfl, HE.out⟩
end Go.Proofs.Ytgfipndilngfbaa
