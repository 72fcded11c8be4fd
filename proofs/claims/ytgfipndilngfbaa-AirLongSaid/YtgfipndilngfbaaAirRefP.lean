/-
The document's plane: Whole, has, put, Stand: a station may stand there.
-/
import Derived.Test.YtgfipndilngfbaaPlcApart
import Derived.Test.YtgfipndilngfbaaInts
import Derived.Test.YtgfipndilngfbaaFactsUpto
import Derived.Deep.RegionHeld
import Derived.Deep.DeepCutAuto
namespace Go.Proofs.Ytgfipndilngfbaa
open Go.RowKit
set_option maxRecDepth 20000
theorem Fl.m4000 : Fl 13884386544950706176 (-4000) := fl_word _ (4000 * 2 ^ 41) (-41) 4000 true (by kernel_rfl) ⟨by decide, by decide⟩ (-4000) rfl (by decide)
theorem Fl.p4000 : Fl 4661014508095930368 4000 := fl_word _ (4000 * 2 ^ 41) (-41) 4000 false (by kernel_rfl) ⟨by decide, by decide⟩ 4000 rfl (by decide)
theorem whole14 (b : Nat) (x : Int) (hb : Fl b x) (h : -1000 ≤ x ∧ x ≤ 1000) (w : World) :
    Calls Try.prog 33 #[.float .f64 b, .int .i64 1000] w fun e w' => e = .returned (.tuple #[.int .i64 x, .bool true]) ∧ w' = w := by
  obtain ⟨c1, c2, c3⟩ := isF_cmp hb.is Fl.m4000.is
  obtain ⟨d1, d2, d3⟩ := isF_cmp hb.is Fl.p4000.is
  rw [decide_eq_false (show ¬ x = -4000 by omega)] at c1
  rw [decide_eq_true (show -4000 < x by omega)] at c3
  rw [decide_eq_false (show ¬ x = 4000 by omega)] at d1
  rw [decide_eq_true (show x < 4000 by omega)] at d2
  have e1 := fun W => fl_int hb (by omega) W
  have g := Fl.ofInt x (by omega)
  obtain ⟨f, hf⟩ : ∃ f, floatOfInt .f64 x = f := ⟨_, rfl⟩
  rw [hf] at g
  have e2 : (FloatKind.f64.format.order f b == some .eq) = true := (g.eq hb).trans (decide_eq_true rfl)
  have k1 : decide (-1000 ≤ x) = true := decide_eq_true h.1
  have k2 : decide (x ≤ 1000) = true := decide_eq_true h.2
  clear c2 d3 g h hb
  go_enter Try.func33, Try.ntmps33
  go_wp2
  exact bodyPost_ret (v := .tuple #[.int .i64 x, .bool true]) (by simp [results, Try.results33, go_sem]) rfl ⟨rfl, rfl⟩
/-- a slice of so many ints, whatever they are -/
def IntsAt (w : World) (g n c : Nat) : Prop := ∃ L : List Int, L.length = n ∧ OwnL encI 3 w 0 (.slice (some ⟨g, 0, none⟩) n c) L
section
variable {w w' : World} {g n c : Nat}
theorem IntsAt.lt (h : IntsAt w g n c) : g < w.heap.size := by
  obtain ⟨L, rfl, h⟩ := h
  exact (h.ge rfl).2
theorem IntsAt.same (h : IntsAt w g n c) (e : w'.heap[g]? = w.heap[g]?) : IntsAt w' g n c := by
  obtain ⟨L, hl, h⟩ := h
  refine ⟨L, hl, h.same fun k hk => ?_⟩
  simp only [Value.ownBlock, Option.some.injEq] at hk
  subst hk
  exact e
theorem IntsAt.below (h : IntsAt w g n c) (hb : Below w.heap.size w w') : IntsAt w' g n c := h.same (hb.block g h.lt)
theorem IntsAt.cell (h : IntsAt w g n c) (o : Nat) (ho : o < n) : (∃ z, w.cell? ⟨g, o, none⟩ = some (.int .i64 z)) ∧ w.frozen? ⟨g, o, none⟩ = false := by
  obtain ⟨L, rfl, h⟩ := h
  have e : encI.n = 1 := rfl
  refine ⟨?_, (h.cells' o (by rw [e]; omega)).2⟩
  obtain ⟨a, cap, hv, hA⟩ := h.see
  simp only [Value.slice.injEq] at hv
  obtain ⟨rfl, -, -⟩ := hv
  have := hA.get o ho 0 (u := .int .i64 L[o]) rfl
  rw [e] at this
  simp only [Nat.mul_one, Nat.zero_add, Nat.add_zero] at this
  exact ⟨_, this⟩
theorem IntsAt.put (h : IntsAt w g n c) {g' : Nat} (o : Nat) (ho : o < n) (z : Int) : IntsAt (w.setCell ⟨g', o, none⟩ (.int .i64 z)) g n c := by
  by_cases e : g' = g
  · subst e
    obtain ⟨L, rfl, h⟩ := h
    refine ⟨L.set o z, by rw [List.length_set], ?_⟩
    have := h.setAll o z ho (o * 1) rfl
    rw [Nat.mul_one] at this
    exact this
  · exact h.same (Below.heap_setCell _ _ _ _ (fun q => e q.symm))
end
/-- how the document's plane lies -/
structure RefX (w : World) (q n gx gy gr cx cy cr : Nat) : Prop where
  k0 : KeepAt w q 0 (.slice (some ⟨gx, 0, none⟩) n cx)
  k1 : KeepAt w q 1 (.slice (some ⟨gy, 0, none⟩) n cy)
  k2 : KeepAt w q 2 (.slice (some ⟨gr, 0, none⟩) n cr)
  i0 : IntsAt w gx n cx
  i1 : IntsAt w gy n cy
  i2 : IntsAt w gr n cr
  n0 : gx ≠ q
  n1 : gy ≠ q
  n2 : gr ≠ q
/-- its blocks -/
abbrev refF (q gx gy gr : Nat) : Nat → Prop := fun b => b = q ∨ b = gx ∨ b = gy ∨ b = gr
def RefPl (w : World) (q n : Nat) (F : Nat → Prop) : Prop := ∃ gx gy gr cx cy cr, RefX w q n gx gy gr cx cy cr ∧ F = refF q gx gy gr
section
variable {w w' : World} {q n gx gy gr cx cy cr : Nat} {F : Nat → Prop}
theorem RefX.mem (h : RefX w q n gx gy gr cx cy cr) : ∀ b, refF q gx gy gr b → b < w.heap.size := by
  rintro b (rfl | rfl | rfl | rfl)
  · exact h.k0.lt
  · exact h.i0.lt
  · exact h.i1.lt
  · exact h.i2.lt
theorem RefX.stay (h : RefX w q n gx gy gr cx cy cr) (hs : SameOn (refF q gx gy gr) w w') : RefX w' q n gx gy gr cx cy cr := by
  have hq := hs.2 q (Or.inl rfl)
  exact ⟨h.k0.block hq hs.1, h.k1.block hq hs.1, h.k2.block hq hs.1, h.i0.same (hs.2 _ (Or.inr (Or.inl rfl))), h.i1.same (hs.2 _ (Or.inr (Or.inr (Or.inl rfl)))), h.i2.same (hs.2 _ (Or.inr (Or.inr (Or.inr rfl)))), h.n0, h.n1, h.n2⟩
theorem RefX.put (h : RefX w q n gx gy gr cx cy cr) {g : Nat} (hg : g ≠ q) (o : Nat) (ho : o < n) (z : Int) : RefX (w.setCell ⟨g, o, none⟩ (.int .i64 z)) q n gx gy gr cx cy cr :=
  ⟨h.k0.other _ hg, h.k1.other _ hg, h.k2.other _ hg, h.i0.put o ho z, h.i1.put o ho z, h.i2.put o ho z, h.n0, h.n1, h.n2⟩
theorem RefX.drew (h : RefX w q n gx gy gr cx cy cr) : RefX w.drew q n gx gy gr cx cy cr := h.stay (SameOn.of_below ((Below.refl _ w).drew) h.mem)
theorem RefPl.mem (h : RefPl w q n F) : ∀ b, F b → b < w.heap.size := by
  obtain ⟨gx, gy, gr, cx, cy, cr, h, rfl⟩ := h
  exact h.mem
theorem RefPl.stay (h : RefPl w q n F) (hs : SameOn F w w') : RefPl w' q n F := by
  obtain ⟨gx, gy, gr, cx, cy, cr, h, rfl⟩ := h
  exact ⟨gx, gy, gr, cx, cy, cr, h.stay hs, rfl⟩
theorem RefPl.below (h : RefPl w q n F) (hb : Below w.heap.size w w') : RefPl w' q n F := h.stay (SameOn.of_below hb h.mem)
end
theorem has14 (q n : Nat) (F : Nat → Prop) (i : Int) (hi : 1 ≤ i ∧ i ≤ n) (w : World) (h : RefPl w q n F) :
    Calls Try.prog 32 #[.pointer (some ⟨q, 0, none⟩), .int .i64 i] w fun e w' => e = .returned (.bool true) ∧ w' = w := by
  obtain ⟨gx, gy, gr, cx, cy, cr, h, -⟩ := h
  have x0 := h.k0.cell
  clear h
  have d0 : decide (1 ≤ i) = true := decide_eq_true hi.1
  have d1 : decide (i ≤ (n : Int)) = true := decide_eq_true hi.2
  clear hi
  go_enter Try.func32, Try.ntmps32
  go_wp2
  go_ret
  exact ⟨rfl, rfl⟩
set_option maxHeartbeats 1000000 in
theorem put14 (q n : Nat) (F : Nat → Prop) (k : Nat) (i x y : Int) (hi : i = k + 1) (hk : k < n) (hn : n ≤ 16) (hx : -1000 ≤ x ∧ x ≤ 1000) (hy : -1000 ≤ y ∧ y ≤ 1000) (w : World) (h : RefPl w q n F) :
    Calls Try.prog 34 #[.pointer (some ⟨q, 0, none⟩), .int .i64 i, .int .i64 x, .int .i64 y] w fun e w' => e = .returned (.int .i64 0) ∧ RefPl w' q n F ∧ Turn F w w' := by
  obtain ⟨gx, gy, gr, cx, cy, cr, h, rfl⟩ := h
  have hz : wrap64 (i - 1) = k := by rw [hi]; rw [show (k : Int) + 1 - 1 = k by omega]; exact IntWalk.wrap64_in _ (by omega)
  have a0 : decide (x < -1000) = false := decide_eq_false (by omega)
  have a1 : decide (1000 < x) = false := decide_eq_false (by omega)
  have a2 : decide (y < -1000) = false := decide_eq_false (by omega)
  have a3 : decide (1000 < y) = false := decide_eq_false (by omega)
  have hz2 : IntKind.i64.wrap (i - 1) = k := by rw [hi]; rw [show (k : Int) + 1 - 1 = k by omega]; exact IntWalk.i64_in _ (by omega)
  have HX := Lib.hid h
  have HT := Lib.hid ((Turn.refl (refF q gx gy gr) w).drew)
  clear hi hx hy h
  go_enter Try.func34, Try.ntmps34
  go_upto_region 3 with fail
  refine wp_region_held (S := fun W' => RefX W' q n gx gy gr cx cy cr ∧ Turn (refF q gx gy gr) w W') (by kernel_rfl) ?_
  change wpAnyH _ _ _ _ _ _ _ _ w.drew
  have HB := Lib.hid (And.intro HX.out.drew HT.out)
  refine wpAnyH_take (i := 0) (v := ?_) rfl (by kernel_rfl) (by kernel_rfl) (by kernel_rfl) (fun _ _ _ h => h) (Or.inl ⟨by rfl, ?_⟩) HB.out ?_
  rotate_left
  · intro w' hw'
    go_simp
    with_reducible rfl
  go_simp
  refine wpAnyH_take (i := 1) (v := ?_) rfl (by kernel_rfl) (by kernel_rfl) (by kernel_rfl) (fun _ _ _ h => h) (Or.inl ⟨by rfl, ?_⟩) HB.out ?_
  rotate_left
  · intro w' hw'
    go_simp
    with_reducible rfl
  go_simp
  refine wpAnyH_take (i := 2) (v := ?_) rfl (by kernel_rfl) (by kernel_rfl) (by kernel_rfl) (fun _ _ _ h => h) (Or.inl ⟨by rfl, ?_⟩) HB.out ?_
  rotate_left
  · intro w' hw'
    go_simp
    with_reducible rfl
  go_simp
  refine wpAnyH_take (i := 4) (v := ?_) rfl (by kernel_rfl) (by kernel_rfl) (by kernel_rfl) (fun _ _ _ h => h) (Or.inl ⟨by rfl, ?_⟩) HB.out ?_
  rotate_left
  · intro w' hw'
    go_simp
    with_reducible rfl
  go_simp
  refine wpAnyH_take (i := 5) (v := ?_) rfl (by kernel_rfl) (by kernel_rfl) (by kernel_rfl) (fun _ _ _ h => h) (Or.inl ⟨by rfl, ?_⟩) HB.out ?_
  rotate_left
  · intro w' hw'
    go_simp
    with_reducible rfl
  go_simp
  refine wpAnyH_take (i := 6) (v := ?_) rfl (by kernel_rfl) (by kernel_rfl) (by kernel_rfl) (fun _ _ _ h => h) (Or.inl ⟨by rfl, ?_⟩) HB.out ?_
  rotate_left
  · intro w' hw'
    go_simp
    with_reducible rfl
  go_simp
  refine wpAnyH_take (i := 7) (v := ?_) rfl (by kernel_rfl) (by kernel_rfl) (by kernel_rfl) (fun _ _ _ h => h) (Or.inl ⟨by rfl, ?_⟩) HB.out ?_
  rotate_left
  · intro w' hw'
    go_simp
    with_reducible rfl
  go_simp
  refine wpAnyH_take (i := 8) (v := ?_) rfl (by kernel_rfl) (by kernel_rfl) (by kernel_rfl) (fun _ _ _ h => h) (Or.inl ⟨by rfl, ?_⟩) HB.out ?_
  rotate_left
  · intro w' hw'
    go_simp
    with_reducible rfl
  go_simp
  refine wpAnyH_take (i := 10) (v := ?_) rfl (by kernel_rfl) (by kernel_rfl) (by kernel_rfl) (fun _ _ _ h => h) (Or.inl ⟨by rfl, ?_⟩) HB.out ?_
  rotate_left
  · intro w' hw'
    go_simp
    with_reducible rfl
  go_simp
  refine wpAnyH_take (i := 11) (v := ?_) rfl (by kernel_rfl) (by kernel_rfl) (by kernel_rfl) (fun _ _ _ h => h) (Or.inl ⟨by rfl, ?_⟩) HB.out ?_
  rotate_left
  · intro w' hw'
    go_simp
    with_reducible rfl
  go_simp
  refine wpAnyH_take (i := 12) (v := ?_) rfl (by kernel_rfl) (by kernel_rfl) (by kernel_rfl) (fun _ _ _ h => h) (Or.inl ⟨by rfl, ?_⟩) HB.out ?_
  rotate_left
  · intro w' hw'
    go_simp
    with_reducible rfl
  go_simp
  refine wpAnyH_take (i := 13) (v := ?_) rfl (by kernel_rfl) (by kernel_rfl) (by kernel_rfl) (fun _ _ _ h => h) (Or.inl ⟨by rfl, ?_⟩) HB.out ?_
  rotate_left
  · intro w' hw'
    go_simp
    with_reducible rfl
  go_simp
  refine wpAnyH_take (i := 3) (v := ?_) rfl (by kernel_rfl) (by kernel_rfl) (by kernel_rfl) (fun _ _ _ h => h) (Or.inl ⟨by rfl, ?_⟩) HB.out ?_
  rotate_left
  · intro w' hw'
    have xx := hw'.1.k0.cell
    go_simp
    with_reducible rfl
  go_simp
  refine wpAnyH_take (i := 9) (v := ?_) rfl (by kernel_rfl) (by kernel_rfl) (by kernel_rfl) (fun _ _ _ h => h) (Or.inl ⟨by rfl, ?_⟩) HB.out ?_
  rotate_left
  · intro w' hw'
    have xx := hw'.1.k1.cell
    go_simp
    with_reducible rfl
  go_simp
  refine wpAnyH_take (i := 14) (v := ?_) rfl (by kernel_rfl) (by kernel_rfl) (by kernel_rfl) (fun _ _ _ h => h) (Or.inl ⟨by rfl, ?_⟩) HB.out ?_
  rotate_left
  · intro w' hw'
    go_simp
    with_reducible rfl
  go_simp
  obtain ⟨⟨z0, y0⟩, f0⟩ := HX.out.i0.cell k hk
  have HX1 := Lib.hid (HX.out.put (g := gx) HX.out.n0 k hk x)
  have HT1 := Lib.hid ((Turn.refl (refF q gx gy gr) w).set (p := ⟨gx, k, none⟩) (Or.inl (Or.inr (Or.inl rfl))) (.int .i64 x))
  have HB1 := Lib.hid (And.intro HX1.out.drew HT1.out.drew)
  refine wpAnyH_ready (rs := [15]) (by kernel_rfl) (by simp) ?_
  refine AllReadyH.cons rfl (fun K hK => ?_) AllReadyH.nil
  go_simp
  refine hK.out _ _ HB1.out (fun _ => ?_)
  clear hK K HB HB1 y0 f0 z0
  generalize w.setCell ⟨gx, k, none⟩ (.int .i64 x) = w1 at *
  have HB := Lib.hid (And.intro HX1.out.drew HT1.out.drew)
  refine wpAnyH_take (i := 16) (v := ?_) rfl (by kernel_rfl) (by kernel_rfl) (by kernel_rfl) (fun _ _ _ h => h) (Or.inl ⟨by rfl, ?_⟩) HB.out ?_
  rotate_left
  · intro w' hw'
    go_simp
    with_reducible rfl
  go_simp
  clear HB
  obtain ⟨⟨z0, y0⟩, f0⟩ := HX1.out.i1.cell k hk
  have HX2 := Lib.hid (HX1.out.put (g := gy) HX1.out.n1 k hk y)
  have HT2 := Lib.hid (HT1.out.set (p := ⟨gy, k, none⟩) (Or.inl (Or.inr (Or.inr (Or.inl rfl)))) (.int .i64 y))
  have HB := Lib.hid (And.intro HX2.out.drew HT2.out.drew)
  refine wpAnyH_ready (rs := [17]) (by kernel_rfl) (by simp) ?_
  refine AllReadyH.cons rfl (fun K hK => ?_) AllReadyH.nil
  go_simp
  refine hK.out _ _ HB.out (fun _ => ?_)
  clear hK K y0 f0 z0
  refine wpAnyH_done (by kernel_rfl) ?_ _
  go_wp2_with fail
  exact bodyPost_ret (v := .int .i64 0) (by simp [results, Try.results34, go_sem]) rfl ⟨rfl, ⟨gx, gy, gr, cx, cy, cr, HB.out.1, rfl⟩, HB.out.2⟩
end Go.Proofs.Ytgfipndilngfbaa
