/-
The landed Stand.
-/
import Derived.Test.YtgfipndilngfbaaPlcCode
namespace Go.Proofs.Ytgfipndilngfbaa
open Go.RowKit
set_option maxRecDepth 20000
section
variable {w w' : World} {p g : Nat} {L : List Stn} {D : DataW Unit} {F : Nat → Prop}
theorem PlL.free (h : PlL w p g L D F) (k : Nat) (hk : k < L.length) : w.frozen? ⟨g, k * 2, none⟩ = false ∧ w.frozen? ⟨g, k * 2 + 1, none⟩ = false := by
  obtain ⟨c, b, hr, ho, -⟩ := h
  have e : encSt.n = 2 := rfl
  exact ⟨(ho.cells' (k * 2) (by rw [e]; omega)).2, (ho.cells' (k * 2 + 1) (by rw [e]; omega)).2⟩
/-- a station that stands elsewhere -/
theorem PlL.put (h : PlL w p g L D F) (k : Nat) (hk : k < L.length) (re im : Nat) (r : Int) :
    PlL ((w.setCell ⟨g, k * 2, none⟩ (.complex .f64 re im)).setCell ⟨g, k * 2 + 1, none⟩ (.int .i64 r)) p g (L.set k ⟨re, im, r⟩) D F := by
  obtain ⟨c, b, hr, ho, hm, h1, h2, h3, hb, rfl⟩ := h
  have hs := ho.setAll k ⟨re, im, r⟩ hk (k * 2) rfl
  refine ⟨c, b, ?_, ?_, own_same14 hm ((Below.heap_setCell _ _ _ _ (fun e => h3 e.symm)).trans (Below.heap_setCell _ _ _ _ (fun e => h3 e.symm))), h1, h2, h3, by simpa [World.setCell] using hb, rfl⟩
  · rw [List.length_set]
    exact (hr.other _ (fun e => h1 e.symm)).other _ (fun e => h1 e.symm)
  · rw [List.length_set]
    exact hs
theorem PlL.in_g (h : PlL w p g L D F) : F g := by
  obtain ⟨c, b, hr, ho, hm, h1, h2, h3, hb, rfl⟩ := h
  exact Or.inr (Or.inl rfl)
end
/-- may it stand there? -/
def standOk (x y r : Int) : Bool := inP x y && (decide (0 ≤ r) && decide (r ≤ 4000))
set_option maxHeartbeats 1000000 in
theorem stand_yes (p g : Nat) (L : List Stn) (D : DataW Unit) (F : Nat → Prop) (k : Nat) (i : Int) (hi : i = k + 1) (hk : k < L.length) (hl : L.length ≤ 16) (a b : Nat) (x y r : Int) (ha : Fl a x) (hb : Fl b y) (hx : x.natAbs < 2 ^ 50) (hy : y.natAbs < 2 ^ 50)
    (hok : standOk x y r = true) (w : World) (h : PlL w p g L D F) :
    Calls Try.prog 16 #[.pointer (some ⟨p, 0, none⟩), .int .i64 i, .complex .f64 a b, .int .i64 r] w fun e w' =>
      ∃ re im, e = .returned (.int .i64 0) ∧ Fl re x ∧ Fl im y ∧ PlL w' p g (L.set k ⟨re, im, r⟩) D F ∧ Turn F w w' := by
  have ht := there_yes L.length k i hi hk
  have hz : wrap64 (i - 1) = k := by rw [hi]; rw [show (k : Int) + 1 - 1 = k by omega]; exact IntWalk.wrap64_in _ (by omega)
  unfold standOk at hok
  rw [Bool.and_eq_true, Bool.and_eq_true, decide_eq_true_eq, decide_eq_true_eq] at hok
  obtain ⟨hin, hr0, hr1⟩ := hok
  have dr0 : decide (r < 0) = false := decide_eq_false (by omega)
  have dr1 : decide (4000 < r) = false := decide_eq_false (by omega)
  obtain ⟨re, im, hs, ga, gb⟩ := cx_add ha hb Fl.zero Fl.zero (by omega) (by omega)
  rw [Int.add_zero] at ga gb
  have HM := Lib.hid (RowAt.new w w.heap.size rfl [.int .i64 i] 3)
  have HP := Lib.hid (h.alloc (.cells #[.int .i64 i] 3))
  have HM2 := Lib.hid (RowAt.new (w.alloc (.cells #[.int .i64 i] 3)) (w.heap.size + 1) (by simp) [.complex .f64 a b] 47)
  have HP2 := Lib.hid (HP.out.alloc (.cells #[.complex .f64 a b] 47))
  obtain ⟨c, b', x0, -, -⟩ := HP.out.cells
  obtain ⟨c2, b2, x2, -, -⟩ := HP2.out.cells
  obtain ⟨y0, y1⟩ := HP2.out.get k hk
  obtain ⟨f0, f1'⟩ := HP2.out.free k hk
  have HT := Lib.hid (fun W hp hm => there_one p w.heap.size L.length (some ⟨g, 0, none⟩) c i W hp hm)
  rw [ht, show thereE true = 0 from rfl] at HT
  have HQ := Lib.hid (fun W hm => places_one (w.heap.size + 1) a b x y W ha hb (by omega) (by omega) hm)
  rw [hin] at HQ
  have HPUT := Lib.hid (HP2.out.put k hk re im r)
  have HTURN := Lib.hid (((((Turn.refl F w).alloc (.cells #[.int .i64 i] 3)).alloc (.cells #[.complex .f64 a b] 47)).set (p := ⟨g, k * 2, none⟩) (Or.inl h.in_g) (.complex .f64 re im)).set (p := ⟨g, k * 2 + 1, none⟩) (Or.inl h.in_g) (.int .i64 r))
  have hst := fun a W => run_store_cx re im a W
  have f1 : (((w.alloc (.cells #[.int .i64 i] 3)).alloc (.cells #[.complex .f64 a b] 47)).setCell ⟨g, k * 2, none⟩ (.complex .f64 re im)).frozen? ⟨g, k * 2 + 1, none⟩ = false := by
    rw [World.frozen?_setCell]; exact f1'
  have y2 : (((w.alloc (.cells #[.int .i64 i] 3)).alloc (.cells #[.complex .f64 a b] 47)).setCell ⟨g, k * 2, none⟩ (.complex .f64 re im)).cell? ⟨g, k * 2 + 1, none⟩ = some (.int .i64 L[k].r) := by
    rw [set_off _ _ _ _ _ (by omega)]; exact y1
  clear hi ht hin ha hb
  go_enter Try.func16, Try.ntmps16
  go_wp2_with (first
    | (go_at_call 30; (with_reducible refine (HT.out _ x0 HM.out).mono ?_); rintro e w1 ⟨rfl, rfl⟩)
    | (go_at_call 31; (with_reducible refine (HQ.out _ HM2.out).mono ?_); rintro e w1 ⟨rfl, rfl⟩))
  exact bodyPost_ret (v := .int .i64 0) (by simp [results, Try.results16, go_sem]) rfl ⟨re, im, rfl, ga, gb, HPUT.out, HTURN.out⟩
set_option maxHeartbeats 1000000 in
theorem stand_no (p g : Nat) (L : List Stn) (D : DataW Unit) (F : Nat → Prop) (k : Nat) (i : Int) (hi : i = k + 1) (hk : k < L.length) (a b : Nat) (x y r : Int) (ha : Fl a x) (hb : Fl b y) (hx : x.natAbs < 2 ^ 50) (hy : y.natAbs < 2 ^ 50)
    (hok : standOk x y r = false) (w : World) (h : PlL w p g L D F) :
    Calls Try.prog 16 #[.pointer (some ⟨p, 0, none⟩), .int .i64 i, .complex .f64 a b, .int .i64 r] w fun e w' => e = .returned (.int .i64 1) ∧ Below w.heap.size w w' := by
  have ht := there_yes L.length k i hi hk
  unfold standOk at hok
  have HM := Lib.hid (RowAt.new w w.heap.size rfl [.int .i64 i] 3)
  have HP := Lib.hid (h.alloc (.cells #[.int .i64 i] 3))
  have HM2 := Lib.hid (RowAt.new (w.alloc (.cells #[.int .i64 i] 3)) (w.heap.size + 1) (by simp) [.complex .f64 a b] 47)
  obtain ⟨c, b', x0, -, -⟩ := HP.out.cells
  have HT := Lib.hid (fun W hp hm => there_one p w.heap.size L.length (some ⟨g, 0, none⟩) c i W hp hm)
  rw [ht, show thereE true = 0 from rfl] at HT
  have HQ := Lib.hid (fun W hm => places_one (w.heap.size + 1) a b x y W ha hb (by omega) (by omega) hm)
  have HB := Lib.hid (below_alloc2 w (.cells #[.int .i64 i] 3) (.cells #[.complex .f64 a b] 47))
  clear hi ht ha hb h HP
  cases hin : inP x y
  · rw [hin] at HQ
    clear hok hin
    go_enter Try.func16, Try.ntmps16
    go_wp2_with (first
      | (go_at_call 30; (with_reducible refine (HT.out _ x0 HM.out).mono ?_); rintro e w1 ⟨rfl, rfl⟩)
      | (go_at_call 31; (with_reducible refine (HQ.out _ HM2.out).mono ?_); rintro e w1 ⟨rfl, rfl⟩))
    exact bodyPost_ret (v := .int .i64 1) (by simp [results, Try.results16, go_sem]) rfl ⟨rfl, HB.out⟩
  · rw [hin] at HQ hok
    by_cases h0 : r < 0
    · have dr0 : decide (r < 0) = true := decide_eq_true h0
      clear hok hin
      go_enter Try.func16, Try.ntmps16
      go_wp2_with (first
        | (go_at_call 30; (with_reducible refine (HT.out _ x0 HM.out).mono ?_); rintro e w1 ⟨rfl, rfl⟩)
        | (go_at_call 31; (with_reducible refine (HQ.out _ HM2.out).mono ?_); rintro e w1 ⟨rfl, rfl⟩))
      exact bodyPost_ret (v := .int .i64 1) (by simp [results, Try.results16, go_sem]) rfl ⟨rfl, HB.out⟩
    · have dr0 : decide (r < 0) = false := decide_eq_false h0
      have dr1 : decide (4000 < r) = true := by
        apply decide_eq_true
        rw [Bool.true_and, Bool.and_eq_false_iff, decide_eq_false_iff_not, decide_eq_false_iff_not] at hok
        omega
      clear hok hin
      go_enter Try.func16, Try.ntmps16
      go_wp2_with (first
        | (go_at_call 30; (with_reducible refine (HT.out _ x0 HM.out).mono ?_); rintro e w1 ⟨rfl, rfl⟩)
        | (go_at_call 31; (with_reducible refine (HQ.out _ HM2.out).mono ?_); rintro e w1 ⟨rfl, rfl⟩))
      exact bodyPost_ret (v := .int .i64 1) (by simp [results, Try.results16, go_sem]) rfl ⟨rfl, HB.out⟩
end Go.Proofs.Ytgfipndilngfbaa
