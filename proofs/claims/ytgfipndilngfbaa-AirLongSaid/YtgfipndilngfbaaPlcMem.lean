/-
How a plane lies: its stations, the ways that are blocked; are there such stations, are these places.
-/
import Derived.Test.YtgfipndilngfbaaPlcWhole
import Derived.Test.YtgfipndilngfbaaInPlace
import Derived.Maps.OwnSet
import Derived.MapViews
import Derived.DeepKeys4
namespace Go.Proofs.Ytgfipndilngfbaa
open Go.RowKit Go.Maps Go.WideMaps
set_option maxRecDepth 20000
/-- a station, as it lies -/
structure Stn where
  re : Nat
  im : Nat
  r : Int
/-- a station, as it is meant -/
structure Sta where
  x : Int
  y : Int
  r : Int
def Stn.is (s : Stn) (t : Sta) : Prop := Fl s.re t.x ∧ Fl s.im t.y ∧ s.r = t.r
def encSt : Enc Stn := ⟨2, by omega, fun s => [.complex .f64 s.re s.im, .int .i64 s.r], fun _ => rfl, fun _ u hu => by
  simp only [List.mem_cons, List.not_mem_nil, or_false] at hu
  rcases hu with rfl | rfl <;> rfl⟩
theorem infoSt : (Try.prog.info? 82).map (fun i => (i.zero, i.size, i.bytes)) = some (some (.agg #[.complex .f64 0 0, .int .i64 0]), 2, 24) := by kernel_rfl
/-- the ways that are blocked, as keys -/
theorem rowWay : (99 : TypeId) < Try.prog.types.size := of_decide_eq_true (by kernel_rfl)
theorem deepWay : Try.prog.keyTypeAt (Try.prog.types.size + 1) 99 = true := by kernel_rfl
theorem wideWay : (match Try.prog.underlying 99 with | some (.array _ _) | some (.struct _) => true | _ => false) = true := by kernel_rfl
theorem laidOut14 : laidOutB Try.prog = true := by kernel_rfl
theorem keyedWay : Keyed Try.prog 99 := Keyed.of_law (deep_law_laid laidOut14 (m := 3) (by omega) rowWay (by kernel_rfl) wideWay)
theorem cellsWay : Try.prog.cellsOf 99 = 2 := by kernel_rfl
theorem cellsIntW : Try.prog.cellsOf 3 = 1 := by kernel_rfl
theorem formedWay (a b : Int) : (Value.agg #[.int .i64 a, .int .i64 b]).formed Try.prog 99 = true := by
  simp [Value.formed, Try.underlying99, cellsWay]
def keyWay (a b : Int) : Lit := (DataW.agg (H := Unit) [.lit (.int .i64 a), .lit (.int .i64 b)]).asKey
theorem key_way (a b : Int) (ha : (Lit.int .i64 a).wf = true) (hb : (Lit.int .i64 b).wf = true) : keyOf Try.prog 99 (.agg #[.int .i64 a, .int .i64 b]) = some (keyWay a b) := by
  have t := Joins.shut_agg2 (H := Unit) (enc := fun _ => ()) (w := World.memory (World.settled Try.prog default)) (base := 0) (spare := fun _ => true) (held := true) Try.underlying99 (by kernel_rfl) cellsWay (v0 := .int .i64 a) (v1 := .int .i64 b) (y0 := (.lit (.int .i64 a), [])) (y1 := (.lit (.int .i64 b), []))
    ⟨1, by simp [DataW.trod, Try.underlying3, ha]⟩ ⟨1, by simp [DataW.trod, Try.underlying3, hb]⟩
  exact (keyOf_asKey deepWay wideWay (formedWay _ _) t).1
abbrev OwnW (w : World) (b : Nat) (D : DataW Unit) : Prop := w.ownsMap Try.prog 99 unitElem b (Maps.size D) D
abbrev OwnS (w : World) (v : Value) (L : List Stn) : Prop := OwnL encSt 82 w 0 v L
theorem own_same14 {w w' : World} {P : Program} {k : TypeId} {R : Value → Option (DataW Unit × List MemPlace)} {b n : Nat} {D : DataW Unit} (h : w.ownsMap P k R b n D) (e : w'.heap[b]? = w.heap[b]?) : w'.ownsMap P k R b n D := by
  obtain ⟨es, clock, hb, r⟩ := h
  exact ⟨es, clock, e.trans hb, r⟩
/-- how a plane lies: at p, its stations at g, in these blocks -/
def PlL (w : World) (p g : Nat) (L : List Stn) (D : DataW Unit) (F : Nat → Prop) : Prop :=
  ∃ c b, RowAt w p [.slice (some ⟨g, 0, none⟩) L.length c, .map (some b)] ∧ OwnS w (.slice (some ⟨g, 0, none⟩) L.length c) L ∧ OwnW w b D ∧ p ≠ g ∧ p ≠ b ∧ g ≠ b ∧ b < w.heap.size ∧ F = (fun k => k = p ∨ k = g ∨ k = b)
section
variable {w w' : World} {p g : Nat} {L : List Stn} {D : DataW Unit} {F : Nat → Prop}
theorem PlL.mem (h : PlL w p g L D F) : ∀ k, F k → k < w.heap.size := by
  obtain ⟨c, b, hr, ho, hm, -, -, -, hb, rfl⟩ := h
  rintro k (rfl | rfl | rfl)
  · exact hr.lt
  · exact (ho.ge rfl).2
  · exact hb
theorem PlL.stay (h : PlL w p g L D F) (hs : SameOn F w w') : PlL w' p g L D F := by
  obtain ⟨c, b, hr, ho, hm, h1, h2, h3, hb, rfl⟩ := h
  refine ⟨c, b, hr.block (hs.2 p (Or.inl rfl)) hs.1, ho.same (fun k e => ?_), own_same14 hm (hs.2 b (Or.inr (Or.inr rfl))), h1, h2, h3, Nat.lt_of_lt_of_le hb hs.1, rfl⟩
  simp only [Value.ownBlock, Option.some.injEq] at e
  exact hs.2 k (Or.inr (Or.inl e.symm))
theorem PlL.below (h : PlL w p g L D F) (hb : Below w.heap.size w w') : PlL w' p g L D F := h.stay (SameOn.of_below hb h.mem)
theorem PlL.alloc (h : PlL w p g L D F) (o : Obj) : PlL (w.alloc o) p g L D F := h.below ((Below.refl _ w).alloc (Nat.le_refl _) o)
theorem PlL.drew (h : PlL w p g L D F) : PlL w.drew p g L D F := h.below ((Below.refl _ w).drew)
/-- the cells that calls read -/
theorem PlL.cells (h : PlL w p g L D F) : ∃ c b, w.cell? ⟨p, 0, none⟩ = some (.slice (some ⟨g, 0, none⟩) L.length c) ∧ w.cell? ⟨p, 1, none⟩ = some (.map (some b)) ∧ OwnW w b D := by
  obtain ⟨c, b, hr, ho, hm, -⟩ := h
  exact ⟨c, b, hr.cell 0 rfl, hr.cell 1 rfl, hm⟩
theorem PlL.get (h : PlL w p g L D F) (i : Nat) (hi : i < L.length) : w.cell? ⟨g, i * 2, none⟩ = some (.complex .f64 L[i].re L[i].im) ∧ w.cell? ⟨g, i * 2 + 1, none⟩ = some (.int .i64 L[i].r) := by
  obtain ⟨c, b, hr, ho, -⟩ := h
  obtain ⟨a, cap, hv, hA⟩ := ho.see
  simp only [Value.slice.injEq] at hv
  obtain ⟨rfl, -, -⟩ := hv
  have h0 := hA.get i hi 0 (u := .complex .f64 L[i].re L[i].im) rfl
  have h1 := hA.get i hi 1 (u := .int .i64 L[i].r) rfl
  simp only [Nat.zero_add, Nat.add_zero] at h0 h1
  exact ⟨h0, h1⟩
end
/-- is there such a station? -/
def thereN (n : Nat) (i : Int) : Bool := decide (1 ≤ i) && decide (i ≤ n)
theorem there_nil (v : Value) (w : World) : Calls Try.prog 30 #[.pointer none, v] w fun e w' => e = .returned (.int .i64 1) ∧ w' = w := by
  go_enter Try.func30, Try.ntmps30
  go_wp2
  go_ret
  exact ⟨rfl, rfl⟩
/-- what there answers -/
def thereE (b : Bool) : Int := if b then 0 else 7
set_option maxHeartbeats 1000000 in
theorem there_one (p m n : Nat) (a : Option Addr) (c : Nat) (i : Int) (w : World) (hp : w.cell? ⟨p, 0, none⟩ = some (.slice a n c)) (hm : RowAt w m [.int .i64 i]) :
    Calls Try.prog 30 #[.pointer (some ⟨p, 0, none⟩), .slice (some ⟨m, 0, none⟩) 1 1] w fun e w' => e = .returned (.int .i64 (thereE (thereN n i))) ∧ w' = w := by
  have x0 := hm.cell 0 rfl
  clear hm
  obtain ⟨E, hE⟩ : ∃ E, E = thereE (thereN n i) := ⟨_, rfl⟩
  rw [← hE]
  unfold thereN at hE
  by_cases h1 : i < 1
  · have d1 : decide (i < 1) = true := decide_eq_true h1
    rw [decide_eq_false (show ¬ 1 ≤ i by omega)] at hE
    obtain rfl : E = 7 := hE
    go_enter Try.func30, Try.ntmps30
    go_wp2
    refine wp_loop_rounds 2 ?_
    rw [rounds_succ]
    go_wp2
    go_ret
    exact ⟨rfl, rfl⟩
  · have d1 : decide (i < 1) = false := decide_eq_false h1
    rw [decide_eq_true (show 1 ≤ i by omega)] at hE
    by_cases h2 : i ≤ n
    · have d3 : decide ((n : Int) < i) = false := decide_eq_false (by omega)
      rw [decide_eq_true h2] at hE
      obtain rfl : E = 0 := hE
      go_enter Try.func30, Try.ntmps30
      go_wp2
      refine wp_loop_rounds 2 ?_
      rw [rounds_succ]
      go_wp2
      rw [rounds_succ]
      go_wp2
      go_ret
      exact ⟨rfl, rfl⟩
    · have d3 : decide ((n : Int) < i) = true := decide_eq_true (by omega)
      rw [decide_eq_false h2] at hE
      obtain rfl : E = 7 := hE
      go_enter Try.func30, Try.ntmps30
      go_wp2
      refine wp_loop_rounds 2 ?_
      rw [rounds_succ]
      go_wp2
      go_ret
      exact ⟨rfl, rfl⟩
set_option maxHeartbeats 1000000 in
theorem there_two (p m n : Nat) (a : Option Addr) (c : Nat) (i j : Int) (w : World) (hp : w.cell? ⟨p, 0, none⟩ = some (.slice a n c)) (hm : RowAt w m [.int .i64 i, .int .i64 j]) :
    Calls Try.prog 30 #[.pointer (some ⟨p, 0, none⟩), .slice (some ⟨m, 0, none⟩) 2 2] w fun e w' => e = .returned (.int .i64 (thereE (thereN n i && thereN n j))) ∧ w' = w := by
  have x0 := hm.cell 0 rfl
  have x1 := hm.cell 1 rfl
  clear hm
  obtain ⟨E, hE⟩ : ∃ E, E = thereE (thereN n i && thereN n j) := ⟨_, rfl⟩
  rw [← hE]
  unfold thereN at hE
  by_cases h1 : i < 1
  · have d1 : decide (i < 1) = true := decide_eq_true h1
    rw [decide_eq_false (show ¬ 1 ≤ i by omega)] at hE
    obtain rfl : E = 7 := hE
    go_enter Try.func30, Try.ntmps30
    go_wp2
    refine wp_loop_rounds 3 ?_
    rw [rounds_succ]
    go_wp2
    go_ret
    exact ⟨rfl, rfl⟩
  · have d1 : decide (i < 1) = false := decide_eq_false h1
    rw [decide_eq_true (show 1 ≤ i by omega)] at hE
    by_cases h2 : i ≤ n
    · have d3 : decide ((n : Int) < i) = false := decide_eq_false (by omega)
      rw [decide_eq_true h2] at hE
      by_cases g1 : j < 1
      · have k1 : decide (j < 1) = true := decide_eq_true g1
        rw [decide_eq_false (show ¬ 1 ≤ j by omega)] at hE
        obtain rfl : E = 7 := hE
        go_enter Try.func30, Try.ntmps30
        go_wp2
        refine wp_loop_rounds 3 ?_
        rw [rounds_succ]
        go_wp2
        rw [rounds_succ]
        go_wp2
        go_ret
        exact ⟨rfl, rfl⟩
      · have k1 : decide (j < 1) = false := decide_eq_false g1
        rw [decide_eq_true (show 1 ≤ j by omega)] at hE
        by_cases g2 : j ≤ n
        · have k3 : decide ((n : Int) < j) = false := decide_eq_false (by omega)
          rw [decide_eq_true g2] at hE
          obtain rfl : E = 0 := hE
          go_enter Try.func30, Try.ntmps30
          go_wp2
          refine wp_loop_rounds 3 ?_
          rw [rounds_succ]
          go_wp2
          rw [rounds_succ]
          go_wp2
          rw [rounds_succ]
          go_wp2
          go_ret
          exact ⟨rfl, rfl⟩
        · have k3 : decide ((n : Int) < j) = true := decide_eq_true (by omega)
          rw [decide_eq_false g2] at hE
          obtain rfl : E = 7 := hE
          go_enter Try.func30, Try.ntmps30
          go_wp2
          refine wp_loop_rounds 3 ?_
          rw [rounds_succ]
          go_wp2
          rw [rounds_succ]
          go_wp2
          go_ret
          exact ⟨rfl, rfl⟩
    · have d3 : decide ((n : Int) < i) = true := decide_eq_true (by omega)
      rw [decide_eq_false h2] at hE
      obtain rfl : E = 7 := hE
      go_enter Try.func30, Try.ntmps30
      go_wp2
      refine wp_loop_rounds 3 ?_
      rw [rounds_succ]
      go_wp2
      go_ret
      exact ⟨rfl, rfl⟩
/-- is it a place of the plane? -/
abbrev inP (x y : Int) : Bool := inZ 1000 x y
set_option maxHeartbeats 1000000 in
theorem places_one (m a b : Nat) (x y : Int) (w : World) (ha : Fl a x) (hb : Fl b y) (hx : x.natAbs < 2 ^ 53) (hy : y.natAbs < 2 ^ 53) (hm : RowAt w m [.complex .f64 a b]) :
    Calls Try.prog 31 #[.slice (some ⟨m, 0, none⟩) 1 1] w fun e w' => e = .returned (.bool (inP x y)) ∧ w' = w := by
  have x0 := hm.cell 0 rfl
  have HW := Lib.hid (fun W => whole_any a b 4652007308841189376 x y 1000 ha hb Fl.thousand hx hy W)
  unfold inP
  generalize inZ 1000 x y = d at *
  clear hm ha hb hx hy
  cases d
  · go_enter Try.func31, Try.ntmps31
    go_wp2
    refine wp_loop_rounds 2 ?_
    rw [rounds_succ]
    go_wp2_with (go_at_call 43; (with_reducible refine (HW.out _).mono ?_); rintro e w ⟨rfl, rfl⟩)
    go_ret
    exact ⟨rfl, rfl⟩
  · go_enter Try.func31, Try.ntmps31
    go_wp2
    refine wp_loop_rounds 2 ?_
    rw [rounds_succ]
    go_wp2_with (go_at_call 43; (with_reducible refine (HW.out _).mono ?_); rintro e w ⟨rfl, rfl⟩)
    rw [rounds_succ]
    go_wp2
    go_ret
    exact ⟨rfl, rfl⟩
set_option maxHeartbeats 1000000 in
theorem places_two (m a b c d : Nat) (x y u v : Int) (w : World) (ha : Fl a x) (hb : Fl b y) (hx : x.natAbs < 2 ^ 53) (hy : y.natAbs < 2 ^ 53) (hc : Fl c u) (hd : Fl d v) (hu : u.natAbs < 2 ^ 53) (hv : v.natAbs < 2 ^ 53)
    (hm : RowAt w m [.complex .f64 a b, .complex .f64 c d]) :
    Calls Try.prog 31 #[.slice (some ⟨m, 0, none⟩) 2 2] w fun e w' => e = .returned (.bool (inP x y && inP u v)) ∧ w' = w := by
  have x0 := hm.cell 0 rfl
  have x1 := hm.cell 1 rfl
  have HW := Lib.hid (fun W => whole_any a b 4652007308841189376 x y 1000 ha hb Fl.thousand hx hy W)
  have HV := Lib.hid (fun W => whole_any c d 4652007308841189376 u v 1000 hc hd Fl.thousand hu hv W)
  unfold inP
  generalize inZ 1000 x y = q at *
  generalize inZ 1000 u v = r at *
  clear hm ha hb hx hy hc hd hu hv
  cases q
  · go_enter Try.func31, Try.ntmps31
    go_wp2
    refine wp_loop_rounds 3 ?_
    rw [rounds_succ]
    go_wp2_with (go_at_call 43; (with_reducible refine (HW.out _).mono ?_); rintro e w ⟨rfl, rfl⟩)
    go_ret
    exact ⟨rfl, rfl⟩
  · cases r
    · go_enter Try.func31, Try.ntmps31
      go_wp2
      refine wp_loop_rounds 3 ?_
      rw [rounds_succ]
      go_wp2_with (go_at_call 43; (with_reducible refine (HW.out _).mono ?_); rintro e w ⟨rfl, rfl⟩)
      rw [rounds_succ]
      go_wp2_with (go_at_call 43; (with_reducible refine (HV.out _).mono ?_); rintro e w ⟨rfl, rfl⟩)
      go_ret
      exact ⟨rfl, rfl⟩
    · go_enter Try.func31, Try.ntmps31
      go_wp2
      refine wp_loop_rounds 3 ?_
      rw [rounds_succ]
      go_wp2_with (go_at_call 43; (with_reducible refine (HW.out _).mono ?_); rintro e w ⟨rfl, rfl⟩)
      rw [rounds_succ]
      go_wp2_with (go_at_call 43; (with_reducible refine (HV.out _).mono ?_); rintro e w ⟨rfl, rfl⟩)
      rw [rounds_succ]
      go_wp2
      go_ret
      exact ⟨rfl, rfl⟩
end Go.Proofs.Ytgfipndilngfbaa
