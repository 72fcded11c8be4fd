/-
What a landed gate has to answer (contracts); the document's example.
-/
import Derived.Test.YtofodlaebhjneaaCsmRef
import Derived.Test.YtofodlaebhjneaaTncUsual
namespace Go.Proofs.Ytofodlaebhjneaa
open Go.RowKit
set_option maxRecDepth 20000
/-- how a gate lies: its count, in which blocks -/
abbrev GaP := World → Nat → Int → (Nat → Prop) → Prop
abbrev ptrG (a : Nat) : Value := .pointer (some ⟨a, 0, none⟩)
structure GaC (G : GaP) : Prop where
  mem : ∀ {w g n F}, G w g n F → ∀ b, F b → b < w.heap.size
  stay : ∀ {w w' g n F}, G w g n F → SameOn F w w' → G w' g n F
  new : ∀ (w : World), Calls Try.prog 7 #[] w fun e w' => ∃ g F, e = .returned (ptrG g) ∧ G w' g 0 F ∧ (∀ b, F b → w.heap.size ≤ b) ∧ Below w.heap.size w w'
  step : ∀ (w : World) (g : Nat) (n : Int) (F : Nat → Prop) (p : Par) (waits busy : Bool) (draw : Int), G w g n F → 0 ≤ n ∧ n ≤ 255 → Calls Try.prog 8 #[ptrG g, p.v, .bool waits, .bool busy, .int .i64 draw] w fun e w' =>
    e = .returned (.bool (stepG n p waits busy draw).2) ∧ G w' g (stepG n p waits busy draw).1 F ∧ Turn F w w'
  count : ∀ (w : World) (g : Nat) (n : Int) (F : Nat → Prop), G w g n F → Calls Try.prog 11 #[ptrG g] w fun e w' => e = .returned (.int .i64 n) ∧ Below w.heap.size w w'
  reset : ∀ (w : World) (g : Nat) (n : Int) (F : Nat → Prop), G w g n F → Calls Try.prog 12 #[ptrG g] w fun e w' => e = .returned (.tuple #[]) ∧ G w' g 0 F ∧ Turn F w w'
  step0 : ∀ (w : World) (p : Par) (waits busy : Bool) (draw : Int), Calls Try.prog 8 #[.pointer none, p.v, .bool waits, .bool busy, .int .i64 draw] w fun e w' => e = .returned (.bool false) ∧ Below w.heap.size w w'
  count0 : ∀ (w : World), Calls Try.prog 11 #[.pointer none] w fun e w' => e = .returned (.int .i64 0) ∧ Below w.heap.size w w'
  reset0 : ∀ (w : World), Calls Try.prog 12 #[.pointer none] w fun e w' => e = .returned (.tuple #[]) ∧ Below w.heap.size w w'
/-- a gate of the call's own; some other blocks that it is off -/
def GaO (G : GaP) (w0 : World) (g : Nat) (n : Int) (K : Nat → Prop) (W : World) : Prop := ∃ F, G W g n F ∧ (∀ b, F b → w0.heap.size ≤ b) ∧ Below w0.heap.size w0 W ∧ ∀ b, K b → b < W.heap.size ∧ ¬ F b
section
variable {G : GaP} (hC : GaC G) {w0 W W' : World} {g : Nat} {n : Int} {K : Nat → Prop}
theorem GaO.bel (h : GaO G w0 g n K W) : Below w0.heap.size w0 W := by
  obtain ⟨F, h1, h2, h3, h4⟩ := h
  exact h3
theorem GaO.less {K' : Nat → Prop} (h : GaO G w0 g n K W) (hK : ∀ b, K' b → K b) : GaO G w0 g n K' W := by
  obtain ⟨F, h1, h2, h3, h4⟩ := h
  exact ⟨F, h1, h2, h3, fun b hk => h4 b (hK b hk)⟩
include hC
theorem GaO.below (h : GaO G w0 g n K W) (hb : Below W.heap.size W W') : GaO G w0 g n K W' := by
  obtain ⟨F, h1, h2, h3, h4⟩ := h
  exact ⟨F, hC.stay h1 (SameOn.of_below hb (hC.mem h1)), h2, h3.trans (hb.mono h3.size), fun b hk => ⟨Nat.lt_of_lt_of_le (h4 b hk).1 hb.size, (h4 b hk).2⟩⟩
theorem GaO.alloc (h : GaO G w0 g n K W) (o : Obj) : GaO G w0 g n (fun b => K b ∨ b = W.heap.size) (W.alloc o) := by
  have hb := (Below.refl W.heap.size W).alloc (Nat.le_refl _) o
  obtain ⟨F, h1, h2, h3, h4⟩ := h
  refine ⟨F, hC.stay h1 (SameOn.of_below hb (hC.mem h1)), h2, h3.trans (hb.mono h3.size), fun b hk => ?_⟩
  rcases hk with hk | rfl
  · exact ⟨Nat.lt_of_lt_of_le (h4 b hk).1 hb.size, (h4 b hk).2⟩
  · exact ⟨by simp, fun hf => by have := hC.mem h1 _ hf; omega⟩
omit hC in
theorem GaO.turned {F : Nat → Prop} {n' : Int} (h2 : ∀ b, F b → w0.heap.size ≤ b) (h3 : Below w0.heap.size w0 W) (h4 : ∀ b, K b → b < W.heap.size ∧ ¬ F b) (h5 : G W' g n' F) (ht : Turn F W W') : GaO G w0 g n' K W' ∧ SameOn K W W' :=
  ⟨⟨F, h5, h2, h3.trans (ht.below h3.size h2), fun b hk => ⟨Nat.lt_of_lt_of_le (h4 b hk).1 ht.size, (h4 b hk).2⟩⟩, ht.size, fun b hk => ht.block b (h4 b hk).1 (h4 b hk).2⟩
theorem GaO.step (h : GaO G w0 g n K W) (hn : 0 ≤ n ∧ n ≤ 255) (p : Par) (waits busy : Bool) (draw : Int) : Calls Try.prog 8 #[ptrG g, p.v, .bool waits, .bool busy, .int .i64 draw] W fun e w' =>
    e = .returned (.bool (stepG n p waits busy draw).2) ∧ GaO G w0 g (stepG n p waits busy draw).1 K w' ∧ SameOn K W w' := by
  obtain ⟨F, h1, h2, h3, h4⟩ := h
  refine (hC.step W g n F p waits busy draw h1 hn).mono ?_
  rintro e w' ⟨rfl, q1, q2⟩
  exact ⟨rfl, GaO.turned h2 h3 h4 q1 q2⟩
theorem GaO.count (h : GaO G w0 g n K W) : Calls Try.prog 11 #[ptrG g] W fun e w' => e = .returned (.int .i64 n) ∧ GaO G w0 g n K w' ∧ Below W.heap.size W w' := by
  have hh := h
  obtain ⟨F, h1, h2, h3, h4⟩ := h
  refine (hC.count W g n F h1).mono ?_
  rintro e w' ⟨rfl, hb⟩
  exact ⟨rfl, hh.below hC hb, hb⟩
theorem GaO.reset (h : GaO G w0 g n K W) : Calls Try.prog 12 #[ptrG g] W fun e w' => e = .returned (.tuple #[]) ∧ GaO G w0 g 0 K w' ∧ SameOn K W w' := by
  obtain ⟨F, h1, h2, h3, h4⟩ := h
  refine (hC.reset W g n F h1).mono ?_
  rintro e w' ⟨rfl, q1, q2⟩
  exact ⟨rfl, GaO.turned h2 h3 h4 q1 q2⟩
end
set_option maxHeartbeats 1000000 in
theorem cawake17 {G : GaP} (hC : GaC G) (w : World) : Calls Try.prog 6 #[] w fun e w' => e = .returned (.bool true) ∧ Below w.heap.size w w' := by
  have HC := Lib.hid hC
  have HU := Lib.hid (fun W => (show Calls Try.prog 14 #[] W (fun e w' => e = .returned (.agg #[.int .i64 2, .int .i64 63, .int .i64 1, .int .i64 1, .bool false]) ∧ Below W.heap.size W w') from usual_ok W))
  have HN := Lib.hid (fun W => hC.new W)
  have s1 : stepG 0 ⟨2, 255, 1, 1, false⟩ true false 255 = (0, true) := by decide
  have s2 : stepG 0 ⟨2, 255, 1, 1, false⟩ true true 0 = (0, false) := by decide
  have s3 : stepG 0 ⟨2, 255, 1, 1, false⟩ false false 0 = (0, false) := by decide
  have HS := Lib.hid (fun W g K (h : GaO G w g 0 K W) => And.intro (h.step hC ⟨by decide, by decide⟩ ⟨2, 255, 1, 1, false⟩ true false 255) (And.intro (h.step hC ⟨by decide, by decide⟩ ⟨2, 255, 1, 1, false⟩ true true 0) (h.step hC ⟨by decide, by decide⟩ ⟨2, 255, 1, 1, false⟩ false false 0)))
  rw [s1, s2, s3] at HS
  simp only [Par.v] at HS
  clear hC s1 s2 s3
  go_enter Try.func6, Try.ntmps6
  go_upto_region 4 with (first
    | (go_at_call 14; (with_reducible refine (HU.out _).mono ?_); rintro e w1 ⟨rfl, hb⟩; have HB1 := Lib.hid hb; clear hb)
    | (go_at_call 7; (with_reducible refine (HN.out _).mono ?_); rintro e w2 ⟨g, F, rfl, hg, hf, hb⟩; have HG := Lib.hid (And.intro hg (And.intro hf hb)); clear hg hf hb))
  have hbA := HB1.out.alloc HB1.out.size (.cells #[.int .i64 2, .int .i64 255, .int .i64 1, .int .i64 1, .bool false] 27)
  have hra := RowAt.new w1 w1.heap.size rfl [.int .i64 2, .int .i64 255, .int .i64 1, .int .i64 1, .bool false] 27
  have HR1 := Lib.hid (hra.below HG.out.2.2)
  have HQ1 := Lib.hid (show GaO G w g 0 (fun b => b = w1.heap.size) w2 from ⟨F, HG.out.1, fun b hb => Nat.le_trans hbA.size (HG.out.2.1 b hb), hbA.trans (HG.out.2.2.mono hbA.size), fun b hb => by
    subst hb
    refine ⟨HR1.out.lt, fun hf => ?_⟩
    have := HG.out.2.1 _ hf
    simp at this
    omega⟩)
  clear hbA hra HG HB1 HU HN
  have x0 := HR1.out.cell 0 rfl
  have x1 := HR1.out.cell 1 rfl
  have x2 := HR1.out.cell 2 rfl
  have x3 := HR1.out.cell 3 rfl
  have x4 := HR1.out.cell 4 rfl
  go_wp2_with (first
    | (go_at_call 8; (with_reducible refine (HS.out _ _ _ HQ1.out).1.mono ?_); rintro e w3 ⟨rfl, hq, hs⟩; have HQ2 := Lib.hid hq; have HR2 := Lib.hid (HR1.out.block (hs.2 _ rfl) hs.1); clear hq hs x0 x1 x2 x3 x4; have x0 := HR2.out.cell 0 rfl; have x1 := HR2.out.cell 1 rfl; have x2 := HR2.out.cell 2 rfl; have x3 := HR2.out.cell 3 rfl; have x4 := HR2.out.cell 4 rfl)
    | (go_at_call 8; (with_reducible refine (HS.out _ _ _ HQ2.out).2.1.mono ?_); rintro e w4 ⟨rfl, hq, hs⟩; have HQ3 := Lib.hid hq; have HR3 := Lib.hid (HR2.out.block (hs.2 _ rfl) hs.1); clear hq hs x0 x1 x2 x3 x4; have x0 := HR3.out.cell 0 rfl; have x1 := HR3.out.cell 1 rfl; have x2 := HR3.out.cell 2 rfl; have x3 := HR3.out.cell 3 rfl; have x4 := HR3.out.cell 4 rfl)
    | (go_at_call 8; (with_reducible refine (HS.out _ _ _ HQ3.out).2.2.mono ?_); rintro e w5 ⟨rfl, hq, hs⟩; have HE := Lib.hid hq.bel; clear hq hs))
  exact bodyPost_ret (v := .bool true) (by simp [results, Try.results6, go_sem]) rfl ⟨rfl, HE.out⟩
end Go.Proofs.Ytofodlaebhjneaa
