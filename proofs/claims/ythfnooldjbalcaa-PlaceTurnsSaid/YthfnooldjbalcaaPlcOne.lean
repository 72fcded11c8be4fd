/-
The document's example; a plane of one station, of the call's own.
-/
import Derived.Test.YthfnooldjbalcaaPlcGo
import Derived.Test.YthfnooldjbalcaaPlcHears
namespace Go.Proofs.Ythfnooldjbalcaa
open Go.RowKit
set_option maxRecDepth 20000
/-- a plane of the call's own -/
def PlO (w0 : World) (p : Nat) (L : List Stn) (D : DataW Unit) (W : World) : Prop := ∃ g F, PlL W p g L D F ∧ (∀ b, F b → w0.heap.size ≤ b) ∧ Below w0.heap.size w0 W
section
variable {w0 W W' : World} {p : Nat} {L : List Stn} {D : DataW Unit}
theorem PlO.below (h : PlO w0 p L D W) (hb : Below W.heap.size W W') : PlO w0 p L D W' := by
  obtain ⟨g, F, h1, h2, h3⟩ := h
  exact ⟨g, F, h1.below hb, h2, h3.trans (hb.mono h3.size)⟩
theorem PlO.turned {g : Nat} {F : Nat → Prop} {L' : List Stn} (h2 : ∀ b, F b → w0.heap.size ≤ b) (h3 : Below w0.heap.size w0 W) (h4 : PlL W' p g L' D F) (ht : Turn F W W') : PlO w0 p L' D W' :=
  ⟨g, F, h4, h2, h3.trans (ht.below h3.size h2)⟩
theorem PlO.bel (h : PlO w0 p L D W) : Below w0.heap.size w0 W := by
  obtain ⟨g, F, h1, h2, h3⟩ := h
  exact h3
theorem PlO.stand (h : PlO w0 p L D W) (k : Nat) (i : Int) (hi : i = k + 1) (hk : k < L.length) (hl : L.length ≤ 16) (a b : Nat) (x y r : Int) (ha : Fl a x) (hb : Fl b y) (hx : x.natAbs < 2 ^ 50) (hy : y.natAbs < 2 ^ 50) (hok : standOk x y r = true) :
    Calls Try.prog 6 #[.pointer (some ⟨p, 0, none⟩), .int .i64 i, .complex .f64 a b, .int .i64 r] W fun e w' => ∃ re im, e = .returned (.int .i64 0) ∧ Fl re x ∧ Fl im y ∧ PlO w0 p (L.set k ⟨re, im, r⟩) D w' := by
  obtain ⟨g, F, h1, h2, h3⟩ := h
  refine (stand_yes p g L D F k i hi hk hl a b x y r ha hb hx hy hok W h1).mono ?_
  rintro e w' ⟨re, im, rfl, q1, q2, q3, q4⟩
  exact ⟨re, im, rfl, q1, q2, PlO.turned h2 h3 q3 q4⟩
theorem PlO.hears (h : PlO w0 p L D W) (k m : Nat) (i j : Int) (hi : i = k + 1) (hk : k < L.length) (hj : j = m + 1) (hm : m < L.length) (hne : k ≠ m) (hl : L.length ≤ 16)
    (x y r0 u v r : Int) (hs : L[k].is ⟨x, y, r0⟩) (ht : L[m].is ⟨u, v, r⟩) (hx : x.natAbs ≤ 1000) (hy : y.natAbs ≤ 1000) (hu : u.natAbs ≤ 1000) (hv : v.natAbs ≤ 1000) (hr : 0 ≤ r ∧ r ≤ 4000) :
    Calls Try.prog 11 #[.pointer (some ⟨p, 0, none⟩), .int .i64 i, .int .i64 j] W fun e w' => e = .returned (.bool (hearsB D i j x y u v r)) ∧ PlO w0 p L D w' := by
  have hh := h
  obtain ⟨g, F, h1, h2, h3⟩ := h
  refine (hears_yes p g L D F k m i j hi hk hj hm hne hl x y r0 u v r hs ht hx hy hu hv hr W h1).mono ?_
  rintro e w' ⟨rfl, q⟩
  exact ⟨rfl, hh.below q⟩
end
theorem PlO.new (w0 W : World) (h3 : Below w0.heap.size w0 W) (k : Nat) (n : Int) (hn : n = k) (h : 1 ≤ k ∧ k ≤ 16) : Calls Try.prog 5 #[.int .i64 n] W fun e w' =>
    ∃ p, e = .returned (.tuple #[.pointer (some ⟨p, 0, none⟩), .int .i64 0]) ∧ PlO w0 p (fresh k) (.map []) w' ∧ Below W.heap.size W w' := by
  refine (cnew14_yes k n hn h W).mono ?_
  rintro e w' ⟨p, g, F, rfl, q1, q2, q3⟩
  exact ⟨p, rfl, ⟨g, F, q1, fun b hb => Nat.le_trans h3.size (q2 b hb), h3.trans (q3.mono h3.size)⟩, q3⟩
set_option maxHeartbeats 2000000 in
theorem cawake14 (w : World) : Calls Try.prog 4 #[] w fun e w' => e = .returned (.bool true) ∧ Below w.heap.size w w' := by
  have HN := Lib.hid (PlO.new w w (Below.refl _ w) 2 2 rfl (by omega))
  have HS1 := Lib.hid (fun p W (h : PlO w p (fresh 2) (.map []) W) => h.stand 0 1 rfl (by decide) (by decide) 0 0 0 0 5 Fl.zero Fl.zero (by decide) (by decide) (by decide))
  have HS2 := Lib.hid (fun p W re im (h : PlO w p ((fresh 2).set 0 ⟨re, im, 5⟩) (.map []) W) => h.stand 1 2 rfl (by simp) (by simp) _ _ 3 4 0 Fl.three Fl.four (by decide) (by decide) (by decide))
  have HH1 := Lib.hid (fun p W re im re2 im2 (k1 : Fl re 0) (k2 : Fl im 0) (k3 : Fl re2 3) (k4 : Fl im2 4) (h : PlO w p (((fresh 2).set 0 ⟨re, im, 5⟩).set 1 ⟨re2, im2, 0⟩) (.map []) W) =>
    h.hears 1 0 2 1 rfl (by simp) rfl (by simp) (by decide) (by simp) 3 4 0 0 0 5 ⟨k3, k4, rfl⟩ ⟨k1, k2, rfl⟩ (by decide) (by decide) (by decide) (by decide) (by decide))
  have HH2 := Lib.hid (fun p W re im re2 im2 (k1 : Fl re 0) (k2 : Fl im 0) (k3 : Fl re2 3) (k4 : Fl im2 4) (h : PlO w p (((fresh 2).set 0 ⟨re, im, 5⟩).set 1 ⟨re2, im2, 0⟩) (.map []) W) =>
    h.hears 0 1 1 2 rfl (by simp) rfl (by simp) (by decide) (by simp) 0 0 5 3 4 0 ⟨k1, k2, rfl⟩ ⟨k3, k4, rfl⟩ (by decide) (by decide) (by decide) (by decide) (by decide))
  rw [show hearsB (.map []) 2 1 3 4 0 0 5 = true by kernel_rfl] at HH1
  rw [show hearsB (.map []) 1 2 0 0 3 4 0 = false by kernel_rfl] at HH2
  go_enter Try.func4, Try.ntmps4
  go_wp2_with (first
    | (go_at_call 5; (with_reducible refine HN.out.mono ?_); rintro e w1 ⟨p, rfl, hI, -⟩; have HI1 := Lib.hid hI; clear hI HN)
    | (go_at_call 6; (with_reducible refine (HS1.out _ _ HI1.out).mono ?_); rintro e w2 ⟨re, im, rfl, k1, k2, hI⟩; have HI2 := Lib.hid hI; have K1 := Lib.hid k1; have K2 := Lib.hid k2; clear hI HS1 k1 k2)
    | (go_at_call 6; (with_reducible refine (HS2.out _ _ _ _ HI2.out).mono ?_); rintro e w3 ⟨re2, im2, rfl, k3, k4, hI⟩; have HI3 := Lib.hid hI; have K3 := Lib.hid k3; have K4 := Lib.hid k4; clear hI HS2 k3 k4)
    | (go_at_call 11; (with_reducible refine (HH1.out _ _ _ _ _ _ K1.out K2.out K3.out K4.out HI3.out).mono ?_); rintro e w4 ⟨rfl, hI⟩; have HI4 := Lib.hid hI; clear hI HH1)
    | (go_at_call 11; (with_reducible refine (HH2.out _ _ _ _ _ _ K1.out K2.out K3.out K4.out HI4.out).mono ?_); rintro e w5 ⟨rfl, hI⟩; have HI5 := Lib.hid hI.bel; clear hI HH2))
  exact bodyPost_ret (v := .bool true) (by simp [results, Try.results4, go_sem]) rfl ⟨rfl, HI5.out⟩
/-- a station alone, of reach 3 -/
def OneAt (w0 : World) (p : Nat) (x y : Int) (W : World) : Prop := ∃ re im, PlO w0 p [⟨re, im, 3⟩] (.map []) W ∧ Fl re x ∧ Fl im y
section
variable {w0 W W' : World} {p : Nat} {x y : Int}
theorem OneAt.below (h : OneAt w0 p x y W) (hb : Below W.heap.size W W') : OneAt w0 p x y W' := by
  obtain ⟨re, im, h1, h2⟩ := h
  exact ⟨re, im, h1.below hb, h2⟩
theorem OneAt.bel (h : OneAt w0 p x y W) : Below w0.heap.size w0 W := by
  obtain ⟨re, im, h1, h2⟩ := h
  exact h1.bel
theorem OneAt.at_ (h : OneAt w0 p x y W) : Calls Try.prog 8 #[.pointer (some ⟨p, 0, none⟩), .int .i64 1] W fun e w' =>
    ∃ a b, e = .returned (.tuple #[.complex .f64 a b, .int .i64 3]) ∧ Fl a x ∧ Fl b y ∧ OneAt w0 p x y w' := by
  have hh := h
  obtain ⟨re, im, ⟨g, F, h1, h2, h3⟩, h4, h5⟩ := h
  refine (at_yes p g [⟨re, im, 3⟩] _ F 0 1 rfl (by simp) (by simp) W h1).mono ?_
  rintro e w' ⟨rfl, q⟩
  exact ⟨re, im, rfl, h4, h5, hh.below q⟩
theorem OneAt.turn_yes (h : OneAt w0 p x y W) (hx : x.natAbs ≤ 1000) (hy : y.natAbs ≤ 1000) (c d : Nat) (u v : Int) (hc : Fl c u) (hd : Fl d v) (hab : inP u v = true) (hok : standOk (turnX y u v) (turnY x u v) 3 = true) :
    Calls Try.prog 9 #[.pointer (some ⟨p, 0, none⟩), .int .i64 1, .complex .f64 c d] W fun e w' => e = .returned (.int .i64 0) ∧ OneAt w0 p (turnX y u v) (turnY x u v) w' := by
  obtain ⟨re, im, ⟨g, F, h1, h2, h3⟩, h4, h5⟩ := h
  refine (Go.Proofs.Ythfnooldjbalcaa.turn_yes p g [⟨re, im, 3⟩] _ F 0 1 rfl (by simp) (by simp) x y 3 ⟨h4, h5, rfl⟩ hx hy c d u v hc hd W h1 hab hok).mono ?_
  rintro e w' ⟨re', im', rfl, q1, q2, q3, q4⟩
  exact ⟨rfl, re', im', PlO.turned h2 h3 q3 q4, q1, q2⟩
theorem OneAt.turn_no (h : OneAt w0 p x y W) (hx : x.natAbs ≤ 1000) (hy : y.natAbs ≤ 1000) (c d : Nat) (u v : Int) (hc : Fl c u) (hd : Fl d v) (hab : inP u v = true) (hok : standOk (turnX y u v) (turnY x u v) 3 = false) :
    Calls Try.prog 9 #[.pointer (some ⟨p, 0, none⟩), .int .i64 1, .complex .f64 c d] W fun e w' => e = .returned (.int .i64 1) ∧ OneAt w0 p x y w' := by
  have hh := h
  obtain ⟨re, im, ⟨g, F, h1, h2, h3⟩, h4, h5⟩ := h
  refine (Go.Proofs.Ythfnooldjbalcaa.turn_no p g [⟨re, im, 3⟩] _ F 0 1 rfl (by simp) (by simp) x y 3 ⟨h4, h5, rfl⟩ hx hy c d u v hc hd W h1 hab hok).mono ?_
  rintro e w' ⟨rfl, q⟩
  exact ⟨rfl, hh.below q⟩
theorem OneAt.move (h : OneAt w0 p x y W) (hx : x.natAbs ≤ 1000) (hy : y.natAbs ≤ 1000) (c d : Nat) (u v : Int) (hc : Fl c u) (hd : Fl d v) (hab : inZ 2000 u v = true) (hok : standOk (x + u) (y + v) 3 = true) :
    Calls Try.prog 10 #[.pointer (some ⟨p, 0, none⟩), .int .i64 1, .complex .f64 c d] W fun e w' => e = .returned (.int .i64 0) ∧ OneAt w0 p (x + u) (y + v) w' := by
  obtain ⟨re, im, ⟨g, F, h1, h2, h3⟩, h4, h5⟩ := h
  refine (move_yes p g [⟨re, im, 3⟩] _ F 0 1 rfl (by simp) (by simp) x y 3 ⟨h4, h5, rfl⟩ hx hy c d u v hc hd W h1 hab hok).mono ?_
  rintro e w' ⟨re', im', rfl, q1, q2, q3, q4⟩
  exact ⟨rfl, re', im', PlO.turned h2 h3 q3 q4, q1, q2⟩
theorem OneAt.stand (h : PlO w0 p (fresh 1) (.map []) W) (a b : Nat) (ha : Fl a x) (hb : Fl b y) (hok : inP x y = true) :
    Calls Try.prog 6 #[.pointer (some ⟨p, 0, none⟩), .int .i64 1, .complex .f64 a b, .int .i64 3] W fun e w' => e = .returned (.int .i64 0) ∧ OneAt w0 p x y w' := by
  obtain ⟨hx, hy⟩ := (inP_iff x y).1 hok
  refine (PlO.stand h 0 1 rfl (by simp) (by simp) a b x y 3 ha hb (by omega) (by omega) (by unfold standOk; rw [hok]; decide)).mono ?_
  rintro e w' ⟨re, im, rfl, q1, q2, q3⟩
  exact ⟨rfl, re, im, q3, q1, q2⟩
end
end Go.Proofs.Ythfnooldjbalcaa
