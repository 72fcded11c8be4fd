/-
A landed smoother of the call's own, as it lies; what each method makes of it; the example.
-/
import Derived.Test.YtljmdpkbedmkmaaSmoTook
namespace Go.Proofs.Ytljmdpkbedmkmaa
open Go.RowKit
set_option maxRecDepth 20000
structure SmAt (w0 : World) (p : Nat) (s : Sm) (W : World) : Prop where
  row : RowAt W p (smV s)
  ok : s.ok
  bel : Below w0.heap.size w0 W
  own : w0.heap.size ≤ p
theorem SmAt.lt {w0 W : World} {p : Nat} {s : Sm} (h : SmAt w0 p s W) : p < W.heap.size := h.row.lt
theorem SmAt.below {w0 W W' : World} {p : Nat} {s : Sm} (h : SmAt w0 p s W) (hb : Below W.heap.size W W') : SmAt w0 p s W' := ⟨h.row.below hb, h.ok, h.bel.trans (hb.mono h.bel.size), h.own⟩
theorem SmAt.turned {w0 W W' : World} {p : Nat} {s s' : Sm} (h : SmAt w0 p s W) (hr : RowAt W' p (smV s')) (hok : s'.ok) (ht : Turn (fun x => x = p) W W') : SmAt w0 p s' W' :=
  ⟨hr, hok, h.bel.trans (ht.below h.bel.size (fun k e => by rw [e]; exact h.own)), h.own⟩
theorem SmAt.other {w0 W W' : World} {p q : Nat} {s : Sm} (h : SmAt w0 p s W) (ht : Turn (fun x => x = q) W W') (hq : p ≠ q) (hb : w0.heap.size ≤ q) : SmAt w0 p s W' :=
  ⟨h.row.turn ht hq, h.ok, h.bel.trans (ht.below h.bel.size (fun k e => by rw [e]; exact hb)), h.own⟩
theorem sm_new (n : Int) (w0 W : World) (hb : Below w0.heap.size w0 W) : Calls Try.prog 8 #[.int .i64 n] W fun e w' => ∃ p, e = .returned (.pointer (some ⟨p, 0, none⟩)) ∧ SmAt w0 p (Sm.new n) w' ∧ p = W.heap.size ∧ Below W.heap.size W w' :=
  (cnew_any n W).mono fun _ _ ⟨he, hw⟩ => ⟨_, he, ⟨by rw [hw]; exact cnew_row n W, Sm.new_ok n, by rw [hw]; exact hb.alloc hb.size _, hb.size⟩, rfl, by rw [hw]; exact (Below.refl _ _).alloc (Nat.le_refl _) _⟩
theorem SmAt.t1 {w0 W : World} {p : Nat} {s : Sm} (h : SmAt w0 p s W) : Calls Try.prog 10 #[.pointer (some ⟨p, 0, none⟩)] W fun e w' => e = .returned (.int .i64 s.t1) ∧ w' = W := ct1_any p s W h.row h.ok
theorem SmAt.srt {w0 W : World} {p : Nat} {s : Sm} (h : SmAt w0 p s W) : Calls Try.prog 11 #[.pointer (some ⟨p, 0, none⟩)] W fun e w' => e = .returned (.int .i64 s.srt) ∧ w' = W := csrt_any p s W h.row
theorem SmAt.missed {w0 W : World} {p : Nat} {s : Sm} (h : SmAt w0 p s W) : Calls Try.prog 12 #[.pointer (some ⟨p, 0, none⟩)] W fun e w' => e = .returned (.int .i64 s.none.t1) ∧ SmAt w0 p s.none w' ∧ Turn (fun x => x = p) W w' :=
  (cnone_any p s W h.row h.ok).mono fun _ _ ⟨he, hr, ht⟩ => ⟨he, h.turned hr (Sm.none_ok h.ok) ht, ht⟩
theorem SmAt.took {w0 W : World} {p : Nat} {s : Sm} (h : SmAt w0 p s W) (t : Int) : Calls Try.prog 14 #[.pointer (some ⟨p, 0, none⟩), .int .i64 t] W fun e w' => e = .returned (.int .i64 (s.took t).t1) ∧ SmAt w0 p (s.took t) w' ∧ Turn (fun x => x = p) W w' :=
  (ctook_any p s t W h.row h.ok).mono fun _ _ ⟨he, hr, ht⟩ => ⟨he, h.turned hr (Sm.took_ok h.ok t) ht, ht⟩
set_option maxHeartbeats 1000000 in
theorem smawake_any (w : World) : Calls Try.prog 7 #[] w fun e w' => e = .returned (.bool true) ∧ Below w.heap.size w w' := by
  have HN := Lib.hid (sm_new 20 w w (Below.refl _ _))
  rw [show Sm.new 20 = ⟨80, 20⟩ from rfl] at HN
  have HT := Lib.hid (fun (W : World) (p : Nat) (h : SmAt w p ⟨80, 20⟩ W) => show Calls Try.prog 14 #[.pointer (some ⟨p, 0, none⟩), .int .i64 4] W fun e w' => e = .returned (.int .i64 20) ∧ SmAt w p ⟨74, 20⟩ w' from
    (h.took 4).mono fun _ _ ⟨he, hs, _⟩ => ⟨he, hs⟩)
  have HM := Lib.hid (fun (W : World) (p : Nat) (h : SmAt w p ⟨74, 20⟩ W) => show Calls Try.prog 12 #[.pointer (some ⟨p, 0, none⟩)] W fun e w' => e = .returned (.int .i64 40) ∧ SmAt w p ⟨74, 40⟩ w' from
    h.missed.mono fun _ _ ⟨he, hs, _⟩ => ⟨he, hs⟩)
  go_enter Try.func7, Try.ntmps7
  go_wp2_with (first
    | (go_at_call 8; (with_reducible refine HN.out.mono ?_); rintro e w1 ⟨p, rfl, hs, -, -⟩; have HS := Lib.hid hs; clear hs)
    | (go_at_call 10; (with_reducible refine (HS.out.t1).mono ?_); rintro e w1 ⟨rfl, rfl⟩)
    | (go_at_call 11; (with_reducible refine (HS.out.srt).mono ?_); rintro e w1 ⟨rfl, rfl⟩)
    | (go_at_call 14; (with_reducible refine (HT.out _ _ HS.out).mono ?_); rintro e w1 ⟨rfl, hs⟩; replace HS := Lib.hid hs; clear hs)
    | (go_at_call 12; (with_reducible refine (HM.out _ _ HS.out).mono ?_); rintro e w1 ⟨rfl, hs⟩; replace HS := Lib.hid hs; clear hs))
  exact bodyPost_ret (v := .bool true) (by simp [results, Try.results7, go_sem]) rfl ⟨rfl, HS.out.bel⟩
end Go.Proofs.Ytljmdpkbedmkmaa
