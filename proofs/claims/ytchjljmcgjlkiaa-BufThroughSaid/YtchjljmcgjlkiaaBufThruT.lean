/-
A piece taken out of the box and gathered: the function within BufThrough.
-/
import Derived.Test.YtchjljmcgjlkiaaBufThruM
import Derived.Test.YtchjljmcgjlkiaaSegCGather
import Derived.Lib.QuietBelow
import Derived.BigQuiet
namespace Go.Proofs.Ytchjljmcgjlkiaa
open Go.RowKit Go.Sort
set_option maxRecDepth 20000
set_option maxHeartbeats 2000000 in
theorem thtake_none {B : BoP} (hC : BoC B) {w : World} {n1 : Int} {q m c5 c7 c8 c9 : Nat} {want : List Pc} {got : Nat} {b : Bx} {g : Gs} {wv : Value} {W : World} (h : ThAt B w n1 q m c5 c7 c8 c9 want got b g wv (fun _ => False) W) (hb : BOk b) (hn : nextB b = (b, zeroP, false)) :
    Calls Try.prog 20 #[ptrB c5, ptrB c7, ptrB c9, ptrB c8] W fun e w' => e = .returned (.bool true) ∧ ThAt B w n1 q m c5 c7 c8 c9 want got b g wv (fun _ => False) w' := by
  have HH := Lib.hid h
  have HC := Lib.hid hC
  have HN := Lib.hid (h.box.next hC hb)
  rw [hn] at HN
  simp only [pcV, zeroP] at HN
  have x5 := h.r5.cell 0 rfl
  clear h hC hb hn
  go_enter Try.func20, Try.ntmps20
  go_wp2_with (first
    | (go_at_call 12; (with_reducible refine HN.out.mono ?_); rintro e w2 ⟨rfl, h1, h2⟩; have HH2 := Lib.hid (HH.out.turnBox h1 h2); clear h1 h2))
  exact bodyPost_ret (v := .bool true) (by simp [results, Try.results20, go_sem]) rfl ⟨rfl, HH2.out.below HC.out ((Below.refl _ _).alloc (Nat.le_refl _) _)⟩
set_option maxHeartbeats 2000000 in
theorem thtake_mid {B : BoP} (hC : BoC B) {w : World} {n1 : Int} {q m c5 c7 c8 c9 : Nat} {want : List Pc} {got : Nat} {b : Bx} {g : Gs} {wv : Value} {W : World} (h : ThAt B w n1 q m c5 c7 c8 c9 want got b g wv (fun _ => False) W) (hb : BOk b) (hg : GOk g) (p : Pc) (hn : (nextB b).2 = (p, true)) (hz : p.info.size ≤ 2000)
    (ht : (takeD g p).2 = (zeroP, false, 0)) :
    Calls Try.prog 20 #[ptrB c5, ptrB c7, ptrB c9, ptrB c8] W fun e w' => e = .returned (.bool true) ∧ ThAt B w n1 q m c5 c7 c8 c9 want got (nextB b).1 (takeD g p).1 wv (fun _ => False) w' := by
  have HH := Lib.hid h
  have HC := Lib.hid hC
  have HN := Lib.hid (h.box.next hC hb)
  rw [hn] at HN
  have HT := Lib.hid (fun W (hr : RowAt W m (csV g)) => ctake_any m g p W hr hg hz)
  unfold CTakeTo at HT
  rw [ht] at HT
  obtain ⟨p0, p1⟩ := p
  simp only [pcV, zeroP] at HN HT
  generalize (nextB b).1 = b' at *
  generalize (takeD g ⟨p0, p1⟩).1 = g' at *
  have x5 := h.r5.cell 0 rfl
  clear h hC hb hn ht hg
  go_enter Try.func20, Try.ntmps20
  go_upto_region 4 with (first
    | (go_at_call 12; (with_reducible refine HN.out.mono ?_); rintro e w2 ⟨rfl, h1, h2⟩; have HH2 := Lib.hid (HH.out.turnBox h1 h2); clear h1 h2))
  have HH3 := Lib.hid (HH2.out.below HC.out ((Below.refl _ _).alloc (Nat.le_refl _) (.cells #[.int .i64 p0, .string p1] 36)))
  have HP3 := Lib.hid (RowAt.new w2 w2.heap.size rfl [.int .i64 p0, .string p1] 36)
  clear x5
  generalize w2.alloc (.cells #[.int .i64 p0, .string p1] 36) = w3 at *
  have x7 := HH3.out.r7.cell 0 rfl
  have y0 := HP3.out.cell 0 rfl
  have y1 := HP3.out.cell 1 rfl
  go_wp2_with (first
    | (go_at_call 21; (with_reducible refine (HT.out _ HH3.out.gat).mono ?_); rintro e w4 ⟨rfl, h1, h2⟩; have HH4 := Lib.hid (HH3.out.gather HC.out h1 h2); clear h1 h2))
  exact bodyPost_ret (v := .bool true) (by simp [results, Try.results20, go_sem]) rfl ⟨rfl, HH4.out.below HC.out ((Below.refl _ _).alloc (Nat.le_refl _) _)⟩
set_option maxHeartbeats 2000000 in
theorem thtake_last {B : BoP} (hC : BoC B) {w : World} {n1 : Int} {q m c5 c7 c8 c9 : Nat} {want : List Pc} {got : Nat} {b : Bx} {g : Gs} {wv : Value} {W : World} (h : ThAt B w n1 q m c5 c7 c8 c9 want got b g wv (fun _ => False) W) (hb : BOk b) (hg : GOk g) (p : Pc) (hn : (nextB b).2 = (p, true)) (hz : p.info.size ≤ 2000)
    (hlt : got < want.length) (hw : want.length ≤ 1000) (ht : (takeD g p).2 = (want[got], true, 0)) :
    Calls Try.prog 20 #[ptrB c5, ptrB c7, ptrB c9, ptrB c8] W fun e w' => e = .returned (.bool true) ∧ ThAt B w n1 q m c5 c7 c8 c9 want (got + 1) (nextB b).1 (takeD g p).1 wv (fun _ => False) w' := by
  have HH := Lib.hid h
  have HC := Lib.hid hC
  have HN := Lib.hid (h.box.next hC hb)
  rw [hn] at HN
  have HT := Lib.hid (fun W (hr : RowAt W m (csV g)) => ctake_any m g p W hr hg hz)
  unfold CTakeTo at HT
  rw [ht] at HT
  obtain ⟨p0, p1⟩ := p
  have hpc := fun (w : World) (a : Nat) (o : Nat) (hA : AtL encP w (some ⟨a, o, none⟩) want) => pc_at hA got hlt
  obtain ⟨mw, hwm⟩ : ∃ x, want[got] = x := ⟨_, rfl⟩
  obtain ⟨m0, m1⟩ := mw
  rw [hwm] at HT
  simp only [hwm] at hpc
  simp only [pcV] at HN HT
  have HPC := Lib.hid hpc
  generalize (nextB b).1 = b' at *
  generalize (takeD g ⟨p0, p1⟩).1 = g' at *
  obtain ⟨wa, wc, rfl, -⟩ := h.own.see
  have HAT := Lib.hid (fun W' (h : ThAt B w n1 q m c5 c7 c8 c9 want got b' g' (.slice wa want.length wc) (fun _ => False) W') => (show AtL encP W' wa want from by
    obtain ⟨a, c, hv, hA⟩ := h.own.see
    cases hv
    exact hA))
  obtain ⟨n, hn'⟩ : ∃ n, n = want.length := ⟨_, rfl⟩
  have HNN := Lib.hid hn'
  rw [← hn'] at HH HAT HN hlt hw
  have x5 := h.r5.cell 0 rfl
  have dlt : decide ((n : Int) ≤ (got : Int)) = false := decide_eq_false (by omega)
  have dlt2 : decide (n ≤ got) = false := decide_eq_false (by omega)
  have HZ := Lib.hid (show wrap64 ((got : Int) + 1) = ((got + 1 : Nat) : Int) from by rw [IntWalk.wrap64_in _ (by omega)]; omega)
  clear h hC hb hn ht hg hpc hwm hn'
  go_enter Try.func20, Try.ntmps20
  go_upto_region 4 with (first
    | (go_at_call 12; (with_reducible refine HN.out.mono ?_); rintro e w2 ⟨rfl, h1, h2⟩; have HH2 := Lib.hid (HH.out.turnBox h1 h2); clear h1 h2))
  have HH3 := Lib.hid (HH2.out.below HC.out ((Below.refl _ _).alloc (Nat.le_refl _) (.cells #[.int .i64 p0, .string p1] 36)))
  have HP3 := Lib.hid (RowAt.new w2 w2.heap.size rfl [.int .i64 p0, .string p1] 36)
  clear x5
  generalize w2.alloc (.cells #[.int .i64 p0, .string p1] 36) = w3 at *
  have x7 := HH3.out.r7.cell 0 rfl
  have y0 := HP3.out.cell 0 rfl
  have y1 := HP3.out.cell 1 rfl
  go_upto_region 8 with (first
    | (go_at_call 21; (with_reducible refine (HT.out _ HH3.out.gat).mono ?_); rintro e w4 ⟨rfl, h1, h2⟩; have HH4 := Lib.hid (HH3.out.gather HC.out h1 h2); clear h1 h2))
  have HH5 := Lib.hid (HH4.out.below HC.out ((Below.refl _ _).alloc (Nat.le_refl _) (.cells #[.int .i64 m0, .string m1] 36)))
  have HP5 := Lib.hid (RowAt.new w4 w4.heap.size rfl [.int .i64 m0, .string m1] 36)
  clear x7 y0 y1
  generalize w4.alloc (.cells #[.int .i64 m0, .string m1] 36) = w5 at *
  obtain ⟨ga, go, rfl, -⟩ := (HAT.out _ HH5.out).some_ (by have := HNN.out; omega)
  have hA5 := HAT.out _ HH5.out
  have x8 := HH5.out.r8.cell 0 rfl
  have x9 := HH5.out.r9.cell 0 rfl
  have z0 := HP5.out.cell 0 rfl
  have z1 := HP5.out.cell 1 rfl
  obtain ⟨v0, v1⟩ := HPC.out _ _ _ hA5
  clear hA5
  go_quiet (fail)
  have HH6 := Lib.hid (HH5.out.below HC.out (belowN (Below.refl _ w5) nq))
  clear x8 x9 z0 z1 v0 v1
  generalize w5.drewN nq = w6 at *
  have x9 := HH6.out.r9.cell 0 rfl
  have f9 := (HH6.out.r9.get 0 rfl).free
  have he := HH6.out.count HC.out
  rw [show ((got + 1 : Nat) : Int) = (got : Int) + 1 from by omega, HNN.out] at he
  have HE := Lib.hid he
  have hz : wrap64 ((got : Int) + 1) = (got : Int) + 1 := by rw [HZ.out]; omega
  clear he
  go_wp2_with fail
  exact bodyPost_ret (v := .bool true) (by simp [results, Try.results20, go_sem]) rfl ⟨rfl, HE.out⟩
/-- each way -/
theorem thtake_any {B : BoP} (hC : BoC B) {w : World} {n1 : Int} {q m c5 c7 c8 c9 : Nat} {want : List Pc} {got : Nat} {b : Bx} {g : Gs} {wv : Value} {W : World} (h : ThAt B w n1 q m c5 c7 c8 c9 want got b g wv (fun _ => False) W) (hb : BOk b) (hi : ThInv n1 want got b.M g) (hw : want.length ≤ 1000) :
    Calls Try.prog 20 #[ptrB c5, ptrB c7, ptrB c9, ptrB c8] W fun e w' => e = .returned (.bool true) ∧ ∃ got' g', ThInv n1 want got' (nextB b).1.M g' ∧ ThAt B w n1 q m c5 c7 c8 c9 want got' (nextB b).1 g' wv (fun _ => False) w' := by
  by_cases h0 : b.M = []
  · have hn := (th_none hi h0).1
    rw [hn]
    exact (thtake_none hC h hb hn).mono fun e w' ⟨he, h1⟩ => ⟨he, got, g, hi, h1⟩
  · obtain ⟨p, h1, h2, h3⟩ := th_next hi hb h0
    rcases h3 with ⟨h4, h5⟩ | ⟨hlt, h4, h5⟩
    · exact (thtake_mid hC h hb hi.1 p h1 h2 h4).mono fun e w' ⟨he, h6⟩ => ⟨he, got, _, h5, h6⟩
    · exact (thtake_last hC h hb hi.1 p h1 h2 hlt hw h4).mono fun e w' ⟨he, h6⟩ => ⟨he, got + 1, _, h5, h6⟩
end Go.Proofs.Ytchjljmcgjlkiaa
