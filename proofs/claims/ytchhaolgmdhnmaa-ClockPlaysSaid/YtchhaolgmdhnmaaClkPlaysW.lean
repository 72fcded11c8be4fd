/-
The walk of ClockPlays (written by tools/gen13/gen_plays.py).
-/
import Derived.Test.YtchhaolgmdhnmaaClkPlays0
import Derived.Test.YtchhaolgmdhnmaaClkPlays1
import Derived.Test.YtchhaolgmdhnmaaClkPlays2
import Derived.Test.YtchhaolgmdhnmaaClkPlays3
import Derived.Test.YtchhaolgmdhnmaaClkPlays4
namespace Go.Proofs.Ytchhaolgmdhnmaa
open Go.RowKit
set_option maxRecDepth 20000
set_option maxHeartbeats 4000000 in
/-- a round -/
theorem plays_round (a : Option Addr) (n c p q : Nat) (L : List Op13) (w : World) (hn : L.length = n) (hn2 : n ≤ 200) (hA : AtL encO w a L) (Q0 : Exit → Act → World → Prop) (hexit : ∀ a' w'', Below w.heap.size w w'' → a' = playsFr a n c p q (fun k => a'.tmps.getD k undef) → Q0 (.exit 0) a' w'') (a' : Act) (wr : World) (hI : PlaysI a n c p q w a' wr) :
    Code.wp Try.prog playsBody (Exit.then (fun a'' w'' => PlaysI a n c p q w a'' w'' ∧ playsMu n a'' w'' < playsMu n a' wr) Q0) a' wr := by
  obtain ⟨ha, j, LL, NN, hj, h19, hNN0, hNN1, hok, B, hp⟩ := hI
  obtain ⟨uu, hu⟩ : ∃ uu : Nat → Value, (fun k => a'.tmps.getD k undef) = uu := ⟨_, rfl⟩
  have h19' : uu 19 = .int .i64 (j : Int) := by rw [← hu]; exact h19
  rw [hu] at ha
  subst ha
  clear hu h19
  have hfr : playsFr a n c p q uu = ⟨#[.slice a n c, undef, uu 2, .pointer (some ⟨p, 0, none⟩), .pointer (some ⟨q, 0, none⟩), undef, uu 6, uu 7, uu 8, .bool true, .bool false, .slice a n c, .int .i64 (n : Int), .bool false, .pointer (some ⟨p, 0, none⟩), .agg #[.int .i64 0, .slice none 0 0], .pointer (some ⟨q, 0, none⟩), .slice a n c, .int .i64 (n : Int), .int .i64 (j : Int), uu 20, uu 21, uu 22, uu 23, uu 24, uu 25, uu 26, uu 27, uu 28, uu 29, uu 30, uu 31, uu 32, uu 33, uu 34, uu 35, uu 36, uu 37, uu 38, uu 39, uu 40, uu 41, uu 42, uu 43, uu 44, uu 45, uu 46, uu 47, uu 48, uu 49, uu 50, uu 51, uu 52, uu 53, uu 54, uu 55, uu 56, uu 57, uu 58, uu 59, uu 60, uu 61, uu 62, uu 63, uu 64, uu 65, uu 66, uu 67, uu 68, uu 69, uu 70, uu 71, uu 72, uu 73, uu 74, uu 75, uu 76, uu 77, uu 78, uu 79, uu 80, uu 81, uu 82, uu 83, uu 84, uu 85, uu 86, uu 87, uu 88, uu 89, uu 90, uu 91, uu 92, uu 93, uu 94, uu 95, uu 96, uu 97, uu 98, uu 99, uu 100, uu 101, uu 102, uu 103, uu 104, uu 105, uu 106, uu 107, uu 108, uu 109, uu 110, uu 111, uu 112, uu 113, uu 114, uu 115, uu 116, uu 117, uu 118, uu 119, uu 120, uu 121, uu 122, uu 123, uu 124, uu 125, uu 126], []⟩ := by
    unfold playsFr
    rw [h19']
  rw [hfr]
  clear hfr h19'
  by_cases hlt : j < n
  · have hL : j < L.length := by omega
    obtain ⟨g0, o0, rfl, _⟩ := hA.some_ (by omega)
    obtain ⟨y0, y1, y2, y3⟩ := op_at (hA.below hp.bel) j hL
    obtain ⟨y, hy⟩ : ∃ y, L[j] = y := ⟨_, rfl⟩
    rw [hy] at y0 y1 y2 y3
    obtain ⟨yc, yt, yk, yn⟩ := y
    simp only at y0 y1 y2 y3
    by_cases hc0 : yc = 0
    · subst hc0
      exact plays_way0 g0 o0 n c p q w wr uu j LL NN B yt yk yn hn2 hlt hNN0 hNN1 hok hp y0 y1 y2 y3 Q0
    by_cases hc1 : yc = 1
    · subst hc1
      exact plays_way1 g0 o0 n c p q w wr uu j LL NN B yt yk yn hn2 hlt hNN0 hNN1 hok hp y0 y1 y2 y3 Q0
    by_cases hc2 : yc = 2
    · subst hc2
      exact plays_way2 g0 o0 n c p q w wr uu j LL NN B yt yk yn hn2 hlt hNN0 hNN1 hok hp y0 y1 y2 y3 Q0
    by_cases hc3 : yc = 3
    · subst hc3
      exact plays_way3 g0 o0 n c p q w wr uu j LL NN B yt yk yn hn2 hlt hNN0 hNN1 hok hp y0 y1 y2 y3 Q0
    exact plays_way4 g0 o0 n c p q w wr uu j LL NN B yc yt yk yn hn2 hlt hNN0 hNN1 hok hp y0 y1 y2 y3 (by simpa using hc0) (by simpa using hc1) (by simpa using hc2) (by simpa using hc3) Q0
  · have e : j = n := by omega
    subst e
    have hb := hp.bel
    have HX := Lib.hid (fun a' => hexit a' wr hb)
    clear hexit hp hok hA hn
    conv => arg 2; whnf
    go_wp2_with fail
    exact HX.out _ rfl
set_option maxHeartbeats 4000000 in
theorem ckplays_any (a : Option Addr) (n c : Nat) (L : List Op13) (w : World) (hn : L.length = n) (hA : AtL encO w a L) : Calls Try.prog 3 #[.slice a n c] w fun e w' => e = .returned (.bool true) ∧ Below w.heap.size w w' := by
  have HAW := Lib.hid (fun W => cawake13 W)
  have HNW := Lib.hid (fun W h => CkO.new w W h)
  by_cases hz : 200 < n
  · have dz : decide ((200 : Int) < (n : Int)) = true := decide_eq_true (by omega)
    clear hn hA hz HNW
    go_enter Try.func3, Try.ntmps3
    go_wp2_with (go_at_call 6; (with_reducible refine (HAW.out _).mono ?_); rintro e w1 ⟨rfl, hb⟩; have HB1 := Lib.hid hb; clear hb)
    exact bodyPost_ret (v := .bool true) (by simp [results, Try.results3, go_sem]) rfl ⟨rfl, HB1.out⟩
  · have dz : decide ((200 : Int) < (n : Int)) = false := decide_eq_false (by omega)
    have hn2 : n ≤ 200 := by omega
    have HR := Lib.hid (fun p q Q0 he a' wr hI => plays_round a n c p q L w hn hn2 hA Q0 he a' wr hI)
    clear hn hA hz hn2
    go_enter Try.func3, Try.ntmps3
    go_upto_region 6 with (first
      | (go_at_call 6; (with_reducible refine (HAW.out _).mono ?_); rintro e w1 ⟨rfl, hb⟩; have HB1 := Lib.hid hb; clear hb)
      | (go_at_call 7; (with_reducible refine (HNW.out _ HB1.out).mono ?_); rintro e w2 ⟨p, rfl, hI⟩; have HI2 := Lib.hid hI; clear hI))
    have HP0 := Lib.hid (PlO.start HI2.out)
    clear HAW HNW HB1 HI2 dz
    generalize w2.alloc (.cells #[.int .i64 0, .slice none 0 0] 29) = w3 at *
    generalize w2.heap.size = q at *
    go_wp2_with fail
    refine wp_loop (PlaysI a n c p q w) (playsMu n) ⟨rfl, 0, [], 0, Nat.zero_le _, rfl, Int.le_refl 0, Int.le_refl 0, ClkOk.nil, _, HP0.out⟩ (fun a' wr hI => HR.out p q _ (fun a'' w'' hb ha => ?_) a' wr hI)
    obtain ⟨u, hu⟩ : ∃ u : Nat → Value, (fun k => a''.tmps.getD k undef) = u := ⟨_, rfl⟩
    rw [hu] at ha
    subst ha
    clear hu HR HP0
    unfold playsFr
    have HBE := Lib.hid hb
    clear hb
    go_wp2_with fail
    exact bodyPost_ret (v := .bool true) (by simp [results, Try.results3, go_sem]) rfl ⟨rfl, HBE.out⟩
end Go.Proofs.Ytchhaolgmdhnmaa
