/-
The walk of SmoothOrder.
-/
import Derived.Test.YtljmdpkbedmkmaaSmoAt
import Derived.Test.YtljmdpkbedmkmaaSmoOpens
namespace Go.Proofs.Ytljmdpkbedmkmaa
open Go.RowKit
set_option maxRecDepth 20000
/-- three smoothers -/
structure T3At (w0 : World) (x y z : Nat) (s1 s2 s3 : Sm) (W : World) : Prop where
  c1 : SmAt w0 x s1 W
  c2 : SmAt w0 y s2 W
  c3 : SmAt w0 z s3 W
  xy : x ≠ y
  yz : y ≠ z
  xz : x ≠ z
variable {w0 W W' : World} {x y z : Nat} {s1 s2 s3 : Sm}
theorem T3At.took1 (h : T3At w0 x y z s1 s2 s3 W) (t : Int) : Calls Try.prog 14 #[.pointer (some ⟨x, 0, none⟩), .int .i64 t] W fun e w' => e = .returned (.int .i64 (s1.took t).t1) ∧ T3At w0 x y z (s1.took t) s2 s3 w' :=
  (h.c1.took t).mono fun _ _ ⟨he, hs, ht⟩ => ⟨he, hs, h.c2.other ht h.xy.symm h.c1.own, h.c3.other ht h.xz.symm h.c1.own, h.xy, h.yz, h.xz⟩
theorem T3At.took2 (h : T3At w0 x y z s1 s2 s3 W) (t : Int) : Calls Try.prog 14 #[.pointer (some ⟨y, 0, none⟩), .int .i64 t] W fun e w' => e = .returned (.int .i64 (s2.took t).t1) ∧ T3At w0 x y z s1 (s2.took t) s3 w' :=
  (h.c2.took t).mono fun _ _ ⟨he, hs, ht⟩ => ⟨he, h.c1.other ht h.xy h.c2.own, hs, h.c3.other ht h.yz.symm h.c2.own, h.xy, h.yz, h.xz⟩
theorem T3At.took3 (h : T3At w0 x y z s1 s2 s3 W) (t : Int) : Calls Try.prog 14 #[.pointer (some ⟨z, 0, none⟩), .int .i64 t] W fun e w' => e = .returned (.int .i64 (s3.took t).t1) ∧ T3At w0 x y z s1 s2 (s3.took t) w' :=
  (h.c3.took t).mono fun _ _ ⟨he, hs, ht⟩ => ⟨he, h.c1.other ht h.xz h.c3.own, h.c2.other ht h.yz h.c3.own, hs, h.xy, h.yz, h.xz⟩
/-- one by one -/
def runB (s : Sm) (L : List Nat) : Sm := L.foldl (fun (s : Sm) (t : Nat) => s.took (t : Int)) s
theorem runB_next (s : Sm) (L : List Nat) (k : Nat) (hk : k < L.length) : runB s (L.take (k + 1)) = (runB s (L.take k)).took (L[k] : Int) := by
  rw [List.take_succ_eq_append_getElem hk]
  unfold runB
  rw [List.foldl_append]
  rfl
set_option maxHeartbeats 1000000 in
theorem smorder_any (n : Int) (a0 : Option Addr) (len cap : Nat) (L : List Nat) (x y : Nat) (w : World) (hL : L.length = len) (hA : AtL encB w a0 L) (hb : ∀ b ∈ L, b < 256) (hx : x < 256) (hy : y < 256) : Calls Try.prog 6 #[.int .i64 n, .slice a0 len cap, .agg #[.int .u8 (x : Int), .int .u8 (y : Int)]] w fun e w' => e = .returned (.bool true) ∧ Below w.heap.size w w' := by
  have HAW := Lib.hid (fun W => smawake_any W)
  have HN := Lib.hid (fun W h => sm_new n w W h)
  have HB0 := Lib.hid ((Below.refl w.heap.size w).alloc (Nat.le_refl _) (.cells #[.int .u8 (x : Int), .int .u8 (y : Int)] 37))
  have HQ0 := Lib.hid (RowAt.new w w.heap.size rfl [.int .u8 (x : Int), .int .u8 (y : Int)] 37)
  by_cases hz : 300 < len
  · have dz : decide ((300 : Int) < (len : Int)) = true := decide_eq_true (by omega)
    clear hL hA hb HQ0
    go_enter Try.func6, Try.ntmps6
    go_wp2_with (go_at_call 7; (with_reducible refine (HAW.out _).mono ?_); rintro e w1 ⟨rfl, hb⟩; have HB := Lib.hid (HB0.out.trans (hb.mono HB0.out.size)); clear hb)
    exact bodyPost_ret (v := .bool true) (by simp [results, Try.results6, go_sem]) rfl ⟨rfl, HB.out⟩
  · have dz : decide ((300 : Int) < (len : Int)) = false := decide_eq_false (by omega)
    have hle : len ≤ 300 := by omega
    have HL := Lib.hid hL
    have HA := Lib.hid hA
    have HBB := Lib.hid hb
    have HNEXT := Lib.hid (fun j hj => runB_next (Sm.new n) L j hj)
    have HXY := Lib.hid (And.intro hx hy)
    clear hL hA hb hz hx hy
    have HR0 : Hid (runB (Sm.new n) (L.take 0) = Sm.new n) := Lib.hid rfl
    generalize Sm.new n = s0 at *
    go_enter Try.func6, Try.ntmps6
    go_upto_region 5 with (go_at_call 7; (with_reducible refine (HAW.out _).mono ?_); rintro e w1 ⟨rfl, hb⟩; have HQ := Lib.hid (And.intro (HQ0.out.below hb) (HB0.out.trans (hb.mono HB0.out.size))); clear hb)
    clear HQ0 HB0 HAW
    refine wp_region_facts (fun W W' => W' = W) (fun W => RowAt W w.heap.size [.int .u8 (x : Int), .int .u8 (y : Int)] ∧ Below w.heap.size w W)
      (factsOf [.is (.pointer (some ⟨w.heap.size, 0, none⟩)), .is (.int .u8 (x : Int)), .is (.pointer (some ⟨w.heap.size, 1, none⟩)), .is (.int .u8 (y : Int)), .is (.int .u8 (x : Int)), .is (.int .u8 (y : Int))])
      (by kernel_rfl) (by kernel_rfl) (fun j v W W' hb h => by rw [hb]; exact h) (fun W W' hb h => by rw [hb]; exact h) (fun _ => undef) (by kernel_rfl) ⟨HQ.out.1.drew, HQ.out.2.drew⟩ ?F1 ?hF1 ?hstep1 ?hend1
    case hF1 =>
      intro u
      simp only [fillAct]
      go_simp
      rfl
    case hstep1 =>
      refine FSteps.cons ?_ ?_
      · intro u W hS hd K hK
        clear hd
        simp only [upd, reduceIte, Nat.reduceEqDiff] at hK
        go_simp
        exact hK.out _ _ rfl rfl
      refine FSteps.cons ?_ ?_
      · intro u W hS hd K hK
        have h0 : u 0 = _ := hd 0 rfl
        clear hd
        simp only [upd, h0, reduceIte, Nat.reduceEqDiff] at hK
        have c0 := hS.1.cell 0 rfl
        go_simp
        exact hK.out _ _ rfl rfl
      refine FSteps.cons ?_ ?_
      · intro u W hS hd K hK
        clear hd
        simp only [upd, reduceIte, Nat.reduceEqDiff] at hK
        go_simp
        exact hK.out _ _ rfl rfl
      refine FSteps.cons ?_ ?_
      · intro u W hS hd K hK
        have h2 : u 2 = _ := hd 2 rfl
        clear hd
        simp only [upd, h2, reduceIte, Nat.reduceEqDiff] at hK
        have c0 := hS.1.cell 1 rfl
        go_simp
        exact hK.out _ _ rfl rfl
      refine FSteps.cons ?_ ?_
      · intro u W hS hd K hK
        have h1 : u 1 = _ := hd 1 rfl
        clear hd
        simp only [upd, h1, reduceIte, Nat.reduceEqDiff] at hK
        go_simp
        exact hK.out _ _ rfl rfl
      refine FSteps.cons ?_ ?_
      · intro u W hS hd K hK
        have h3 : u 3 = _ := hd 3 rfl
        clear hd
        simp only [upd, h3, reduceIte, Nat.reduceEqDiff] at hK
        go_simp
        exact hK.out _ _ rfl rfl
      exact trivial
    case hend1 =>
      intro u w6 hS hd
      have h4 : u 4 = _ := hd 4 rfl
      have h5 : u 5 = _ := hd 5 rfl
      have HB6 := Lib.hid hS.2
      clear hd hS HQ
      rw [h4, h5]
      go_upto_region 7 with (go_at_call 8; first
        | (have HS3 := HS3; fail)
        | (with_reducible refine (HN.out _ HS2.out.2.bel).mono ?_; rintro e w9 ⟨p3, rfl, hs, hp, hb⟩; have HS3 := Lib.hid (show T3At w p1 p2 p3 s0 s0 s0 w9 from ⟨HS2.out.1.1.below hb, HS2.out.2.below hb, hs, by have := HS2.out.1.2; omega, by have := HS2.out.2.lt; omega, by have := HS2.out.1.1.lt; omega⟩); clear hs hp hb)
        | (with_reducible refine (HN.out _ HS1.out.bel).mono ?_; rintro e w8 ⟨p2, rfl, hs, hp, hb⟩; have HS2 := Lib.hid (show (SmAt w p1 s0 w8 ∧ p1 < p2) ∧ SmAt w p2 s0 w8 from ⟨⟨HS1.out.below hb, by have := HS1.out.lt; omega⟩, hs⟩); clear hs hp hb)
        | (with_reducible refine (HN.out _ HB6.out).mono ?_; rintro e w7 ⟨p1, rfl, hs, -, -⟩; have HS1 := Lib.hid hs; clear hs))
      clear HS1 HS2 HB6 HN h4 h5
      go_wp2_with fail
      go_loopw [32] (fun i wx => ∃ (j : Nat) (s : Sm), j ≤ len ∧ i = .int .i64 j ∧ Hid (runB s0 (L.take j) = s ∧ T3At w p1 p2 p3 s s s wx)) (fun i _ => len - (intOf i).toNat)
      case atStart => exact ⟨0, _, Nat.zero_le _, rfl, Lib.hid ⟨HR0.out, HS3.out⟩⟩
      case round =>
        clear HS3 HR0
        obtain ⟨j, s, hj, rfl, HK⟩ := hrel
        have HS := Lib.hid HK.out.2
        by_cases hlt : j < len
        · have hjL : j < L.length := by rw [HL.out]; exact hlt
          obtain ⟨g, o, rfl, _⟩ := HA.out.some_ (by omega)
          have x0 := byte_at (HA.out.below HS.out.c1.bel) j hjL
          have HNX := Lib.hid (HNEXT.out j hjL)
          have hy := HBB.out L[j] (List.getElem_mem hjL)
          rw [HK.out.1] at HNX
          generalize L[j] = b at *
          clear HK hjL
          have z5 : IntKind.i64.wrap (b : Int) = (b : Int) := i64_near _ (by omega) (by omega)
          rw [IntWalk.i64_left] at z5
          have H1 := Lib.hid (HS.out.took1 (b : Int))
          clear hy
          go_wp2_with (go_at_call 14; first
            | (with_reducible refine H1.out.mono ?_; rintro e w7 ⟨rfl, hs⟩; have H2 := Lib.hid (hs.took2 (b : Int)); clear hs)
            | (with_reducible refine H2.out.mono ?_; rintro e w8 ⟨rfl, hs⟩; have H3 := Lib.hid (hs.took3 (b : Int)); clear hs)
            | (with_reducible refine H3.out.mono ?_; rintro e w9 ⟨rfl, hs⟩; have HE := Lib.hid hs; clear hs))
          go_roundw
          case rel => exact ⟨j + 1, _, hlt, by go_num, Lib.hid ⟨HNX.out, HE.out⟩⟩
          case measure => simp [intOf]; omega
        · have dlt : decide ((j : Int) < (len : Int)) = false := decide_eq_false (by omega)
          obtain ⟨lo, hlo⟩ : ∃ lo, min (x : Int) (y : Int) = lo := ⟨_, rfl⟩
          obtain ⟨hi, hhi⟩ : ∃ hi, max (x : Int) (y : Int) = hi := ⟨_, rfl⟩
          have HLH := Lib.hid (show lo ≤ hi from by omega)
          have z1 : IntKind.i64.wrap lo = lo := i64_near _ (by have := HXY.out; omega) (by have := HXY.out; omega)
          have z2 : IntKind.i64.wrap hi = hi := i64_near _ (by have := HXY.out; omega) (by have := HXY.out; omega)
          rw [IntWalk.i64_left] at z1 z2
          have hmo := took_mono (s := s) HLH.out
          have hno := none_mono HS.out.c3.ok
          have HT := Lib.hid HS.out.c3.t1
          have H1 := Lib.hid (HS.out.took1 lo)
          have HF : Hid ((s.took lo).t1 = (s.took lo).t1) := Lib.hid rfl
          have d1 : decide ((s.took lo).t1 ≤ (s.took hi).t1) = true := decide_eq_true hmo.1
          have d2 : decide ((s.took lo).srt ≤ (s.took hi).srt) = true := decide_eq_true hmo.2
          have d3 : decide (s.t1 ≤ s.none.t1) = true := decide_eq_true hno
          clear hmo hno HK HF
          go_wp2_with (first
            | (go_at_call 10; with_reducible refine HT.out.mono ?_; rintro e wr ⟨rfl, rfl⟩)
            | (go_at_call 14; first
              | (with_reducible refine H1.out.mono ?_; rintro e w7 ⟨rfl, hs⟩; have H2 := Lib.hid (hs.took2 hi); clear hs)
              | (with_reducible refine H2.out.mono ?_; rintro e w8 ⟨rfl, hs⟩; have H3 := Lib.hid hs.c1.srt; have H4 := Lib.hid hs.c2.srt; have H5 := Lib.hid hs.c3.missed; clear hs))
            | (go_at_call 11; first
              | (with_reducible refine H3.out.mono ?_; rintro e w8 ⟨rfl, rfl⟩)
              | (with_reducible refine H4.out.mono ?_; rintro e w8 ⟨rfl, rfl⟩))
            | (go_at_call 12; with_reducible refine H5.out.mono ?_; rintro e w9 ⟨rfl, hs, -⟩; have HE := Lib.hid hs.bel; clear hs))
          exact bodyPost_ret (v := .bool true) (by simp [results, Try.results6, go_sem]) rfl ⟨rfl, HE.out⟩
end Go.Proofs.Ytljmdpkbedmkmaa
