/-
The walk of SmoothTakes.
-/
import Derived.Test.YtljmdpkbedmkmaaSmoAt
import Derived.Test.YtljmdpkbedmkmaaSmoRef
import Derived.Test.YtljmdpkbedmkmaaInts
namespace Go.Proofs.Ytljmdpkbedmkmaa
open Go.RowKit
set_option maxRecDepth 20000
/-- both smoothers -/
structure StAt (w0 : World) (p q : Nat) (s : Sm) (W : World) : Prop where
  c : SmAt w0 p s W
  r : RowAt W q (smV s)
  ne : p ≠ q
  own : w0.heap.size ≤ q
theorem StAt.below {w0 W W' : World} {p q : Nat} {s : Sm} (h : StAt w0 p q s W) (hb : Below W.heap.size W W') : StAt w0 p q s W' := ⟨h.c.below hb, h.r.below hb, h.ne, h.own⟩
theorem StAt.drew {w0 W : World} {p q : Nat} {s : Sm} (h : StAt w0 p q s W) : StAt w0 p q s W.drew := h.below (Below.refl _ W).drew
theorem StAt.lt {w0 W : World} {p q : Nat} {s : Sm} (h : StAt w0 p q s W) : q < W.heap.size := h.r.lt
/-- the landed one is a step ahead -/
structure StOn (w0 : World) (p q : Nat) (s s' : Sm) (W : World) : Prop where
  c : SmAt w0 p s' W
  r : RowAt W q (smV s)
  ne : p ≠ q
  own : w0.heap.size ≤ q
theorem StAt.turned {w0 W W' : World} {p q : Nat} {s s' : Sm} (h : StAt w0 p q s W) (hc : SmAt w0 p s' W') (ht : Turn (fun x => x = p) W W') : StOn w0 p q s s' W' :=
  ⟨hc, h.r.turn ht (fun e => h.ne e.symm), h.ne, h.own⟩
theorem StOn.below {w0 W W' : World} {p q : Nat} {s s' : Sm} (h : StOn w0 p q s s' W) (hb : Below W.heap.size W W') : StOn w0 p q s s' W' := ⟨h.c.below hb, h.r.below hb, h.ne, h.own⟩
theorem StOn.both {w0 W : World} {p q : Nat} {s s' : Sm} (h : StOn w0 p q s s' W) : StAt w0 p q s' ((W.setCell ⟨q, 0, none⟩ (.int .i64 s'.srt)).setCell ⟨q, 1, none⟩ (.int .i64 s'.t1)) := by
  have t : Turn (fun x => x = q) W ((W.setCell ⟨q, 0, none⟩ (.int .i64 s'.srt)).setCell ⟨q, 1, none⟩ (.int .i64 s'.t1)) := ((Turn.refl (fun x => x = q) W).set (p := ⟨q, 0, none⟩) (Or.inl rfl) _).set (p := ⟨q, 1, none⟩) (Or.inl rfl) _
  exact ⟨h.c.other t h.ne h.own, (h.r.put 0 (.int .i64 s'.srt) [.int .i64 s'.srt, .int .i64 s.t1] rfl).put 1 (.int .i64 s'.t1) _ rfl, h.ne, h.own⟩
/-- one by one -/
def runS (s : Sm) (L : List Int) : Sm := L.foldl Sm.step s
theorem runS_next (s : Sm) (L : List Int) (k : Nat) (hk : k < L.length) : runS s (L.take (k + 1)) = (runS s (L.take k)).step L[k] := by
  rw [List.take_succ_eq_append_getElem hk]
  unfold runS
  rw [List.foldl_append]
  rfl
theorem runS_ok {s : Sm} (h : s.ok) : ∀ L : List Int, (runS s L).ok := by
  intro L
  induction L generalizing s with
  | nil => exact h
  | cons a L ih => exact ih (Sm.step_ok h a)
set_option maxHeartbeats 1000000 in
theorem smtakes_any (n : Int) (a0 : Option Addr) (len cap : Nat) (L : List Int) (w : World) (hL : L.length = len) (hA : AtL encI w a0 L) : Calls Try.prog 3 #[.int .i64 n, .slice a0 len cap] w fun e w' => e = .returned (.bool true) ∧ Below w.heap.size w w' := by
  have HAW := Lib.hid (fun W => smawake_any W)
  have HN := Lib.hid (fun W h => sm_new n w W h)
  have HRN := Lib.hid (fun W => rnew_any12 n W)
  have HOK0 := Lib.hid (Sm.new_ok n)
  by_cases hz : 400 < len
  · have dz : decide ((400 : Int) < (len : Int)) = true := decide_eq_true (by omega)
    clear hL hA
    go_enter Try.func3, Try.ntmps3
    go_wp2_with (go_at_call 7; (with_reducible refine (HAW.out _).mono ?_); rintro e w1 ⟨rfl, hb⟩; have HB := Lib.hid hb; clear hb)
    exact bodyPost_ret (v := .bool true) (by simp [results, Try.results3, go_sem]) rfl ⟨rfl, HB.out⟩
  · have dz : decide ((400 : Int) < (len : Int)) = false := decide_eq_false (by omega)
    have HL := Lib.hid hL
    have HA := Lib.hid hA
    have HR0 : Hid (runS (Sm.new n) (L.take 0) = Sm.new n) := Lib.hid rfl
    have HNEXT := Lib.hid (fun j hj => runS_next (Sm.new n) L j hj)
    have hle : len ≤ 400 := by omega
    clear hL hA hz
    simp only [smA] at HRN
    generalize Sm.new n = s0 at *
    obtain ⟨a, b⟩ := s0
    simp only at HRN
    go_enter Try.func3, Try.ntmps3
    go_upto_region 6 with (first
      | (go_at_call 7; (with_reducible refine (HAW.out _).mono ?_); rintro e w1 ⟨rfl, hb⟩; have HB := Lib.hid hb; clear hb)
      | (go_at_call 8; (with_reducible refine (HN.out _ HB.out).mono ?_); rintro e w2 ⟨p, rfl, hs, -, -⟩; have HS := Lib.hid hs; clear hs)
      | (go_at_call 9; (with_reducible refine (HRN.out _).mono ?_); rintro e w3 ⟨rfl, hb⟩; replace HS := Lib.hid (And.intro (HS.out.below hb) HS.out.lt); have HSZ := Lib.hid hb.size; clear hb))
    replace HS := Lib.hid (show StAt w p w3.heap.size ⟨a, b⟩ (w3.alloc (.cells #[.int .i64 a, .int .i64 b] 27)) from
      ⟨HS.out.1.below ((Below.refl _ _).alloc (Nat.le_refl _) _), RowAt.new w3 w3.heap.size rfl (smV ⟨a, b⟩) 27, by have := HS.out.2; have := HSZ.out; omega, HS.out.1.bel.size⟩)
    clear HSZ HB HN HRN
    generalize w3.alloc (.cells #[.int .i64 a, .int .i64 b] 27) = w4 at *
    generalize w3.heap.size = q at *
    refine wp_region_facts (fun W W' => W' = W) (fun W => StAt w p q ⟨a, b⟩ W)
      (factsOf [.is (.pointer (some ⟨p, 0, none⟩)), .is (.int .i64 b), .is (.pointer (some ⟨q, 1, none⟩)), .is (.int .i64 b), .is (.bool false), .is (.bool false), .is (.pointer (some ⟨p, 0, none⟩)), .is (.int .i64 a), .is (.pointer (some ⟨q, 0, none⟩)), .is (.int .i64 a), .is (.bool false), .is (.bool false)])
      (by kernel_rfl) (by kernel_rfl) (fun j v W W' hb h => by rw [hb]; exact h) (fun W W' hb h => by rw [hb]; exact h) (fun _ => undef) (by kernel_rfl) HS.out.drew ?F1 ?hF1 ?hstep1 ?hend1
    case hF1 =>
      intro u
      simp only [fillAct]
      go_simp
      rfl
    case hstep1 =>
      clear HS
      refine FSteps.cons ?_ ?_
      · intro u W hS hd K hK
        clear hd
        simp only [upd, reduceIte, Nat.reduceEqDiff] at hK
        go_simp
        exact hK.out _ _ rfl rfl
      refine FSteps.cons ?_ ?_
      · intro u W hS hd K hK
        have h0 : u 0 = _ := hd 0 rfl
        clear hd
        simp only [upd, h0, reduceIte, Nat.reduceEqDiff] at hK
        go_simp
        go_at_call 10
        refine hS.c.t1.mono ?_
        rintro e wc ⟨rfl, rfl⟩
        exact hK.out _ _ rfl rfl
      refine FSteps.cons ?_ ?_
      · intro u W hS hd K hK
        clear hd
        simp only [upd, reduceIte, Nat.reduceEqDiff] at hK
        go_simp
        exact hK.out _ _ rfl rfl
      refine FSteps.cons ?_ ?_
      · intro u W hS hd K hK
        have h2 : u 2 = _ := hd 2 rfl
        clear hd
        simp only [upd, h2, reduceIte, Nat.reduceEqDiff] at hK
        have c0 := hS.r.cell 1 (v := .int .i64 b) rfl
        go_simp
        exact hK.out _ _ rfl rfl
      refine FSteps.cons ?_ ?_
      · intro u W hS hd K hK
        have h1 : u 1 = _ := hd 1 rfl
        have h3 : u 3 = _ := hd 3 rfl
        clear hd
        simp only [upd, h1, h3, reduceIte, Nat.reduceEqDiff] at hK
        go_simp
        exact hK.out _ _ rfl rfl
      refine FSteps.cons ?_ ?_
      · intro u W hS hd K hK
        have h4 : u 4 = _ := hd 4 rfl
        clear hd
        simp only [upd, h4, reduceIte, Nat.reduceEqDiff] at hK
        go_simp
        exact hK.out _ _ rfl rfl
      refine FSteps.cons ?_ ?_
      · intro u W hS hd K hK
        have h5 : u 5 = _ := hd 5 rfl
        clear hd
        simp only [upd, h5, reduceIte, Nat.reduceEqDiff] at hK
        go_simp
        exact hK.out _ _ rfl rfl
      refine FSteps.cons ?_ ?_
      · intro u W hS hd K hK
        have h5 : u 5 = _ := hd 5 rfl
        have h6 : u 6 = _ := hd 6 rfl
        clear hd
        simp only [upd, h5, h6, reduceIte, Nat.reduceEqDiff] at hK
        go_simp
        go_at_call 11
        refine hS.c.srt.mono ?_
        rintro e wc ⟨rfl, rfl⟩
        exact hK.out _ _ rfl rfl
      refine FSteps.cons ?_ ?_
      · intro u W hS hd K hK
        have h5 : u 5 = _ := hd 5 rfl
        clear hd
        simp only [upd, h5, reduceIte, Nat.reduceEqDiff] at hK
        go_simp
        exact hK.out _ _ rfl rfl
      refine FSteps.cons ?_ ?_
      · intro u W hS hd K hK
        have h5 : u 5 = _ := hd 5 rfl
        have h8 : u 8 = _ := hd 8 rfl
        clear hd
        simp only [upd, h5, h8, reduceIte, Nat.reduceEqDiff] at hK
        have c0 := hS.r.cell 0 (v := .int .i64 a) rfl
        go_simp
        exact hK.out _ _ rfl rfl
      refine FSteps.cons ?_ ?_
      · intro u W hS hd K hK
        have h5 : u 5 = _ := hd 5 rfl
        have h7 : u 7 = _ := hd 7 rfl
        have h9 : u 9 = _ := hd 9 rfl
        clear hd
        simp only [upd, h5, h7, h9, reduceIte, Nat.reduceEqDiff] at hK
        go_simp
        exact hK.out _ _ rfl rfl
      refine FSteps.cons ?_ ?_
      · intro u W hS hd K hK
        have h5 : u 5 = _ := hd 5 rfl
        have h10 : u 10 = _ := hd 10 rfl
        clear hd
        simp only [upd, h5, h10, reduceIte, Nat.reduceEqDiff] at hK
        go_simp
        exact hK.out _ _ rfl rfl
      exact trivial
    case hend1 =>
      intro u w6 hS hd
      have h11 : u 11 = _ := hd 11 rfl
      have HS6 := Lib.hid hS
      clear hd hS HS
      rw [h11]
      go_wp2_with fail
      clear h11
      go_loopw [33] (fun i wx => ∃ (j : Nat) (s : Sm), j ≤ len ∧ i = .int .i64 j ∧ Hid (runS ⟨a, b⟩ (L.take j) = s ∧ StAt w p q s wx)) (fun i _ => len - (intOf i).toNat)
      case atStart => exact ⟨0, _, Nat.zero_le _, rfl, Lib.hid ⟨HR0.out, HS6.out⟩⟩
      case round =>
        clear HS6 HR0
        obtain ⟨j, s, hj, rfl, HK⟩ := hrel
        have HS := Lib.hid HK.out.2
        by_cases hlt : j < len
        · have hjL : j < L.length := by rw [HL.out]; exact hlt
          obtain ⟨g, o, rfl, _⟩ := HA.out.some_ (by omega)
          have x0 := int_at (HA.out.below HS.out.c.bel) j hjL
          have HNX := Lib.hid (HNEXT.out j hjL)
          rw [HK.out.1] at HNX
          generalize L[j] = y at *
          clear HK hjL
          have HOK := Lib.hid HS.out.c.ok
          obtain ⟨a, b⟩ := s
          by_cases hy : y < 0
          · have dy : decide (y < 0) = true := decide_eq_true hy
            rw [show Sm.step ⟨a, b⟩ y = Sm.none ⟨a, b⟩ from if_pos hy] at HNX
            have HB2 := Lib.hid (Sm.none_ok HOK.out)
            obtain ⟨⟨a2, b2⟩, hs2⟩ : ∃ s2, Sm.none ⟨a, b⟩ = s2 := ⟨_, rfl⟩
            rw [hs2] at HNX HB2
            have d4 : decide (b2 < 4) = false := decide_eq_false (by have := HB2.out.2.1; simp only at this; omega)
            have d5 : decide (255 < b2) = false := decide_eq_false (by have := HB2.out.2.2; simp only at this; omega)
            clear hy HB2
            have HC := Lib.hid (HS.out.c.missed)
            have HRR := Lib.hid (fun W => rnone_any ⟨a, b⟩ W HOK.out)
            simp only [smA] at HRR
            rw [hs2] at HC HRR
            clear hs2
            have c0 := HS.out.r.cell 0 (v := .int .i64 a) rfl
            have c1 := HS.out.r.cell 1 (v := .int .i64 b) rfl
            go_upto_region 17 with (first
              | (go_at_call 12; (with_reducible refine HC.out.mono ?_); rintro e w3 ⟨rfl, hs, ht⟩; have HO := Lib.hid (HS.out.turned hs ht); have d0 := HO.out.r.cell 0 (v := .int .i64 a) rfl; have d1 := HO.out.r.cell 1 (v := .int .i64 b) rfl; clear hs ht c0 c1)
              | (go_at_call 13; (with_reducible refine (HRR.out _).mono ?_); rintro e w4 ⟨rfl, hb⟩; have HO2 := Lib.hid (HO.out.below hb); have e0 := HO2.out.r.cell 0 (v := .int .i64 a) rfl; have e1 := HO2.out.r.cell 1 (v := .int .i64 b) rfl; have g0 := (HO2.out.r.get 0 (v := .int .i64 a) rfl).free; have g1 := (HO2.out.r.get 1 (v := .int .i64 b) rfl).free; clear hb d0 d1))
            have HS2 := Lib.hid (StOn.both HO2.out)
            clear HO HO2 e0 e1 g0 g1 HC HRR HS x0
            generalize (w4.setCell ⟨q, 0, none⟩ (.int .i64 a2)).setCell ⟨q, 1, none⟩ (.int .i64 b2) = w5 at *
            refine wp_region_facts (fun W W' => W' = W) (fun W => StAt w p q ⟨a2, b2⟩ W)
              (factsOf [.is (.int .i64 b2), .is (.pointer (some ⟨q, 1, none⟩)), .is (.int .i64 b2), .is (.bool false), .is (.bool false), .is (.pointer (some ⟨p, 0, none⟩)), .is (.int .i64 b2), .is (.pointer (some ⟨q, 1, none⟩)), .is (.int .i64 b2), .is (.bool false), .is (.bool false), .is (.bool false), .is (.pointer (some ⟨p, 0, none⟩)), .is (.int .i64 a2), .is (.pointer (some ⟨q, 0, none⟩)), .is (.int .i64 a2), .is (.bool false), .is (.bool false), .is (.bool false), .is (.int .i64 b2), .is (.bool false), .is (.bool false), .is (.bool false), .is (.int .i64 b2), .is (.bool false), .is (.bool false)])
              (by kernel_rfl) (by kernel_rfl) (fun j v W W' hb h => by rw [hb]; exact h) (fun W W' hb h => by rw [hb]; exact h) (fun i => [u49, u50, u51, u52, u53, u54, u55, u56, u57, u58, u59, u60, u61, u62, u63, u64, u65, u66, u67, u68, u69, u70, u71, u72, u73, u74].getD i undef) (by kernel_rfl) HS2.out.drew ?F2 ?hF2 ?hstep2 ?hend2
            case hF2 =>
              intro u
              simp only [fillAct]
              go_simp
              rfl
            case hstep2 =>
              clear HS2
              refine FSteps.cons ?_ ?_
              · intro u W hS hd K hK
                clear hd
                simp only [upd, reduceIte, Nat.reduceEqDiff] at hK
                go_simp
                exact hK.out _ _ rfl rfl
              refine FSteps.cons ?_ ?_
              · intro u W hS hd K hK
                clear hd
                simp only [upd, reduceIte, Nat.reduceEqDiff] at hK
                go_simp
                exact hK.out _ _ rfl rfl
              refine FSteps.cons ?_ ?_
              · intro u W hS hd K hK
                have h1 : u 1 = _ := hd 1 rfl
                clear hd
                simp only [upd, h1, reduceIte, Nat.reduceEqDiff] at hK
                have c0 := hS.r.cell 1 (v := .int .i64 b2) rfl
                go_simp
                exact hK.out _ _ rfl rfl
              refine FSteps.cons ?_ ?_
              · intro u W hS hd K hK
                have h0 : u 0 = _ := hd 0 rfl
                have h2 : u 2 = _ := hd 2 rfl
                clear hd
                simp only [upd, h0, h2, reduceIte, Nat.reduceEqDiff] at hK
                go_simp
                exact hK.out _ _ rfl rfl
              refine FSteps.cons ?_ ?_
              · intro u W hS hd K hK
                have h3 : u 3 = _ := hd 3 rfl
                clear hd
                simp only [upd, h3, reduceIte, Nat.reduceEqDiff] at hK
                go_simp
                exact hK.out _ _ rfl rfl
              refine FSteps.cons ?_ ?_
              · intro u W hS hd K hK
                have h4 : u 4 = _ := hd 4 rfl
                clear hd
                simp only [upd, h4, reduceIte, Nat.reduceEqDiff] at hK
                go_simp
                exact hK.out _ _ rfl rfl
              refine FSteps.cons ?_ ?_
              · intro u W hS hd K hK
                have h4 : u 4 = _ := hd 4 rfl
                have h5 : u 5 = _ := hd 5 rfl
                clear hd
                simp only [upd, h4, h5, reduceIte, Nat.reduceEqDiff] at hK
                go_simp
                go_at_call 10
                refine hS.c.t1.mono ?_
                rintro e wc ⟨rfl, rfl⟩
                exact hK.out _ _ rfl rfl
              refine FSteps.cons ?_ ?_
              · intro u W hS hd K hK
                have h4 : u 4 = _ := hd 4 rfl
                clear hd
                simp only [upd, h4, reduceIte, Nat.reduceEqDiff] at hK
                go_simp
                exact hK.out _ _ rfl rfl
              refine FSteps.cons ?_ ?_
              · intro u W hS hd K hK
                have h4 : u 4 = _ := hd 4 rfl
                have h7 : u 7 = _ := hd 7 rfl
                clear hd
                simp only [upd, h4, h7, reduceIte, Nat.reduceEqDiff] at hK
                have c0 := hS.r.cell 1 (v := .int .i64 b2) rfl
                go_simp
                exact hK.out _ _ rfl rfl
              refine FSteps.cons ?_ ?_
              · intro u W hS hd K hK
                have h4 : u 4 = _ := hd 4 rfl
                have h6 : u 6 = _ := hd 6 rfl
                have h8 : u 8 = _ := hd 8 rfl
                clear hd
                simp only [upd, h4, h6, h8, reduceIte, Nat.reduceEqDiff] at hK
                go_simp
                exact hK.out _ _ rfl rfl
              refine FSteps.cons ?_ ?_
              · intro u W hS hd K hK
                have h4 : u 4 = _ := hd 4 rfl
                have h9 : u 9 = _ := hd 9 rfl
                clear hd
                simp only [upd, h4, h9, reduceIte, Nat.reduceEqDiff] at hK
                go_simp
                exact hK.out _ _ rfl rfl
              refine FSteps.cons ?_ ?_
              · intro u W hS hd K hK
                have h10 : u 10 = _ := hd 10 rfl
                clear hd
                simp only [upd, h10, reduceIte, Nat.reduceEqDiff] at hK
                go_simp
                exact hK.out _ _ rfl rfl
              refine FSteps.cons ?_ ?_
              · intro u W hS hd K hK
                have h11 : u 11 = _ := hd 11 rfl
                clear hd
                simp only [upd, h11, reduceIte, Nat.reduceEqDiff] at hK
                go_simp
                exact hK.out _ _ rfl rfl
              refine FSteps.cons ?_ ?_
              · intro u W hS hd K hK
                have h11 : u 11 = _ := hd 11 rfl
                have h12 : u 12 = _ := hd 12 rfl
                clear hd
                simp only [upd, h11, h12, reduceIte, Nat.reduceEqDiff] at hK
                go_simp
                go_at_call 11
                refine hS.c.srt.mono ?_
                rintro e wc ⟨rfl, rfl⟩
                exact hK.out _ _ rfl rfl
              refine FSteps.cons ?_ ?_
              · intro u W hS hd K hK
                have h11 : u 11 = _ := hd 11 rfl
                clear hd
                simp only [upd, h11, reduceIte, Nat.reduceEqDiff] at hK
                go_simp
                exact hK.out _ _ rfl rfl
              refine FSteps.cons ?_ ?_
              · intro u W hS hd K hK
                have h11 : u 11 = _ := hd 11 rfl
                have h14 : u 14 = _ := hd 14 rfl
                clear hd
                simp only [upd, h11, h14, reduceIte, Nat.reduceEqDiff] at hK
                have c0 := hS.r.cell 0 (v := .int .i64 a2) rfl
                go_simp
                exact hK.out _ _ rfl rfl
              refine FSteps.cons ?_ ?_
              · intro u W hS hd K hK
                have h11 : u 11 = _ := hd 11 rfl
                have h13 : u 13 = _ := hd 13 rfl
                have h15 : u 15 = _ := hd 15 rfl
                clear hd
                simp only [upd, h11, h13, h15, reduceIte, Nat.reduceEqDiff] at hK
                go_simp
                exact hK.out _ _ rfl rfl
              refine FSteps.cons ?_ ?_
              · intro u W hS hd K hK
                have h11 : u 11 = _ := hd 11 rfl
                have h16 : u 16 = _ := hd 16 rfl
                clear hd
                simp only [upd, h11, h16, reduceIte, Nat.reduceEqDiff] at hK
                go_simp
                exact hK.out _ _ rfl rfl
              refine FSteps.cons ?_ ?_
              · intro u W hS hd K hK
                have h17 : u 17 = _ := hd 17 rfl
                clear hd
                simp only [upd, h17, reduceIte, Nat.reduceEqDiff] at hK
                go_simp
                exact hK.out _ _ rfl rfl
              refine FSteps.cons ?_ ?_
              · intro u W hS hd K hK
                have h18 : u 18 = _ := hd 18 rfl
                clear hd
                simp only [upd, h18, reduceIte, Nat.reduceEqDiff] at hK
                go_simp
                exact hK.out _ _ rfl rfl
              refine FSteps.cons ?_ ?_
              · intro u W hS hd K hK
                have h18 : u 18 = _ := hd 18 rfl
                have h19 : u 19 = _ := hd 19 rfl
                clear hd
                simp only [upd, h18, h19, reduceIte, Nat.reduceEqDiff] at hK
                go_simp
                exact hK.out _ _ rfl rfl
              refine FSteps.cons ?_ ?_
              · intro u W hS hd K hK
                have h18 : u 18 = _ := hd 18 rfl
                have h20 : u 20 = _ := hd 20 rfl
                clear hd
                simp only [upd, h18, h20, reduceIte, Nat.reduceEqDiff] at hK
                go_simp
                exact hK.out _ _ rfl rfl
              refine FSteps.cons ?_ ?_
              · intro u W hS hd K hK
                have h21 : u 21 = _ := hd 21 rfl
                clear hd
                simp only [upd, h21, reduceIte, Nat.reduceEqDiff] at hK
                go_simp
                exact hK.out _ _ rfl rfl
              refine FSteps.cons ?_ ?_
              · intro u W hS hd K hK
                have h22 : u 22 = _ := hd 22 rfl
                clear hd
                simp only [upd, h22, reduceIte, Nat.reduceEqDiff] at hK
                go_simp
                exact hK.out _ _ rfl rfl
              refine FSteps.cons ?_ ?_
              · intro u W hS hd K hK
                have h22 : u 22 = _ := hd 22 rfl
                have h23 : u 23 = _ := hd 23 rfl
                clear hd
                simp only [upd, h22, h23, reduceIte, Nat.reduceEqDiff] at hK
                go_simp
                exact hK.out _ _ rfl rfl
              refine FSteps.cons ?_ ?_
              · intro u W hS hd K hK
                have h22 : u 22 = _ := hd 22 rfl
                have h24 : u 24 = _ := hd 24 rfl
                clear hd
                simp only [upd, h22, h24, reduceIte, Nat.reduceEqDiff] at hK
                go_simp
                exact hK.out _ _ rfl rfl
              exact trivial
            case hend2 =>
              intro u w6 hS hd
              have h25 : u 25 = _ := hd 25 rfl
              have HS7 := Lib.hid hS
              clear hd hS HS2
              rw [h25]
              go_wp2_with fail
              go_roundw
              case rel => exact ⟨j + 1, ⟨a2, b2⟩, hlt, by go_num, Lib.hid ⟨HNX.out, HS7.out⟩⟩
              case measure => simp [intOf]; omega
          · have dy : decide (y < 0) = false := decide_eq_false hy
            rw [show Sm.step ⟨a, b⟩ y = Sm.took ⟨a, b⟩ y from if_neg hy] at HNX
            have HB2 := Lib.hid (Sm.took_ok HOK.out y)
            obtain ⟨⟨a2, b2⟩, hs2⟩ : ∃ s2, Sm.took ⟨a, b⟩ y = s2 := ⟨_, rfl⟩
            rw [hs2] at HNX HB2
            have d4 : decide (b2 < 4) = false := decide_eq_false (by have := HB2.out.2.1; simp only at this; omega)
            have d5 : decide (255 < b2) = false := decide_eq_false (by have := HB2.out.2.2; simp only at this; omega)
            clear hy HB2
            have HC := Lib.hid (HS.out.c.took y)
            have HRR := Lib.hid (fun W => rtook_any ⟨a, b⟩ y W HOK.out)
            simp only [smA] at HRR
            rw [hs2] at HC HRR
            clear hs2
            have c0 := HS.out.r.cell 0 (v := .int .i64 a) rfl
            have c1 := HS.out.r.cell 1 (v := .int .i64 b) rfl
            go_upto_region 17 with (first
              | (go_at_call 14; (with_reducible refine HC.out.mono ?_); rintro e w3 ⟨rfl, hs, ht⟩; have HO := Lib.hid (HS.out.turned hs ht); have d0 := HO.out.r.cell 0 (v := .int .i64 a) rfl; have d1 := HO.out.r.cell 1 (v := .int .i64 b) rfl; clear hs ht c0 c1)
              | (go_at_call 15; (with_reducible refine (HRR.out _).mono ?_); rintro e w4 ⟨rfl, hb⟩; have HO2 := Lib.hid (HO.out.below hb); have e0 := HO2.out.r.cell 0 (v := .int .i64 a) rfl; have e1 := HO2.out.r.cell 1 (v := .int .i64 b) rfl; have g0 := (HO2.out.r.get 0 (v := .int .i64 a) rfl).free; have g1 := (HO2.out.r.get 1 (v := .int .i64 b) rfl).free; clear hb d0 d1))
            have HS2 := Lib.hid (StOn.both HO2.out)
            clear HO HO2 e0 e1 g0 g1 HC HRR HS x0
            generalize (w4.setCell ⟨q, 0, none⟩ (.int .i64 a2)).setCell ⟨q, 1, none⟩ (.int .i64 b2) = w5 at *
            refine wp_region_facts (fun W W' => W' = W) (fun W => StAt w p q ⟨a2, b2⟩ W)
              (factsOf [.is (.int .i64 b2), .is (.pointer (some ⟨q, 1, none⟩)), .is (.int .i64 b2), .is (.bool false), .is (.bool false), .is (.pointer (some ⟨p, 0, none⟩)), .is (.int .i64 b2), .is (.pointer (some ⟨q, 1, none⟩)), .is (.int .i64 b2), .is (.bool false), .is (.bool false), .is (.bool false), .is (.pointer (some ⟨p, 0, none⟩)), .is (.int .i64 a2), .is (.pointer (some ⟨q, 0, none⟩)), .is (.int .i64 a2), .is (.bool false), .is (.bool false), .is (.bool false), .is (.int .i64 b2), .is (.bool false), .is (.bool false), .is (.bool false), .is (.int .i64 b2), .is (.bool false), .is (.bool false)])
              (by kernel_rfl) (by kernel_rfl) (fun j v W W' hb h => by rw [hb]; exact h) (fun W W' hb h => by rw [hb]; exact h) (fun i => [u49, u50, u51, u52, u53, u54, u55, u56, u57, u58, u59, u60, u61, u62, u63, u64, u65, u66, u67, u68, u69, u70, u71, u72, u73, u74].getD i undef) (by kernel_rfl) HS2.out.drew ?F3 ?hF3 ?hstep3 ?hend3
            case hF3 =>
              intro u
              simp only [fillAct]
              go_simp
              rfl
            case hstep3 =>
              clear HS2
              refine FSteps.cons ?_ ?_
              · intro u W hS hd K hK
                clear hd
                simp only [upd, reduceIte, Nat.reduceEqDiff] at hK
                go_simp
                exact hK.out _ _ rfl rfl
              refine FSteps.cons ?_ ?_
              · intro u W hS hd K hK
                clear hd
                simp only [upd, reduceIte, Nat.reduceEqDiff] at hK
                go_simp
                exact hK.out _ _ rfl rfl
              refine FSteps.cons ?_ ?_
              · intro u W hS hd K hK
                have h1 : u 1 = _ := hd 1 rfl
                clear hd
                simp only [upd, h1, reduceIte, Nat.reduceEqDiff] at hK
                have c0 := hS.r.cell 1 (v := .int .i64 b2) rfl
                go_simp
                exact hK.out _ _ rfl rfl
              refine FSteps.cons ?_ ?_
              · intro u W hS hd K hK
                have h0 : u 0 = _ := hd 0 rfl
                have h2 : u 2 = _ := hd 2 rfl
                clear hd
                simp only [upd, h0, h2, reduceIte, Nat.reduceEqDiff] at hK
                go_simp
                exact hK.out _ _ rfl rfl
              refine FSteps.cons ?_ ?_
              · intro u W hS hd K hK
                have h3 : u 3 = _ := hd 3 rfl
                clear hd
                simp only [upd, h3, reduceIte, Nat.reduceEqDiff] at hK
                go_simp
                exact hK.out _ _ rfl rfl
              refine FSteps.cons ?_ ?_
              · intro u W hS hd K hK
                have h4 : u 4 = _ := hd 4 rfl
                clear hd
                simp only [upd, h4, reduceIte, Nat.reduceEqDiff] at hK
                go_simp
                exact hK.out _ _ rfl rfl
              refine FSteps.cons ?_ ?_
              · intro u W hS hd K hK
                have h4 : u 4 = _ := hd 4 rfl
                have h5 : u 5 = _ := hd 5 rfl
                clear hd
                simp only [upd, h4, h5, reduceIte, Nat.reduceEqDiff] at hK
                go_simp
                go_at_call 10
                refine hS.c.t1.mono ?_
                rintro e wc ⟨rfl, rfl⟩
                exact hK.out _ _ rfl rfl
              refine FSteps.cons ?_ ?_
              · intro u W hS hd K hK
                have h4 : u 4 = _ := hd 4 rfl
                clear hd
                simp only [upd, h4, reduceIte, Nat.reduceEqDiff] at hK
                go_simp
                exact hK.out _ _ rfl rfl
              refine FSteps.cons ?_ ?_
              · intro u W hS hd K hK
                have h4 : u 4 = _ := hd 4 rfl
                have h7 : u 7 = _ := hd 7 rfl
                clear hd
                simp only [upd, h4, h7, reduceIte, Nat.reduceEqDiff] at hK
                have c0 := hS.r.cell 1 (v := .int .i64 b2) rfl
                go_simp
                exact hK.out _ _ rfl rfl
              refine FSteps.cons ?_ ?_
              · intro u W hS hd K hK
                have h4 : u 4 = _ := hd 4 rfl
                have h6 : u 6 = _ := hd 6 rfl
                have h8 : u 8 = _ := hd 8 rfl
                clear hd
                simp only [upd, h4, h6, h8, reduceIte, Nat.reduceEqDiff] at hK
                go_simp
                exact hK.out _ _ rfl rfl
              refine FSteps.cons ?_ ?_
              · intro u W hS hd K hK
                have h4 : u 4 = _ := hd 4 rfl
                have h9 : u 9 = _ := hd 9 rfl
                clear hd
                simp only [upd, h4, h9, reduceIte, Nat.reduceEqDiff] at hK
                go_simp
                exact hK.out _ _ rfl rfl
              refine FSteps.cons ?_ ?_
              · intro u W hS hd K hK
                have h10 : u 10 = _ := hd 10 rfl
                clear hd
                simp only [upd, h10, reduceIte, Nat.reduceEqDiff] at hK
                go_simp
                exact hK.out _ _ rfl rfl
              refine FSteps.cons ?_ ?_
              · intro u W hS hd K hK
                have h11 : u 11 = _ := hd 11 rfl
                clear hd
                simp only [upd, h11, reduceIte, Nat.reduceEqDiff] at hK
                go_simp
                exact hK.out _ _ rfl rfl
              refine FSteps.cons ?_ ?_
              · intro u W hS hd K hK
                have h11 : u 11 = _ := hd 11 rfl
                have h12 : u 12 = _ := hd 12 rfl
                clear hd
                simp only [upd, h11, h12, reduceIte, Nat.reduceEqDiff] at hK
                go_simp
                go_at_call 11
                refine hS.c.srt.mono ?_
                rintro e wc ⟨rfl, rfl⟩
                exact hK.out _ _ rfl rfl
              refine FSteps.cons ?_ ?_
              · intro u W hS hd K hK
                have h11 : u 11 = _ := hd 11 rfl
                clear hd
                simp only [upd, h11, reduceIte, Nat.reduceEqDiff] at hK
                go_simp
                exact hK.out _ _ rfl rfl
              refine FSteps.cons ?_ ?_
              · intro u W hS hd K hK
                have h11 : u 11 = _ := hd 11 rfl
                have h14 : u 14 = _ := hd 14 rfl
                clear hd
                simp only [upd, h11, h14, reduceIte, Nat.reduceEqDiff] at hK
                have c0 := hS.r.cell 0 (v := .int .i64 a2) rfl
                go_simp
                exact hK.out _ _ rfl rfl
              refine FSteps.cons ?_ ?_
              · intro u W hS hd K hK
                have h11 : u 11 = _ := hd 11 rfl
                have h13 : u 13 = _ := hd 13 rfl
                have h15 : u 15 = _ := hd 15 rfl
                clear hd
                simp only [upd, h11, h13, h15, reduceIte, Nat.reduceEqDiff] at hK
                go_simp
                exact hK.out _ _ rfl rfl
              refine FSteps.cons ?_ ?_
              · intro u W hS hd K hK
                have h11 : u 11 = _ := hd 11 rfl
                have h16 : u 16 = _ := hd 16 rfl
                clear hd
                simp only [upd, h11, h16, reduceIte, Nat.reduceEqDiff] at hK
                go_simp
                exact hK.out _ _ rfl rfl
              refine FSteps.cons ?_ ?_
              · intro u W hS hd K hK
                have h17 : u 17 = _ := hd 17 rfl
                clear hd
                simp only [upd, h17, reduceIte, Nat.reduceEqDiff] at hK
                go_simp
                exact hK.out _ _ rfl rfl
              refine FSteps.cons ?_ ?_
              · intro u W hS hd K hK
                have h18 : u 18 = _ := hd 18 rfl
                clear hd
                simp only [upd, h18, reduceIte, Nat.reduceEqDiff] at hK
                go_simp
                exact hK.out _ _ rfl rfl
              refine FSteps.cons ?_ ?_
              · intro u W hS hd K hK
                have h18 : u 18 = _ := hd 18 rfl
                have h19 : u 19 = _ := hd 19 rfl
                clear hd
                simp only [upd, h18, h19, reduceIte, Nat.reduceEqDiff] at hK
                go_simp
                exact hK.out _ _ rfl rfl
              refine FSteps.cons ?_ ?_
              · intro u W hS hd K hK
                have h18 : u 18 = _ := hd 18 rfl
                have h20 : u 20 = _ := hd 20 rfl
                clear hd
                simp only [upd, h18, h20, reduceIte, Nat.reduceEqDiff] at hK
                go_simp
                exact hK.out _ _ rfl rfl
              refine FSteps.cons ?_ ?_
              · intro u W hS hd K hK
                have h21 : u 21 = _ := hd 21 rfl
                clear hd
                simp only [upd, h21, reduceIte, Nat.reduceEqDiff] at hK
                go_simp
                exact hK.out _ _ rfl rfl
              refine FSteps.cons ?_ ?_
              · intro u W hS hd K hK
                have h22 : u 22 = _ := hd 22 rfl
                clear hd
                simp only [upd, h22, reduceIte, Nat.reduceEqDiff] at hK
                go_simp
                exact hK.out _ _ rfl rfl
              refine FSteps.cons ?_ ?_
              · intro u W hS hd K hK
                have h22 : u 22 = _ := hd 22 rfl
                have h23 : u 23 = _ := hd 23 rfl
                clear hd
                simp only [upd, h22, h23, reduceIte, Nat.reduceEqDiff] at hK
                go_simp
                exact hK.out _ _ rfl rfl
              refine FSteps.cons ?_ ?_
              · intro u W hS hd K hK
                have h22 : u 22 = _ := hd 22 rfl
                have h24 : u 24 = _ := hd 24 rfl
                clear hd
                simp only [upd, h22, h24, reduceIte, Nat.reduceEqDiff] at hK
                go_simp
                exact hK.out _ _ rfl rfl
              exact trivial
            case hend3 =>
              intro u w6 hS hd
              have h25 : u 25 = _ := hd 25 rfl
              have HS7 := Lib.hid hS
              clear hd hS HS2
              rw [h25]
              go_wp2_with fail
              go_roundw
              case rel => exact ⟨j + 1, ⟨a2, b2⟩, hlt, by go_num, Lib.hid ⟨HNX.out, HS7.out⟩⟩
              case measure => simp [intOf]; omega
        · have dlt : decide ((j : Int) < (len : Int)) = false := decide_eq_false (by omega)
          go_wp2_with fail
          exact bodyPost_ret (v := .bool true) (by simp [results, Try.results3, go_sem]) rfl ⟨rfl, HS.out.c.bel⟩
end Go.Proofs.Ytljmdpkbedmkmaa
