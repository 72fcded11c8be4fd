/-
The walk of SeqStale over the contracts of a taker's window (written by tools/gen11/gen_stale.py).
-/
import Derived.Test.YtmokibjeanbabaaSeqLaw
namespace Go.Proofs.Ytmokibjeanbabaa
open Go.RowKit
set_option maxRecDepth 20000
/-- none that came -/
def freshC : List Bool := List.replicate 128 false
theorem held_fresh (v : Int) : heldT ⟨v, freshC⟩ = 0 := by kernel_rfl
theorem InC.take_new {R : InR} (hC : InC R) (p : Nat) (m k : Int) (i : Int) (w0 w : World) (h : InAt R w0 w p m k ⟨i, freshC⟩) (hv : i ≤ 99800) : Calls Try.prog 26 #[.pointer (some ⟨p, 0, none⟩), .int .i64 (i % m)] w fun e w' =>
    ∃ v, e = .returned (.tuple #[v, .int .i64 0]) ∧ OwnL encI 3 w' w.heap.size v [i % m] ∧ InAt R w0 w' p m k ⟨i + 1, freshC⟩ := by
  have := hC.take_at p m k ⟨i, freshC⟩ (i % m) w0 w h hv
  rw [show takeT m k ⟨i, freshC⟩ (i % m) = (⟨i + 1, freshC⟩, [i % m], 0) from take_fresh m k i h.ok.md h.ok.kb.1] at this
  exact this.mono fun e w' ⟨v, he, ho, hI, _⟩ => ⟨v, he, ho, hI⟩
theorem InC.take_old {R : InR} (hC : InC R) (p : Nat) (m k : Int) (i j : Int) (hj : 1 ≤ j ∧ j ≤ m - k) (w0 w : World) (h : InAt R w0 w p m k ⟨i, freshC⟩) (hv : i ≤ 99800) : Calls Try.prog 26 #[.pointer (some ⟨p, 0, none⟩), .int .i64 ((i - j) % m)] w fun e w' =>
    ∃ a c, e = .returned (.tuple #[.slice a 0 c, .int .i64 7]) ∧ InAt R w0 w' p m k ⟨i, freshC⟩ := by
  have := hC.take_at p m k ⟨i, freshC⟩ ((i - j) % m) w0 w h hv
  rw [show takeT m k ⟨i, freshC⟩ ((i - j) % m) = (⟨i, freshC⟩, [], 7) from take_stale m k i j h.ok.md h.ok.kb hj] at this
  exact this.mono fun e w' ⟨v, he, ho, hI, _⟩ => by
    obtain ⟨a, c, hv, -⟩ := ho.see
    subst hv
    exact ⟨a, c, he, hI⟩
set_option maxHeartbeats 1000000 in
theorem seqstale_8 {R : InR} (hC : InC R) (k : Int) (b c : Nat) (hb : b < 256) (hc : c < 256) (w : World) : Calls Try.prog 7 #[.bool false, .int .i64 k, .agg #[.int .u8 b, .int .u8 c]] w fun e w' => e = .returned (.bool true) ∧ Below w.heap.size w w' := by
  have HAW := Lib.hid (fun W => seqawake_of hC W)
  have HB0 := Lib.hid ((Below.refl w.heap.size w).alloc (Nat.le_refl _) (.cells #[.int .u8 b, .int .u8 c] 60))
  have HR0 := Lib.hid (show RowAt (w.alloc (.cells #[.int .u8 b, .int .u8 c] 60)) w.heap.size [.int .u8 b, .int .u8 c] from RowAt.new w w.heap.size rfl [.int .u8 b, .int .u8 c] 60)
  have zc : IntKind.i64.wrap (c : Int) = (c : Int) := i64_small' _ (by omega) (by omega)
  have zb : IntKind.i64.wrap (b : Int) = (b : Int) := i64_small' _ (by omega) (by omega)
  go_enter Try.func7, Try.ntmps7
  go_upto_region 3 with (go_at_call 8; (with_reducible refine (HAW.out _).mono ?_); rintro e w2 ⟨rfl, hb2⟩; have HB1 := Lib.hid (HB0.out.trans (hb2.mono HB0.out.size)); have HR1 := Lib.hid (HR0.out.below hb2); clear hb2)
  have c0 := HR1.out.drew.cell 0 rfl
  have c1 := HR1.out.drew.cell 1 rfl
  have HB2 := Lib.hid HB1.out.drew
  go_region
  clear c0 c1 HR0 HB0 HAW HR1 HB1
  generalize w2.drew = w3 at *
  go_upto_region 7 with (fail)
  by_cases hk : 1 ≤ k ∧ 2 * k ≤ 8
  · have d0 : decide (k < 1) = false := decide_eq_false (by omega)
    have d1 : decide (4 < k) = false := decide_eq_false (by omega)
    have HN := Lib.hid (fun W h0 => hC.new_at 8 k w W h0 (by decide) hk)
    go_upto_region 12 with (go_at_call 25; (with_reducible refine (HN.out _ HB2.out).mono ?_); rintro e w4 ⟨p, rfl, hI⟩; have HI1 := Lib.hid (show InAt R w w4 p 8 k ⟨((0 : Nat) : Int), freshC⟩ from hI); clear hI)
    clear HN d0 d1 HB2
    go_wp2_with fail
    go_loopw [12] (fun i wx => ∃ j : Nat, j ≤ c ∧ i = .int .i64 j ∧ Hid (InAt R w wx p 8 k ⟨(j : Int), freshC⟩)) (fun i _ => c - (intOf i).toNat)
    case atStart => exact ⟨0, Nat.zero_le _, rfl, HI1⟩
    case round =>
      obtain ⟨j, hj, rfl, HI⟩ := hrel
      clear HI1
      by_cases hlt : j < c
      · have dj : decide ((j : Int) < (c : Int)) = true := decide_eq_true (by omega)
        have y1 : (j : Int).tmod 8 = (j : Int) % 8 := Int.tmod_eq_emod_of_nonneg (by omega)
        have HT := Lib.hid (fun W h => hC.take_new p 8 k (j : Int) w W h (by omega))
        have y2 : IntKind.i64.wrap ((j : Int) % 8) = (j : Int) % 8 := i64_small' _ (by omega) (by omega)
        have HJ := Lib.hid (show ((j + 1 : Nat) : Int) = (j : Int) + 1 from by omega)
        have HY := Lib.hid (And.intro y1 y2)
        generalize (j : Int) % 8 = q at *
        go_upto_region 16 with (go_at_call 26; (with_reducible refine (HT.out _ HI.out).mono ?_); rintro e w5 ⟨v5, rfl, ho, hI⟩; obtain ⟨g5, c5, rfl, -, -, hA⟩ := ho.some_ (by simp); have HI5 := Lib.hid hI; have HA5 := Lib.hid hA; clear hI hA ho)
        clear HT HI y1 y2 dj
        refine wp_region_facts (fun W W' => Below W.heap.size W W') (fun W => AtL encI W (some ⟨g5, 0, none⟩) [q] ∧ InAt R w W p 8 k ⟨(j : Int) + 1, freshC⟩)
          (factsOf [.is (.int .i64 0), .is (.bool false), .is (.bool false), .is (.slice (some ⟨g5, 0, none⟩) 1 c5), .is (.int .i64 1), .is (.bool false), .is (.bool false), .is (.bool false), .is (.slice (some ⟨g5, 0, none⟩) 1 c5), .is (.pointer (some ⟨g5, 0, none⟩)), .is (.int .i64 q), .is (.int .i64 j), .is (.int .i64 8), .is (.int .i64 q), .is (.bool false), .is (.bool false)])
          (by kernel_rfl) (by kernel_rfl) (facts_stay _) (fun W W' hb h => ⟨h.1.below hb, h.2.below hC hb⟩) (fun i => [u55, u56, u57, u58, u59, u60, u61, u62, u63, u64, u65, u66, u67, u68, u69, u70].getD i undef) (by kernel_rfl) ⟨HA5.out.drew, HI5.out.below hC ((Below.refl _ _).drew)⟩ ?F1 ?hF1 ?hstep1 ?hend1
        case hF1 =>
          intro u
          simp only [fillAct]
          go_simp
          rfl
        case hstep1 =>
          clear HI5 HA5
          refine FSteps.cons ?_ ?_
          · intro u W hS hd K hK
            clear hd
            simp only [upd, reduceIte, Nat.reduceEqDiff] at hK
            go_simp
            exact hK.out _ _ (Below.refl _ _) rfl
          refine FSteps.cons ?_ ?_
          · intro u W hS hd K hK
            have h0 : u 0 = _ := hd 0 rfl
            clear hd
            simp only [upd, h0, reduceIte, Nat.reduceEqDiff] at hK
            go_simp
            exact hK.out _ _ (Below.refl _ _) rfl
          refine FSteps.cons ?_ ?_
          · intro u W hS hd K hK
            have h1 : u 1 = _ := hd 1 rfl
            clear hd
            simp only [upd, h1, reduceIte, Nat.reduceEqDiff] at hK
            go_simp
            exact hK.out _ _ (Below.refl _ _) rfl
          refine FSteps.cons ?_ ?_
          · intro u W hS hd K hK
            have h2 : u 2 = _ := hd 2 rfl
            clear hd
            simp only [upd, h2, reduceIte, Nat.reduceEqDiff] at hK
            go_simp
            exact hK.out _ _ (Below.refl _ _) rfl
          refine FSteps.cons ?_ ?_
          · intro u W hS hd K hK
            have h2 : u 2 = _ := hd 2 rfl
            have h3 : u 3 = _ := hd 3 rfl
            clear hd
            simp only [upd, h2, h3, reduceIte, Nat.reduceEqDiff] at hK
            go_simp
            exact hK.out _ _ (Below.refl _ _) rfl
          refine FSteps.cons ?_ ?_
          · intro u W hS hd K hK
            have h2 : u 2 = _ := hd 2 rfl
            have h4 : u 4 = _ := hd 4 rfl
            clear hd
            simp only [upd, h2, h4, reduceIte, Nat.reduceEqDiff] at hK
            go_simp
            exact hK.out _ _ (Below.refl _ _) rfl
          refine FSteps.cons ?_ ?_
          · intro u W hS hd K hK
            have h2 : u 2 = _ := hd 2 rfl
            have h5 : u 5 = _ := hd 5 rfl
            clear hd
            simp only [upd, h2, h5, reduceIte, Nat.reduceEqDiff] at hK
            go_simp
            exact hK.out _ _ (Below.refl _ _) rfl
          refine FSteps.cons ?_ ?_
          · intro u W hS hd K hK
            have h6 : u 6 = _ := hd 6 rfl
            have h2 : u 2 = _ := hd 2 rfl
            clear hd
            simp only [upd, h6, h2, reduceIte, Nat.reduceEqDiff] at hK
            go_simp
            exact hK.out _ _ (Below.refl _ _) rfl
          refine FSteps.cons ?_ ?_
          · intro u W hS hd K hK
            have h7 : u 7 = _ := hd 7 rfl
            clear hd
            simp only [upd, h7, reduceIte, Nat.reduceEqDiff] at hK
            go_simp
            exact hK.out _ _ (Below.refl _ _) rfl
          refine FSteps.cons ?_ ?_
          · intro u W hS hd K hK
            have h7 : u 7 = _ := hd 7 rfl
            have h8 : u 8 = _ := hd 8 rfl
            clear hd
            simp only [upd, h7, h8, reduceIte, Nat.reduceEqDiff] at hK
            go_simp
            exact hK.out _ _ (Below.refl _ _) rfl
          refine FSteps.cons ?_ ?_
          · intro u W hS hd K hK
            have h7 : u 7 = _ := hd 7 rfl
            have h9 : u 9 = _ := hd 9 rfl
            clear hd
            simp only [upd, h7, h9, reduceIte, Nat.reduceEqDiff] at hK
            have x0 : W.cell? ⟨g5, 0, none⟩ = some (.int .i64 q) := int_at hS.1 0 (by simp)
            go_simp
            exact hK.out _ _ (Below.refl _ _) rfl
          refine FSteps.cons ?_ ?_
          · intro u W hS hd K hK
            have h7 : u 7 = _ := hd 7 rfl
            clear hd
            simp only [upd, h7, reduceIte, Nat.reduceEqDiff] at hK
            go_simp
            exact hK.out _ _ (Below.refl _ _) rfl
          refine FSteps.cons ?_ ?_
          · intro u W hS hd K hK
            have h7 : u 7 = _ := hd 7 rfl
            clear hd
            simp only [upd, h7, reduceIte, Nat.reduceEqDiff] at hK
            go_simp
            exact hK.out _ _ (Below.refl _ _) rfl
          refine FSteps.cons ?_ ?_
          · intro u W hS hd K hK
            have h7 : u 7 = _ := hd 7 rfl
            have h11 : u 11 = _ := hd 11 rfl
            have h12 : u 12 = _ := hd 12 rfl
            clear hd
            simp only [upd, h7, h11, h12, reduceIte, Nat.reduceEqDiff] at hK
            have y1 := HY.out.1
            have y2 := HY.out.2
            go_simp
            exact hK.out _ _ (Below.refl _ _) rfl
          refine FSteps.cons ?_ ?_
          · intro u W hS hd K hK
            have h7 : u 7 = _ := hd 7 rfl
            have h10 : u 10 = _ := hd 10 rfl
            have h13 : u 13 = _ := hd 13 rfl
            clear hd
            simp only [upd, h7, h10, h13, reduceIte, Nat.reduceEqDiff] at hK
            go_simp
            exact hK.out _ _ (Below.refl _ _) rfl
          refine FSteps.cons ?_ ?_
          · intro u W hS hd K hK
            have h7 : u 7 = _ := hd 7 rfl
            have h14 : u 14 = _ := hd 14 rfl
            clear hd
            simp only [upd, h7, h14, reduceIte, Nat.reduceEqDiff] at hK
            go_simp
            exact hK.out _ _ (Below.refl _ _) rfl
          exact trivial
        case hend1 =>
          intro u w6 hS hd
          have h15 : u 15 = _ := hd 15 rfl
          have HI6 := Lib.hid hS.2
          clear hd hS HI5 HA5
          rw [h15]
          go_wp2_with fail
          go_roundw
          case rel => exact ⟨j + 1, hlt, by go_num, Lib.hid (by rw [HJ.out]; exact HI6.out)⟩
          case measure => simp [intOf]; omega
      · have hjc : j = c := by omega
        subst hjc
        have dj : decide ((j : Int) < (j : Int)) = false := decide_eq_false (by omega)
        have z1 : IntKind.i64.wrap (8 - k) = 8 - k := i64_small' _ (by omega) (by omega)
        have hD0 : ¬ (8 - k = 0) := by omega
        obtain ⟨a, ha⟩ : ∃ a, (b : Int) % (8 - k) = a := ⟨_, rfl⟩
        have t1 : (b : Int).tmod (8 - k) = a := by rw [Int.tmod_eq_emod_of_nonneg (by omega), ha]
        have ha0 : 0 ≤ a ∧ a < 8 - k := by rw [← ha]; exact ⟨Int.emod_nonneg _ hD0, Int.emod_lt_of_pos _ (by omega)⟩
        have z2 : IntKind.i64.wrap a = a := i64_small' _ (by omega) (by omega)
        have z3 : IntKind.i64.wrap (1 + a) = 1 + a := i64_small' _ (by omega) (by omega)
        clear ha
        by_cases hold : (j : Int) < 1 + a
        · have do_ : decide ((j : Int) < 1 + a) = true := decide_eq_true hold
          clear hold
          go_wp2_with fail
          exact bodyPost_ret (v := .bool true) (by simp [results, Try.results7, go_sem]) rfl ⟨rfl, HI.out.base⟩
        · have do_ : decide ((j : Int) < 1 + a) = false := decide_eq_false hold
          have z4 : IntKind.i64.wrap ((j : Int) - (1 + a)) = (j : Int) - (1 + a) := i64_small' _ (by omega) (by omega)
          have t2 : ((j : Int) - (1 + a)).tmod 8 = ((j : Int) - (1 + a)) % 8 := Int.tmod_eq_emod_of_nonneg (by omega)
          have z5 : IntKind.i64.wrap (((j : Int) - (1 + a)) % 8) = ((j : Int) - (1 + a)) % 8 := i64_small' _ (by omega) (by omega)
          have t3 : (j : Int).tmod 8 = (j : Int) % 8 := Int.tmod_eq_emod_of_nonneg (by omega)
          have z6 : IntKind.i64.wrap ((j : Int) % 8) = (j : Int) % 8 := i64_small' _ (by omega) (by omega)
          have HO := Lib.hid (fun W h => hC.take_old p 8 k (j : Int) (1 + a) (by omega) w W h (by omega))
          obtain ⟨r, hr⟩ : ∃ r, (j : Int) % 8 = r := ⟨_, rfl⟩
          rw [hr] at t3 z6
          have HRR := Lib.hid hr
          have HY := Lib.hid (And.intro t3 z6)
          have HZ := Lib.hid zc
          generalize ((j : Int) - (1 + a)) % 8 = q at *
          clear hr t3 z6 hold
          go_upto_region 22 with (go_at_call 26; (with_reducible refine (HO.out _ HI.out).mono ?_); rintro e w5 ⟨a5, c5, rfl, hI⟩; have HI5 := Lib.hid hI; clear hI)
          clear HI HO do_ dj z1 z2 z3 z4 z5 t1 t2 zb zc
          refine wp_region_facts (fun W W' => Below W.heap.size W W') (fun W => InAt R w W p 8 k ⟨(j : Int), freshC⟩)
            (factsOf [.is (.slice a5 0 c5), .is (.int .i64 0), .is (.bool true), .is (.bool true), .is (.int .i64 7), .is (.bool true), .is (.bool true), .is (.bool true), .is (.pointer (some ⟨p, 0, none⟩)), .is (.int .i64 0), .is (.bool true), .is (.bool true), .is (.bool true), .is (.pointer (some ⟨p, 0, none⟩)), .is (.int .i64 r), .is (.int .u8 j), .is (.int .i64 j), .is (.int .i64 8), .is (.int .i64 r), .is (.bool true), .is (.bool true), .is (.bool true)])
            (by kernel_rfl) (by kernel_rfl) (facts_stay _) (fun W W' hb h => h.below hC hb) (fun i => if i = 21 then u6 else undef) (by kernel_rfl) (HI5.out.below hC ((Below.refl _ _).drew)) ?F2 ?hF2 ?hstep2 ?hend2
          case hF2 =>
            intro u
            simp only [fillAct]
            go_simp
            rfl
          case hstep2 =>
            clear HI5
            refine FSteps.cons ?_ ?_
            · intro u W hS hd K hK
              clear hd
              simp only [upd, reduceIte, Nat.reduceEqDiff] at hK
              go_simp
              exact hK.out _ _ (Below.refl _ _) rfl
            refine FSteps.cons ?_ ?_
            · intro u W hS hd K hK
              have h0 : u 0 = _ := hd 0 rfl
              clear hd
              simp only [upd, h0, reduceIte, Nat.reduceEqDiff] at hK
              go_simp
              exact hK.out _ _ (Below.refl _ _) rfl
            refine FSteps.cons ?_ ?_
            · intro u W hS hd K hK
              have h1 : u 1 = _ := hd 1 rfl
              clear hd
              simp only [upd, h1, reduceIte, Nat.reduceEqDiff] at hK
              go_simp
              exact hK.out _ _ (Below.refl _ _) rfl
            refine FSteps.cons ?_ ?_
            · intro u W hS hd K hK
              have h2 : u 2 = _ := hd 2 rfl
              clear hd
              simp only [upd, h2, reduceIte, Nat.reduceEqDiff] at hK
              go_simp
              exact hK.out _ _ (Below.refl _ _) rfl
            refine FSteps.cons ?_ ?_
            · intro u W hS hd K hK
              have h3 : u 3 = _ := hd 3 rfl
              clear hd
              simp only [upd, h3, reduceIte, Nat.reduceEqDiff] at hK
              go_simp
              exact hK.out _ _ (Below.refl _ _) rfl
            refine FSteps.cons ?_ ?_
            · intro u W hS hd K hK
              have h3 : u 3 = _ := hd 3 rfl
              have h4 : u 4 = _ := hd 4 rfl
              clear hd
              simp only [upd, h3, h4, reduceIte, Nat.reduceEqDiff] at hK
              go_simp
              exact hK.out _ _ (Below.refl _ _) rfl
            refine FSteps.cons ?_ ?_
            · intro u W hS hd K hK
              have h3 : u 3 = _ := hd 3 rfl
              have h5 : u 5 = _ := hd 5 rfl
              clear hd
              simp only [upd, h3, h5, reduceIte, Nat.reduceEqDiff] at hK
              go_simp
              exact hK.out _ _ (Below.refl _ _) rfl
            refine FSteps.cons ?_ ?_
            · intro u W hS hd K hK
              have h6 : u 6 = _ := hd 6 rfl
              have h3 : u 3 = _ := hd 3 rfl
              clear hd
              simp only [upd, h6, h3, reduceIte, Nat.reduceEqDiff] at hK
              go_simp
              exact hK.out _ _ (Below.refl _ _) rfl
            refine FSteps.cons ?_ ?_
            · intro u W hS hd K hK
              have h7 : u 7 = _ := hd 7 rfl
              clear hd
              simp only [upd, h7, reduceIte, Nat.reduceEqDiff] at hK
              go_simp
              exact hK.out _ _ (Below.refl _ _) rfl
            refine FSteps.cons ?_ ?_
            · intro u W hS hd K hK
              have h7 : u 7 = _ := hd 7 rfl
              have h8 : u 8 = _ := hd 8 rfl
              clear hd
              simp only [upd, h7, h8, reduceIte, Nat.reduceEqDiff] at hK
              go_simp
              go_at_call 29
              obtain ⟨F, hR, hF⟩ := hS.at_
              refine (hC.held _ _ _ _ _ _ hR hS.ok).mono ?_
              rintro e wc ⟨rfl, hb⟩
              exact hK.out _ _ hb (congrArg (Value.int .i64) (held_fresh _))
            refine FSteps.cons ?_ ?_
            · intro u W hS hd K hK
              have h7 : u 7 = _ := hd 7 rfl
              have h9 : u 9 = _ := hd 9 rfl
              clear hd
              simp only [upd, h7, h9, reduceIte, Nat.reduceEqDiff] at hK
              go_simp
              exact hK.out _ _ (Below.refl _ _) rfl
            refine FSteps.cons ?_ ?_
            · intro u W hS hd K hK
              have h7 : u 7 = _ := hd 7 rfl
              have h10 : u 10 = _ := hd 10 rfl
              clear hd
              simp only [upd, h7, h10, reduceIte, Nat.reduceEqDiff] at hK
              go_simp
              exact hK.out _ _ (Below.refl _ _) rfl
            refine FSteps.cons ?_ ?_
            · intro u W hS hd K hK
              have h11 : u 11 = _ := hd 11 rfl
              clear hd
              simp only [upd, h11, reduceIte, Nat.reduceEqDiff] at hK
              go_simp
              exact hK.out _ _ (Below.refl _ _) rfl
            refine FSteps.cons ?_ ?_
            · intro u W hS hd K hK
              have h12 : u 12 = _ := hd 12 rfl
              clear hd
              simp only [upd, h12, reduceIte, Nat.reduceEqDiff] at hK
              go_simp
              exact hK.out _ _ (Below.refl _ _) rfl
            refine FSteps.cons ?_ ?_
            · intro u W hS hd K hK
              have h12 : u 12 = _ := hd 12 rfl
              have h13 : u 13 = _ := hd 13 rfl
              clear hd
              simp only [upd, h12, h13, reduceIte, Nat.reduceEqDiff] at hK
              go_simp
              go_at_call 28
              obtain ⟨F, hR, hF⟩ := hS.at_
              refine (hC.vr _ _ _ _ _ _ hR hS.ok).mono ?_
              rintro e wc ⟨rfl, hb⟩
              exact hK.out _ _ hb (congrArg (Value.int .i64) HRR.out)
            refine FSteps.cons ?_ ?_
            · intro u W hS hd K hK
              have h12 : u 12 = _ := hd 12 rfl
              clear hd
              simp only [upd, h12, reduceIte, Nat.reduceEqDiff] at hK
              go_simp
              exact hK.out _ _ (Below.refl _ _) rfl
            refine FSteps.cons ?_ ?_
            · intro u W hS hd K hK
              have h12 : u 12 = _ := hd 12 rfl
              have h15 : u 15 = _ := hd 15 rfl
              clear hd
              simp only [upd, h12, h15, reduceIte, Nat.reduceEqDiff] at hK
              have zc := HZ.out
              go_simp
              exact hK.out _ _ (Below.refl _ _) rfl
            refine FSteps.cons ?_ ?_
            · intro u W hS hd K hK
              have h12 : u 12 = _ := hd 12 rfl
              clear hd
              simp only [upd, h12, reduceIte, Nat.reduceEqDiff] at hK
              go_simp
              exact hK.out _ _ (Below.refl _ _) rfl
            refine FSteps.cons ?_ ?_
            · intro u W hS hd K hK
              have h12 : u 12 = _ := hd 12 rfl
              have h16 : u 16 = _ := hd 16 rfl
              have h17 : u 17 = _ := hd 17 rfl
              clear hd
              simp only [upd, h12, h16, h17, reduceIte, Nat.reduceEqDiff] at hK
              have y1 := HY.out.1
              have y2 := HY.out.2
              go_simp
              exact hK.out _ _ (Below.refl _ _) rfl
            refine FSteps.cons ?_ ?_
            · intro u W hS hd K hK
              have h12 : u 12 = _ := hd 12 rfl
              have h14 : u 14 = _ := hd 14 rfl
              have h18 : u 18 = _ := hd 18 rfl
              clear hd
              simp only [upd, h12, h14, h18, reduceIte, Nat.reduceEqDiff] at hK
              go_simp
              exact hK.out _ _ (Below.refl _ _) rfl
            refine FSteps.cons ?_ ?_
            · intro u W hS hd K hK
              have h12 : u 12 = _ := hd 12 rfl
              have h19 : u 19 = _ := hd 19 rfl
              clear hd
              simp only [upd, h12, h19, reduceIte, Nat.reduceEqDiff] at hK
              go_simp
              exact hK.out _ _ (Below.refl _ _) rfl
            refine FSteps.cons ?_ ?_
            · intro u W hS hd K hK
              have h20 : u 20 = _ := hd 20 rfl
              clear hd
              simp only [upd, h20, reduceIte, Nat.reduceEqDiff] at hK
              go_simp
              exact hK.out _ _ (Below.refl _ _) rfl
            exact trivial
          case hend2 =>
            intro u w6 hS hd
            have h21 : u 21 = _ := hd 21 rfl
            have HI6 := Lib.hid hS
            clear hd hS HI5
            rw [h21]
            go_wp2_with fail
            exact bodyPost_ret (v := .bool true) (by simp [results, Try.results7, go_sem]) rfl ⟨rfl, HI6.out.base⟩
  · by_cases h0 : k < 1
    · have d0 : decide (k < 1) = true := decide_eq_true h0
      clear h0 hk
      go_wp2_with fail
      exact bodyPost_ret (v := .bool true) (by simp [results, Try.results7, go_sem]) rfl ⟨rfl, HB2.out⟩
    · have d0 : decide (k < 1) = false := decide_eq_false h0
      have d1 : decide (4 < k) = true := decide_eq_true (by omega)
      clear h0 hk
      go_wp2_with fail
      exact bodyPost_ret (v := .bool true) (by simp [results, Try.results7, go_sem]) rfl ⟨rfl, HB2.out⟩
set_option maxHeartbeats 1000000 in
theorem seqstale_128 {R : InR} (hC : InC R) (k : Int) (b c : Nat) (hb : b < 256) (hc : c < 256) (w : World) : Calls Try.prog 7 #[.bool true, .int .i64 k, .agg #[.int .u8 b, .int .u8 c]] w fun e w' => e = .returned (.bool true) ∧ Below w.heap.size w w' := by
  have HAW := Lib.hid (fun W => seqawake_of hC W)
  have HB0 := Lib.hid ((Below.refl w.heap.size w).alloc (Nat.le_refl _) (.cells #[.int .u8 b, .int .u8 c] 60))
  have HR0 := Lib.hid (show RowAt (w.alloc (.cells #[.int .u8 b, .int .u8 c] 60)) w.heap.size [.int .u8 b, .int .u8 c] from RowAt.new w w.heap.size rfl [.int .u8 b, .int .u8 c] 60)
  have zc : IntKind.i64.wrap (c : Int) = (c : Int) := i64_small' _ (by omega) (by omega)
  have zb : IntKind.i64.wrap (b : Int) = (b : Int) := i64_small' _ (by omega) (by omega)
  go_enter Try.func7, Try.ntmps7
  go_upto_region 3 with (go_at_call 8; (with_reducible refine (HAW.out _).mono ?_); rintro e w2 ⟨rfl, hb2⟩; have HB1 := Lib.hid (HB0.out.trans (hb2.mono HB0.out.size)); have HR1 := Lib.hid (HR0.out.below hb2); clear hb2)
  have c0 := HR1.out.drew.cell 0 rfl
  have c1 := HR1.out.drew.cell 1 rfl
  have HB2 := Lib.hid HB1.out.drew
  go_region
  clear c0 c1 HR0 HB0 HAW HR1 HB1
  generalize w2.drew = w3 at *
  go_upto_region 7 with (fail)
  by_cases hk : 1 ≤ k ∧ 2 * k ≤ 128
  · have d0 : decide (k < 1) = false := decide_eq_false (by omega)
    have d1 : decide (64 < k) = false := decide_eq_false (by omega)
    have HN := Lib.hid (fun W h0 => hC.new_at 128 k w W h0 (by decide) hk)
    go_upto_region 12 with (go_at_call 25; (with_reducible refine (HN.out _ HB2.out).mono ?_); rintro e w4 ⟨p, rfl, hI⟩; have HI1 := Lib.hid (show InAt R w w4 p 128 k ⟨((0 : Nat) : Int), freshC⟩ from hI); clear hI)
    clear HN d0 d1 HB2
    go_wp2_with fail
    go_loopw [12] (fun i wx => ∃ j : Nat, j ≤ c ∧ i = .int .i64 j ∧ Hid (InAt R w wx p 128 k ⟨(j : Int), freshC⟩)) (fun i _ => c - (intOf i).toNat)
    case atStart => exact ⟨0, Nat.zero_le _, rfl, HI1⟩
    case round =>
      obtain ⟨j, hj, rfl, HI⟩ := hrel
      clear HI1
      by_cases hlt : j < c
      · have dj : decide ((j : Int) < (c : Int)) = true := decide_eq_true (by omega)
        have y1 : (j : Int).tmod 128 = (j : Int) % 128 := Int.tmod_eq_emod_of_nonneg (by omega)
        have HT := Lib.hid (fun W h => hC.take_new p 128 k (j : Int) w W h (by omega))
        have y2 : IntKind.i64.wrap ((j : Int) % 128) = (j : Int) % 128 := i64_small' _ (by omega) (by omega)
        have HJ := Lib.hid (show ((j + 1 : Nat) : Int) = (j : Int) + 1 from by omega)
        have HY := Lib.hid (And.intro y1 y2)
        generalize (j : Int) % 128 = q at *
        go_upto_region 16 with (go_at_call 26; (with_reducible refine (HT.out _ HI.out).mono ?_); rintro e w5 ⟨v5, rfl, ho, hI⟩; obtain ⟨g5, c5, rfl, -, -, hA⟩ := ho.some_ (by simp); have HI5 := Lib.hid hI; have HA5 := Lib.hid hA; clear hI hA ho)
        clear HT HI y1 y2 dj
        refine wp_region_facts (fun W W' => Below W.heap.size W W') (fun W => AtL encI W (some ⟨g5, 0, none⟩) [q] ∧ InAt R w W p 128 k ⟨(j : Int) + 1, freshC⟩)
          (factsOf [.is (.int .i64 0), .is (.bool false), .is (.bool false), .is (.slice (some ⟨g5, 0, none⟩) 1 c5), .is (.int .i64 1), .is (.bool false), .is (.bool false), .is (.bool false), .is (.slice (some ⟨g5, 0, none⟩) 1 c5), .is (.pointer (some ⟨g5, 0, none⟩)), .is (.int .i64 q), .is (.int .i64 j), .is (.int .i64 128), .is (.int .i64 q), .is (.bool false), .is (.bool false)])
          (by kernel_rfl) (by kernel_rfl) (facts_stay _) (fun W W' hb h => ⟨h.1.below hb, h.2.below hC hb⟩) (fun i => [u55, u56, u57, u58, u59, u60, u61, u62, u63, u64, u65, u66, u67, u68, u69, u70].getD i undef) (by kernel_rfl) ⟨HA5.out.drew, HI5.out.below hC ((Below.refl _ _).drew)⟩ ?F1 ?hF1 ?hstep1 ?hend1
        case hF1 =>
          intro u
          simp only [fillAct]
          go_simp
          rfl
        case hstep1 =>
          clear HI5 HA5
          refine FSteps.cons ?_ ?_
          · intro u W hS hd K hK
            clear hd
            simp only [upd, reduceIte, Nat.reduceEqDiff] at hK
            go_simp
            exact hK.out _ _ (Below.refl _ _) rfl
          refine FSteps.cons ?_ ?_
          · intro u W hS hd K hK
            have h0 : u 0 = _ := hd 0 rfl
            clear hd
            simp only [upd, h0, reduceIte, Nat.reduceEqDiff] at hK
            go_simp
            exact hK.out _ _ (Below.refl _ _) rfl
          refine FSteps.cons ?_ ?_
          · intro u W hS hd K hK
            have h1 : u 1 = _ := hd 1 rfl
            clear hd
            simp only [upd, h1, reduceIte, Nat.reduceEqDiff] at hK
            go_simp
            exact hK.out _ _ (Below.refl _ _) rfl
          refine FSteps.cons ?_ ?_
          · intro u W hS hd K hK
            have h2 : u 2 = _ := hd 2 rfl
            clear hd
            simp only [upd, h2, reduceIte, Nat.reduceEqDiff] at hK
            go_simp
            exact hK.out _ _ (Below.refl _ _) rfl
          refine FSteps.cons ?_ ?_
          · intro u W hS hd K hK
            have h2 : u 2 = _ := hd 2 rfl
            have h3 : u 3 = _ := hd 3 rfl
            clear hd
            simp only [upd, h2, h3, reduceIte, Nat.reduceEqDiff] at hK
            go_simp
            exact hK.out _ _ (Below.refl _ _) rfl
          refine FSteps.cons ?_ ?_
          · intro u W hS hd K hK
            have h2 : u 2 = _ := hd 2 rfl
            have h4 : u 4 = _ := hd 4 rfl
            clear hd
            simp only [upd, h2, h4, reduceIte, Nat.reduceEqDiff] at hK
            go_simp
            exact hK.out _ _ (Below.refl _ _) rfl
          refine FSteps.cons ?_ ?_
          · intro u W hS hd K hK
            have h2 : u 2 = _ := hd 2 rfl
            have h5 : u 5 = _ := hd 5 rfl
            clear hd
            simp only [upd, h2, h5, reduceIte, Nat.reduceEqDiff] at hK
            go_simp
            exact hK.out _ _ (Below.refl _ _) rfl
          refine FSteps.cons ?_ ?_
          · intro u W hS hd K hK
            have h6 : u 6 = _ := hd 6 rfl
            have h2 : u 2 = _ := hd 2 rfl
            clear hd
            simp only [upd, h6, h2, reduceIte, Nat.reduceEqDiff] at hK
            go_simp
            exact hK.out _ _ (Below.refl _ _) rfl
          refine FSteps.cons ?_ ?_
          · intro u W hS hd K hK
            have h7 : u 7 = _ := hd 7 rfl
            clear hd
            simp only [upd, h7, reduceIte, Nat.reduceEqDiff] at hK
            go_simp
            exact hK.out _ _ (Below.refl _ _) rfl
          refine FSteps.cons ?_ ?_
          · intro u W hS hd K hK
            have h7 : u 7 = _ := hd 7 rfl
            have h8 : u 8 = _ := hd 8 rfl
            clear hd
            simp only [upd, h7, h8, reduceIte, Nat.reduceEqDiff] at hK
            go_simp
            exact hK.out _ _ (Below.refl _ _) rfl
          refine FSteps.cons ?_ ?_
          · intro u W hS hd K hK
            have h7 : u 7 = _ := hd 7 rfl
            have h9 : u 9 = _ := hd 9 rfl
            clear hd
            simp only [upd, h7, h9, reduceIte, Nat.reduceEqDiff] at hK
            have x0 : W.cell? ⟨g5, 0, none⟩ = some (.int .i64 q) := int_at hS.1 0 (by simp)
            go_simp
            exact hK.out _ _ (Below.refl _ _) rfl
          refine FSteps.cons ?_ ?_
          · intro u W hS hd K hK
            have h7 : u 7 = _ := hd 7 rfl
            clear hd
            simp only [upd, h7, reduceIte, Nat.reduceEqDiff] at hK
            go_simp
            exact hK.out _ _ (Below.refl _ _) rfl
          refine FSteps.cons ?_ ?_
          · intro u W hS hd K hK
            have h7 : u 7 = _ := hd 7 rfl
            clear hd
            simp only [upd, h7, reduceIte, Nat.reduceEqDiff] at hK
            go_simp
            exact hK.out _ _ (Below.refl _ _) rfl
          refine FSteps.cons ?_ ?_
          · intro u W hS hd K hK
            have h7 : u 7 = _ := hd 7 rfl
            have h11 : u 11 = _ := hd 11 rfl
            have h12 : u 12 = _ := hd 12 rfl
            clear hd
            simp only [upd, h7, h11, h12, reduceIte, Nat.reduceEqDiff] at hK
            have y1 := HY.out.1
            have y2 := HY.out.2
            go_simp
            exact hK.out _ _ (Below.refl _ _) rfl
          refine FSteps.cons ?_ ?_
          · intro u W hS hd K hK
            have h7 : u 7 = _ := hd 7 rfl
            have h10 : u 10 = _ := hd 10 rfl
            have h13 : u 13 = _ := hd 13 rfl
            clear hd
            simp only [upd, h7, h10, h13, reduceIte, Nat.reduceEqDiff] at hK
            go_simp
            exact hK.out _ _ (Below.refl _ _) rfl
          refine FSteps.cons ?_ ?_
          · intro u W hS hd K hK
            have h7 : u 7 = _ := hd 7 rfl
            have h14 : u 14 = _ := hd 14 rfl
            clear hd
            simp only [upd, h7, h14, reduceIte, Nat.reduceEqDiff] at hK
            go_simp
            exact hK.out _ _ (Below.refl _ _) rfl
          exact trivial
        case hend1 =>
          intro u w6 hS hd
          have h15 : u 15 = _ := hd 15 rfl
          have HI6 := Lib.hid hS.2
          clear hd hS HI5 HA5
          rw [h15]
          go_wp2_with fail
          go_roundw
          case rel => exact ⟨j + 1, hlt, by go_num, Lib.hid (by rw [HJ.out]; exact HI6.out)⟩
          case measure => simp [intOf]; omega
      · have hjc : j = c := by omega
        subst hjc
        have dj : decide ((j : Int) < (j : Int)) = false := decide_eq_false (by omega)
        have z1 : IntKind.i64.wrap (128 - k) = 128 - k := i64_small' _ (by omega) (by omega)
        have hD0 : ¬ (128 - k = 0) := by omega
        obtain ⟨a, ha⟩ : ∃ a, (b : Int) % (128 - k) = a := ⟨_, rfl⟩
        have t1 : (b : Int).tmod (128 - k) = a := by rw [Int.tmod_eq_emod_of_nonneg (by omega), ha]
        have ha0 : 0 ≤ a ∧ a < 128 - k := by rw [← ha]; exact ⟨Int.emod_nonneg _ hD0, Int.emod_lt_of_pos _ (by omega)⟩
        have z2 : IntKind.i64.wrap a = a := i64_small' _ (by omega) (by omega)
        have z3 : IntKind.i64.wrap (1 + a) = 1 + a := i64_small' _ (by omega) (by omega)
        clear ha
        by_cases hold : (j : Int) < 1 + a
        · have do_ : decide ((j : Int) < 1 + a) = true := decide_eq_true hold
          clear hold
          go_wp2_with fail
          exact bodyPost_ret (v := .bool true) (by simp [results, Try.results7, go_sem]) rfl ⟨rfl, HI.out.base⟩
        · have do_ : decide ((j : Int) < 1 + a) = false := decide_eq_false hold
          have z4 : IntKind.i64.wrap ((j : Int) - (1 + a)) = (j : Int) - (1 + a) := i64_small' _ (by omega) (by omega)
          have t2 : ((j : Int) - (1 + a)).tmod 128 = ((j : Int) - (1 + a)) % 128 := Int.tmod_eq_emod_of_nonneg (by omega)
          have z5 : IntKind.i64.wrap (((j : Int) - (1 + a)) % 128) = ((j : Int) - (1 + a)) % 128 := i64_small' _ (by omega) (by omega)
          have t3 : (j : Int).tmod 128 = (j : Int) % 128 := Int.tmod_eq_emod_of_nonneg (by omega)
          have z6 : IntKind.i64.wrap ((j : Int) % 128) = (j : Int) % 128 := i64_small' _ (by omega) (by omega)
          have HO := Lib.hid (fun W h => hC.take_old p 128 k (j : Int) (1 + a) (by omega) w W h (by omega))
          obtain ⟨r, hr⟩ : ∃ r, (j : Int) % 128 = r := ⟨_, rfl⟩
          rw [hr] at t3 z6
          have HRR := Lib.hid hr
          have HY := Lib.hid (And.intro t3 z6)
          have HZ := Lib.hid zc
          generalize ((j : Int) - (1 + a)) % 128 = q at *
          clear hr t3 z6 hold
          go_upto_region 22 with (go_at_call 26; (with_reducible refine (HO.out _ HI.out).mono ?_); rintro e w5 ⟨a5, c5, rfl, hI⟩; have HI5 := Lib.hid hI; clear hI)
          clear HI HO do_ dj z1 z2 z3 z4 z5 t1 t2 zb zc
          refine wp_region_facts (fun W W' => Below W.heap.size W W') (fun W => InAt R w W p 128 k ⟨(j : Int), freshC⟩)
            (factsOf [.is (.slice a5 0 c5), .is (.int .i64 0), .is (.bool true), .is (.bool true), .is (.int .i64 7), .is (.bool true), .is (.bool true), .is (.bool true), .is (.pointer (some ⟨p, 0, none⟩)), .is (.int .i64 0), .is (.bool true), .is (.bool true), .is (.bool true), .is (.pointer (some ⟨p, 0, none⟩)), .is (.int .i64 r), .is (.int .u8 j), .is (.int .i64 j), .is (.int .i64 128), .is (.int .i64 r), .is (.bool true), .is (.bool true), .is (.bool true)])
            (by kernel_rfl) (by kernel_rfl) (facts_stay _) (fun W W' hb h => h.below hC hb) (fun i => if i = 21 then u6 else undef) (by kernel_rfl) (HI5.out.below hC ((Below.refl _ _).drew)) ?F2 ?hF2 ?hstep2 ?hend2
          case hF2 =>
            intro u
            simp only [fillAct]
            go_simp
            rfl
          case hstep2 =>
            clear HI5
            refine FSteps.cons ?_ ?_
            · intro u W hS hd K hK
              clear hd
              simp only [upd, reduceIte, Nat.reduceEqDiff] at hK
              go_simp
              exact hK.out _ _ (Below.refl _ _) rfl
            refine FSteps.cons ?_ ?_
            · intro u W hS hd K hK
              have h0 : u 0 = _ := hd 0 rfl
              clear hd
              simp only [upd, h0, reduceIte, Nat.reduceEqDiff] at hK
              go_simp
              exact hK.out _ _ (Below.refl _ _) rfl
            refine FSteps.cons ?_ ?_
            · intro u W hS hd K hK
              have h1 : u 1 = _ := hd 1 rfl
              clear hd
              simp only [upd, h1, reduceIte, Nat.reduceEqDiff] at hK
              go_simp
              exact hK.out _ _ (Below.refl _ _) rfl
            refine FSteps.cons ?_ ?_
            · intro u W hS hd K hK
              have h2 : u 2 = _ := hd 2 rfl
              clear hd
              simp only [upd, h2, reduceIte, Nat.reduceEqDiff] at hK
              go_simp
              exact hK.out _ _ (Below.refl _ _) rfl
            refine FSteps.cons ?_ ?_
            · intro u W hS hd K hK
              have h3 : u 3 = _ := hd 3 rfl
              clear hd
              simp only [upd, h3, reduceIte, Nat.reduceEqDiff] at hK
              go_simp
              exact hK.out _ _ (Below.refl _ _) rfl
            refine FSteps.cons ?_ ?_
            · intro u W hS hd K hK
              have h3 : u 3 = _ := hd 3 rfl
              have h4 : u 4 = _ := hd 4 rfl
              clear hd
              simp only [upd, h3, h4, reduceIte, Nat.reduceEqDiff] at hK
              go_simp
              exact hK.out _ _ (Below.refl _ _) rfl
            refine FSteps.cons ?_ ?_
            · intro u W hS hd K hK
              have h3 : u 3 = _ := hd 3 rfl
              have h5 : u 5 = _ := hd 5 rfl
              clear hd
              simp only [upd, h3, h5, reduceIte, Nat.reduceEqDiff] at hK
              go_simp
              exact hK.out _ _ (Below.refl _ _) rfl
            refine FSteps.cons ?_ ?_
            · intro u W hS hd K hK
              have h6 : u 6 = _ := hd 6 rfl
              have h3 : u 3 = _ := hd 3 rfl
              clear hd
              simp only [upd, h6, h3, reduceIte, Nat.reduceEqDiff] at hK
              go_simp
              exact hK.out _ _ (Below.refl _ _) rfl
            refine FSteps.cons ?_ ?_
            · intro u W hS hd K hK
              have h7 : u 7 = _ := hd 7 rfl
              clear hd
              simp only [upd, h7, reduceIte, Nat.reduceEqDiff] at hK
              go_simp
              exact hK.out _ _ (Below.refl _ _) rfl
            refine FSteps.cons ?_ ?_
            · intro u W hS hd K hK
              have h7 : u 7 = _ := hd 7 rfl
              have h8 : u 8 = _ := hd 8 rfl
              clear hd
              simp only [upd, h7, h8, reduceIte, Nat.reduceEqDiff] at hK
              go_simp
              go_at_call 29
              obtain ⟨F, hR, hF⟩ := hS.at_
              refine (hC.held _ _ _ _ _ _ hR hS.ok).mono ?_
              rintro e wc ⟨rfl, hb⟩
              exact hK.out _ _ hb (congrArg (Value.int .i64) (held_fresh _))
            refine FSteps.cons ?_ ?_
            · intro u W hS hd K hK
              have h7 : u 7 = _ := hd 7 rfl
              have h9 : u 9 = _ := hd 9 rfl
              clear hd
              simp only [upd, h7, h9, reduceIte, Nat.reduceEqDiff] at hK
              go_simp
              exact hK.out _ _ (Below.refl _ _) rfl
            refine FSteps.cons ?_ ?_
            · intro u W hS hd K hK
              have h7 : u 7 = _ := hd 7 rfl
              have h10 : u 10 = _ := hd 10 rfl
              clear hd
              simp only [upd, h7, h10, reduceIte, Nat.reduceEqDiff] at hK
              go_simp
              exact hK.out _ _ (Below.refl _ _) rfl
            refine FSteps.cons ?_ ?_
            · intro u W hS hd K hK
              have h11 : u 11 = _ := hd 11 rfl
              clear hd
              simp only [upd, h11, reduceIte, Nat.reduceEqDiff] at hK
              go_simp
              exact hK.out _ _ (Below.refl _ _) rfl
            refine FSteps.cons ?_ ?_
            · intro u W hS hd K hK
              have h12 : u 12 = _ := hd 12 rfl
              clear hd
              simp only [upd, h12, reduceIte, Nat.reduceEqDiff] at hK
              go_simp
              exact hK.out _ _ (Below.refl _ _) rfl
            refine FSteps.cons ?_ ?_
            · intro u W hS hd K hK
              have h12 : u 12 = _ := hd 12 rfl
              have h13 : u 13 = _ := hd 13 rfl
              clear hd
              simp only [upd, h12, h13, reduceIte, Nat.reduceEqDiff] at hK
              go_simp
              go_at_call 28
              obtain ⟨F, hR, hF⟩ := hS.at_
              refine (hC.vr _ _ _ _ _ _ hR hS.ok).mono ?_
              rintro e wc ⟨rfl, hb⟩
              exact hK.out _ _ hb (congrArg (Value.int .i64) HRR.out)
            refine FSteps.cons ?_ ?_
            · intro u W hS hd K hK
              have h12 : u 12 = _ := hd 12 rfl
              clear hd
              simp only [upd, h12, reduceIte, Nat.reduceEqDiff] at hK
              go_simp
              exact hK.out _ _ (Below.refl _ _) rfl
            refine FSteps.cons ?_ ?_
            · intro u W hS hd K hK
              have h12 : u 12 = _ := hd 12 rfl
              have h15 : u 15 = _ := hd 15 rfl
              clear hd
              simp only [upd, h12, h15, reduceIte, Nat.reduceEqDiff] at hK
              have zc := HZ.out
              go_simp
              exact hK.out _ _ (Below.refl _ _) rfl
            refine FSteps.cons ?_ ?_
            · intro u W hS hd K hK
              have h12 : u 12 = _ := hd 12 rfl
              clear hd
              simp only [upd, h12, reduceIte, Nat.reduceEqDiff] at hK
              go_simp
              exact hK.out _ _ (Below.refl _ _) rfl
            refine FSteps.cons ?_ ?_
            · intro u W hS hd K hK
              have h12 : u 12 = _ := hd 12 rfl
              have h16 : u 16 = _ := hd 16 rfl
              have h17 : u 17 = _ := hd 17 rfl
              clear hd
              simp only [upd, h12, h16, h17, reduceIte, Nat.reduceEqDiff] at hK
              have y1 := HY.out.1
              have y2 := HY.out.2
              go_simp
              exact hK.out _ _ (Below.refl _ _) rfl
            refine FSteps.cons ?_ ?_
            · intro u W hS hd K hK
              have h12 : u 12 = _ := hd 12 rfl
              have h14 : u 14 = _ := hd 14 rfl
              have h18 : u 18 = _ := hd 18 rfl
              clear hd
              simp only [upd, h12, h14, h18, reduceIte, Nat.reduceEqDiff] at hK
              go_simp
              exact hK.out _ _ (Below.refl _ _) rfl
            refine FSteps.cons ?_ ?_
            · intro u W hS hd K hK
              have h12 : u 12 = _ := hd 12 rfl
              have h19 : u 19 = _ := hd 19 rfl
              clear hd
              simp only [upd, h12, h19, reduceIte, Nat.reduceEqDiff] at hK
              go_simp
              exact hK.out _ _ (Below.refl _ _) rfl
            refine FSteps.cons ?_ ?_
            · intro u W hS hd K hK
              have h20 : u 20 = _ := hd 20 rfl
              clear hd
              simp only [upd, h20, reduceIte, Nat.reduceEqDiff] at hK
              go_simp
              exact hK.out _ _ (Below.refl _ _) rfl
            exact trivial
          case hend2 =>
            intro u w6 hS hd
            have h21 : u 21 = _ := hd 21 rfl
            have HI6 := Lib.hid hS
            clear hd hS HI5
            rw [h21]
            go_wp2_with fail
            exact bodyPost_ret (v := .bool true) (by simp [results, Try.results7, go_sem]) rfl ⟨rfl, HI6.out.base⟩
  · by_cases h0 : k < 1
    · have d0 : decide (k < 1) = true := decide_eq_true h0
      clear h0 hk
      go_wp2_with fail
      exact bodyPost_ret (v := .bool true) (by simp [results, Try.results7, go_sem]) rfl ⟨rfl, HB2.out⟩
    · have d0 : decide (k < 1) = false := decide_eq_false h0
      have d1 : decide (64 < k) = true := decide_eq_true (by omega)
      clear h0 hk
      go_wp2_with fail
      exact bodyPost_ret (v := .bool true) (by simp [results, Try.results7, go_sem]) rfl ⟨rfl, HB2.out⟩
theorem seqstale_of {R : InR} (hC : InC R) (g : Bool) (k : Int) (b c : Nat) (hb : b < 256) (hc : c < 256) (w : World) : Calls Try.prog 7 #[.bool g, .int .i64 k, .agg #[.int .u8 b, .int .u8 c]] w fun e w' => e = .returned (.bool true) ∧ Below w.heap.size w w' := by
  cases g with
  | false => exact seqstale_8 hC k b c hb hc w
  | true => exact seqstale_128 hC k b c hb hc w
end Go.Proofs.Ytmokibjeanbabaa
