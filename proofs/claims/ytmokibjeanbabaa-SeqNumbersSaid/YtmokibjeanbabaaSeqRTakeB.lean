/-
The document's Take of a taker's window, of a right number (written by tools/gen11/gen_rtake.py).
-/
import Derived.Test.YtmokibjeanbabaaSeqRTake
namespace Go.Proofs.Ytmokibjeanbabaa
open Go.RowKit
set_option maxRecDepth 20000
theorem rem_num (m n : Int) (hm : m = 8 ∨ m = 128) (h0 : 0 ≤ n) : n.tmod m = n % m ∧ IntKind.i64.wrap (n % m) = n % m ∧ 0 ≤ n % m ∧ n % m < m := by
  have h1 : 0 ≤ n % m ∧ n % m < m ∧ m ≤ 128 := by rcases hm with e | e <;> subst e <;> omega
  exact ⟨Int.tmod_eq_emod_of_nonneg h0, i64_small' _ (by omega) (by omega), h1.1, h1.2.1⟩
set_option maxHeartbeats 1000000 in
theorem rtake11_there (p : Nat) (m k : Int) (s : Ti) (ns : Int) (w : World) (h : RowAt w p (tiV m k s)) (hok : TiOk m k s) (hin : inR m ns = true) (d : Nat) (hd : farN m (s.vr % m) ns = d) (hc : s.came.getD d false = true) : Calls Try.prog 27 #[.pointer (some ⟨p, 0, none⟩), .int .i64 ns] w (ITakeTo p m k w (takeT m k s ns)) := by
  have hE : takeT m k s ns = (s, [], 8) := by
    unfold takeT
    rw [hin, hd, Int.toNat_natCast, hc]
    rfl
  rw [hE]
  clear hE
  unfold ITakeTo
  have hmd := hok.md
  have hvb := hok.vb
  have hm0 : ¬ (m = 0) := by rcases hmd with e | e <;> omega
  have hn := inR_yes hin
  obtain ⟨y1, y2, y3, y4⟩ := rem_num m s.vr hmd hvb.1
  have hfar : farD m (s.vr % m) ns = (d : Int) := by
    unfold farD
    rw [if_pos (by rw [hin, show modR m = true by rcases hmd with e | e <;> subst e <;> rfl, show inR m (s.vr % m) = true by unfold inR; rw [decide_eq_true y3, decide_eq_true y4]; rfl]; rfl), hd]
  have HFA := Lib.hid (fun W => rfar_any m (s.vr % m) ns W)
  rw [hfar] at HFA
  have hd128 : d < 128 := by
    have := far_most m (s.vr % m) ns ⟨y3, y4⟩ hn
    rw [hd] at this
    rcases hmd with e | e <;> omega
  have HY := Lib.hid (And.intro y1 y2)
  have HO := Lib.hid (OwnL.lit encI 3 w w.heap.size [] [] rfl (Nat.le_refl _) (by simp) 0 rfl)
  have HR0 := Lib.hid (h.alloc (.cells #[] 3))
  have HT0 := Lib.hid ((Turn.refl (fun x => x = p) w).alloc (.cells #[] 3))
  have d0 : decide (ns < 0) = false := decide_eq_false (by omega)
  have d1 : decide (m ≤ ns) = false := decide_eq_false (by omega)
  have hpw : p < w.heap.size := (h.get 0 rfl).lt
  have HLN := Lib.hid hok.len
  have hL : d < s.came.length := by rw [hok.len]; exact hd128
  have HCM := Lib.hid (came_at m k s d hL)
  have HGT := Lib.hid (show s.came.getD d false = s.came[d] from by rw [List.getD_eq_getElem?_getD, List.getElem?_eq_getElem hL]; rfl)
  generalize s.vr % m = q at *
  clear h hfar y1 y2 y3 y4 hn
  go_enter Try.func27, Try.ntmps27
  go_upto_region 2 with (fail)
  have c0 := HR0.out.cell 0 rfl
  generalize w.alloc (.cells #[] 3) = w1 at *
  go_upto_region 4 with (fail)
  clear c0 d0 d1
  refine wp_region_facts (fun W W' => Below W.heap.size W W') (fun W => RowAt W p (tiV m k s) ∧ OwnL encI 3 W w.heap.size (.slice (some ⟨w.heap.size, 0, none⟩) 0 0) [] ∧ Turn (fun x => x = p) w W) (factsOf [.is (.pointer (some ⟨p, 0, none⟩)), .is (.pointer (some ⟨p, 0, none⟩)), .is (.pointer (some ⟨p, 0, none⟩)), .is (.int .i64 m), .is (.pointer (some ⟨p, 0, none⟩)), .is (.pointer (some ⟨p, 0, none⟩)), .is (.pointer (some ⟨p, 2, none⟩)), .is (.int .i64 s.vr), .is (.pointer (some ⟨p, 0, none⟩)), .is (.pointer (some ⟨p, 0, none⟩)), .is (.pointer (some ⟨p, 0, none⟩)), .is (.int .i64 m), .is (.int .i64 q), .is (.int .i64 ns), .is (.int .i64 d), .is (.int .i64 d)]) (by kernel_rfl) (by kernel_rfl) (facts_stay _)
    (fun W W' hb hS => ⟨hS.1.below hb, hS.2.1.below hb, hS.2.2.then_ hb⟩) (fun _ => undef) (by kernel_rfl) ⟨HR0.out.drew, HO.out.drew, HT0.out.drew⟩ ?F1 ?hF1 ?hstep1 ?hend1
  case hF1 =>
    intro u
    simp only [fillAct]
    go_simp
    rfl
  case hstep1 =>
    clear HR0 HO HT0
    refine FSteps.cons ?_ ?_
    · intro u W hS hd K hK
      clear hd
      simp only [upd, reduceIte, Nat.reduceEqDiff] at hK
      go_simp
      exact hK.out _ _ (Below.refl _ _) rfl
    refine FSteps.cons ?_ ?_
    · intro u W hS hd K hK
      have h0 : u 0 = _ := hd 0 rfl
      clear hd
      simp only [upd, h0, reduceIte, Nat.reduceEqDiff] at hK
      go_simp
      exact hK.out _ _ (Below.refl _ _) rfl
    refine FSteps.cons ?_ ?_
    · intro u W hS hd K hK
      have h1 : u 1 = _ := hd 1 rfl
      clear hd
      simp only [upd, h1, reduceIte, Nat.reduceEqDiff] at hK
      go_simp
      exact hK.out _ _ (Below.refl _ _) rfl
    refine FSteps.cons ?_ ?_
    · intro u W hS hd K hK
      have h2 : u 2 = _ := hd 2 rfl
      clear hd
      simp only [upd, h2, reduceIte, Nat.reduceEqDiff] at hK
      have c0 := hS.1.cell 0 rfl
      go_simp
      exact hK.out _ _ (Below.refl _ _) rfl
    refine FSteps.cons ?_ ?_
    · intro u W hS hd K hK
      clear hd
      simp only [upd, reduceIte, Nat.reduceEqDiff] at hK
      go_simp
      exact hK.out _ _ (Below.refl _ _) rfl
    refine FSteps.cons ?_ ?_
    · intro u W hS hd K hK
      have h4 : u 4 = _ := hd 4 rfl
      clear hd
      simp only [upd, h4, reduceIte, Nat.reduceEqDiff] at hK
      go_simp
      exact hK.out _ _ (Below.refl _ _) rfl
    refine FSteps.cons ?_ ?_
    · intro u W hS hd K hK
      have h5 : u 5 = _ := hd 5 rfl
      clear hd
      simp only [upd, h5, reduceIte, Nat.reduceEqDiff] at hK
      go_simp
      exact hK.out _ _ (Below.refl _ _) rfl
    refine FSteps.cons ?_ ?_
    · intro u W hS hd K hK
      have h6 : u 6 = _ := hd 6 rfl
      clear hd
      simp only [upd, h6, reduceIte, Nat.reduceEqDiff] at hK
      have c0 := hS.1.cell 2 rfl
      go_simp
      exact hK.out _ _ (Below.refl _ _) rfl
    refine FSteps.cons ?_ ?_
    · intro u W hS hd K hK
      clear hd
      simp only [upd, reduceIte, Nat.reduceEqDiff] at hK
      go_simp
      exact hK.out _ _ (Below.refl _ _) rfl
    refine FSteps.cons ?_ ?_
    · intro u W hS hd K hK
      have h8 : u 8 = _ := hd 8 rfl
      clear hd
      simp only [upd, h8, reduceIte, Nat.reduceEqDiff] at hK
      go_simp
      exact hK.out _ _ (Below.refl _ _) rfl
    refine FSteps.cons ?_ ?_
    · intro u W hS hd K hK
      have h9 : u 9 = _ := hd 9 rfl
      clear hd
      simp only [upd, h9, reduceIte, Nat.reduceEqDiff] at hK
      go_simp
      exact hK.out _ _ (Below.refl _ _) rfl
    refine FSteps.cons ?_ ?_
    · intro u W hS hd K hK
      have h10 : u 10 = _ := hd 10 rfl
      clear hd
      simp only [upd, h10, reduceIte, Nat.reduceEqDiff] at hK
      have c0 := hS.1.cell 0 rfl
      go_simp
      exact hK.out _ _ (Below.refl _ _) rfl
    refine FSteps.cons ?_ ?_
    · intro u W hS hd K hK
      have h7 : u 7 = _ := hd 7 rfl
      have h11 : u 11 = _ := hd 11 rfl
      clear hd
      simp only [upd, h7, h11, reduceIte, Nat.reduceEqDiff] at hK
      have y1 := HY.out.1
      have y2 := HY.out.2
      go_simp
      exact hK.out _ _ (Below.refl _ _) rfl
    refine FSteps.cons ?_ ?_
    · intro u W hS hd K hK
      clear hd
      simp only [upd, reduceIte, Nat.reduceEqDiff] at hK
      go_simp
      exact hK.out _ _ (Below.refl _ _) rfl
    refine FSteps.cons ?_ ?_
    · intro u W hS hd K hK
      have h3 : u 3 = _ := hd 3 rfl
      have h12 : u 12 = _ := hd 12 rfl
      have h13 : u 13 = _ := hd 13 rfl
      clear hd
      simp only [upd, h3, h12, h13, reduceIte, Nat.reduceEqDiff] at hK
      go_simp
      go_at_call 9
      refine (HFA.out _).mono ?_
      rintro e wc ⟨rfl, rfl⟩
      exact hK.out _ _ (Below.refl _ _) rfl
    refine FSteps.cons ?_ ?_
    · intro u W hS hd K hK
      have h14 : u 14 = _ := hd 14 rfl
      clear hd
      simp only [upd, h14, reduceIte, Nat.reduceEqDiff] at hK
      go_simp
      exact hK.out _ _ (Below.refl _ _) rfl
    exact trivial
  case hend1 =>
    intro u w2 hS hd2
    have h15 : u 15 = _ := hd2 15 rfl
    have HR := Lib.hid hS.1
    have HO2 := Lib.hid hS.2.1
    have HT := Lib.hid hS.2.2
    clear hS hd2 HR0 HO HT0 HFA HY
    rw [h15]
    have cd := HR.out.cell (3 + d) HCM.out
    have c1 := HR.out.cell 1 rfl
    rw [← HGT.out, hc] at cd
    clear c1 hc
    go_wp2_with fail
    exact bodyPost_ret (v := .tuple #[.slice (some ⟨w.heap.size, 0, none⟩) 0 0, .int .i64 8]) (by simp [results, Try.results27, go_sem]) rfl ⟨⟨_, rfl, HO2.out⟩, HR.out, HT.out⟩
set_option maxHeartbeats 1000000 in
theorem rtake11_far (p : Nat) (m k : Int) (s : Ti) (ns : Int) (w : World) (h : RowAt w p (tiV m k s)) (hok : TiOk m k s) (hin : inR m ns = true) (d : Nat) (hd : farN m (s.vr % m) ns = d) (hc : s.came.getD d false = false) (hk : k ≤ (d : Int)) : Calls Try.prog 27 #[.pointer (some ⟨p, 0, none⟩), .int .i64 ns] w (ITakeTo p m k w (takeT m k s ns)) := by
  have hE : takeT m k s ns = (s, [], 7) := by
    unfold takeT
    rw [hin, hd, Int.toNat_natCast, hc, if_neg (by simp), if_neg (by simp), if_pos hk]
  rw [hE]
  clear hE
  unfold ITakeTo
  have hmd := hok.md
  have hvb := hok.vb
  have hm0 : ¬ (m = 0) := by rcases hmd with e | e <;> omega
  have hn := inR_yes hin
  obtain ⟨y1, y2, y3, y4⟩ := rem_num m s.vr hmd hvb.1
  have hfar : farD m (s.vr % m) ns = (d : Int) := by
    unfold farD
    rw [if_pos (by rw [hin, show modR m = true by rcases hmd with e | e <;> subst e <;> rfl, show inR m (s.vr % m) = true by unfold inR; rw [decide_eq_true y3, decide_eq_true y4]; rfl]; rfl), hd]
  have HFA := Lib.hid (fun W => rfar_any m (s.vr % m) ns W)
  rw [hfar] at HFA
  have hd128 : d < 128 := by
    have := far_most m (s.vr % m) ns ⟨y3, y4⟩ hn
    rw [hd] at this
    rcases hmd with e | e <;> omega
  have HY := Lib.hid (And.intro y1 y2)
  have HO := Lib.hid (OwnL.lit encI 3 w w.heap.size [] [] rfl (Nat.le_refl _) (by simp) 0 rfl)
  have HR0 := Lib.hid (h.alloc (.cells #[] 3))
  have HT0 := Lib.hid ((Turn.refl (fun x => x = p) w).alloc (.cells #[] 3))
  have d0 : decide (ns < 0) = false := decide_eq_false (by omega)
  have d1 : decide (m ≤ ns) = false := decide_eq_false (by omega)
  have hpw : p < w.heap.size := (h.get 0 rfl).lt
  have HLN := Lib.hid hok.len
  have hL : d < s.came.length := by rw [hok.len]; exact hd128
  have HCM := Lib.hid (came_at m k s d hL)
  have HGT := Lib.hid (show s.came.getD d false = s.came[d] from by rw [List.getD_eq_getElem?_getD, List.getElem?_eq_getElem hL]; rfl)
  have dk : decide (k ≤ (d : Int)) = true := decide_eq_true hk
  clear hk
  generalize s.vr % m = q at *
  clear h hfar y1 y2 y3 y4 hn
  go_enter Try.func27, Try.ntmps27
  go_upto_region 2 with (fail)
  have c0 := HR0.out.cell 0 rfl
  generalize w.alloc (.cells #[] 3) = w1 at *
  go_upto_region 4 with (fail)
  clear c0 d0 d1
  refine wp_region_facts (fun W W' => Below W.heap.size W W') (fun W => RowAt W p (tiV m k s) ∧ OwnL encI 3 W w.heap.size (.slice (some ⟨w.heap.size, 0, none⟩) 0 0) [] ∧ Turn (fun x => x = p) w W) (factsOf [.is (.pointer (some ⟨p, 0, none⟩)), .is (.pointer (some ⟨p, 0, none⟩)), .is (.pointer (some ⟨p, 0, none⟩)), .is (.int .i64 m), .is (.pointer (some ⟨p, 0, none⟩)), .is (.pointer (some ⟨p, 0, none⟩)), .is (.pointer (some ⟨p, 2, none⟩)), .is (.int .i64 s.vr), .is (.pointer (some ⟨p, 0, none⟩)), .is (.pointer (some ⟨p, 0, none⟩)), .is (.pointer (some ⟨p, 0, none⟩)), .is (.int .i64 m), .is (.int .i64 q), .is (.int .i64 ns), .is (.int .i64 d), .is (.int .i64 d)]) (by kernel_rfl) (by kernel_rfl) (facts_stay _)
    (fun W W' hb hS => ⟨hS.1.below hb, hS.2.1.below hb, hS.2.2.then_ hb⟩) (fun _ => undef) (by kernel_rfl) ⟨HR0.out.drew, HO.out.drew, HT0.out.drew⟩ ?F1 ?hF1 ?hstep1 ?hend1
  case hF1 =>
    intro u
    simp only [fillAct]
    go_simp
    rfl
  case hstep1 =>
    clear HR0 HO HT0
    refine FSteps.cons ?_ ?_
    · intro u W hS hd K hK
      clear hd
      simp only [upd, reduceIte, Nat.reduceEqDiff] at hK
      go_simp
      exact hK.out _ _ (Below.refl _ _) rfl
    refine FSteps.cons ?_ ?_
    · intro u W hS hd K hK
      have h0 : u 0 = _ := hd 0 rfl
      clear hd
      simp only [upd, h0, reduceIte, Nat.reduceEqDiff] at hK
      go_simp
      exact hK.out _ _ (Below.refl _ _) rfl
    refine FSteps.cons ?_ ?_
    · intro u W hS hd K hK
      have h1 : u 1 = _ := hd 1 rfl
      clear hd
      simp only [upd, h1, reduceIte, Nat.reduceEqDiff] at hK
      go_simp
      exact hK.out _ _ (Below.refl _ _) rfl
    refine FSteps.cons ?_ ?_
    · intro u W hS hd K hK
      have h2 : u 2 = _ := hd 2 rfl
      clear hd
      simp only [upd, h2, reduceIte, Nat.reduceEqDiff] at hK
      have c0 := hS.1.cell 0 rfl
      go_simp
      exact hK.out _ _ (Below.refl _ _) rfl
    refine FSteps.cons ?_ ?_
    · intro u W hS hd K hK
      clear hd
      simp only [upd, reduceIte, Nat.reduceEqDiff] at hK
      go_simp
      exact hK.out _ _ (Below.refl _ _) rfl
    refine FSteps.cons ?_ ?_
    · intro u W hS hd K hK
      have h4 : u 4 = _ := hd 4 rfl
      clear hd
      simp only [upd, h4, reduceIte, Nat.reduceEqDiff] at hK
      go_simp
      exact hK.out _ _ (Below.refl _ _) rfl
    refine FSteps.cons ?_ ?_
    · intro u W hS hd K hK
      have h5 : u 5 = _ := hd 5 rfl
      clear hd
      simp only [upd, h5, reduceIte, Nat.reduceEqDiff] at hK
      go_simp
      exact hK.out _ _ (Below.refl _ _) rfl
    refine FSteps.cons ?_ ?_
    · intro u W hS hd K hK
      have h6 : u 6 = _ := hd 6 rfl
      clear hd
      simp only [upd, h6, reduceIte, Nat.reduceEqDiff] at hK
      have c0 := hS.1.cell 2 rfl
      go_simp
      exact hK.out _ _ (Below.refl _ _) rfl
    refine FSteps.cons ?_ ?_
    · intro u W hS hd K hK
      clear hd
      simp only [upd, reduceIte, Nat.reduceEqDiff] at hK
      go_simp
      exact hK.out _ _ (Below.refl _ _) rfl
    refine FSteps.cons ?_ ?_
    · intro u W hS hd K hK
      have h8 : u 8 = _ := hd 8 rfl
      clear hd
      simp only [upd, h8, reduceIte, Nat.reduceEqDiff] at hK
      go_simp
      exact hK.out _ _ (Below.refl _ _) rfl
    refine FSteps.cons ?_ ?_
    · intro u W hS hd K hK
      have h9 : u 9 = _ := hd 9 rfl
      clear hd
      simp only [upd, h9, reduceIte, Nat.reduceEqDiff] at hK
      go_simp
      exact hK.out _ _ (Below.refl _ _) rfl
    refine FSteps.cons ?_ ?_
    · intro u W hS hd K hK
      have h10 : u 10 = _ := hd 10 rfl
      clear hd
      simp only [upd, h10, reduceIte, Nat.reduceEqDiff] at hK
      have c0 := hS.1.cell 0 rfl
      go_simp
      exact hK.out _ _ (Below.refl _ _) rfl
    refine FSteps.cons ?_ ?_
    · intro u W hS hd K hK
      have h7 : u 7 = _ := hd 7 rfl
      have h11 : u 11 = _ := hd 11 rfl
      clear hd
      simp only [upd, h7, h11, reduceIte, Nat.reduceEqDiff] at hK
      have y1 := HY.out.1
      have y2 := HY.out.2
      go_simp
      exact hK.out _ _ (Below.refl _ _) rfl
    refine FSteps.cons ?_ ?_
    · intro u W hS hd K hK
      clear hd
      simp only [upd, reduceIte, Nat.reduceEqDiff] at hK
      go_simp
      exact hK.out _ _ (Below.refl _ _) rfl
    refine FSteps.cons ?_ ?_
    · intro u W hS hd K hK
      have h3 : u 3 = _ := hd 3 rfl
      have h12 : u 12 = _ := hd 12 rfl
      have h13 : u 13 = _ := hd 13 rfl
      clear hd
      simp only [upd, h3, h12, h13, reduceIte, Nat.reduceEqDiff] at hK
      go_simp
      go_at_call 9
      refine (HFA.out _).mono ?_
      rintro e wc ⟨rfl, rfl⟩
      exact hK.out _ _ (Below.refl _ _) rfl
    refine FSteps.cons ?_ ?_
    · intro u W hS hd K hK
      have h14 : u 14 = _ := hd 14 rfl
      clear hd
      simp only [upd, h14, reduceIte, Nat.reduceEqDiff] at hK
      go_simp
      exact hK.out _ _ (Below.refl _ _) rfl
    exact trivial
  case hend1 =>
    intro u w2 hS hd2
    have h15 : u 15 = _ := hd2 15 rfl
    have HR := Lib.hid hS.1
    have HO2 := Lib.hid hS.2.1
    have HT := Lib.hid hS.2.2
    clear hS hd2 HR0 HO HT0 HFA HY
    rw [h15]
    have cd := HR.out.cell (3 + d) HCM.out
    have c1 := HR.out.cell 1 rfl
    rw [← HGT.out, hc] at cd
    clear hc
    go_wp2_with fail
    exact bodyPost_ret (v := .tuple #[.slice (some ⟨w.heap.size, 0, none⟩) 0 0, .int .i64 7]) (by simp [results, Try.results27, go_sem]) rfl ⟨⟨_, rfl, HO2.out⟩, HR.out, HT.out⟩
theorem RowAt.grown' {w w' : World} {m : Nat} {L : List Value} {row : Option Nat} (h : RowAt w m L) (hg : w.grownBy w' row) (hr : row ≠ some m) : RowAt w' m L := fun i v e => (h i v e).block (hg.block m (h i v e).lt (fun e => hr e.symm)) hg.size
theorem Turn.grown {F : Nat → Prop} {a w w' : World} {row : Option Nat} (h : Turn F a w) (hg : w.grownBy w' row) (hr : ∀ k, row = some k → a.heap.size ≤ k) : Turn F a w' :=
  ⟨hg.os.trans h.os, hg.tape.trans h.tape, hg.output.trans h.output, Nat.le_trans h.size hg.size, fun k hk hF => (hg.block k (Nat.lt_of_lt_of_le hk h.size) (fun e => by have := hr k e.symm; omega)).trans (h.block k hk hF)⟩
set_option maxHeartbeats 2000000 in
theorem rtake11_in (p : Nat) (m k : Int) (s : Ti) (ns : Int) (w : World) (h : RowAt w p (tiV m k s)) (hok : TiOk m k s) (hin : inR m ns = true) (d : Nat) (hd : farN m (s.vr % m) ns = d) (hc : s.came.getD d false = false) (hk : (d : Int) < k) : Calls Try.prog 27 #[.pointer (some ⟨p, 0, none⟩), .int .i64 ns] w (ITakeTo p m k w (takeT m k s ns)) := by
  have hE := takeT_in m k s ns d hin hd hc hk
  have hd64 : d < 127 := by
    have := hok.kb
    rcases hok.md with e | e <;> omega
  have hc127 : (s.came.set d true).getD 127 false = false := by
    have := hok.high 127 (by have := hok.kb; rcases hok.md with e | e <;> omega)
    rw [List.getD_eq_getElem?_getD] at this ⊢
    rw [List.getElem?_set_ne (by omega)]
    exact this
  obtain ⟨C, hC⟩ : ∃ C, s.came.set d true = C := ⟨_, rfl⟩
  rw [hC] at hE hc127
  have hCl : C.length = 128 := by rw [← hC, List.length_set]; exact hok.len
  rw [hE]
  have HC := Lib.hid hC
  have HCL := Lib.hid hCl
  have HC7 := Lib.hid hc127
  obtain ⟨r, hr⟩ : ∃ r, runT C = r := ⟨_, rfl⟩
  have hr127 : r ≤ 127 := by rw [← hr]; exact runT_most hCl hc127
  have HRL := Lib.hid (show ∀ t, t < r → C.getD t false = true from fun t ht => runT_lt C t (by omega))
  have HRE := Lib.hid (show C.getD r false = false from hr ▸ runT_end C)
  rw [hr]
  have HNU := Lib.hid (fun n h0 => rem_num m n hok.md h0)
  have hvb2 : s.vr ≤ 100000 := hok.vb.2
  clear hE hC hCl hc127 hr
  unfold ITakeTo
  have hmd := hok.md
  have hvb := hok.vb
  have hm0 : ¬ (m = 0) := by rcases hmd with e | e <;> omega
  have hn := inR_yes hin
  obtain ⟨y1, y2, y3, y4⟩ := rem_num m s.vr hmd hvb.1
  have hfar : farD m (s.vr % m) ns = (d : Int) := by
    unfold farD
    rw [if_pos (by rw [hin, show modR m = true by rcases hmd with e | e <;> subst e <;> rfl, show inR m (s.vr % m) = true by unfold inR; rw [decide_eq_true y3, decide_eq_true y4]; rfl]; rfl), hd]
  have HFA := Lib.hid (fun W => rfar_any m (s.vr % m) ns W)
  rw [hfar] at HFA
  have hd128 : d < 128 := by
    have := far_most m (s.vr % m) ns ⟨y3, y4⟩ hn
    rw [hd] at this
    rcases hmd with e | e <;> omega
  have HY := Lib.hid (And.intro y1 y2)
  have HO := Lib.hid (OwnL.lit encI 3 w w.heap.size [] [] rfl (Nat.le_refl _) (by simp) 0 rfl)
  have HR0 := Lib.hid (h.alloc (.cells #[] 3))
  have HT0 := Lib.hid ((Turn.refl (fun x => x = p) w).alloc (.cells #[] 3))
  have d0 : decide (ns < 0) = false := decide_eq_false (by omega)
  have d1 : decide (m ≤ ns) = false := decide_eq_false (by omega)
  have hpw : p < w.heap.size := (h.get 0 rfl).lt
  have HLN := Lib.hid hok.len
  have hL : d < s.came.length := by rw [hok.len]; exact hd128
  have HCM := Lib.hid (came_at m k s d hL)
  have HGT := Lib.hid (show s.came.getD d false = s.came[d] from by rw [List.getD_eq_getElem?_getD, List.getElem?_eq_getElem hL]; rfl)
  have dk : decide (k ≤ (d : Int)) = false := decide_eq_false (by omega)
  clear hk
  generalize s.vr % m = q at *
  clear h hfar y1 y2 y3 y4 hn
  go_enter Try.func27, Try.ntmps27
  go_upto_region 2 with (fail)
  have c0 := HR0.out.cell 0 rfl
  generalize w.alloc (.cells #[] 3) = w1 at *
  go_upto_region 4 with (fail)
  clear c0 d0 d1
  refine wp_region_facts (fun W W' => Below W.heap.size W W') (fun W => RowAt W p (tiV m k s) ∧ OwnL encI 3 W w.heap.size (.slice (some ⟨w.heap.size, 0, none⟩) 0 0) [] ∧ Turn (fun x => x = p) w W) (factsOf [.is (.pointer (some ⟨p, 0, none⟩)), .is (.pointer (some ⟨p, 0, none⟩)), .is (.pointer (some ⟨p, 0, none⟩)), .is (.int .i64 m), .is (.pointer (some ⟨p, 0, none⟩)), .is (.pointer (some ⟨p, 0, none⟩)), .is (.pointer (some ⟨p, 2, none⟩)), .is (.int .i64 s.vr), .is (.pointer (some ⟨p, 0, none⟩)), .is (.pointer (some ⟨p, 0, none⟩)), .is (.pointer (some ⟨p, 0, none⟩)), .is (.int .i64 m), .is (.int .i64 q), .is (.int .i64 ns), .is (.int .i64 d), .is (.int .i64 d)]) (by kernel_rfl) (by kernel_rfl) (facts_stay _)
    (fun W W' hb hS => ⟨hS.1.below hb, hS.2.1.below hb, hS.2.2.then_ hb⟩) (fun _ => undef) (by kernel_rfl) ⟨HR0.out.drew, HO.out.drew, HT0.out.drew⟩ ?F1 ?hF1 ?hstep1 ?hend1
  case hF1 =>
    intro u
    simp only [fillAct]
    go_simp
    rfl
  case hstep1 =>
    clear HR0 HO HT0
    refine FSteps.cons ?_ ?_
    · intro u W hS hd K hK
      clear hd
      simp only [upd, reduceIte, Nat.reduceEqDiff] at hK
      go_simp
      exact hK.out _ _ (Below.refl _ _) rfl
    refine FSteps.cons ?_ ?_
    · intro u W hS hd K hK
      have h0 : u 0 = _ := hd 0 rfl
      clear hd
      simp only [upd, h0, reduceIte, Nat.reduceEqDiff] at hK
      go_simp
      exact hK.out _ _ (Below.refl _ _) rfl
    refine FSteps.cons ?_ ?_
    · intro u W hS hd K hK
      have h1 : u 1 = _ := hd 1 rfl
      clear hd
      simp only [upd, h1, reduceIte, Nat.reduceEqDiff] at hK
      go_simp
      exact hK.out _ _ (Below.refl _ _) rfl
    refine FSteps.cons ?_ ?_
    · intro u W hS hd K hK
      have h2 : u 2 = _ := hd 2 rfl
      clear hd
      simp only [upd, h2, reduceIte, Nat.reduceEqDiff] at hK
      have c0 := hS.1.cell 0 rfl
      go_simp
      exact hK.out _ _ (Below.refl _ _) rfl
    refine FSteps.cons ?_ ?_
    · intro u W hS hd K hK
      clear hd
      simp only [upd, reduceIte, Nat.reduceEqDiff] at hK
      go_simp
      exact hK.out _ _ (Below.refl _ _) rfl
    refine FSteps.cons ?_ ?_
    · intro u W hS hd K hK
      have h4 : u 4 = _ := hd 4 rfl
      clear hd
      simp only [upd, h4, reduceIte, Nat.reduceEqDiff] at hK
      go_simp
      exact hK.out _ _ (Below.refl _ _) rfl
    refine FSteps.cons ?_ ?_
    · intro u W hS hd K hK
      have h5 : u 5 = _ := hd 5 rfl
      clear hd
      simp only [upd, h5, reduceIte, Nat.reduceEqDiff] at hK
      go_simp
      exact hK.out _ _ (Below.refl _ _) rfl
    refine FSteps.cons ?_ ?_
    · intro u W hS hd K hK
      have h6 : u 6 = _ := hd 6 rfl
      clear hd
      simp only [upd, h6, reduceIte, Nat.reduceEqDiff] at hK
      have c0 := hS.1.cell 2 rfl
      go_simp
      exact hK.out _ _ (Below.refl _ _) rfl
    refine FSteps.cons ?_ ?_
    · intro u W hS hd K hK
      clear hd
      simp only [upd, reduceIte, Nat.reduceEqDiff] at hK
      go_simp
      exact hK.out _ _ (Below.refl _ _) rfl
    refine FSteps.cons ?_ ?_
    · intro u W hS hd K hK
      have h8 : u 8 = _ := hd 8 rfl
      clear hd
      simp only [upd, h8, reduceIte, Nat.reduceEqDiff] at hK
      go_simp
      exact hK.out _ _ (Below.refl _ _) rfl
    refine FSteps.cons ?_ ?_
    · intro u W hS hd K hK
      have h9 : u 9 = _ := hd 9 rfl
      clear hd
      simp only [upd, h9, reduceIte, Nat.reduceEqDiff] at hK
      go_simp
      exact hK.out _ _ (Below.refl _ _) rfl
    refine FSteps.cons ?_ ?_
    · intro u W hS hd K hK
      have h10 : u 10 = _ := hd 10 rfl
      clear hd
      simp only [upd, h10, reduceIte, Nat.reduceEqDiff] at hK
      have c0 := hS.1.cell 0 rfl
      go_simp
      exact hK.out _ _ (Below.refl _ _) rfl
    refine FSteps.cons ?_ ?_
    · intro u W hS hd K hK
      have h7 : u 7 = _ := hd 7 rfl
      have h11 : u 11 = _ := hd 11 rfl
      clear hd
      simp only [upd, h7, h11, reduceIte, Nat.reduceEqDiff] at hK
      have y1 := HY.out.1
      have y2 := HY.out.2
      go_simp
      exact hK.out _ _ (Below.refl _ _) rfl
    refine FSteps.cons ?_ ?_
    · intro u W hS hd K hK
      clear hd
      simp only [upd, reduceIte, Nat.reduceEqDiff] at hK
      go_simp
      exact hK.out _ _ (Below.refl _ _) rfl
    refine FSteps.cons ?_ ?_
    · intro u W hS hd K hK
      have h3 : u 3 = _ := hd 3 rfl
      have h12 : u 12 = _ := hd 12 rfl
      have h13 : u 13 = _ := hd 13 rfl
      clear hd
      simp only [upd, h3, h12, h13, reduceIte, Nat.reduceEqDiff] at hK
      go_simp
      go_at_call 9
      refine (HFA.out _).mono ?_
      rintro e wc ⟨rfl, rfl⟩
      exact hK.out _ _ (Below.refl _ _) rfl
    refine FSteps.cons ?_ ?_
    · intro u W hS hd K hK
      have h14 : u 14 = _ := hd 14 rfl
      clear hd
      simp only [upd, h14, reduceIte, Nat.reduceEqDiff] at hK
      go_simp
      exact hK.out _ _ (Below.refl _ _) rfl
    exact trivial
  case hend1 =>
    intro u w2 hS hd2
    have h15 : u 15 = _ := hd2 15 rfl
    have HR := Lib.hid hS.1
    have HO2 := Lib.hid hS.2.1
    have HT := Lib.hid hS.2.2
    clear hS hd2 HR0 HO HT0 HFA HY
    rw [h15]
    have cd := HR.out.cell (3 + d) HCM.out
    have c1 := HR.out.cell 1 rfl
    rw [← HGT.out, hc] at cd
    have fd := (HR.out.get (3 + d) HCM.out).free
    clear hc
    go_upto_region 10 with (fail)
    clear cd c1 fd dk
    have HR3 := Lib.hid (show RowAt (w2.setCell ⟨p, 3 + d, none⟩ (.bool true)) p (tiV m k ⟨s.vr + (0 : Nat), atT C 0⟩) from by
      have := HR.out.put (3 + d) (.bool true) (tiV m k ⟨s.vr + (0 : Nat), atT C 0⟩) (by rw [came_put, HC.out, atT_zero]; simp)
      exact this)
    have HT3 := Lib.hid (HT.out.set (p := ⟨p, 3 + d, none⟩) (Or.inl rfl) (.bool true))
    have HO3 := Lib.hid (show OwnL encI 3 (w2.setCell ⟨p, 3 + d, none⟩ (.bool true)) w.heap.size (.slice (some ⟨w.heap.size, 0, none⟩) 0 0) (outT m s.vr 0) from HO2.out.same fun b hb => Below.heap_setCell _ _ _ _ (fun e => by
      have e2 : b = p := e
      have := (HO2.out.ge hb).1
      omega))
    clear HR HT HO2 HCM HGT HLN
    generalize (w2.setCell ⟨p, 3 + d, none⟩ (.bool true)) = w3 at *
    go_loopw [6, 8] (fun o iv wx => ∃ (t : Nat) (tv : Value), t ≤ r ∧ tv = o ∧ Hid (OwnL encI 3 wx w.heap.size tv (outT m s.vr t) ∧ RowAt wx p (tiV m k ⟨s.vr + (t : Nat), atT C t⟩) ∧ Turn (fun x => x = p) w wx)) (fun o _ _ => r - sliceLen o)
    case atStart => exact ⟨0, _, Nat.zero_le _, rfl, Lib.hid ⟨HO3.out, HR3.out, HT3.out⟩⟩
    case round =>
      obtain ⟨t, tv, ht, rfl, HK⟩ := hrel
      clear HR3 HT3 HO3
      have HS5 := Lib.hid (show sliceLen tv = t from by rw [HK.out.1.sliceLen, outT_len])
      have HAL := Lib.hid (show (atT C t).length = 128 from by rw [atT_len _ _ (by rw [HCL.out]; omega), HCL.out])
      have c0 := HK.out.2.1.cell 3 (show (tiV m k ⟨s.vr + (t : Nat), atT C t⟩)[3]? = some (.bool (C.getD t false)) from by
        have h1 := came_at m k ⟨s.vr + (t : Nat), atT C t⟩ 0 (by show 0 < (atT C t).length; rw [HAL.out]; omega)
        have h2 := atT_head C t
        rw [List.getD_eq_getElem?_getD, List.getElem?_eq_getElem (by rw [HAL.out]; omega)] at h2
        rw [← h2]
        exact h1)
      by_cases hlt : t < r
      · rw [HRL.out t hlt] at c0
        obtain ⟨n, hn⟩ : ∃ n : Int, n = s.vr + (t : Nat) := ⟨_, rfl⟩
        have hn0 : 0 ≤ n ∧ n ≤ 200000 := by omega
        obtain ⟨x1, x2, x3, x4⟩ := HNU.out n hn0.1
        have HY := Lib.hid (And.intro x1 x2)
        have HNX := Lib.hid (outT_next m s.vr t)
        have HLN := Lib.hid (show (outT m s.vr t).length ≤ 100000 from by rw [outT_len]; omega)
        have HN1 := Lib.hid (show s.vr + ((t + 1 : Nat) : Int) = n + 1 from by omega)
        have HAN := Lib.hid (atT_next C t HCL.out HC7.out (by omega))
        have HK2 := Lib.hid HK.out
        rw [← hn] at HNX HK2
        clear HK hn x1 x2 x3 x4
        generalize n % m = q2 at *
        generalize outT m s.vr t = Lj at *
        generalize atT C t = Ct at *
        go_upto_region 11 with (fail)
        clear c0
        refine wp_region_upto 11 1 (fun W W' => Below W.heap.size W W') (fun W => RowAt W p (tiV m k ⟨n, Ct⟩) ∧ OwnL encI 3 W w.heap.size tv Lj ∧ Turn (fun x => x = p) w W)
          (fun j' v W => factsOf [.is tv, .is (.pointer (some ⟨p, 0, none⟩)), .is (.pointer (some ⟨p, 0, none⟩)), .is (.pointer (some ⟨p, 2, none⟩)), .is (.int .i64 n), .is (.pointer (some ⟨p, 0, none⟩)), .is (.pointer (some ⟨p, 0, none⟩)), .is (.pointer (some ⟨p, 0, none⟩)), .is (.int .i64 m), .is (.int .i64 q2), .any] j' v W ∧ (j' = 10 → ∃ b, v = .slice (some ⟨b, 0, none⟩) 1 1 ∧ AtL encI W (some ⟨b, 0, none⟩) [q2]))
          (by kernel_rfl) rfl (by kernel_rfl) (by kernel_rfl) (fun j' v W W' hb h => ⟨facts_stay _ j' v W W' hb h.1, fun e => by obtain ⟨b, hv, hB⟩ := h.2 e; exact ⟨b, hv, hB.below hb⟩⟩)
          (fun W W' hb h => ⟨h.1.below hb, h.2.1.below hb, h.2.2.then_ hb⟩) (fun i => [u60, u61, u62, u63, u64, u65, u66, u67, u68, u69, u70].getD i undef) (by kernel_rfl) ⟨HK2.out.2.1.drew, HK2.out.1.drew, HK2.out.2.2.drew⟩ ?F7 ?hF7 ?hstep7 ?hend7
        case hF7 =>
          intro u
          simp only [List.take, fillAct]
          go_simp
          rfl
        case hstep7 =>
          clear HK2
          refine FSteps.cons ?_ ?_
          · intro u W hS hd K hK
            clear hd
            simp only [upd, reduceIte, Nat.reduceEqDiff] at hK
            go_simp
            exact hK.out _ _ (Below.refl _ _) ⟨rfl, (fun e => absurd e (by decide))⟩
          refine FSteps.cons ?_ ?_
          · intro u W hS hd K hK
            clear hd
            simp only [upd, reduceIte, Nat.reduceEqDiff] at hK
            go_simp
            exact hK.out _ _ (Below.refl _ _) ⟨rfl, (fun e => absurd e (by decide))⟩
          refine FSteps.cons ?_ ?_
          · intro u W hS hd K hK
            have h1 : u 1 = _ := (hd 1 rfl).1
            clear hd
            simp only [upd, h1, reduceIte, Nat.reduceEqDiff] at hK
            go_simp
            exact hK.out _ _ (Below.refl _ _) ⟨rfl, (fun e => absurd e (by decide))⟩
          refine FSteps.cons ?_ ?_
          · intro u W hS hd K hK
            have h2 : u 2 = _ := (hd 2 rfl).1
            clear hd
            simp only [upd, h2, reduceIte, Nat.reduceEqDiff] at hK
            go_simp
            exact hK.out _ _ (Below.refl _ _) ⟨rfl, (fun e => absurd e (by decide))⟩
          refine FSteps.cons ?_ ?_
          · intro u W hS hd K hK
            have h3 : u 3 = _ := (hd 3 rfl).1
            clear hd
            simp only [upd, h3, reduceIte, Nat.reduceEqDiff] at hK
            have c0 := hS.1.cell 2 rfl
            go_simp
            exact hK.out _ _ (Below.refl _ _) ⟨rfl, (fun e => absurd e (by decide))⟩
          refine FSteps.cons ?_ ?_
          · intro u W hS hd K hK
            clear hd
            simp only [upd, reduceIte, Nat.reduceEqDiff] at hK
            go_simp
            exact hK.out _ _ (Below.refl _ _) ⟨rfl, (fun e => absurd e (by decide))⟩
          refine FSteps.cons ?_ ?_
          · intro u W hS hd K hK
            have h5 : u 5 = _ := (hd 5 rfl).1
            clear hd
            simp only [upd, h5, reduceIte, Nat.reduceEqDiff] at hK
            go_simp
            exact hK.out _ _ (Below.refl _ _) ⟨rfl, (fun e => absurd e (by decide))⟩
          refine FSteps.cons ?_ ?_
          · intro u W hS hd K hK
            have h6 : u 6 = _ := (hd 6 rfl).1
            clear hd
            simp only [upd, h6, reduceIte, Nat.reduceEqDiff] at hK
            go_simp
            exact hK.out _ _ (Below.refl _ _) ⟨rfl, (fun e => absurd e (by decide))⟩
          refine FSteps.cons ?_ ?_
          · intro u W hS hd K hK
            have h7 : u 7 = _ := (hd 7 rfl).1
            clear hd
            simp only [upd, h7, reduceIte, Nat.reduceEqDiff] at hK
            have c0 := hS.1.cell 0 rfl
            go_simp
            exact hK.out _ _ (Below.refl _ _) ⟨rfl, (fun e => absurd e (by decide))⟩
          refine FSteps.cons ?_ ?_
          · intro u W hS hd K hK
            have h4 : u 4 = _ := (hd 4 rfl).1
            have h8 : u 8 = _ := (hd 8 rfl).1
            clear hd
            simp only [upd, h4, h8, reduceIte, Nat.reduceEqDiff] at hK
            have y2 := HY.out.1
            have y3 := HY.out.2
            go_simp
            exact hK.out _ _ (Below.refl _ _) ⟨rfl, (fun e => absurd e (by decide))⟩
          refine FSteps.cons ?_ ?_
          · intro u W hS hd K hK
            have h9 : u 9 = _ := (hd 9 rfl).1
            clear hd
            simp only [upd, h9, reduceIte, Nat.reduceEqDiff] at hK
            go_simp
            exact hK.out _ _ ((Below.refl _ _).alloc (Nat.le_refl _) _) ⟨trivial, fun _ => ⟨_, rfl, AtL.made encI 3 _ _ q2 _ rfl rfl⟩⟩
          exact trivial
        case hend7 =>
          intro u w6 hS hd
          have h0 : u 0 = _ := (hd 0 rfl).1
          obtain ⟨b7, h7, B7⟩ := (hd 10 rfl).2 rfl
          clear hd HK2
          refine wpAny_ready (rs := [11]) (by kernel_rfl) (by simp) ?_
          refine AllReady.cons rfl (fun K hK => ?_) AllReady.nil
          rw [if_pos (by kernel_rfl)]
          obtain ⟨v', w7, hr, hown, hgr, hov⟩ := run_append_one encI 3 26 26 Try.underlying26 infoI rfl (by decide) w6 w.heap.size tv Lj hS.2.1 b7 1 q2 B7 HLN.out (Nat.le_trans hS.2.2.size (Nat.le_refl _))
          simp only [h0, h7]
          refine wp_append_run (.tmp 60) (.tmp 70) rfl rfl rfl hr ?_
          have HR8 := Lib.hid (show RowAt w7 p (tiV m k ⟨n, Ct⟩) from hS.1.grown' hgr (fun e => by have := (hS.2.1.ge e).1; omega))
          have HT8 := Lib.hid (show Turn (fun x => x = p) w w7 from hS.2.2.grown hgr (fun k e => (hS.2.1.ge e).1))
          have HO8 := Lib.hid (show OwnL encI 3 w7 w.heap.size v' (outT m s.vr (t + 1)) from by rw [HNX.out]; exact hown)
          clear hS hr hown hgr hov B7
          refine hK _ _ ?_
          clear hK K
          refine wpAny_ready (rs := [12]) (by kernel_rfl) (by simp) ?_
          refine AllReady.cons rfl (fun K hK => ?_) AllReady.nil
          go_simp
          refine hK _ _ ?_
          clear hK K
          refine wpAny_done (by kernel_rfl) ?_ _
          have c2 := HR8.out.cell 2 rfl
          have f2 := (HR8.out.get 2 rfl).free
          have z1 : IntKind.i64.wrap (n + 1) = n + 1 := i64_small' _ (by omega) (by omega)
          go_upto_region 13 with (fail)
          clear c2 f2
          have HR9 := Lib.hid (show RowAt (w7.setCell ⟨p, 2, none⟩ (.int .i64 (n + 1))) p (tiV m k ⟨n + 1, midT Ct 0⟩) from by rw [midT_zero]; exact HR8.out.put 2 (.int .i64 (n + 1)) _ rfl)
          have HT9 := Lib.hid (HT8.out.set (p := ⟨p, 2, none⟩) (Or.inl rfl) (.int .i64 (n + 1)))
          have HO9 := Lib.hid (show OwnL encI 3 (w7.setCell ⟨p, 2, none⟩ (.int .i64 (n + 1))) w.heap.size v' (outT m s.vr (t + 1)) from HO8.out.same fun b hb => Below.heap_setCell _ _ _ _ (fun e => by
            have e2 : b = p := e
            have := (HO8.out.ge hb).1
            omega))
          clear HR8 HT8 HO8 z1
          generalize (w7.setCell ⟨p, 2, none⟩ (.int .i64 (n + 1))) = w8 at *
          go_wp2_with fail
          clear HY HNX HLN h0 h7
          have hn2 : 0 ≤ n := hn0.1
          go_loopw [8] (fun iv wx => ∃ i : Nat, i ≤ 127 ∧ iv = .int .i64 i ∧ Hid (RowAt wx p (tiV m k ⟨n + 1, midT Ct i⟩) ∧ Turn (fun x => x = p) w wx ∧ OwnL encI 3 wx w.heap.size v' (outT m s.vr (t + 1)))) (fun iv _ => 127 - (intOf iv).toNat)
          case atStart => exact ⟨0, Nat.zero_le _, rfl, Lib.hid ⟨HR9.out, HT9.out, HO9.out⟩⟩
          case round =>
            obtain ⟨i, hi, rfl, HK⟩ := hrel
            clear HR9 HT9 HO9
            by_cases hil : i < 127
            · have HMG := Lib.hid (midT_get Ct i HAL.out hil)
              have HMN := Lib.hid (midT_next Ct i HAL.out hil)
              have HML := Lib.hid (midT_len Ct i HAL.out hi)
              generalize Ct.getD (i + 1) false = bi at *
              go_upto_region 16 with (fail)
              have HG1 := Lib.hid (show (tiV m k ⟨n + 1, midT Ct i⟩)[3 + (i + 1)]? = some (.bool bi) from by
                have h1 := came_at m k ⟨n + 1, midT Ct i⟩ (i + 1) (by show i + 1 < (midT Ct i).length; rw [HML.out]; omega)
                have h2 := HMG.out
                rw [List.getElem?_eq_getElem (by rw [HML.out]; omega)] at h2
                have h3 := Option.some.inj h2
                rw [h1]
                exact congrArg (fun b => some (Value.bool b)) h3)
              obtain ⟨b0, hb0⟩ : ∃ b0, (tiV m k ⟨n + 1, midT Ct i⟩)[3 + i]? = some (.bool b0) := ⟨_, came_at m k ⟨n + 1, midT Ct i⟩ i (by show i < (midT Ct i).length; rw [HML.out]; omega)⟩
              have HG0 := Lib.hid hb0
              clear hb0
              have HPU := Lib.hid (show tiV m k ⟨n + 1, midT Ct (i + 1)⟩ = (tiV m k ⟨n + 1, midT Ct i⟩).set (3 + i) (.bool bi) from by rw [came_put, ← HMN.out])
              obtain ⟨j, hj⟩ : ∃ j : Nat, j = i + 1 := ⟨_, rfl⟩
              rw [← hj] at HG1 HPU
              have hj128 : (j : Int) < 128 := by omega
              have HZ := Lib.hid (show IntKind.i64.wrap ((i : Int) + 1) = (j : Int) from by rw [i64_small' _ (by omega) (by omega)]; omega)
              have hi128 : (i : Int) < 128 := by omega
              have HJ := Lib.hid hj
              clear hj
              clear HMG HMN HML
              refine wp_region_upto 12 0 (fun W W' => Below W.heap.size W W') (fun W => RowAt W p (tiV m k ⟨n + 1, midT Ct i⟩) ∧ Turn (fun x => x = p) w W ∧ OwnL encI 3 W w.heap.size v' (outT m s.vr (t + 1)))
                (factsOf [.is (.pointer (some ⟨p, 0, none⟩)), .is (.int .i64 i), .is (.pointer (some ⟨p, 0, none⟩)), .is (.int .i64 i), .is (.int .i64 (j : Nat)), .is (.pointer (some ⟨p, 0, none⟩)), .is (.pointer (some ⟨p, 3, none⟩)), .is (.pointer (some ⟨p, 3 + j, none⟩)), .is (.bool bi), .is (.pointer (some ⟨p, 0, none⟩)), .is (.pointer (some ⟨p, 3, none⟩)), .is (.pointer (some ⟨p, 3 + i, none⟩))])
                (by kernel_rfl) rfl (by kernel_rfl) (by kernel_rfl) (facts_stay _) (fun W W' hb h => ⟨h.1.below hb, h.2.1.then_ hb, h.2.2.below hb⟩) (fun i => [u83, u84, u85, u86, u87, u88, u89, u90, u91, u92, u93, u94].getD i undef) (by kernel_rfl) ⟨HK.out.1.drew, HK.out.2.1.drew, HK.out.2.2.drew⟩ ?F8 ?hF8 ?hstep8 ?hend8
              case hF8 =>
                intro u
                simp only [List.take, fillAct]
                go_simp
                rfl
              case hstep8 =>
                clear HK
                refine FSteps.cons ?_ ?_
                · intro u W hS hd K hK
                  clear hd
                  simp only [upd, reduceIte, Nat.reduceEqDiff] at hK
                  go_simp
                  exact hK.out _ _ (Below.refl _ _) rfl
                refine FSteps.cons ?_ ?_
                · intro u W hS hd K hK
                  clear hd
                  simp only [upd, reduceIte, Nat.reduceEqDiff] at hK
                  go_simp
                  exact hK.out _ _ (Below.refl _ _) rfl
                refine FSteps.cons ?_ ?_
                · intro u W hS hd K hK
                  clear hd
                  simp only [upd, reduceIte, Nat.reduceEqDiff] at hK
                  go_simp
                  exact hK.out _ _ (Below.refl _ _) rfl
                refine FSteps.cons ?_ ?_
                · intro u W hS hd K hK
                  clear hd
                  simp only [upd, reduceIte, Nat.reduceEqDiff] at hK
                  go_simp
                  exact hK.out _ _ (Below.refl _ _) rfl
                refine FSteps.cons ?_ ?_
                · intro u W hS hd K hK
                  have h3 : u 3 = _ := hd 3 rfl
                  clear hd
                  simp only [upd, h3, reduceIte, Nat.reduceEqDiff] at hK
                  go_simp
                  exact hK.out _ _ (Below.refl _ _) (show Value.int .i64 (IntKind.i64.wrap ((i : Int) + 1)) = .int .i64 (j : Int) from congrArg (Value.int .i64) HZ.out)
                refine FSteps.cons ?_ ?_
                · intro u W hS hd K hK
                  have h2 : u 2 = _ := hd 2 rfl
                  clear hd
                  simp only [upd, h2, reduceIte, Nat.reduceEqDiff] at hK
                  go_simp
                  exact hK.out _ _ (Below.refl _ _) rfl
                refine FSteps.cons ?_ ?_
                · intro u W hS hd K hK
                  have h5 : u 5 = _ := hd 5 rfl
                  clear hd
                  simp only [upd, h5, reduceIte, Nat.reduceEqDiff] at hK
                  go_simp
                  exact hK.out _ _ (Below.refl _ _) rfl
                refine FSteps.cons ?_ ?_
                · intro u W hS hd K hK
                  have h4 : u 4 = _ := hd 4 rfl
                  have h6 : u 6 = _ := hd 6 rfl
                  clear hd
                  simp only [upd, h4, h6, reduceIte, Nat.reduceEqDiff] at hK
                  go_simp
                  exact hK.out _ _ (Below.refl _ _) rfl
                refine FSteps.cons ?_ ?_
                · intro u W hS hd K hK
                  have h7 : u 7 = _ := hd 7 rfl
                  clear hd
                  simp only [upd, h7, reduceIte, Nat.reduceEqDiff] at hK
                  have c0 := hS.1.cell (3 + j) HG1.out
                  go_simp
                  exact hK.out _ _ (Below.refl _ _) rfl
                refine FSteps.cons ?_ ?_
                · intro u W hS hd K hK
                  have h0 : u 0 = _ := hd 0 rfl
                  clear hd
                  simp only [upd, h0, reduceIte, Nat.reduceEqDiff] at hK
                  go_simp
                  exact hK.out _ _ (Below.refl _ _) rfl
                refine FSteps.cons ?_ ?_
                · intro u W hS hd K hK
                  have h9 : u 9 = _ := hd 9 rfl
                  clear hd
                  simp only [upd, h9, reduceIte, Nat.reduceEqDiff] at hK
                  go_simp
                  exact hK.out _ _ (Below.refl _ _) rfl
                refine FSteps.cons ?_ ?_
                · intro u W hS hd K hK
                  have h1 : u 1 = _ := hd 1 rfl
                  have h10 : u 10 = _ := hd 10 rfl
                  clear hd
                  simp only [upd, h1, h10, reduceIte, Nat.reduceEqDiff] at hK
                  go_simp
                  exact hK.out _ _ (Below.refl _ _) rfl
                exact trivial
              case hend8 =>
                intro u w9 hS hd
                have h8 : u 8 = _ := hd 8 rfl
                have h11 : u 11 = _ := hd 11 rfl
                have HK3 := Lib.hid hS
                clear hd hS HK
                rw [h8, h11]
                have k2 := HK3.out.1.cell (3 + i) HG0.out
                have kf2 := (HK3.out.1.get (3 + i) HG0.out).free
                refine wpAny_ready (rs := [12]) (by kernel_rfl) (by simp) ?_
                refine AllReady.cons rfl (fun K hK => ?_) AllReady.nil
                go_simp
                refine hK _ _ ?_
                clear hK K
                refine wpAny_done (by kernel_rfl) ?_ _
                clear k2 kf2
                have HKA := Lib.hid (show RowAt (w9.setCell ⟨p, 3 + i, none⟩ (.bool bi)) p (tiV m k ⟨n + 1, midT Ct (i + 1)⟩) from by rw [← HJ.out]; exact HK3.out.1.put (3 + i) (.bool bi) _ HPU.out)
                have HKB := Lib.hid (HK3.out.2.1.set (p := ⟨p, 3 + i, none⟩) (Or.inl rfl) (.bool bi))
                have HKC := Lib.hid (show OwnL encI 3 (w9.setCell ⟨p, 3 + i, none⟩ (.bool bi)) w.heap.size v' (outT m s.vr (t + 1)) from HK3.out.2.2.same fun b hb => Below.heap_setCell _ _ _ _ (fun e => by
                  have e2 : b = p := e
                  have := (HK3.out.2.2.ge hb).1
                  omega))
                clear HK3
                generalize (w9.setCell ⟨p, 3 + i, none⟩ (.bool bi)) = wA at *
                go_wp2_with fail
                go_roundw
                case rel => exact ⟨i + 1, by omega, by go_num, Lib.hid ⟨HKA.out, HKB.out, HKC.out⟩⟩
                case measure => simp [intOf]; omega
            · have hie : i = 127 := by omega
              subst hie
              have HF := Lib.hid (show OwnL encI 3 wr w.heap.size v' (outT m s.vr (t + 1)) ∧ RowAt wr p (tiV m k ⟨s.vr + ((t + 1 : Nat) : Int), atT C (t + 1)⟩) ∧ Turn (fun x => x = p) w wr from ⟨HK.out.2.2, by rw [HN1.out, ← HAN.out, ← midT_last Ct HAL.out]; exact HK.out.1, HK.out.2.1⟩)
              clear HK
              have HSL := Lib.hid (show sliceLen v' = t + 1 from by rw [HF.out.1.sliceLen, outT_len])
              go_wp2_with fail
              go_roundw
              case rel => exact ⟨t + 1, _, hlt, rfl, HF⟩
              case measure => show r - sliceLen v' < r - sliceLen tv; rw [HSL.out, HS5.out]; omega
      · have hte : t = r := by omega
        subst hte
        rw [HRE.out] at c0
        go_wp2_with fail
        exact bodyPost_ret (v := .tuple #[tv, .int .i64 0]) (by simp [results, Try.results27, go_sem]) rfl ⟨⟨_, rfl, HK.out.1⟩, HK.out.2.1, HK.out.2.2⟩
end Go.Proofs.Ytmokibjeanbabaa
