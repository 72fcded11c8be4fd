/-
The landed smoother's Took.
-/
import Derived.Test.YtljmdpkbedmkmaaSmoCode
namespace Go.Proofs.Ytljmdpkbedmkmaa
open Go.RowKit
set_option maxRecDepth 20000
set_option maxHeartbeats 1000000 in
theorem ctook_any (p : Nat) (s : Sm) (t : Int) (w : World) (h : RowAt w p (smV s)) (hok : s.ok) : Calls Try.prog 14 #[.pointer (some ⟨p, 0, none⟩), .int .i64 t] w fun e w' => e = .returned (.int .i64 (s.took t).t1) ∧ RowAt w' p (smV (s.took t)) ∧ Turn (fun x => x = p) w w' := by
  obtain ⟨a, b⟩ := s
  obtain ⟨⟨h0, h1⟩, h2, h3⟩ := hok
  simp only at h0 h1 h2 h3
  have hm := inB_min t
  have hb := inB_most t
  obtain ⟨s', hs⟩ : ∃ s', Sm.took ⟨a, b⟩ t = s' := ⟨_, rfl⟩
  rw [hs]
  simp only [Sm.took] at hs
  generalize inB t = tb at *
  have d8 : a.tdiv 8 = a / 8 := Int.tdiv_eq_ediv_of_nonneg h0
  obtain ⟨q, hq⟩ : ∃ q, a / 8 = q := ⟨_, rfl⟩
  rw [hq] at d8 hs
  obtain ⟨x, hx⟩ : ∃ x, a - q + tb = x := ⟨_, rfl⟩
  rw [hx] at hs
  have z1 : IntKind.i64.wrap (tb - q) = tb - q := i64_near _ (by omega) (by omega)
  have z2 : IntKind.i64.wrap (a + (tb - q)) = x := by rw [show a + (tb - q) = x by omega]; exact i64_near _ (by omega) (by omega)
  have hx0 : 0 ≤ x ∧ x ≤ 100000 := by omega
  have d4 : x.tdiv 4 = x / 4 := Int.tdiv_eq_ediv_of_nonneg hx0.1
  obtain ⟨r, hr⟩ : ∃ r, x / 4 = r := ⟨_, rfl⟩
  rw [hr] at d4 hs
  have z3 : IntKind.i64.wrap (r + 2) = r + 2 := i64_near _ (by omega) (by omega)
  have zq : IntKind.i64.wrap q = q := i64_near _ (by omega) (by omega)
  have zr : IntKind.i64.wrap r = r := i64_near _ (by omega) (by omega)
  have HW := Lib.hid (fun W => cwithin_any (r + 2) W)
  subst hs
  generalize inT (r + 2) = y at *
  have HZ1 := Lib.hid z1
  have HZQ := Lib.hid zq
  have HZ2 := Lib.hid z2
  rw [IntWalk.i64_left] at z1 z2 z3 zq zr
  have HR := Lib.hid h
  have H1 := Lib.hid (h.put 0 (.int .i64 x) [.int .i64 x, .int .i64 b] rfl)
  have H2 := Lib.hid (H1.out.put 1 (.int .i64 y) [.int .i64 x, .int .i64 y] rfl)
  have HT := Lib.hid (((Turn.refl (fun x => x = p) w).set (p := ⟨p, 0, none⟩) (Or.inl rfl) (.int .i64 x)).set (p := ⟨p, 1, none⟩) (Or.inl rfl) (.int .i64 y))
  have c0 := h.cell 0 (v := .int .i64 a) rfl
  have f0 := (h.get 0 (v := .int .i64 a) rfl).free
  have c1 := H1.out.cell 0 (v := .int .i64 x) rfl
  have f1 := (H1.out.get 1 (v := .int .i64 b) rfl).free
  have c2 := H2.out.cell 1 (v := .int .i64 y) rfl
  have c3 := H1.out.cell 1 (v := .int .i64 b) rfl
  clear h h0 h1 h2 h3 hb hq hx hx0 hr
  go_enter Try.func14, Try.ntmps14
  go_upto_region 3 with (fail)
  refine wp_region_upto 16 0 (fun W W' => W' = W) (fun W => RowAt W p [.int .i64 a, .int .i64 b] ∧ Hid (W = w.drew))
    (factsOf [.is (.pointer (some ⟨p, 0, none⟩)), .is (.pointer (some ⟨p, 0, none⟩)), .is (.pointer (some ⟨p, 0, none⟩)), .is (.int .i64 a), .is (.int .i64 t), .is (.int .i64 (max t 0)), .is (.int .i64 tb), .is (.pointer (some ⟨p, 0, none⟩)), .is (.pointer (some ⟨p, 0, none⟩)), .is (.pointer (some ⟨p, 0, none⟩)), .is (.int .i64 a), .is (.int .i64 q), .is (.int .i64 (tb - q)), .is (.int .i64 x), .is (.pointer (some ⟨p, 0, none⟩)), .is (.pointer (some ⟨p, 0, none⟩))])
    (by kernel_rfl) rfl (by kernel_rfl) (by kernel_rfl) (fun j v W W' hb h => by rw [hb]; exact h) (fun W W' hb h => by rw [hb]; exact h) (fun _ => undef) (by kernel_rfl) ⟨HR.out.drew, Lib.hid rfl⟩ ?F1 ?hF1 ?hstep1 ?hend1
  case hF1 =>
    intro u
    simp only [List.take, fillAct]
    go_simp
    rfl
  case hstep1 =>
    clear HR
    refine FSteps.cons ?_ ?_
    · intro u W hS hd K hK
      clear hd
      simp only [upd, reduceIte, Nat.reduceEqDiff] at hK
      go_simp
      exact hK.out _ _ rfl rfl
    refine FSteps.cons ?_ ?_
    · intro u W hS hd K hK
      have h0 : u 0 = _ := hd 0 rfl
      clear hd
      simp only [upd, h0, reduceIte, Nat.reduceEqDiff] at hK
      go_simp
      exact hK.out _ _ rfl rfl
    refine FSteps.cons ?_ ?_
    · intro u W hS hd K hK
      have h1 : u 1 = _ := hd 1 rfl
      clear hd
      simp only [upd, h1, reduceIte, Nat.reduceEqDiff] at hK
      go_simp
      exact hK.out _ _ rfl rfl
    refine FSteps.cons ?_ ?_
    · intro u W hS hd K hK
      have h2 : u 2 = _ := hd 2 rfl
      clear hd
      simp only [upd, h2, reduceIte, Nat.reduceEqDiff] at hK
      have c0 := hS.1.cell 0 rfl
      go_simp
      exact hK.out _ _ rfl rfl
    refine FSteps.cons ?_ ?_
    · intro u W hS hd K hK
      clear hd
      simp only [upd, reduceIte, Nat.reduceEqDiff] at hK
      go_simp
      exact hK.out _ _ rfl rfl
    refine FSteps.cons ?_ ?_
    · intro u W hS hd K hK
      have h4 : u 4 = _ := hd 4 rfl
      clear hd
      simp only [upd, h4, reduceIte, Nat.reduceEqDiff] at hK
      go_simp
      exact hK.out _ _ rfl rfl
    refine FSteps.cons ?_ ?_
    · intro u W hS hd K hK
      have h5 : u 5 = _ := hd 5 rfl
      clear hd
      simp only [upd, h5, reduceIte, Nat.reduceEqDiff] at hK
      go_simp
      exact hK.out _ _ rfl rfl
    refine FSteps.cons ?_ ?_
    · intro u W hS hd K hK
      clear hd
      simp only [upd, reduceIte, Nat.reduceEqDiff] at hK
      go_simp
      exact hK.out _ _ rfl rfl
    refine FSteps.cons ?_ ?_
    · intro u W hS hd K hK
      have h7 : u 7 = _ := hd 7 rfl
      clear hd
      simp only [upd, h7, reduceIte, Nat.reduceEqDiff] at hK
      go_simp
      exact hK.out _ _ rfl rfl
    refine FSteps.cons ?_ ?_
    · intro u W hS hd K hK
      have h8 : u 8 = _ := hd 8 rfl
      clear hd
      simp only [upd, h8, reduceIte, Nat.reduceEqDiff] at hK
      go_simp
      exact hK.out _ _ rfl rfl
    refine FSteps.cons ?_ ?_
    · intro u W hS hd K hK
      have h9 : u 9 = _ := hd 9 rfl
      clear hd
      simp only [upd, h9, reduceIte, Nat.reduceEqDiff] at hK
      have c0 := hS.1.cell 0 rfl
      go_simp
      exact hK.out _ _ rfl rfl
    refine FSteps.cons ?_ ?_
    · intro u W hS hd K hK
      have h10 : u 10 = _ := hd 10 rfl
      clear hd
      simp only [upd, h10, reduceIte, Nat.reduceEqDiff] at hK
      go_simp
      exact hK.out _ _ rfl (congrArg (Value.int IntKind.i64) HZQ.out)
    refine FSteps.cons ?_ ?_
    · intro u W hS hd K hK
      have h6 : u 6 = _ := hd 6 rfl
      have h11 : u 11 = _ := hd 11 rfl
      clear hd
      simp only [upd, h6, h11, reduceIte, Nat.reduceEqDiff] at hK
      go_simp
      exact hK.out _ _ rfl (congrArg (Value.int IntKind.i64) HZ1.out)
    refine FSteps.cons ?_ ?_
    · intro u W hS hd K hK
      have h3 : u 3 = _ := hd 3 rfl
      have h12 : u 12 = _ := hd 12 rfl
      clear hd
      simp only [upd, h3, h12, reduceIte, Nat.reduceEqDiff] at hK
      go_simp
      exact hK.out _ _ rfl (congrArg (Value.int IntKind.i64) HZ2.out)
    refine FSteps.cons ?_ ?_
    · intro u W hS hd K hK
      have h0 : u 0 = _ := hd 0 rfl
      clear hd
      simp only [upd, h0, reduceIte, Nat.reduceEqDiff] at hK
      go_simp
      exact hK.out _ _ rfl rfl
    refine FSteps.cons ?_ ?_
    · intro u W hS hd K hK
      have h14 : u 14 = _ := hd 14 rfl
      clear hd
      simp only [upd, h14, reduceIte, Nat.reduceEqDiff] at hK
      go_simp
      exact hK.out _ _ rfl rfl
    exact trivial
  case hend1 =>
    intro u w6 hS hd
    obtain ⟨hS1, hw⟩ := hS
    obtain rfl := hw.out
    have h13 : u 13 = _ := hd 13 rfl
    have h15 : u 15 = _ := hd 15 rfl
    clear hd
    rw [h13, h15]
    refine wpAny_ready (rs := [16]) (by kernel_rfl) (by simp) ?_
    refine AllReady.cons rfl (fun K hK => ?_) AllReady.nil
    go_simp
    refine hK _ _ ?_
    clear hK K
    refine wpAny_done (by kernel_rfl) ?_ _
    go_wp2_with (go_at_call 18; (with_reducible refine (HW.out _).mono ?_); rintro e w ⟨rfl, rfl⟩)
    exact bodyPost_ret (v := .int .i64 y) (by simp [results, Try.results14, go_sem]) rfl ⟨rfl, H2.out.drew, HT.out.drew⟩
end Go.Proofs.Ytljmdpkbedmkmaa
