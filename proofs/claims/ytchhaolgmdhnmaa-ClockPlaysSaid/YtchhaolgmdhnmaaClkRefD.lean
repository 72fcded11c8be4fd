/-
The document's Set (written by tools/gen13/gen_rset.py).
-/
import Derived.Test.YtchhaolgmdhnmaaClkRefB
namespace Go.Proofs.Ytchhaolgmdhnmaa
open Go.RowKit
set_option maxRecDepth 20000
set_option maxHeartbeats 1000000 in
theorem rset13_bad (k n x : Int) (p : Nat) (w : World) (hx : x < 1 ∨ 10000 < x) : Calls Try.prog 9 #[.pointer (some ⟨p, 0, none⟩), .int .i64 k, .int .i64 n, .int .i64 x] w fun e w' => e = .returned (.int .i64 1) ∧ w' = w := by
  by_cases h1 : x < 1
  · have d1 : decide (x < 1) = true := decide_eq_true h1
    clear hx h1
    go_enter Try.func9, Try.ntmps9
    go_wp2_with fail
    exact bodyPost_ret (v := .int .i64 1) (by simp [results, Try.results9, go_sem]) rfl ⟨rfl, rfl⟩
  · have d1 : decide (x < 1) = false := decide_eq_false h1
    have d2 : decide (10000 < x) = true := decide_eq_true (by omega)
    clear hx h1
    go_enter Try.func9, Try.ntmps9
    go_wp2_with fail
    exact bodyPost_ret (v := .int .i64 1) (by simp [results, Try.results9, go_sem]) rfl ⟨rfl, rfl⟩
set_option maxHeartbeats 1000000 in
theorem rset13_full (k n x : Int) (p : Nat) (now : Int) (L : List Tm) (F : Nat → Prop) (w : World) (h : RkL w p now L F) (hx : 1 ≤ x ∧ x ≤ 10000) (h0 : atF ⟨k, n⟩ L 0 < 0) (h32 : L.length = 32) : Calls Try.prog 9 #[.pointer (some ⟨p, 0, none⟩), .int .i64 k, .int .i64 n, .int .i64 x] w fun e w' => e = .returned (.int .i64 6) ∧ Below w.heap.size w w' := by
  have HA := Lib.hid (rat_any k n p now L F w h (by omega))
  generalize atF ⟨k, n⟩ L 0 = a at *
  have d0 : decide (a < 0) = true := decide_eq_true h0
  have d1 : decide (x < 1) = false := decide_eq_false (by omega)
  have d2 : decide (10000 < x) = false := decide_eq_false (by omega)
  obtain ⟨v, hr, ho, -, -⟩ := h
  obtain ⟨ad, c, rfl⟩ : ∃ a c, v = .slice a L.length c := by
    obtain ⟨a, c, hv, -⟩ := ho.see
    exact ⟨a, c, hv⟩
  rw [h32] at hr
  have HR := Lib.hid hr
  clear hr ho h32 hx h0
  go_enter Try.func9, Try.ntmps9
  go_wp2_with (go_at_call 17; (with_reducible refine HA.out.mono ?_); rintro e w2 ⟨rfl, hb⟩; have HB2 := Lib.hid hb; clear hb; have c0 := (HR.out.below HB2.out).cell 1 rfl)
  exact bodyPost_ret (v := .int .i64 6) (by simp [results, Try.results9, go_sem]) rfl ⟨rfl, HB2.out⟩
/-- behind Stop, amid the last step -/
structure SrAt (w3 : World) (p : Nat) (now : Int) (tv : Value) (L : List Tm) (W : World) : Prop where
  row : RowAt W p [.int .i64 now, tv]
  own : OwnD W tv L
  turn : Turn (fun k => k = p ∨ tv.ownBlock = some k) w3 W
  pv : tv.ownBlock ≠ some p
  tw : ∀ k, tv.ownBlock = some k → k < w3.heap.size
def SrR (tv : Value) (M : List Tm) (W W' : World) : Prop := Turn (fun k => tv.ownBlock = some k) W W' ∧ ∀ X x, X <+: M → OwnD W x X → OwnD W' x X
theorem SrR.of_below {tv : Value} {M : List Tm} {W W' : World} (h : Below W.heap.size W W') : SrR tv M W W' := ⟨Turn.of_below h, fun _ _ _ k => k.below h⟩
theorem SrR.of_grown {tv : Value} {M : List Tm} {W W' : World} (h : W.grownBy W' tv.ownBlock) (k : ∀ X B' x, X <+: M → OwnL encT 45 W B' x X → OwnL encT 45 W' B' x X) : SrR tv M W W' :=
  ⟨⟨h.os, h.tape, h.output, h.size, fun b hb hF => h.block b hb (fun e => hF e.symm)⟩, fun X x => k X 0 x⟩
theorem SrAt.step {w3 : World} {p : Nat} {now : Int} {tv : Value} {L M : List Tm} {W W' : World} (h : SrAt w3 p now tv L W) (hM : L <+: M) (hR : SrR tv M W W') : SrAt w3 p now tv L W' :=
  ⟨h.row.turn hR.1 h.pv, hR.2 L tv hM h.own, Turn.trans h.turn hR.1 (fun _ hk => Or.inl (Or.inr hk)), h.pv, h.tw⟩
theorem SrAt.done {w3 : World} {p : Nat} {now : Int} {tv v' : Value} {L M : List Tm} {W : World} (h : SrAt w3 p now tv L W) (ho : OwnD W v' M) (hv : ∀ k, v'.ownBlock = some k → tv.ownBlock = some k ∨ w3.heap.size ≤ k) (hp : p < w3.heap.size) :
    RkL (W.setCell ⟨p, 1, none⟩ v') p now M (fun k => k = p ∨ v'.ownBlock = some k) ∧ Turn (fun k => k = p ∨ tv.ownBlock = some k) w3 (W.setCell ⟨p, 1, none⟩ v') ∧ Grew (fun k => k = p ∨ tv.ownBlock = some k) (fun k => k = p ∨ v'.ownBlock = some k) w3 := by
  have hne : v'.ownBlock ≠ some p := fun e => by
    rcases hv p e with q | q
    · exact h.pv q
    · omega
  refine ⟨⟨v', h.row.put 1 v' _ rfl, ho.same (fun g e => Below.heap_setCell _ _ _ _ (show g ≠ p from fun q => hne (q ▸ e))), hne, rfl⟩, h.turn.set (p := ⟨p, 1, none⟩) (Or.inl (Or.inl rfl)) _, fun k hk => ?_⟩
  rcases hk with rfl | e
  · exact Or.inl (Or.inl rfl)
  · exact (hv k e).imp Or.inr id
theorem own_or' {v' tv : Value} {n m : Nat} (h : v'.ownBlock = tv.ownBlock ∨ v'.ownBlock = some n) (hm : m ≤ n) : ∀ k, v'.ownBlock = some k → tv.ownBlock = some k ∨ m ≤ k := by
  intro k e
  rcases h with q | q
  · exact Or.inl (q ▸ e)
  · rw [q] at e
    cases e
    exact Or.inr hm
set_option maxHeartbeats 2000000 in
theorem rset13_some0 (k n x : Int) (p : Nat) (now : Int) (L : List Tm) (F : Nat → Prop) (w : World) (h : RkL w p now L F) (hl : L.length ≤ 32) (hp : L.Pairwise fun s t => eqN s.nm t.nm = false) (hx : 1 ≤ x ∧ x ≤ 10000) (hnow : 0 ≤ now ∧ now ≤ 10000) (hfull : atF ⟨k, n⟩ L 0 < 0 ∧ L.length ≠ 32) : Calls Try.prog 9 #[.pointer (some ⟨p, 0, none⟩), .int .i64 k, .int .i64 n, .int .i64 x] w fun e w' =>
    ∃ F', e = .returned (.int .i64 0) ∧ RkL w' p now (stopT ⟨k, n⟩ L ++ [⟨k, n, now + x⟩]) F' ∧ Turn F w w' ∧ Grew F F' w := by
  have HA := Lib.hid (rat_any k n p now L F w h (by omega))
  have HST := Lib.hid (fun W (hb : Below w.heap.size w W) => rstop_any ⟨k, n⟩ p now L F W (h.below hb) (by omega) hp)
  simp only at HST
  have hsl : (stopT ⟨k, n⟩ L).length ≤ 1000 := Nat.le_trans (List.length_filter_le _ _) (by omega)
  obtain ⟨KL, hKL⟩ : ∃ KL, stopT ⟨k, n⟩ L = KL := ⟨_, rfl⟩
  obtain ⟨N, hN⟩ : ∃ N, cntT (isT ⟨k, n⟩) L = N := ⟨_, rfl⟩
  rw [hKL, hN] at HST
  rw [hKL] at hsl ⊢
  clear hKL hN
  generalize atF ⟨k, n⟩ L 0 = a at *
  have d1 : decide (x < 1) = false := decide_eq_false (by omega)
  have d2 : decide (10000 < x) = false := decide_eq_false (by omega)
  obtain ⟨d, hd0⟩ : ∃ d, now + x = d := ⟨_, rfl⟩
  have z1 : wrap64 (now + x) = d := by rw [← hd0, ← IntWalk.i64_left]; exact i64_near _ (by omega) (by omega)
  have z1h := Lib.hid (show IntKind.i64.wrap (now + x) = d from by rw [IntWalk.i64_left]; exact z1)
  rw [hd0]
  obtain ⟨v, hr, ho, -, -⟩ := h
  obtain ⟨ad, c, rfl⟩ : ∃ a c, v = .slice a L.length c := by
    obtain ⟨a, c, hv, -⟩ := ho.see
    exact ⟨a, c, hv⟩
  have HR := Lib.hid hr
  obtain ⟨m, hm⟩ : ∃ m, L.length = m := ⟨_, rfl⟩
  rw [hm] at HR hl
  have d3 : decide (a < 0) = true := decide_eq_true hfull.1
  have d4 : ((m : Int) == 32) = false := by have := hfull.2; rw [hm] at this; simpa using fun e : (m : Int) = 32 => this (by omega)
  clear hr ho hx hnow hp hl hm hd0 hfull
  go_enter Try.func9, Try.ntmps9
  go_upto_region 6 with (first
    | (go_at_call 17; (with_reducible refine HA.out.mono ?_); rintro e w2 ⟨rfl, hb⟩; have HB2 := Lib.hid hb; clear hb; have c0 := (HR.out.below HB2.out).cell 1 rfl)
    | (go_at_call 11; (with_reducible refine (HST.out _ HB2.out).mono ?_); rintro e w3 ⟨F3, rfl, hc, ht, hg⟩; have HC3 := Lib.hid hc; have HT3 := Lib.hid (And.intro ht hg); clear hc ht hg c0))
  obtain ⟨tv, hr3, ho3, hn3, hF3⟩ := HC3.out
  have HSE := Lib.hid (show SrAt w3 p now tv KL w3 from ⟨hr3, ho3, Turn.refl _ _, hn3, fun k e => (ho3.ge e).2⟩)
  have HPW := Lib.hid hr3.lt
  have HFF := Lib.hid hF3
  have hpre : KL <+: KL ++ [⟨k, n, d⟩] := List.prefix_append _ _
  clear hr3 ho3 hn3 hF3 HC3 HST HR HA
  refine wp_region_upto 18 0 (fun W W' => SrR tv (KL ++ [⟨k, n, d⟩]) W W') (fun W => SrAt w3 p now tv KL W)
    (fun j' v W => factsOf [.is (.pointer (some ⟨p, 0, none⟩)), .is (.pointer (some ⟨p, 0, none⟩)), .is (.pointer (some ⟨p, 0, none⟩)), .is (.pointer (some ⟨p, 1, none⟩)), .is (tv), .is (.int .i64 k), .is (.int .i64 n), .is (.pointer (some ⟨p, 0, none⟩)), .is (.pointer (some ⟨p, 0, none⟩)), .is (.pointer (some ⟨p, 0, none⟩)), .is (.int .i64 now), .is (.int .i64 x), .is (.int .i64 d), .is (.agg #[.int .i64 k, .int .i64 n, .int .i64 d]), .any, .any, .is (.pointer (some ⟨p, 0, none⟩)), .is (.pointer (some ⟨p, 1, none⟩))] j' v W ∧
      (j' = 14 → ∃ b, v = .slice (some ⟨b, 0, none⟩) 1 1 ∧ AtL encT W (some ⟨b, 0, none⟩) [⟨k, n, d⟩] ∧ tv.ownBlock ≠ some b) ∧ (j' = 15 → OwnD W v (KL ++ [⟨k, n, d⟩]) ∧ ∀ k, v.ownBlock = some k → tv.ownBlock = some k ∨ w3.heap.size ≤ k))
    (by kernel_rfl) rfl (by kernel_rfl) (by kernel_rfl)
    (fun j' v W W' hR h => ⟨facts_still rfl j' v W W' h.1, (fun e => by obtain ⟨b, hv, hB, hn⟩ := h.2.1 e; exact ⟨b, hv, hB.turn hR.1 (fun q e => by cases e; exact hn), hn⟩), (fun e => ⟨hR.2 _ _ (List.prefix_refl _) (h.2.2 e).1, (h.2.2 e).2⟩)⟩) (fun W W' hR h => h.step hpre hR) (fun _ => undef) (by kernel_rfl) (HSE.out.step hpre (SrR.of_below ((Below.refl _ _).drew))) ?F1 ?hF1 ?hstep1 ?hend1
  case hF1 =>
    intro u
    simp only [List.take, fillAct]
    go_simp
    rfl
  case hstep1 =>
    clear HSE
    refine FSteps.cons ?_ ?_
    · intro u W hS hd K hK
      clear hd
      simp only [upd, reduceIte, Nat.reduceEqDiff] at hK
      go_simp
      exact hK.out _ _ (SrR.of_below (Below.refl _ _)) ⟨rfl, (fun e => absurd e (by decide)), (fun e => absurd e (by decide))⟩
    refine FSteps.cons ?_ ?_
    · intro u W hS hd K hK
      clear hd
      simp only [upd, reduceIte, Nat.reduceEqDiff] at hK
      go_simp
      exact hK.out _ _ (SrR.of_below (Below.refl _ _)) ⟨rfl, (fun e => absurd e (by decide)), (fun e => absurd e (by decide))⟩
    refine FSteps.cons ?_ ?_
    · intro u W hS hd K hK
      have h1 : u 1 = _ := (hd 1 rfl).1
      clear hd
      simp only [upd, h1, reduceIte, Nat.reduceEqDiff] at hK
      go_simp
      exact hK.out _ _ (SrR.of_below (Below.refl _ _)) ⟨rfl, (fun e => absurd e (by decide)), (fun e => absurd e (by decide))⟩
    refine FSteps.cons ?_ ?_
    · intro u W hS hd K hK
      have h2 : u 2 = _ := (hd 2 rfl).1
      clear hd
      simp only [upd, h2, reduceIte, Nat.reduceEqDiff] at hK
      go_simp
      exact hK.out _ _ (SrR.of_below (Below.refl _ _)) ⟨rfl, (fun e => absurd e (by decide)), (fun e => absurd e (by decide))⟩
    refine FSteps.cons ?_ ?_
    · intro u W hS hd K hK
      have h3 : u 3 = _ := (hd 3 rfl).1
      clear hd
      simp only [upd, h3, reduceIte, Nat.reduceEqDiff] at hK
      have c0 := hS.row.cell 1 rfl
      go_simp
      exact hK.out _ _ (SrR.of_below (Below.refl _ _)) ⟨rfl, (fun e => absurd e (by decide)), (fun e => absurd e (by decide))⟩
    refine FSteps.cons ?_ ?_
    · intro u W hS hd K hK
      clear hd
      simp only [upd, reduceIte, Nat.reduceEqDiff] at hK
      go_simp
      exact hK.out _ _ (SrR.of_below (Below.refl _ _)) ⟨rfl, (fun e => absurd e (by decide)), (fun e => absurd e (by decide))⟩
    refine FSteps.cons ?_ ?_
    · intro u W hS hd K hK
      clear hd
      simp only [upd, reduceIte, Nat.reduceEqDiff] at hK
      go_simp
      exact hK.out _ _ (SrR.of_below (Below.refl _ _)) ⟨rfl, (fun e => absurd e (by decide)), (fun e => absurd e (by decide))⟩
    refine FSteps.cons ?_ ?_
    · intro u W hS hd K hK
      clear hd
      simp only [upd, reduceIte, Nat.reduceEqDiff] at hK
      go_simp
      exact hK.out _ _ (SrR.of_below (Below.refl _ _)) ⟨rfl, (fun e => absurd e (by decide)), (fun e => absurd e (by decide))⟩
    refine FSteps.cons ?_ ?_
    · intro u W hS hd K hK
      have h7 : u 7 = _ := (hd 7 rfl).1
      clear hd
      simp only [upd, h7, reduceIte, Nat.reduceEqDiff] at hK
      go_simp
      exact hK.out _ _ (SrR.of_below (Below.refl _ _)) ⟨rfl, (fun e => absurd e (by decide)), (fun e => absurd e (by decide))⟩
    refine FSteps.cons ?_ ?_
    · intro u W hS hd K hK
      have h8 : u 8 = _ := (hd 8 rfl).1
      clear hd
      simp only [upd, h8, reduceIte, Nat.reduceEqDiff] at hK
      go_simp
      exact hK.out _ _ (SrR.of_below (Below.refl _ _)) ⟨rfl, (fun e => absurd e (by decide)), (fun e => absurd e (by decide))⟩
    refine FSteps.cons ?_ ?_
    · intro u W hS hd K hK
      have h9 : u 9 = _ := (hd 9 rfl).1
      clear hd
      simp only [upd, h9, reduceIte, Nat.reduceEqDiff] at hK
      have c0 := hS.row.cell 0 rfl
      go_simp
      exact hK.out _ _ (SrR.of_below (Below.refl _ _)) ⟨rfl, (fun e => absurd e (by decide)), (fun e => absurd e (by decide))⟩
    refine FSteps.cons ?_ ?_
    · intro u W hS hd K hK
      clear hd
      simp only [upd, reduceIte, Nat.reduceEqDiff] at hK
      go_simp
      exact hK.out _ _ (SrR.of_below (Below.refl _ _)) ⟨rfl, (fun e => absurd e (by decide)), (fun e => absurd e (by decide))⟩
    refine FSteps.cons ?_ ?_
    · intro u W hS hd K hK
      have h10 : u 10 = _ := (hd 10 rfl).1
      have h11 : u 11 = _ := (hd 11 rfl).1
      clear hd
      simp only [upd, h10, h11, reduceIte, Nat.reduceEqDiff] at hK
      go_simp
      exact hK.out _ _ (SrR.of_below (Below.refl _ _)) ⟨congrArg (Value.int IntKind.i64) z1h.out, (fun e => absurd e (by decide)), (fun e => absurd e (by decide))⟩
    refine FSteps.cons ?_ ?_
    · intro u W hS hd K hK
      have h5 : u 5 = _ := (hd 5 rfl).1
      have h6 : u 6 = _ := (hd 6 rfl).1
      have h12 : u 12 = _ := (hd 12 rfl).1
      clear hd
      simp only [upd, h5, h6, h12, reduceIte, Nat.reduceEqDiff] at hK
      go_simp
      exact hK.out _ _ (SrR.of_below (Below.refl _ _)) ⟨rfl, (fun e => absurd e (by decide)), (fun e => absurd e (by decide))⟩
    refine FSteps.cons ?_ ?_
    · intro u W hS hd K hK
      have h13 : u 13 = _ := (hd 13 rfl).1
      clear hd
      simp only [upd, h13, reduceIte, Nat.reduceEqDiff] at hK
      have hne : tv.ownBlock ≠ some W.heap.size := (fun e => by have := hS.tw _ e; have := hS.turn.size; omega)
      go_simp
      exact hK.out _ _ (SrR.of_below ((Below.refl _ _).alloc (Nat.le_refl _) _)) ⟨trivial, (fun _ => ⟨_, rfl, AtL.made encT 45 _ _ ⟨k, n, d⟩ _ rfl rfl, hne⟩), (fun e => absurd e (by decide))⟩
    refine FSteps.cons ?_ ?_
    · intro u W hS hd K hK
      have h4 : u 4 = _ := (hd 4 rfl).1
      obtain ⟨b8, h14, B8, N8⟩ := (hd 14 rfl).2.1 rfl
      clear hd
      simp only [upd, h4, h14, reduceIte, Nat.reduceEqDiff] at hK
      obtain ⟨v', w7, hr, hown, hgr, hov, hpx⟩ := run_append_full encT 45 27 27 Try.underlying27 infoD rfl (by decide) W 0 tv KL hS.own ⟨b8, 0, none⟩ 1 [⟨k, n, d⟩] (at_news' B8) (by simp; omega) (Nat.zero_le _)
      rw [if_pos (by kernel_rfl)]
      simp only [h4, h14]
      refine wp_append_run (.tmp 36) (.tmp 46) rfl rfl rfl hr ?_
      exact hK.out _ _ (SrR.of_grown hgr hpx) ⟨trivial, (fun e => absurd e (by decide)), (fun _ => ⟨hown, own_or' hov hS.turn.size⟩)⟩
    refine FSteps.cons ?_ ?_
    · intro u W hS hd K hK
      have h0 : u 0 = _ := (hd 0 rfl).1
      clear hd
      simp only [upd, h0, reduceIte, Nat.reduceEqDiff] at hK
      go_simp
      exact hK.out _ _ (SrR.of_below (Below.refl _ _)) ⟨rfl, (fun e => absurd e (by decide)), (fun e => absurd e (by decide))⟩
    refine FSteps.cons ?_ ?_
    · intro u W hS hd K hK
      have h16 : u 16 = _ := (hd 16 rfl).1
      clear hd
      simp only [upd, h16, reduceIte, Nat.reduceEqDiff] at hK
      go_simp
      exact hK.out _ _ (SrR.of_below (Below.refl _ _)) ⟨rfl, (fun e => absurd e (by decide)), (fun e => absurd e (by decide))⟩
    exact trivial
  case hend1 =>
    intro u w6 hS hd
    have h17 : u 17 = _ := (hd 17 rfl).1
    have h15 := (hd 15 rfl).2.2 rfl
    obtain ⟨va, vn, vc, hv'⟩ := OwnL.form' h15.1
    rw [hv'] at h15
    have HE := Lib.hid (hS.done h15.1 h15.2 HPW.out)
    have c0 := hS.row.cell 1 rfl
    have f0 := (hS.row.get 1 rfl).free
    simp only [hv', h17]
    clear hd hS h15 hv' h17
    refine wpAny_ready (rs := [18]) (by kernel_rfl) (by simp) ?_
    refine AllReady.cons rfl (fun K hK => ?_) AllReady.nil
    go_simp
    refine hK _ _ ?_
    clear hK K
    refine wpAny_done (by kernel_rfl) ?_ _
    go_wp2_with fail
    refine bodyPost_ret (v := .int .i64 0) (by simp [results, Try.results9, go_sem]) rfl ⟨_, rfl, HE.out.1, ?_⟩
    have ha := HT3.out
    rw [HFF.out] at ha
    have hb1 := Turn.trans (Turn.of_below HB2.out) ha.1 (Grew.refl F w)
    have hb2 := Grew.trans (Grew.refl F w) ha.2 HB2.out.size
    exact ⟨Turn.trans hb1 HE.out.2.1 hb2, Grew.trans hb2 HE.out.2.2 hb1.size⟩
set_option maxHeartbeats 2000000 in
theorem rset13_some1 (k n x : Int) (p : Nat) (now : Int) (L : List Tm) (F : Nat → Prop) (w : World) (h : RkL w p now L F) (hl : L.length ≤ 32) (hp : L.Pairwise fun s t => eqN s.nm t.nm = false) (hx : 1 ≤ x ∧ x ≤ 10000) (hnow : 0 ≤ now ∧ now ≤ 10000) (hfull : ¬ atF ⟨k, n⟩ L 0 < 0) : Calls Try.prog 9 #[.pointer (some ⟨p, 0, none⟩), .int .i64 k, .int .i64 n, .int .i64 x] w fun e w' =>
    ∃ F', e = .returned (.int .i64 0) ∧ RkL w' p now (stopT ⟨k, n⟩ L ++ [⟨k, n, now + x⟩]) F' ∧ Turn F w w' ∧ Grew F F' w := by
  have HA := Lib.hid (rat_any k n p now L F w h (by omega))
  have HST := Lib.hid (fun W (hb : Below w.heap.size w W) => rstop_any ⟨k, n⟩ p now L F W (h.below hb) (by omega) hp)
  simp only at HST
  have hsl : (stopT ⟨k, n⟩ L).length ≤ 1000 := Nat.le_trans (List.length_filter_le _ _) (by omega)
  obtain ⟨KL, hKL⟩ : ∃ KL, stopT ⟨k, n⟩ L = KL := ⟨_, rfl⟩
  obtain ⟨N, hN⟩ : ∃ N, cntT (isT ⟨k, n⟩) L = N := ⟨_, rfl⟩
  rw [hKL, hN] at HST
  rw [hKL] at hsl ⊢
  clear hKL hN
  generalize atF ⟨k, n⟩ L 0 = a at *
  have d1 : decide (x < 1) = false := decide_eq_false (by omega)
  have d2 : decide (10000 < x) = false := decide_eq_false (by omega)
  obtain ⟨d, hd0⟩ : ∃ d, now + x = d := ⟨_, rfl⟩
  have z1 : wrap64 (now + x) = d := by rw [← hd0, ← IntWalk.i64_left]; exact i64_near _ (by omega) (by omega)
  have z1h := Lib.hid (show IntKind.i64.wrap (now + x) = d from by rw [IntWalk.i64_left]; exact z1)
  rw [hd0]
  obtain ⟨v, hr, ho, -, -⟩ := h
  obtain ⟨ad, c, rfl⟩ : ∃ a c, v = .slice a L.length c := by
    obtain ⟨a, c, hv, -⟩ := ho.see
    exact ⟨a, c, hv⟩
  have HR := Lib.hid hr
  obtain ⟨m, hm⟩ : ∃ m, L.length = m := ⟨_, rfl⟩
  rw [hm] at HR hl
  have d3 : decide (a < 0) = false := decide_eq_false hfull
  clear hr ho hx hnow hp hl hm hd0 hfull
  go_enter Try.func9, Try.ntmps9
  go_upto_region 6 with (first
    | (go_at_call 17; (with_reducible refine HA.out.mono ?_); rintro e w2 ⟨rfl, hb⟩; have HB2 := Lib.hid hb; clear hb; have c0 := (HR.out.below HB2.out).cell 1 rfl)
    | (go_at_call 11; (with_reducible refine (HST.out _ HB2.out).mono ?_); rintro e w3 ⟨F3, rfl, hc, ht, hg⟩; have HC3 := Lib.hid hc; have HT3 := Lib.hid (And.intro ht hg); clear hc ht hg c0))
  obtain ⟨tv, hr3, ho3, hn3, hF3⟩ := HC3.out
  have HSE := Lib.hid (show SrAt w3 p now tv KL w3 from ⟨hr3, ho3, Turn.refl _ _, hn3, fun k e => (ho3.ge e).2⟩)
  have HPW := Lib.hid hr3.lt
  have HFF := Lib.hid hF3
  have hpre : KL <+: KL ++ [⟨k, n, d⟩] := List.prefix_append _ _
  clear hr3 ho3 hn3 hF3 HC3 HST HR HA
  refine wp_region_upto 18 0 (fun W W' => SrR tv (KL ++ [⟨k, n, d⟩]) W W') (fun W => SrAt w3 p now tv KL W)
    (fun j' v W => factsOf [.is (.pointer (some ⟨p, 0, none⟩)), .is (.pointer (some ⟨p, 0, none⟩)), .is (.pointer (some ⟨p, 0, none⟩)), .is (.pointer (some ⟨p, 1, none⟩)), .is (tv), .is (.int .i64 k), .is (.int .i64 n), .is (.pointer (some ⟨p, 0, none⟩)), .is (.pointer (some ⟨p, 0, none⟩)), .is (.pointer (some ⟨p, 0, none⟩)), .is (.int .i64 now), .is (.int .i64 x), .is (.int .i64 d), .is (.agg #[.int .i64 k, .int .i64 n, .int .i64 d]), .any, .any, .is (.pointer (some ⟨p, 0, none⟩)), .is (.pointer (some ⟨p, 1, none⟩))] j' v W ∧
      (j' = 14 → ∃ b, v = .slice (some ⟨b, 0, none⟩) 1 1 ∧ AtL encT W (some ⟨b, 0, none⟩) [⟨k, n, d⟩] ∧ tv.ownBlock ≠ some b) ∧ (j' = 15 → OwnD W v (KL ++ [⟨k, n, d⟩]) ∧ ∀ k, v.ownBlock = some k → tv.ownBlock = some k ∨ w3.heap.size ≤ k))
    (by kernel_rfl) rfl (by kernel_rfl) (by kernel_rfl)
    (fun j' v W W' hR h => ⟨facts_still rfl j' v W W' h.1, (fun e => by obtain ⟨b, hv, hB, hn⟩ := h.2.1 e; exact ⟨b, hv, hB.turn hR.1 (fun q e => by cases e; exact hn), hn⟩), (fun e => ⟨hR.2 _ _ (List.prefix_refl _) (h.2.2 e).1, (h.2.2 e).2⟩)⟩) (fun W W' hR h => h.step hpre hR) (fun _ => undef) (by kernel_rfl) (HSE.out.step hpre (SrR.of_below ((Below.refl _ _).drew))) ?F1 ?hF1 ?hstep1 ?hend1
  case hF1 =>
    intro u
    simp only [List.take, fillAct]
    go_simp
    rfl
  case hstep1 =>
    clear HSE
    refine FSteps.cons ?_ ?_
    · intro u W hS hd K hK
      clear hd
      simp only [upd, reduceIte, Nat.reduceEqDiff] at hK
      go_simp
      exact hK.out _ _ (SrR.of_below (Below.refl _ _)) ⟨rfl, (fun e => absurd e (by decide)), (fun e => absurd e (by decide))⟩
    refine FSteps.cons ?_ ?_
    · intro u W hS hd K hK
      clear hd
      simp only [upd, reduceIte, Nat.reduceEqDiff] at hK
      go_simp
      exact hK.out _ _ (SrR.of_below (Below.refl _ _)) ⟨rfl, (fun e => absurd e (by decide)), (fun e => absurd e (by decide))⟩
    refine FSteps.cons ?_ ?_
    · intro u W hS hd K hK
      have h1 : u 1 = _ := (hd 1 rfl).1
      clear hd
      simp only [upd, h1, reduceIte, Nat.reduceEqDiff] at hK
      go_simp
      exact hK.out _ _ (SrR.of_below (Below.refl _ _)) ⟨rfl, (fun e => absurd e (by decide)), (fun e => absurd e (by decide))⟩
    refine FSteps.cons ?_ ?_
    · intro u W hS hd K hK
      have h2 : u 2 = _ := (hd 2 rfl).1
      clear hd
      simp only [upd, h2, reduceIte, Nat.reduceEqDiff] at hK
      go_simp
      exact hK.out _ _ (SrR.of_below (Below.refl _ _)) ⟨rfl, (fun e => absurd e (by decide)), (fun e => absurd e (by decide))⟩
    refine FSteps.cons ?_ ?_
    · intro u W hS hd K hK
      have h3 : u 3 = _ := (hd 3 rfl).1
      clear hd
      simp only [upd, h3, reduceIte, Nat.reduceEqDiff] at hK
      have c0 := hS.row.cell 1 rfl
      go_simp
      exact hK.out _ _ (SrR.of_below (Below.refl _ _)) ⟨rfl, (fun e => absurd e (by decide)), (fun e => absurd e (by decide))⟩
    refine FSteps.cons ?_ ?_
    · intro u W hS hd K hK
      clear hd
      simp only [upd, reduceIte, Nat.reduceEqDiff] at hK
      go_simp
      exact hK.out _ _ (SrR.of_below (Below.refl _ _)) ⟨rfl, (fun e => absurd e (by decide)), (fun e => absurd e (by decide))⟩
    refine FSteps.cons ?_ ?_
    · intro u W hS hd K hK
      clear hd
      simp only [upd, reduceIte, Nat.reduceEqDiff] at hK
      go_simp
      exact hK.out _ _ (SrR.of_below (Below.refl _ _)) ⟨rfl, (fun e => absurd e (by decide)), (fun e => absurd e (by decide))⟩
    refine FSteps.cons ?_ ?_
    · intro u W hS hd K hK
      clear hd
      simp only [upd, reduceIte, Nat.reduceEqDiff] at hK
      go_simp
      exact hK.out _ _ (SrR.of_below (Below.refl _ _)) ⟨rfl, (fun e => absurd e (by decide)), (fun e => absurd e (by decide))⟩
    refine FSteps.cons ?_ ?_
    · intro u W hS hd K hK
      have h7 : u 7 = _ := (hd 7 rfl).1
      clear hd
      simp only [upd, h7, reduceIte, Nat.reduceEqDiff] at hK
      go_simp
      exact hK.out _ _ (SrR.of_below (Below.refl _ _)) ⟨rfl, (fun e => absurd e (by decide)), (fun e => absurd e (by decide))⟩
    refine FSteps.cons ?_ ?_
    · intro u W hS hd K hK
      have h8 : u 8 = _ := (hd 8 rfl).1
      clear hd
      simp only [upd, h8, reduceIte, Nat.reduceEqDiff] at hK
      go_simp
      exact hK.out _ _ (SrR.of_below (Below.refl _ _)) ⟨rfl, (fun e => absurd e (by decide)), (fun e => absurd e (by decide))⟩
    refine FSteps.cons ?_ ?_
    · intro u W hS hd K hK
      have h9 : u 9 = _ := (hd 9 rfl).1
      clear hd
      simp only [upd, h9, reduceIte, Nat.reduceEqDiff] at hK
      have c0 := hS.row.cell 0 rfl
      go_simp
      exact hK.out _ _ (SrR.of_below (Below.refl _ _)) ⟨rfl, (fun e => absurd e (by decide)), (fun e => absurd e (by decide))⟩
    refine FSteps.cons ?_ ?_
    · intro u W hS hd K hK
      clear hd
      simp only [upd, reduceIte, Nat.reduceEqDiff] at hK
      go_simp
      exact hK.out _ _ (SrR.of_below (Below.refl _ _)) ⟨rfl, (fun e => absurd e (by decide)), (fun e => absurd e (by decide))⟩
    refine FSteps.cons ?_ ?_
    · intro u W hS hd K hK
      have h10 : u 10 = _ := (hd 10 rfl).1
      have h11 : u 11 = _ := (hd 11 rfl).1
      clear hd
      simp only [upd, h10, h11, reduceIte, Nat.reduceEqDiff] at hK
      go_simp
      exact hK.out _ _ (SrR.of_below (Below.refl _ _)) ⟨congrArg (Value.int IntKind.i64) z1h.out, (fun e => absurd e (by decide)), (fun e => absurd e (by decide))⟩
    refine FSteps.cons ?_ ?_
    · intro u W hS hd K hK
      have h5 : u 5 = _ := (hd 5 rfl).1
      have h6 : u 6 = _ := (hd 6 rfl).1
      have h12 : u 12 = _ := (hd 12 rfl).1
      clear hd
      simp only [upd, h5, h6, h12, reduceIte, Nat.reduceEqDiff] at hK
      go_simp
      exact hK.out _ _ (SrR.of_below (Below.refl _ _)) ⟨rfl, (fun e => absurd e (by decide)), (fun e => absurd e (by decide))⟩
    refine FSteps.cons ?_ ?_
    · intro u W hS hd K hK
      have h13 : u 13 = _ := (hd 13 rfl).1
      clear hd
      simp only [upd, h13, reduceIte, Nat.reduceEqDiff] at hK
      have hne : tv.ownBlock ≠ some W.heap.size := (fun e => by have := hS.tw _ e; have := hS.turn.size; omega)
      go_simp
      exact hK.out _ _ (SrR.of_below ((Below.refl _ _).alloc (Nat.le_refl _) _)) ⟨trivial, (fun _ => ⟨_, rfl, AtL.made encT 45 _ _ ⟨k, n, d⟩ _ rfl rfl, hne⟩), (fun e => absurd e (by decide))⟩
    refine FSteps.cons ?_ ?_
    · intro u W hS hd K hK
      have h4 : u 4 = _ := (hd 4 rfl).1
      obtain ⟨b8, h14, B8, N8⟩ := (hd 14 rfl).2.1 rfl
      clear hd
      simp only [upd, h4, h14, reduceIte, Nat.reduceEqDiff] at hK
      obtain ⟨v', w7, hr, hown, hgr, hov, hpx⟩ := run_append_full encT 45 27 27 Try.underlying27 infoD rfl (by decide) W 0 tv KL hS.own ⟨b8, 0, none⟩ 1 [⟨k, n, d⟩] (at_news' B8) (by simp; omega) (Nat.zero_le _)
      rw [if_pos (by kernel_rfl)]
      simp only [h4, h14]
      refine wp_append_run (.tmp 36) (.tmp 46) rfl rfl rfl hr ?_
      exact hK.out _ _ (SrR.of_grown hgr hpx) ⟨trivial, (fun e => absurd e (by decide)), (fun _ => ⟨hown, own_or' hov hS.turn.size⟩)⟩
    refine FSteps.cons ?_ ?_
    · intro u W hS hd K hK
      have h0 : u 0 = _ := (hd 0 rfl).1
      clear hd
      simp only [upd, h0, reduceIte, Nat.reduceEqDiff] at hK
      go_simp
      exact hK.out _ _ (SrR.of_below (Below.refl _ _)) ⟨rfl, (fun e => absurd e (by decide)), (fun e => absurd e (by decide))⟩
    refine FSteps.cons ?_ ?_
    · intro u W hS hd K hK
      have h16 : u 16 = _ := (hd 16 rfl).1
      clear hd
      simp only [upd, h16, reduceIte, Nat.reduceEqDiff] at hK
      go_simp
      exact hK.out _ _ (SrR.of_below (Below.refl _ _)) ⟨rfl, (fun e => absurd e (by decide)), (fun e => absurd e (by decide))⟩
    exact trivial
  case hend1 =>
    intro u w6 hS hd
    have h17 : u 17 = _ := (hd 17 rfl).1
    have h15 := (hd 15 rfl).2.2 rfl
    obtain ⟨va, vn, vc, hv'⟩ := OwnL.form' h15.1
    rw [hv'] at h15
    have HE := Lib.hid (hS.done h15.1 h15.2 HPW.out)
    have c0 := hS.row.cell 1 rfl
    have f0 := (hS.row.get 1 rfl).free
    simp only [hv', h17]
    clear hd hS h15 hv' h17
    refine wpAny_ready (rs := [18]) (by kernel_rfl) (by simp) ?_
    refine AllReady.cons rfl (fun K hK => ?_) AllReady.nil
    go_simp
    refine hK _ _ ?_
    clear hK K
    refine wpAny_done (by kernel_rfl) ?_ _
    go_wp2_with fail
    refine bodyPost_ret (v := .int .i64 0) (by simp [results, Try.results9, go_sem]) rfl ⟨_, rfl, HE.out.1, ?_⟩
    have ha := HT3.out
    rw [HFF.out] at ha
    have hb1 := Turn.trans (Turn.of_below HB2.out) ha.1 (Grew.refl F w)
    have hb2 := Grew.trans (Grew.refl F w) ha.2 HB2.out.size
    exact ⟨Turn.trans hb1 HE.out.2.1 hb2, Grew.trans hb2 HE.out.2.2 hb1.size⟩
theorem rset13_any (a : Nm) (x : Int) (p : Nat) (now : Int) (L : List Tm) (F : Nat → Prop) (w : World) (h : RkL w p now L F) (hl : L.length ≤ 32) (hp : L.Pairwise fun s t => eqN s.nm t.nm = false) (hnow : 0 ≤ now ∧ now ≤ 10000) : Calls Try.prog 9 #[.pointer (some ⟨p, 0, none⟩), .int .i64 a.k, .int .i64 a.n, .int .i64 x] w fun e w' =>
    ∃ F', e = .returned (.int .i64 (rsetT a x now L).2) ∧ RkL w' p now (rsetT a x now L).1 F' ∧ Turn F w w' ∧ Grew F F' w := by
  unfold rsetT
  by_cases hx : x < 1 ∨ 10000 < x
  · rw [if_pos hx]
    exact (rset13_bad a.k a.n x p w hx).mono fun e w' ⟨he, hb⟩ => ⟨F, he, by rw [hb]; exact h, by rw [hb]; exact Turn.refl _ _, Grew.refl F w⟩
  · rw [if_neg hx]
    by_cases h0 : atF a L 0 < 0
    · by_cases h32 : L.length = 32
      · rw [if_pos ⟨h0, h32⟩]
        exact (rset13_full a.k a.n x p now L F w h (by omega) h0 h32).mono fun e w' ⟨he, hb⟩ => ⟨F, he, h.below hb, Turn.of_below hb, Grew.refl F w⟩
      · rw [if_neg (fun q => h32 q.2)]
        exact rset13_some0 a.k a.n x p now L F w h hl hp (by omega) hnow ⟨h0, h32⟩
    · rw [if_neg (fun q => h0 q.1)]
      exact rset13_some1 a.k a.n x p now L F w h hl hp (by omega) hnow h0
end Go.Proofs.Ytchhaolgmdhnmaa
