/-
The landed clock: Set.
-/
import Derived.Test.YtchhaolgmdhnmaaClkStop
import Derived.Test.YtchhaolgmdhnmaaInts
namespace Go.Proofs.Ytchhaolgmdhnmaa
open Go.RowKit
set_option maxRecDepth 20000
theorem anyN_one (a : Nm) : (fun t : Tm => anyN t.nm [a]) = isT a := by
  funext t
  simp [anyN, isT]
theorem at_news {α : Type} {E : Enc α} {w : World} {g : Nat} {u : α} (h : AtL E w (some ⟨g, 0, none⟩) [u]) : ∀ j y, (flatE E [u])[j]? = some y → w.cell? ((⟨g, 0, none⟩ : Addr).add j) = some y := by
  intro j y hj
  rw [flatE_single] at hj
  have := h.get 0 (by simp) j hj
  have e : (⟨g, 0, none⟩ : Addr).add j = ⟨g, j, none⟩ := by unfold Addr.add; split <;> simp_all
  rw [e]
  simpa using this
theorem own_or {v' tv : Value} {n m : Nat} (h : v'.ownBlock = tv.ownBlock ∨ v'.ownBlock = some n) (hm : m ≤ n) : ∀ k, v'.ownBlock = some k → tv.ownBlock = some k ∨ m ≤ k := by
  intro k e
  rcases h with q | q
  · exact Or.inl (q ▸ e)
  · rw [q] at e
    cases e
    exact Or.inr hm
set_option maxHeartbeats 1000000 in
theorem cset13_nil (a : Nm) (x : Int) (w : World) : Calls Try.prog 8 #[.pointer none, .agg #[.int .i64 a.k, .int .i64 a.n], .int .i64 x] w fun e w' => e = .returned (.int .i64 1) ∧ Below w.heap.size w w' := by
  obtain ⟨ak, an⟩ := a
  have HB0 := Lib.hid ((Below.refl w.heap.size w).alloc (Nat.le_refl _) (.cells #[.int .i64 ak, .int .i64 an] 31))
  go_enter Try.func8, Try.ntmps8
  go_wp2_with fail
  exact bodyPost_ret (v := .int .i64 1) (by simp [results, Try.results8, go_sem]) rfl ⟨rfl, HB0.out⟩
set_option maxHeartbeats 1000000 in
theorem cset13_bad (a : Nm) (x : Int) (p : Nat) (w : World) (hx : x < 1 ∨ 10000 < x) : Calls Try.prog 8 #[.pointer (some ⟨p, 0, none⟩), .agg #[.int .i64 a.k, .int .i64 a.n], .int .i64 x] w fun e w' => e = .returned (.int .i64 1) ∧ Below w.heap.size w w' := by
  obtain ⟨ak, an⟩ := a
  have HB0 := Lib.hid ((Below.refl w.heap.size w).alloc (Nat.le_refl _) (.cells #[.int .i64 ak, .int .i64 an] 31))
  by_cases h1 : x < 1
  · have d1 : decide (x < 1) = true := decide_eq_true h1
    clear hx h1
    go_enter Try.func8, Try.ntmps8
    go_wp2_with fail
    exact bodyPost_ret (v := .int .i64 1) (by simp [results, Try.results8, go_sem]) rfl ⟨rfl, HB0.out⟩
  · have d1 : decide (x < 1) = false := decide_eq_false h1
    have d2 : decide (10000 < x) = true := decide_eq_true (by omega)
    clear hx h1
    go_enter Try.func8, Try.ntmps8
    go_wp2_with fail
    exact bodyPost_ret (v := .int .i64 1) (by simp [results, Try.results8, go_sem]) rfl ⟨rfl, HB0.out⟩
set_option maxHeartbeats 1000000 in
theorem cset13_full (a : Nm) (x : Int) (p : Nat) (L : List Tm) (F : Nat → Prop) (w : World) (h : CkL w p L F) (hl : L.length ≤ 32) (hx : 1 ≤ x ∧ x ≤ 10000) (h0 : leftT a L = 0) (h32 : 32 ≤ L.length) : Calls Try.prog 8 #[.pointer (some ⟨p, 0, none⟩), .agg #[.int .i64 a.k, .int .i64 a.n], .int .i64 x] w fun e w' => e = .returned (.int .i64 6) ∧ Below w.heap.size w w' := by
  have HL := Lib.hid (fun W (hb : Below w.heap.size w W) => cleft_any a p L F W (h.below hb) (by omega))
  rw [h0] at HL
  obtain ⟨ak, an⟩ := a
  have HB0 := Lib.hid ((Below.refl w.heap.size w).alloc (Nat.le_refl _) (.cells #[.int .i64 ak, .int .i64 an] 31))
  have d1 : decide (x < 1) = false := decide_eq_false (by omega)
  have d2 : decide (10000 < x) = false := decide_eq_false (by omega)
  obtain ⟨v, hr, ho, -, -⟩ := h
  obtain ⟨ad, c, rfl⟩ := ho.form2
  have e : L.length = 32 := by omega
  rw [e] at hr
  have HR := Lib.hid hr
  clear hr ho h32 hl hx h0 e
  go_enter Try.func8, Try.ntmps8
  go_wp2_with (go_at_call 19; (with_reducible refine (HL.out _ HB0.out).mono ?_); rintro e w2 ⟨rfl, hb⟩; have HB2 := Lib.hid (HB0.out.trans (hb.mono HB0.out.size)); have c0 := (HR.out.below HB2.out).cell 0 rfl)
  exact bodyPost_ret (v := .int .i64 6) (by simp [results, Try.results8, go_sem]) rfl ⟨rfl, HB2.out⟩
/-- behind Stop, amid the last step -/
structure SeAt (w3 : World) (p b : Nat) (ak an : Int) (tv : Value) (L : List Tm) (W : World) : Prop where
  row : RowAt W p [tv]
  box : RowAt W b [.int .i64 ak, .int .i64 an]
  own : OwnT W tv L
  turn : Turn (fun k => k = p ∨ tv.ownBlock = some k) w3 W
  pv : tv.ownBlock ≠ some p
  bv : tv.ownBlock ≠ some b
  tw : ∀ k, tv.ownBlock = some k → k < w3.heap.size
/-- what an operation may do there -/
def SeR (tv : Value) (M : List Tm) (W W' : World) : Prop := Turn (fun k => tv.ownBlock = some k) W W' ∧ ∀ X x, X <+: M → OwnT W x X → OwnT W' x X
theorem SeR.of_below {tv : Value} {M : List Tm} {W W' : World} (h : Below W.heap.size W W') : SeR tv M W W' := ⟨Turn.of_below h, fun _ _ _ k => k.below h⟩
theorem SeR.of_grown {tv : Value} {M : List Tm} {W W' : World} (h : W.grownBy W' tv.ownBlock) (k : ∀ X B' x, X <+: M → OwnL encT 54 W B' x X → OwnL encT 54 W' B' x X) : SeR tv M W W' :=
  ⟨⟨h.os, h.tape, h.output, h.size, fun b hb hF => h.block b hb (fun e => hF e.symm)⟩, fun X x => k X 0 x⟩
theorem SeAt.step {w3 : World} {p b : Nat} {ak an : Int} {tv : Value} {L M : List Tm} {W W' : World} (h : SeAt w3 p b ak an tv L W) (hM : L <+: M) (hR : SeR tv M W W') : SeAt w3 p b ak an tv L W' :=
  ⟨h.row.turn hR.1 h.pv, h.box.turn hR.1 h.bv, hR.2 L tv hM h.own, Turn.trans h.turn hR.1 (fun _ hk => Or.inl (Or.inr hk)), h.pv, h.bv, h.tw⟩
/-- all is done -/
theorem SeAt.done {w3 : World} {p b : Nat} {ak an : Int} {tv v' : Value} {L M : List Tm} {W : World} (h : SeAt w3 p b ak an tv L W) (ho : OwnT W v' M) (hv : ∀ k, v'.ownBlock = some k → tv.ownBlock = some k ∨ w3.heap.size ≤ k) (hp : p < w3.heap.size) :
    CkL (W.setCell ⟨p, 0, none⟩ v') p M (fun k => k = p ∨ v'.ownBlock = some k) ∧ Turn (fun k => k = p ∨ tv.ownBlock = some k) w3 (W.setCell ⟨p, 0, none⟩ v') ∧ Grew (fun k => k = p ∨ tv.ownBlock = some k) (fun k => k = p ∨ v'.ownBlock = some k) w3 := by
  have hne : v'.ownBlock ≠ some p := fun e => by
    rcases hv p e with q | q
    · exact h.pv q
    · omega
  refine ⟨⟨v', h.row.put 0 v' _ rfl, ho.same (fun g e => Below.heap_setCell _ _ _ _ (show g ≠ p from fun q => hne (q ▸ e))), hne, rfl⟩, h.turn.set (p := ⟨p, 0, none⟩) (Or.inl (Or.inl rfl)) _, fun k hk => ?_⟩
  rcases hk with rfl | e
  · exact Or.inl (Or.inl rfl)
  · exact (hv k e).imp Or.inr id
set_option maxHeartbeats 2000000 in
theorem cset13_some0 (a : Nm) (x : Int) (p : Nat) (L : List Tm) (F : Nat → Prop) (w : World) (h : CkL w p L F) (hl : L.length ≤ 32) (hx : 1 ≤ x ∧ x ≤ 10000) (hfull : leftT a L = 0 ∧ L.length < 32) : Calls Try.prog 8 #[.pointer (some ⟨p, 0, none⟩), .agg #[.int .i64 a.k, .int .i64 a.n], .int .i64 x] w fun e w' =>
    ∃ F', e = .returned (.int .i64 0) ∧ CkL w' p (stopT a L ++ [⟨a.k, a.n, x⟩]) F' ∧ Turn F w w' ∧ Grew F F' w := by
  have HH := Lib.hid h
  have HL := Lib.hid (fun W (hb : Below w.heap.size w W) => cleft_any a p L F W (h.below hb) (by omega))
  have HST := Lib.hid (fun W (hb : Below w.heap.size w W) => cstop13_any p L F (some ⟨W.heap.size, 0, none⟩) 1 1 [a] (W.alloc (.cells #[.int .i64 a.k, .int .i64 a.n] 31)) (h.below (hb.alloc hb.size _)) hl rfl (AtL.made encN _ W W.heap.size a _ rfl rfl) (by omega)
    (fun q e hf => by
      cases e
      have h5 : W.heap.size < w.heap.size := h.mem _ hf
      have := hb.size
      omega))
  rw [anyN_one a] at HST
  obtain ⟨ak, an⟩ := a
  have hsl : (stopT ⟨ak, an⟩ L).length ≤ 1000 := Nat.le_trans (List.length_filter_le _ _) (by omega)
  have hst : keepL (isT ⟨ak, an⟩) L = stopT ⟨ak, an⟩ L := rfl
  rw [hst] at HST
  simp only at HST HL ⊢
  obtain ⟨KL, hKL⟩ : ∃ KL, stopT ⟨ak, an⟩ L = KL := ⟨_, rfl⟩
  obtain ⟨N, hN⟩ : ∃ N, cntT (isT ⟨ak, an⟩) L = N := ⟨_, rfl⟩
  rw [hKL, hN] at HST
  rw [hKL] at hsl ⊢
  clear hst hKL hN
  have HB0 := Lib.hid ((Below.refl w.heap.size w).alloc (Nat.le_refl _) (.cells #[.int .i64 ak, .int .i64 an] 31))
  have HBX := Lib.hid (RowAt.new w w.heap.size rfl [.int .i64 ak, .int .i64 an] 31)
  have d1 : decide (x < 1) = false := decide_eq_false (by omega)
  have d2 : decide (10000 < x) = false := decide_eq_false (by omega)
  obtain ⟨v, hr, ho, -, -⟩ := h
  obtain ⟨ad, c, rfl⟩ := ho.form2
  have HR := Lib.hid hr
  clear hr ho hx
  obtain ⟨n, hn⟩ : ∃ n, L.length = n := ⟨_, rfl⟩
  obtain ⟨l, hlf⟩ : ∃ l, leftT ⟨ak, an⟩ L = l := ⟨_, rfl⟩
  rw [hn] at HR hfull
  rw [hlf] at HL hfull
  clear hl hn hlf
  have d3 : decide ((32 : Int) ≤ (n : Int)) = false := decide_eq_false (by omega)
  have hl0 := hfull.1
  subst hl0
  clear hfull
  go_enter Try.func8, Try.ntmps8
  go_upto_region 6 with (first
    | (go_at_call 19; (with_reducible refine (HL.out _ HB0.out).mono ?_); rintro e w2 ⟨rfl, hb⟩; have HB2 := Lib.hid (HB0.out.trans (hb.mono HB0.out.size)); have c0 := (HR.out.below HB2.out).cell 0 rfl; have HX2 := Lib.hid (HBX.out.below hb); have k0 := HX2.out.cell 0 rfl; have k1 := HX2.out.cell 1 rfl; have hkl := (HX2.out.get 0 rfl).lt; clear hb)
    | (go_at_call 10; (with_reducible refine (HST.out _ HB2.out).mono ?_); rintro e w3 ⟨rfl, hc, ht⟩; have HC3 := Lib.hid hc; have HT3 := Lib.hid ht; have HG3 := Lib.hid (Grew.refl F (w2.alloc (.cells #[.int .i64 ak, .int .i64 an] 31))); clear hc ht k0 k1 c0))
  obtain ⟨tv, hr3, ho3, hn3, hF3⟩ := HC3.out
  have hnF : ¬ F w.heap.size := fun hf => by
    have := HH.out.mem _ hf
    omega
  have hbF := hnF
  have HSE := Lib.hid (show SeAt w3 p w.heap.size ak an tv KL w3 from ⟨hr3, (HX2.out.alloc _).turn HT3.out hnF, ho3, Turn.refl _ _, hn3, (fun e => hbF (by rw [hF3]; exact Or.inr e)), fun k e => (ho3.ge e).2⟩)
  have HPW := Lib.hid hr3.lt
  have HFF := Lib.hid hF3
  have HTT := Lib.hid (And.intro HT3.out HG3.out)
  have HB22 := Lib.hid (HB2.out.alloc HB2.out.size (.cells #[.int .i64 ak, .int .i64 an] 31))
  have hpre : KL <+: KL ++ [⟨ak, an, x⟩] := List.prefix_append _ _
  clear hr3 ho3 hn3 hF3 hnF hbF hkl HC3 HT3 HG3 HX2 HB2 HST HL HR HBX HB0 HH
  refine wp_region_upto 12 0 (fun W W' => SeR tv (KL ++ [⟨ak, an, x⟩]) W W') (fun W => SeAt w3 p w.heap.size ak an tv KL W)
    (fun j' v W => factsOf [.is (.pointer (some ⟨p, 0, none⟩)), .is (.pointer (some ⟨p, 0, none⟩)), .is (.pointer (some ⟨p, 0, none⟩)), .is (.pointer (some ⟨p, 0, none⟩)), .is tv, .is (.agg #[.int .i64 ak, .int .i64 an]), .is (.int .i64 x), .is (.agg #[.int .i64 ak, .int .i64 an, .int .i64 x]), .any, .any, .is (.pointer (some ⟨p, 0, none⟩)), .is (.pointer (some ⟨p, 0, none⟩))] j' v W ∧
      (j' = 8 → ∃ b, v = .slice (some ⟨b, 0, none⟩) 1 1 ∧ AtL encT W (some ⟨b, 0, none⟩) [⟨ak, an, x⟩] ∧ tv.ownBlock ≠ some b) ∧ (j' = 9 → OwnT W v (KL ++ [⟨ak, an, x⟩]) ∧ ∀ k, v.ownBlock = some k → tv.ownBlock = some k ∨ w3.heap.size ≤ k))
    (by kernel_rfl) rfl (by kernel_rfl) (by kernel_rfl)
    (fun j' v W W' hR h => ⟨facts_still rfl j' v W W' h.1, (fun e => by obtain ⟨b, hv, hB, hn⟩ := h.2.1 e; exact ⟨b, hv, hB.turn hR.1 (fun q e => by cases e; exact hn), hn⟩), (fun e => ⟨hR.2 _ _ (List.prefix_refl _) (h.2.2 e).1, (h.2.2 e).2⟩)⟩) (fun W W' hR h => h.step hpre hR) (fun _ => undef) (by kernel_rfl) (HSE.out.step hpre (SeR.of_below ((Below.refl _ _).drew))) ?F1 ?hF1 ?hstep1 ?hend1
  case hF1 =>
    intro u
    simp only [List.take, fillAct]
    go_simp
    rfl
  case hstep1 =>
    clear HSE
    refine FSteps.cons ?_ ?_
    · intro u W hS hd K hK
      clear hd
      simp only [upd, reduceIte, Nat.reduceEqDiff] at hK
      go_simp
      exact hK.out _ _ (SeR.of_below (Below.refl _ _)) ⟨rfl, (fun e => absurd e (by decide)), (fun e => absurd e (by decide))⟩
    refine FSteps.cons ?_ ?_
    · intro u W hS hd K hK
      clear hd
      simp only [upd, reduceIte, Nat.reduceEqDiff] at hK
      go_simp
      exact hK.out _ _ (SeR.of_below (Below.refl _ _)) ⟨rfl, (fun e => absurd e (by decide)), (fun e => absurd e (by decide))⟩
    refine FSteps.cons ?_ ?_
    · intro u W hS hd K hK
      have h1 : u 1 = _ := (hd 1 rfl).1
      clear hd
      simp only [upd, h1, reduceIte, Nat.reduceEqDiff] at hK
      go_simp
      exact hK.out _ _ (SeR.of_below (Below.refl _ _)) ⟨rfl, (fun e => absurd e (by decide)), (fun e => absurd e (by decide))⟩
    refine FSteps.cons ?_ ?_
    · intro u W hS hd K hK
      have h2 : u 2 = _ := (hd 2 rfl).1
      clear hd
      simp only [upd, h2, reduceIte, Nat.reduceEqDiff] at hK
      go_simp
      exact hK.out _ _ (SeR.of_below (Below.refl _ _)) ⟨rfl, (fun e => absurd e (by decide)), (fun e => absurd e (by decide))⟩
    refine FSteps.cons ?_ ?_
    · intro u W hS hd K hK
      have h3 : u 3 = _ := (hd 3 rfl).1
      clear hd
      simp only [upd, h3, reduceIte, Nat.reduceEqDiff] at hK
      have c0 := hS.row.cell 0 rfl
      go_simp
      exact hK.out _ _ (SeR.of_below (Below.refl _ _)) ⟨rfl, (fun e => absurd e (by decide)), (fun e => absurd e (by decide))⟩
    refine FSteps.cons ?_ ?_
    · intro u W hS hd K hK
      clear hd
      simp only [upd, reduceIte, Nat.reduceEqDiff] at hK
      have c0 := hS.box.cell 0 rfl
      have c1 := hS.box.cell 1 rfl
      go_simp
      exact hK.out _ _ (SeR.of_below (Below.refl _ _)) ⟨rfl, (fun e => absurd e (by decide)), (fun e => absurd e (by decide))⟩
    refine FSteps.cons ?_ ?_
    · intro u W hS hd K hK
      clear hd
      simp only [upd, reduceIte, Nat.reduceEqDiff] at hK
      go_simp
      exact hK.out _ _ (SeR.of_below (Below.refl _ _)) ⟨rfl, (fun e => absurd e (by decide)), (fun e => absurd e (by decide))⟩
    refine FSteps.cons ?_ ?_
    · intro u W hS hd K hK
      have h5 : u 5 = _ := (hd 5 rfl).1
      have h6 : u 6 = _ := (hd 6 rfl).1
      clear hd
      simp only [upd, h5, h6, reduceIte, Nat.reduceEqDiff] at hK
      go_simp
      exact hK.out _ _ (SeR.of_below (Below.refl _ _)) ⟨rfl, (fun e => absurd e (by decide)), (fun e => absurd e (by decide))⟩
    refine FSteps.cons ?_ ?_
    · intro u W hS hd K hK
      have h7 : u 7 = _ := (hd 7 rfl).1
      clear hd
      simp only [upd, h7, reduceIte, Nat.reduceEqDiff] at hK
      have hne : tv.ownBlock ≠ some W.heap.size := (fun e => by have := hS.tw _ e; have := hS.turn.size; omega)
      go_simp
      exact hK.out _ _ (SeR.of_below ((Below.refl _ _).alloc (Nat.le_refl _) _)) ⟨trivial, (fun _ => ⟨_, rfl, AtL.made encT 54 _ _ ⟨ak, an, x⟩ _ rfl rfl, hne⟩), (fun e => absurd e (by decide))⟩
    refine FSteps.cons ?_ ?_
    · intro u W hS hd K hK
      have h4 : u 4 = _ := (hd 4 rfl).1
      obtain ⟨b8, h8, B8, N8⟩ := (hd 8 rfl).2.1 rfl
      clear hd
      simp only [upd, h4, h8, reduceIte, Nat.reduceEqDiff] at hK
      obtain ⟨v', w7, hr, hown, hgr, hov, hpx⟩ := run_append_full encT 54 50 50 Try.underlying50 infoT rfl (by decide) W 0 tv KL hS.own ⟨b8, 0, none⟩ 1 [⟨ak, an, x⟩] (at_news B8) (by simp; omega) (Nat.zero_le _)
      rw [if_pos (by kernel_rfl)]
      simp only [h4, h8]
      refine wp_append_run (.tmp 39) (.tmp 43) rfl rfl rfl hr ?_
      exact hK.out _ _ (SeR.of_grown hgr hpx) ⟨trivial, (fun e => absurd e (by decide)), (fun _ => ⟨hown, own_or hov hS.turn.size⟩)⟩
    refine FSteps.cons ?_ ?_
    · intro u W hS hd K hK
      have h0 : u 0 = _ := (hd 0 rfl).1
      clear hd
      simp only [upd, h0, reduceIte, Nat.reduceEqDiff] at hK
      go_simp
      exact hK.out _ _ (SeR.of_below (Below.refl _ _)) ⟨rfl, (fun e => absurd e (by decide)), (fun e => absurd e (by decide))⟩
    refine FSteps.cons ?_ ?_
    · intro u W hS hd K hK
      have h10 : u 10 = _ := (hd 10 rfl).1
      clear hd
      simp only [upd, h10, reduceIte, Nat.reduceEqDiff] at hK
      go_simp
      exact hK.out _ _ (SeR.of_below (Below.refl _ _)) ⟨rfl, (fun e => absurd e (by decide)), (fun e => absurd e (by decide))⟩
    exact trivial
  case hend1 =>
    intro u w6 hS hd
    have h11 : u 11 = _ := (hd 11 rfl).1
    have h9 := (hd 9 rfl).2.2 rfl
    obtain ⟨va, vn, vc, hv'⟩ := OwnL.form' h9.1
    rw [hv'] at h9
    have HE := Lib.hid (hS.done h9.1 h9.2 HPW.out)
    have c0 := hS.row.cell 0 rfl
    have f0 := (hS.row.get 0 rfl).free
    simp only [hv', h11]
    clear hd hS h9 hv' h11
    refine wpAny_ready (rs := [12]) (by kernel_rfl) (by simp) ?_
    refine AllReady.cons rfl (fun K hK => ?_) AllReady.nil
    go_simp
    refine hK _ _ ?_
    clear hK K
    refine wpAny_done (by kernel_rfl) ?_ _
    go_wp2_with fail
    refine bodyPost_ret (v := .int .i64 0) (by simp [results, Try.results8, go_sem]) rfl ⟨_, rfl, HE.out.1, ?_⟩
    have hb := Turn.after_ HB22.out HTT.out.1 HTT.out.2
    have he := HE.out.2
    rw [← HFF.out] at he
    exact ⟨Turn.trans hb.1 he.1 hb.2, Grew.trans hb.2 he.2 hb.1.size⟩
set_option maxHeartbeats 2000000 in
theorem cset13_some1 (a : Nm) (x : Int) (p : Nat) (L : List Tm) (F : Nat → Prop) (w : World) (h : CkL w p L F) (hl : L.length ≤ 32) (hx : 1 ≤ x ∧ x ≤ 10000) (hfull : leftT a L ≠ 0) : Calls Try.prog 8 #[.pointer (some ⟨p, 0, none⟩), .agg #[.int .i64 a.k, .int .i64 a.n], .int .i64 x] w fun e w' =>
    ∃ F', e = .returned (.int .i64 0) ∧ CkL w' p (stopT a L ++ [⟨a.k, a.n, x⟩]) F' ∧ Turn F w w' ∧ Grew F F' w := by
  have HH := Lib.hid h
  have HL := Lib.hid (fun W (hb : Below w.heap.size w W) => cleft_any a p L F W (h.below hb) (by omega))
  have HST := Lib.hid (fun W (hb : Below w.heap.size w W) => cstop13_any p L F (some ⟨W.heap.size, 0, none⟩) 1 1 [a] (W.alloc (.cells #[.int .i64 a.k, .int .i64 a.n] 31)) (h.below (hb.alloc hb.size _)) hl rfl (AtL.made encN _ W W.heap.size a _ rfl rfl) (by omega)
    (fun q e hf => by
      cases e
      have h5 : W.heap.size < w.heap.size := h.mem _ hf
      have := hb.size
      omega))
  rw [anyN_one a] at HST
  obtain ⟨ak, an⟩ := a
  have hsl : (stopT ⟨ak, an⟩ L).length ≤ 1000 := Nat.le_trans (List.length_filter_le _ _) (by omega)
  have hst : keepL (isT ⟨ak, an⟩) L = stopT ⟨ak, an⟩ L := rfl
  rw [hst] at HST
  simp only at HST HL ⊢
  obtain ⟨KL, hKL⟩ : ∃ KL, stopT ⟨ak, an⟩ L = KL := ⟨_, rfl⟩
  obtain ⟨N, hN⟩ : ∃ N, cntT (isT ⟨ak, an⟩) L = N := ⟨_, rfl⟩
  rw [hKL, hN] at HST
  rw [hKL] at hsl ⊢
  clear hst hKL hN
  have HB0 := Lib.hid ((Below.refl w.heap.size w).alloc (Nat.le_refl _) (.cells #[.int .i64 ak, .int .i64 an] 31))
  have HBX := Lib.hid (RowAt.new w w.heap.size rfl [.int .i64 ak, .int .i64 an] 31)
  have d1 : decide (x < 1) = false := decide_eq_false (by omega)
  have d2 : decide (10000 < x) = false := decide_eq_false (by omega)
  obtain ⟨v, hr, ho, -, -⟩ := h
  obtain ⟨ad, c, rfl⟩ := ho.form2
  have HR := Lib.hid hr
  clear hr ho hx
  obtain ⟨n, hn⟩ : ∃ n, L.length = n := ⟨_, rfl⟩
  obtain ⟨l, hlf⟩ : ∃ l, leftT ⟨ak, an⟩ L = l := ⟨_, rfl⟩
  rw [hn] at HR
  rw [hlf] at HL hfull
  clear hl hn hlf
  have d3 : (l == 0) = false := by simpa using hfull
  clear hfull
  go_enter Try.func8, Try.ntmps8
  go_upto_region 6 with (first
    | (go_at_call 19; (with_reducible refine (HL.out _ HB0.out).mono ?_); rintro e w2 ⟨rfl, hb⟩; have HB2 := Lib.hid (HB0.out.trans (hb.mono HB0.out.size)); have c0 := (HR.out.below HB2.out).cell 0 rfl; have HX2 := Lib.hid (HBX.out.below hb); have k0 := HX2.out.cell 0 rfl; have k1 := HX2.out.cell 1 rfl; have hkl := (HX2.out.get 0 rfl).lt; clear hb)
    | (go_at_call 10; (with_reducible refine (HST.out _ HB2.out).mono ?_); rintro e w3 ⟨rfl, hc, ht⟩; have HC3 := Lib.hid hc; have HT3 := Lib.hid ht; have HG3 := Lib.hid (Grew.refl F (w2.alloc (.cells #[.int .i64 ak, .int .i64 an] 31))); clear hc ht k0 k1 c0))
  obtain ⟨tv, hr3, ho3, hn3, hF3⟩ := HC3.out
  have hnF : ¬ F w.heap.size := fun hf => by
    have := HH.out.mem _ hf
    omega
  have hbF := hnF
  have HSE := Lib.hid (show SeAt w3 p w.heap.size ak an tv KL w3 from ⟨hr3, (HX2.out.alloc _).turn HT3.out hnF, ho3, Turn.refl _ _, hn3, (fun e => hbF (by rw [hF3]; exact Or.inr e)), fun k e => (ho3.ge e).2⟩)
  have HPW := Lib.hid hr3.lt
  have HFF := Lib.hid hF3
  have HTT := Lib.hid (And.intro HT3.out HG3.out)
  have HB22 := Lib.hid (HB2.out.alloc HB2.out.size (.cells #[.int .i64 ak, .int .i64 an] 31))
  have hpre : KL <+: KL ++ [⟨ak, an, x⟩] := List.prefix_append _ _
  clear hr3 ho3 hn3 hF3 hnF hbF hkl HC3 HT3 HG3 HX2 HB2 HST HL HR HBX HB0 HH
  refine wp_region_upto 12 0 (fun W W' => SeR tv (KL ++ [⟨ak, an, x⟩]) W W') (fun W => SeAt w3 p w.heap.size ak an tv KL W)
    (fun j' v W => factsOf [.is (.pointer (some ⟨p, 0, none⟩)), .is (.pointer (some ⟨p, 0, none⟩)), .is (.pointer (some ⟨p, 0, none⟩)), .is (.pointer (some ⟨p, 0, none⟩)), .is tv, .is (.agg #[.int .i64 ak, .int .i64 an]), .is (.int .i64 x), .is (.agg #[.int .i64 ak, .int .i64 an, .int .i64 x]), .any, .any, .is (.pointer (some ⟨p, 0, none⟩)), .is (.pointer (some ⟨p, 0, none⟩))] j' v W ∧
      (j' = 8 → ∃ b, v = .slice (some ⟨b, 0, none⟩) 1 1 ∧ AtL encT W (some ⟨b, 0, none⟩) [⟨ak, an, x⟩] ∧ tv.ownBlock ≠ some b) ∧ (j' = 9 → OwnT W v (KL ++ [⟨ak, an, x⟩]) ∧ ∀ k, v.ownBlock = some k → tv.ownBlock = some k ∨ w3.heap.size ≤ k))
    (by kernel_rfl) rfl (by kernel_rfl) (by kernel_rfl)
    (fun j' v W W' hR h => ⟨facts_still rfl j' v W W' h.1, (fun e => by obtain ⟨b, hv, hB, hn⟩ := h.2.1 e; exact ⟨b, hv, hB.turn hR.1 (fun q e => by cases e; exact hn), hn⟩), (fun e => ⟨hR.2 _ _ (List.prefix_refl _) (h.2.2 e).1, (h.2.2 e).2⟩)⟩) (fun W W' hR h => h.step hpre hR) (fun _ => undef) (by kernel_rfl) (HSE.out.step hpre (SeR.of_below ((Below.refl _ _).drew))) ?F1 ?hF1 ?hstep1 ?hend1
  case hF1 =>
    intro u
    simp only [List.take, fillAct]
    go_simp
    rfl
  case hstep1 =>
    clear HSE
    refine FSteps.cons ?_ ?_
    · intro u W hS hd K hK
      clear hd
      simp only [upd, reduceIte, Nat.reduceEqDiff] at hK
      go_simp
      exact hK.out _ _ (SeR.of_below (Below.refl _ _)) ⟨rfl, (fun e => absurd e (by decide)), (fun e => absurd e (by decide))⟩
    refine FSteps.cons ?_ ?_
    · intro u W hS hd K hK
      clear hd
      simp only [upd, reduceIte, Nat.reduceEqDiff] at hK
      go_simp
      exact hK.out _ _ (SeR.of_below (Below.refl _ _)) ⟨rfl, (fun e => absurd e (by decide)), (fun e => absurd e (by decide))⟩
    refine FSteps.cons ?_ ?_
    · intro u W hS hd K hK
      have h1 : u 1 = _ := (hd 1 rfl).1
      clear hd
      simp only [upd, h1, reduceIte, Nat.reduceEqDiff] at hK
      go_simp
      exact hK.out _ _ (SeR.of_below (Below.refl _ _)) ⟨rfl, (fun e => absurd e (by decide)), (fun e => absurd e (by decide))⟩
    refine FSteps.cons ?_ ?_
    · intro u W hS hd K hK
      have h2 : u 2 = _ := (hd 2 rfl).1
      clear hd
      simp only [upd, h2, reduceIte, Nat.reduceEqDiff] at hK
      go_simp
      exact hK.out _ _ (SeR.of_below (Below.refl _ _)) ⟨rfl, (fun e => absurd e (by decide)), (fun e => absurd e (by decide))⟩
    refine FSteps.cons ?_ ?_
    · intro u W hS hd K hK
      have h3 : u 3 = _ := (hd 3 rfl).1
      clear hd
      simp only [upd, h3, reduceIte, Nat.reduceEqDiff] at hK
      have c0 := hS.row.cell 0 rfl
      go_simp
      exact hK.out _ _ (SeR.of_below (Below.refl _ _)) ⟨rfl, (fun e => absurd e (by decide)), (fun e => absurd e (by decide))⟩
    refine FSteps.cons ?_ ?_
    · intro u W hS hd K hK
      clear hd
      simp only [upd, reduceIte, Nat.reduceEqDiff] at hK
      have c0 := hS.box.cell 0 rfl
      have c1 := hS.box.cell 1 rfl
      go_simp
      exact hK.out _ _ (SeR.of_below (Below.refl _ _)) ⟨rfl, (fun e => absurd e (by decide)), (fun e => absurd e (by decide))⟩
    refine FSteps.cons ?_ ?_
    · intro u W hS hd K hK
      clear hd
      simp only [upd, reduceIte, Nat.reduceEqDiff] at hK
      go_simp
      exact hK.out _ _ (SeR.of_below (Below.refl _ _)) ⟨rfl, (fun e => absurd e (by decide)), (fun e => absurd e (by decide))⟩
    refine FSteps.cons ?_ ?_
    · intro u W hS hd K hK
      have h5 : u 5 = _ := (hd 5 rfl).1
      have h6 : u 6 = _ := (hd 6 rfl).1
      clear hd
      simp only [upd, h5, h6, reduceIte, Nat.reduceEqDiff] at hK
      go_simp
      exact hK.out _ _ (SeR.of_below (Below.refl _ _)) ⟨rfl, (fun e => absurd e (by decide)), (fun e => absurd e (by decide))⟩
    refine FSteps.cons ?_ ?_
    · intro u W hS hd K hK
      have h7 : u 7 = _ := (hd 7 rfl).1
      clear hd
      simp only [upd, h7, reduceIte, Nat.reduceEqDiff] at hK
      have hne : tv.ownBlock ≠ some W.heap.size := (fun e => by have := hS.tw _ e; have := hS.turn.size; omega)
      go_simp
      exact hK.out _ _ (SeR.of_below ((Below.refl _ _).alloc (Nat.le_refl _) _)) ⟨trivial, (fun _ => ⟨_, rfl, AtL.made encT 54 _ _ ⟨ak, an, x⟩ _ rfl rfl, hne⟩), (fun e => absurd e (by decide))⟩
    refine FSteps.cons ?_ ?_
    · intro u W hS hd K hK
      have h4 : u 4 = _ := (hd 4 rfl).1
      obtain ⟨b8, h8, B8, N8⟩ := (hd 8 rfl).2.1 rfl
      clear hd
      simp only [upd, h4, h8, reduceIte, Nat.reduceEqDiff] at hK
      obtain ⟨v', w7, hr, hown, hgr, hov, hpx⟩ := run_append_full encT 54 50 50 Try.underlying50 infoT rfl (by decide) W 0 tv KL hS.own ⟨b8, 0, none⟩ 1 [⟨ak, an, x⟩] (at_news B8) (by simp; omega) (Nat.zero_le _)
      rw [if_pos (by kernel_rfl)]
      simp only [h4, h8]
      refine wp_append_run (.tmp 39) (.tmp 43) rfl rfl rfl hr ?_
      exact hK.out _ _ (SeR.of_grown hgr hpx) ⟨trivial, (fun e => absurd e (by decide)), (fun _ => ⟨hown, own_or hov hS.turn.size⟩)⟩
    refine FSteps.cons ?_ ?_
    · intro u W hS hd K hK
      have h0 : u 0 = _ := (hd 0 rfl).1
      clear hd
      simp only [upd, h0, reduceIte, Nat.reduceEqDiff] at hK
      go_simp
      exact hK.out _ _ (SeR.of_below (Below.refl _ _)) ⟨rfl, (fun e => absurd e (by decide)), (fun e => absurd e (by decide))⟩
    refine FSteps.cons ?_ ?_
    · intro u W hS hd K hK
      have h10 : u 10 = _ := (hd 10 rfl).1
      clear hd
      simp only [upd, h10, reduceIte, Nat.reduceEqDiff] at hK
      go_simp
      exact hK.out _ _ (SeR.of_below (Below.refl _ _)) ⟨rfl, (fun e => absurd e (by decide)), (fun e => absurd e (by decide))⟩
    exact trivial
  case hend1 =>
    intro u w6 hS hd
    have h11 : u 11 = _ := (hd 11 rfl).1
    have h9 := (hd 9 rfl).2.2 rfl
    obtain ⟨va, vn, vc, hv'⟩ := OwnL.form' h9.1
    rw [hv'] at h9
    have HE := Lib.hid (hS.done h9.1 h9.2 HPW.out)
    have c0 := hS.row.cell 0 rfl
    have f0 := (hS.row.get 0 rfl).free
    simp only [hv', h11]
    clear hd hS h9 hv' h11
    refine wpAny_ready (rs := [12]) (by kernel_rfl) (by simp) ?_
    refine AllReady.cons rfl (fun K hK => ?_) AllReady.nil
    go_simp
    refine hK _ _ ?_
    clear hK K
    refine wpAny_done (by kernel_rfl) ?_ _
    go_wp2_with fail
    refine bodyPost_ret (v := .int .i64 0) (by simp [results, Try.results8, go_sem]) rfl ⟨_, rfl, HE.out.1, ?_⟩
    have hb := Turn.after_ HB22.out HTT.out.1 HTT.out.2
    have he := HE.out.2
    rw [← HFF.out] at he
    exact ⟨Turn.trans hb.1 he.1 hb.2, Grew.trans hb.2 he.2 hb.1.size⟩
/-- of any clock -/
theorem cset13_any (a : Nm) (x : Int) (p : Nat) (L : List Tm) (F : Nat → Prop) (w : World) (h : CkL w p L F) (hok : ClkOk L) : Calls Try.prog 8 #[.pointer (some ⟨p, 0, none⟩), .agg #[.int .i64 a.k, .int .i64 a.n], .int .i64 x] w fun e w' =>
    ∃ F', e = .returned (.int .i64 (setT a x L).2) ∧ CkL w' p (setT a x L).1 F' ∧ Turn F w w' ∧ Grew F F' w := by
  have hl := hok.len
  unfold setT
  by_cases hx : x < 1 ∨ 10000 < x
  · rw [if_pos hx]
    exact (cset13_bad a x p w hx).mono fun e w' ⟨he, hb⟩ => ⟨F, he, h.below hb, Turn.of_below hb, Grew.refl F w⟩
  · rw [if_neg hx]
    by_cases h0 : leftT a L = 0
    · by_cases h32 : 32 ≤ L.length
      · rw [if_pos ⟨h0, h32⟩]
        exact (cset13_full a x p L F w h hl (by omega) h0 h32).mono fun e w' ⟨he, hb⟩ => ⟨F, he, h.below hb, Turn.of_below hb, Grew.refl F w⟩
      · rw [if_neg (fun q => h32 q.2)]
        exact cset13_some0 a x p L F w h hl (by omega) ⟨h0, by omega⟩
    · rw [if_neg (fun q => h0 q.1)]
      exact cset13_some1 a x p L F w h hl (by omega) h0
end Go.Proofs.Ytchhaolgmdhnmaa
