/-
The landed code's Agree.
-/
import Derived.Test.YtmbjhhpnckfppaaXidBase
import Derived.Test.YtmbjhhpnckfppaaFacts
import Derived.Lib.MinMax
namespace Go.Proofs.Ytmbjhhpnckfppaa
open Go.RowKit
set_option maxRecDepth 20000
set_option maxHeartbeats 1000000 in
theorem xagree_no (a b a' b' : Bool) (n k t r n' k' t' r' : Int) (w : World) (hr : (rightX a b n k t r && rightX a' b' n' k' t' r') = false) : Calls Try.prog 13 #[.agg #[.bool a, .bool b, .int .i64 n, .int .i64 k, .int .i64 t, .int .i64 r], .agg #[.bool a', .bool b', .int .i64 n', .int .i64 k', .int .i64 t', .int .i64 r']] w fun e w' => e = .returned (.tuple #[.agg #[.bool false, .bool false, .int .i64 0, .int .i64 0, .int .i64 0, .int .i64 0], .int .i64 1]) ∧ Below w.heap.size w w' := by
  have HB0 := Lib.hid ((((Below.refl _ w).alloc (Nat.le_refl _) (.cells #[.bool a, .bool b, .int .i64 n, .int .i64 k, .int .i64 t, .int .i64 r] 23)).alloc (by simp) (.cells #[.bool a', .bool b', .int .i64 n', .int .i64 k', .int .i64 t', .int .i64 r'] 23)).alloc (by simp; omega) (.cells #[.bool false, .bool false, .int .i64 0, .int .i64 0, .int .i64 0, .int .i64 0] 23))
  have HA := Lib.hid (((C6.new w w.heap.size rfl (.bool a) (.bool b) (.int .i64 n) (.int .i64 k) (.int .i64 t) (.int .i64 r) 23).alloc (.cells #[.bool a', .bool b', .int .i64 n', .int .i64 k', .int .i64 t', .int .i64 r'] 23)).alloc (.cells #[.bool false, .bool false, .int .i64 0, .int .i64 0, .int .i64 0, .int .i64 0] 23))
  have HD := Lib.hid ((C6.new (w.alloc (.cells #[.bool a, .bool b, .int .i64 n, .int .i64 k, .int .i64 t, .int .i64 r] 23)) (w.heap.size + 1) (by simp) (.bool a') (.bool b') (.int .i64 n') (.int .i64 k') (.int .i64 t') (.int .i64 r') 23).alloc (.cells #[.bool false, .bool false, .int .i64 0, .int .i64 0, .int .i64 0, .int .i64 0] 23))
  have HZ := Lib.hid (C6.new ((w.alloc (.cells #[.bool a, .bool b, .int .i64 n, .int .i64 k, .int .i64 t, .int .i64 r] 23)).alloc (.cells #[.bool a', .bool b', .int .i64 n', .int .i64 k', .int .i64 t', .int .i64 r'] 23)) (w.heap.size + 1 + 1) (by simp) (.bool false) (.bool false) (.int .i64 0) (.int .i64 0) (.int .i64 0) (.int .i64 0) 23)
  have h1 := fun W => xright_any a b n k t r W
  have h2 := fun W => xright_any a' b' n' k' t' r' W
  generalize rightX a b n k t r = A at *
  generalize rightX a' b' n' k' t' r' = B at *
  have H1 := Lib.hid h1
  have H2 := Lib.hid h2
  clear h1 h2
  cases A
  · clear hr
    go_enter Try.func13, Try.ntmps13
    obtain ⟨⟨a0, -, -⟩, ⟨a1, -, -⟩, ⟨a2, -, -⟩, ⟨a3, -, -⟩, ⟨a4, -, -⟩, ⟨a5, -, -⟩⟩ := HA.out
    go_wp2_with fail
    go_at_call 8
    refine (H1.out _).mono ?_
    rintro e w1 ⟨rfl, hb⟩
    have HB1 := Lib.hid (HB0.out.trans (hb.mono HB0.out.size))
    have HZ1 := Lib.hid (HZ.out.below hb)
    obtain ⟨⟨z0, f0, -⟩, ⟨z1, f1, -⟩, ⟨z2, f2, -⟩, ⟨z3, f3, -⟩, ⟨z4, f4, -⟩, ⟨z5, f5, -⟩⟩ := HZ1.out
    clear hb a0 a1 a2 a3 a4 a5
    go_wp2_with fail
    have S6 := stored6 (.bool false) (.bool false) (.int .i64 0) (.int .i64 0) (.int .i64 0) (.int .i64 0) HZ1.out
    have HBF := Lib.hid (set6_below (m := w.heap.size + 1 + 1) HB1.out (by omega) (.bool false) (.bool false) (.int .i64 0) (.int .i64 0) (.int .i64 0) (.int .i64 0))
    exact bodyPost_ret (v := .tuple #[.agg #[.bool false, .bool false, .int .i64 0, .int .i64 0, .int .i64 0, .int .i64 0], .int .i64 1]) (by simp [results, Try.results13, go_sem, S6.k0.cell, S6.k1.cell, S6.k2.cell, S6.k3.cell, S6.k4.cell, S6.k5.cell]) rfl ⟨rfl, HBF.out⟩
  · cases B
    · clear hr
      go_enter Try.func13, Try.ntmps13
      obtain ⟨⟨a0, -, -⟩, ⟨a1, -, -⟩, ⟨a2, -, -⟩, ⟨a3, -, -⟩, ⟨a4, -, -⟩, ⟨a5, -, -⟩⟩ := HA.out
      go_wp2_with fail
      go_at_call 8
      refine (H1.out _).mono ?_
      rintro e w1 ⟨rfl, hb⟩
      have HB1 := Lib.hid (HB0.out.trans (hb.mono HB0.out.size))
      have HD1 := Lib.hid (HD.out.below hb)
      have HZ1 := Lib.hid (HZ.out.below hb)
      clear hb a0 a1 a2 a3 a4 a5
      obtain ⟨⟨a0, -, -⟩, ⟨a1, -, -⟩, ⟨a2, -, -⟩, ⟨a3, -, -⟩, ⟨a4, -, -⟩, ⟨a5, -, -⟩⟩ := HD1.out
      go_wp2_with fail
      go_at_call 8
      refine (H2.out _).mono ?_
      rintro e w2 ⟨rfl, hb⟩
      have HB2 := Lib.hid (HB1.out.trans (hb.mono HB1.out.size))
      have HZ2 := Lib.hid (HZ1.out.below hb)
      obtain ⟨⟨z0, f0, -⟩, ⟨z1, f1, -⟩, ⟨z2, f2, -⟩, ⟨z3, f3, -⟩, ⟨z4, f4, -⟩, ⟨z5, f5, -⟩⟩ := HZ2.out
      clear hb a0 a1 a2 a3 a4 a5
      go_wp2_with fail
      have S6 := stored6 (.bool false) (.bool false) (.int .i64 0) (.int .i64 0) (.int .i64 0) (.int .i64 0) HZ2.out
      have HBF := Lib.hid (set6_below (m := w.heap.size + 1 + 1) HB2.out (by omega) (.bool false) (.bool false) (.int .i64 0) (.int .i64 0) (.int .i64 0) (.int .i64 0))
      exact bodyPost_ret (v := .tuple #[.agg #[.bool false, .bool false, .int .i64 0, .int .i64 0, .int .i64 0, .int .i64 0], .int .i64 1]) (by simp [results, Try.results13, go_sem, S6.k0.cell, S6.k1.cell, S6.k2.cell, S6.k3.cell, S6.k4.cell, S6.k5.cell]) rfl ⟨rfl, HBF.out⟩
    · cases hr
/-- memory where two are agreed on: both, the answer, what is made -/
structure AgAt (w W : World) (m : Nat) (a b : Bool) (n k t r : Int) (a' b' : Bool) (n' k' t' r' : Int) (p q : Bool) (pn pk pt pr : Int) : Prop where
  x : C6 W w.heap.size (.bool a) (.bool b) (.int .i64 n) (.int .i64 k) (.int .i64 t) (.int .i64 r)
  y : C6 W (w.heap.size + 1) (.bool a') (.bool b') (.int .i64 n') (.int .i64 k') (.int .i64 t') (.int .i64 r')
  z : C6 W (w.heap.size + 1 + 1) (.bool false) (.bool false) (.int .i64 0) (.int .i64 0) (.int .i64 0) (.int .i64 0)
  p : C6 W m (.bool p) (.bool q) (.int .i64 pn) (.int .i64 pk) (.int .i64 pt) (.int .i64 pr)
  bel : Below w.heap.size w W
  lt : w.heap.size + 1 + 1 < m
theorem AgAt.put2 {w W : World} {m : Nat} {a b a' b' p q : Bool} {n k t r n' k' t' r' pn pk pt pr : Int} (h : AgAt w W m a b n k t r a' b' n' k' t' r' p q pn pk pt pr) (v : Int) : AgAt w (W.setCell ⟨m, 2, none⟩ (.int .i64 v)) m a b n k t r a' b' n' k' t' r' p q v pk pt pr := by
  have hm := h.lt
  exact ⟨h.x.other _ (by omega), h.y.other _ (by omega), h.z.other _ (by omega), h.p.put2 _, h.bel.setCell (p := ⟨m, 2, none⟩) (by show w.heap.size ≤ m; omega) _, hm⟩
theorem AgAt.put3 {w W : World} {m : Nat} {a b a' b' p q : Bool} {n k t r n' k' t' r' pn pk pt pr : Int} (h : AgAt w W m a b n k t r a' b' n' k' t' r' p q pn pk pt pr) (v : Int) : AgAt w (W.setCell ⟨m, 3, none⟩ (.int .i64 v)) m a b n k t r a' b' n' k' t' r' p q pn v pt pr := by
  have hm := h.lt
  exact ⟨h.x.other _ (by omega), h.y.other _ (by omega), h.z.other _ (by omega), h.p.put3 _, h.bel.setCell (p := ⟨m, 3, none⟩) (by show w.heap.size ≤ m; omega) _, hm⟩
theorem AgAt.put4 {w W : World} {m : Nat} {a b a' b' p q : Bool} {n k t r n' k' t' r' pn pk pt pr : Int} (h : AgAt w W m a b n k t r a' b' n' k' t' r' p q pn pk pt pr) (v : Int) : AgAt w (W.setCell ⟨m, 4, none⟩ (.int .i64 v)) m a b n k t r a' b' n' k' t' r' p q pn pk v pr := by
  have hm := h.lt
  exact ⟨h.x.other _ (by omega), h.y.other _ (by omega), h.z.other _ (by omega), h.p.put4 _, h.bel.setCell (p := ⟨m, 4, none⟩) (by show w.heap.size ≤ m; omega) _, hm⟩
theorem AgAt.put5 {w W : World} {m : Nat} {a b a' b' p q : Bool} {n k t r n' k' t' r' pn pk pt pr : Int} (h : AgAt w W m a b n k t r a' b' n' k' t' r' p q pn pk pt pr) (v : Int) : AgAt w (W.setCell ⟨m, 5, none⟩ (.int .i64 v)) m a b n k t r a' b' n' k' t' r' p q pn pk pt v := by
  have hm := h.lt
  exact ⟨h.x.other _ (by omega), h.y.other _ (by omega), h.z.other _ (by omega), h.p.put5 _, h.bel.setCell (p := ⟨m, 5, none⟩) (by show w.heap.size ≤ m; omega) _, hm⟩
/-- what each operation of the window's line yields -/
def agFacts (g m : Nat) (P Q : Bool) (k k' M : Int) : List Fact :=
  [.is (.pointer (some ⟨g, 3, none⟩)), .is (.int .i64 k), .is (.pointer (some ⟨g + 1, 3, none⟩)), .is (.int .i64 k'), .is (.pointer (some ⟨m, 0, none⟩)), .is (.bool P), .is (.pointer (some ⟨m, 1, none⟩)), .is (.bool Q), .is (.int .i64 M), .is (.int .i64 (min k (min k' M))), .is (.pointer (some ⟨m, 3, none⟩))]
set_option maxHeartbeats 1000000 in
theorem xagree_yes (a b a' b' : Bool) (n k t r n' k' t' r' : Int) (w : World) (h1 : rightX a b n k t r = true) (h2 : rightX a' b' n' k' t' r' = true) : Calls Try.prog 13 #[.agg #[.bool a, .bool b, .int .i64 n, .int .i64 k, .int .i64 t, .int .i64 r], .agg #[.bool a', .bool b', .int .i64 n', .int .i64 k', .int .i64 t', .int .i64 r']] w fun e w' => e = .returned (.tuple #[.agg #[.bool (a && a'), .bool (b && b'), .int .i64 (min n n'), .int .i64 (min k (min k' (mostD (a && a') (b && b')))), .int .i64 (max t t'), .int .i64 (min r r')], .int .i64 0]) ∧ Below w.heap.size w w' := by
  have HB0 := Lib.hid ((((Below.refl _ w).alloc (Nat.le_refl _) (.cells #[.bool a, .bool b, .int .i64 n, .int .i64 k, .int .i64 t, .int .i64 r] 23)).alloc (by simp) (.cells #[.bool a', .bool b', .int .i64 n', .int .i64 k', .int .i64 t', .int .i64 r'] 23)).alloc (by simp; omega) (.cells #[.bool false, .bool false, .int .i64 0, .int .i64 0, .int .i64 0, .int .i64 0] 23))
  have HA := Lib.hid (((C6.new w w.heap.size rfl (.bool a) (.bool b) (.int .i64 n) (.int .i64 k) (.int .i64 t) (.int .i64 r) 23).alloc (.cells #[.bool a', .bool b', .int .i64 n', .int .i64 k', .int .i64 t', .int .i64 r'] 23)).alloc (.cells #[.bool false, .bool false, .int .i64 0, .int .i64 0, .int .i64 0, .int .i64 0] 23))
  have HD := Lib.hid ((C6.new (w.alloc (.cells #[.bool a, .bool b, .int .i64 n, .int .i64 k, .int .i64 t, .int .i64 r] 23)) (w.heap.size + 1) (by simp) (.bool a') (.bool b') (.int .i64 n') (.int .i64 k') (.int .i64 t') (.int .i64 r') 23).alloc (.cells #[.bool false, .bool false, .int .i64 0, .int .i64 0, .int .i64 0, .int .i64 0] 23))
  have HZ := Lib.hid (C6.new ((w.alloc (.cells #[.bool a, .bool b, .int .i64 n, .int .i64 k, .int .i64 t, .int .i64 r] 23)).alloc (.cells #[.bool a', .bool b', .int .i64 n', .int .i64 k', .int .i64 t', .int .i64 r'] 23)) (w.heap.size + 1 + 1) (by simp) (.bool false) (.bool false) (.int .i64 0) (.int .i64 0) (.int .i64 0) (.int .i64 0) 23)
  have g1 := fun W => xright_any a b n k t r W
  have g2 := fun W => xright_any a' b' n' k' t' r' W
  rw [h1] at g1
  rw [h2] at g2
  have H1 := Lib.hid g1
  have H2 := Lib.hid g2
  have HM := Lib.hid (fun W => most_any (a && a') (b && b') W)
  clear g1 g2 h1 h2
  generalize mostD (a && a') (b && b') = M at *
  rcases a with _ | _ <;> rcases b with _ | _
  · simp only [Bool.false_and] at HM ⊢
    go_enter Try.func13, Try.ntmps13
    obtain ⟨⟨a0, -, -⟩, ⟨a1, -, -⟩, ⟨a2, -, -⟩, ⟨a3, -, -⟩, ⟨a4, -, -⟩, ⟨a5, -, -⟩⟩ := HA.out
    go_wp2_with fail
    go_at_call 8
    refine (H1.out _).mono ?_
    rintro e w1 ⟨rfl, hb⟩
    have HB1 := Lib.hid (HB0.out.trans (hb.mono HB0.out.size))
    have HA1 := Lib.hid (HA.out.below hb)
    have HD1 := Lib.hid (HD.out.below hb)
    have HZ1 := Lib.hid (HZ.out.below hb)
    clear hb a0 a1 a2 a3 a4 a5
    obtain ⟨⟨a0, -, -⟩, ⟨a1, -, -⟩, ⟨a2, -, -⟩, ⟨a3, -, -⟩, ⟨a4, -, -⟩, ⟨a5, -, -⟩⟩ := HD1.out
    go_wp2_with fail
    go_at_call 8
    refine (H2.out _).mono ?_
    rintro e w2 ⟨rfl, hb⟩
    have HB2 := Lib.hid (HB1.out.trans (hb.mono HB1.out.size))
    have HA2 := Lib.hid (HA1.out.below hb)
    have HD2 := Lib.hid (HD1.out.below hb)
    have HZ2 := Lib.hid (HZ1.out.below hb)
    clear hb a0 a1 a2 a3 a4 a5 HA HD HZ HA1 HD1 HZ1 HB0 HB1
    obtain ⟨⟨a0, -, -⟩, ⟨a1, -, -⟩, ⟨a2, -, -⟩, ⟨a3, -, -⟩, ⟨a4, -, -⟩, ⟨a5, -, -⟩⟩ := HA2.out
    obtain ⟨⟨b0, -, -⟩, ⟨b1, -, -⟩, ⟨b2, -, -⟩, ⟨b3, -, -⟩, ⟨b4, -, -⟩, ⟨b5, -, -⟩⟩ := HD2.out
    have hz0 := HA2.out.k0.lt
    have hz1 := HD2.out.k0.lt
    have hz2 := HZ2.out.k0.lt
    have hn0 : ¬ w2.heap.size = w.heap.size := by omega
    have hn1 : ¬ w2.heap.size = w.heap.size + 1 := by omega
    go_wp2_with fail
    have HAG := Lib.hid (show AgAt w (w2.alloc (.cells #[.bool false, .bool false, .int .i64 (min n n'), .int .i64 0, .int .i64 0, .int .i64 0] 23)) w2.heap.size false false n k t r a' b' n' k' t' r' false false (min n n') 0 0 0 from ⟨HA2.out.alloc _, HD2.out.alloc _, HZ2.out.alloc _, C6.new w2 _ rfl _ _ _ _ _ _ _, HB2.out.alloc HB2.out.size _, hz2⟩)
    generalize w2.alloc (.cells #[.bool false, .bool false, .int .i64 (min n n'), .int .i64 0, .int .i64 0, .int .i64 0] 23) = w3 at *
    generalize w2.heap.size = m at *
    clear a0 a1 a2 a3 a4 a5 b0 b1 b2 b3 b4 b5 HA2 HD2 HZ2 HB2
    refine wp_region_facts (fun W W' => W' = W ∨ W' = W.setCell ⟨m, 3, none⟩ (.int .i64 (min k (min k' M)))) (fun W => ∃ pk, AgAt w W m false false n k t r a' b' n' k' t' r' false false (min n n') pk 0 0) (fun j v W => factsOf (agFacts w.heap.size m false false k k' M) j v W ∧ (j = 11 → W.cell? ⟨m, 3, none⟩ = some (.int .i64 (min k (min k' M))))) (by kernel_rfl) (by kernel_rfl) ?hphi1 ?hS1 (fun _ => undef) (by kernel_rfl) ⟨0, ⟨HAG.out.x.drew, HAG.out.y.drew, HAG.out.z.drew, HAG.out.p.drew, HAG.out.bel.drew, HAG.out.lt⟩⟩ ?F1 ?hF1 ?hstep1 ?hend1
    case hphi1 =>
      rintro j v W W' (rfl | rfl) ⟨h1, h2⟩
      · exact ⟨h1, h2⟩
      · exact ⟨facts_still rfl j v W _ h1, fun h => set_here (h2 h)⟩
    case hS1 =>
      rintro W W' (rfl | rfl) ⟨pk, h⟩
      · exact ⟨pk, h⟩
      · exact ⟨_, h.put3 _⟩
    case hF1 =>
      intro u
      simp only [fillAct]
      go_simp
      rfl
    case hstep1 =>
      refine FSteps.cons ?_ ?_
      · intro u W hS hd K hK
        clear hd
        simp only [upd, reduceIte, Nat.reduceEqDiff] at hK
        go_simp
        exact hK.out _ _ (Or.inl rfl) ⟨rfl, fun h => by cases h⟩
      refine FSteps.cons ?_ ?_
      · intro u W hS hd K hK
        have h0 : u 0 = _ := (hd 0 rfl).1
        clear hd
        simp only [upd, h0, reduceIte, Nat.reduceEqDiff] at hK
        obtain ⟨pk, hA⟩ := hS
        have c := hA.x.k3.cell
        go_simp
        exact hK.out _ _ (Or.inl rfl) ⟨rfl, fun h => by cases h⟩
      refine FSteps.cons ?_ ?_
      · intro u W hS hd K hK
        clear hd
        simp only [upd, reduceIte, Nat.reduceEqDiff] at hK
        go_simp
        exact hK.out _ _ (Or.inl rfl) ⟨rfl, fun h => by cases h⟩
      refine FSteps.cons ?_ ?_
      · intro u W hS hd K hK
        have h2 : u 2 = _ := (hd 2 rfl).1
        clear hd
        simp only [upd, h2, reduceIte, Nat.reduceEqDiff] at hK
        obtain ⟨pk, hA⟩ := hS
        have c := hA.y.k3.cell
        go_simp
        exact hK.out _ _ (Or.inl rfl) ⟨rfl, fun h => by cases h⟩
      refine FSteps.cons ?_ ?_
      · intro u W hS hd K hK
        clear hd
        simp only [upd, reduceIte, Nat.reduceEqDiff] at hK
        go_simp
        exact hK.out _ _ (Or.inl rfl) ⟨rfl, fun h => by cases h⟩
      refine FSteps.cons ?_ ?_
      · intro u W hS hd K hK
        have h4 : u 4 = _ := (hd 4 rfl).1
        clear hd
        simp only [upd, h4, reduceIte, Nat.reduceEqDiff] at hK
        obtain ⟨pk, hA⟩ := hS
        have c := hA.p.k0.cell
        go_simp
        exact hK.out _ _ (Or.inl rfl) ⟨rfl, fun h => by cases h⟩
      refine FSteps.cons ?_ ?_
      · intro u W hS hd K hK
        clear hd
        simp only [upd, reduceIte, Nat.reduceEqDiff] at hK
        go_simp
        exact hK.out _ _ (Or.inl rfl) ⟨rfl, fun h => by cases h⟩
      refine FSteps.cons ?_ ?_
      · intro u W hS hd K hK
        have h6 : u 6 = _ := (hd 6 rfl).1
        clear hd
        simp only [upd, h6, reduceIte, Nat.reduceEqDiff] at hK
        obtain ⟨pk, hA⟩ := hS
        have c := hA.p.k1.cell
        go_simp
        exact hK.out _ _ (Or.inl rfl) ⟨rfl, fun h => by cases h⟩
      refine FSteps.cons ?_ ?_
      · intro u W hS hd K hK
        have h5 : u 5 = _ := (hd 5 rfl).1
        have h7 : u 7 = _ := (hd 7 rfl).1
        clear hd
        simp only [upd, h5, h7, reduceIte, Nat.reduceEqDiff] at hK
        go_simp
        go_at_call 9
        refine (HM.out _).mono ?_
        rintro e wc ⟨rfl, rfl⟩
        exact hK.out _ _ (Or.inl rfl) ⟨rfl, fun h => by cases h⟩
      refine FSteps.cons ?_ ?_
      · intro u W hS hd K hK
        have h1 : u 1 = _ := (hd 1 rfl).1
        have h3 : u 3 = _ := (hd 3 rfl).1
        have h8 : u 8 = _ := (hd 8 rfl).1
        clear hd
        simp only [upd, h1, h3, h8, reduceIte, Nat.reduceEqDiff] at hK
        go_simp
        all_goals first | exact hK.out _ _ (Or.inl rfl) ⟨congrArg (Value.int .i64) (by omega), fun h => by cases h⟩ | skip
      refine FSteps.cons ?_ ?_
      · intro u W hS hd K hK
        clear hd
        simp only [upd, reduceIte, Nat.reduceEqDiff] at hK
        go_simp
        exact hK.out _ _ (Or.inl rfl) ⟨rfl, fun h => by cases h⟩
      refine FSteps.cons ?_ ?_
      · intro u W hS hd K hK
        have h9 : u 9 = _ := (hd 9 rfl).1
        have h10 : u 10 = _ := (hd 10 rfl).1
        clear hd
        simp only [upd, h9, h10, reduceIte, Nat.reduceEqDiff] at hK
        obtain ⟨pk, hA⟩ := hS
        have c := hA.p.k3.cell
        have f := hA.p.k3.free
        go_simp
        exact hK.out undef _ (Or.inr rfl) ⟨trivial, fun _ => set_here c⟩
      exact trivial
    case hend1 =>
      intro u w4 hS hd
      obtain ⟨pk, hA⟩ := hS
      have hc := (hd 11 rfl).2 rfl
      obtain rfl : pk = min k (min k' M) := by
        have e := hA.p.k3.cell
        rw [hc] at e
        simp only [Option.some.injEq, Value.int.injEq, true_and] at e
        exact e.symm
      have HAG := Lib.hid hA
      clear hd hc hA
      have hm0 : ¬ m = w.heap.size := by have := HAG.out.lt; omega
      have hm1 : ¬ m = w.heap.size + 1 := by have := HAG.out.lt; omega
      obtain ⟨KM, hKM⟩ : ∃ KM, KM = min k (min k' M) := ⟨_, rfl⟩
      rw [← hKM] at HAG
      have HKM := Lib.hid hKM
      clear hKM
      obtain ⟨⟨⟨a0, -, -⟩, ⟨a1, -, -⟩, ⟨a2, -, -⟩, ⟨a3, -, -⟩, ⟨a4, -, -⟩, ⟨a5, -, -⟩⟩, ⟨⟨b0, -, -⟩, ⟨b1, -, -⟩, ⟨b2, -, -⟩, ⟨b3, -, -⟩, ⟨b4, -, -⟩, ⟨b5, -, -⟩⟩, ⟨⟨z0, y0, -⟩, ⟨z1, y1, -⟩, ⟨z2, y2, -⟩, ⟨z3, y3, -⟩, ⟨z4, y4, -⟩, ⟨z5, y5, -⟩⟩, ⟨⟨p0, q0, -⟩, ⟨p1, q1, -⟩, ⟨p2, q2, -⟩, ⟨p3, q3, -⟩, ⟨p4, q4, -⟩, ⟨p5, q5, -⟩⟩, -, -⟩ := HAG.out
      go_wp2_with fail
      have H5 := Lib.hid ((HAG.out.put4 (max t t')).put5 (min r r'))
      have S6 := stored6 (.bool false) (.bool false) (.int .i64 (min n n')) (.int .i64 KM) (.int .i64 (max t t')) (.int .i64 (min r r')) H5.out.z
      have HBF := Lib.hid (set6_below (m := w.heap.size + 1 + 1) H5.out.bel (by omega) (.bool false) (.bool false) (.int .i64 (min n n')) (.int .i64 KM) (.int .i64 (max t t')) (.int .i64 (min r r')))
      exact bodyPost_ret (v := .tuple #[.agg #[.bool false, .bool false, .int .i64 (min n n'), .int .i64 KM, .int .i64 (max t t'), .int .i64 (min r r')], .int .i64 0]) (by simp [results, Try.results13, go_sem, S6.k0.cell, S6.k1.cell, S6.k2.cell, S6.k3.cell, S6.k4.cell, S6.k5.cell]) rfl ⟨by rw [HKM.out], HBF.out⟩
  · simp only [Bool.true_and, Bool.false_and] at HM ⊢
    go_enter Try.func13, Try.ntmps13
    obtain ⟨⟨a0, -, -⟩, ⟨a1, -, -⟩, ⟨a2, -, -⟩, ⟨a3, -, -⟩, ⟨a4, -, -⟩, ⟨a5, -, -⟩⟩ := HA.out
    go_wp2_with fail
    go_at_call 8
    refine (H1.out _).mono ?_
    rintro e w1 ⟨rfl, hb⟩
    have HB1 := Lib.hid (HB0.out.trans (hb.mono HB0.out.size))
    have HA1 := Lib.hid (HA.out.below hb)
    have HD1 := Lib.hid (HD.out.below hb)
    have HZ1 := Lib.hid (HZ.out.below hb)
    clear hb a0 a1 a2 a3 a4 a5
    obtain ⟨⟨a0, -, -⟩, ⟨a1, -, -⟩, ⟨a2, -, -⟩, ⟨a3, -, -⟩, ⟨a4, -, -⟩, ⟨a5, -, -⟩⟩ := HD1.out
    go_wp2_with fail
    go_at_call 8
    refine (H2.out _).mono ?_
    rintro e w2 ⟨rfl, hb⟩
    have HB2 := Lib.hid (HB1.out.trans (hb.mono HB1.out.size))
    have HA2 := Lib.hid (HA1.out.below hb)
    have HD2 := Lib.hid (HD1.out.below hb)
    have HZ2 := Lib.hid (HZ1.out.below hb)
    clear hb a0 a1 a2 a3 a4 a5 HA HD HZ HA1 HD1 HZ1 HB0 HB1
    obtain ⟨⟨a0, -, -⟩, ⟨a1, -, -⟩, ⟨a2, -, -⟩, ⟨a3, -, -⟩, ⟨a4, -, -⟩, ⟨a5, -, -⟩⟩ := HA2.out
    obtain ⟨⟨b0, -, -⟩, ⟨b1, -, -⟩, ⟨b2, -, -⟩, ⟨b3, -, -⟩, ⟨b4, -, -⟩, ⟨b5, -, -⟩⟩ := HD2.out
    have hz0 := HA2.out.k0.lt
    have hz1 := HD2.out.k0.lt
    have hz2 := HZ2.out.k0.lt
    have hn0 : ¬ w2.heap.size = w.heap.size := by omega
    have hn1 : ¬ w2.heap.size = w.heap.size + 1 := by omega
    go_wp2_with fail
    have HAG := Lib.hid (show AgAt w (w2.alloc (.cells #[.bool false, .bool b', .int .i64 (min n n'), .int .i64 0, .int .i64 0, .int .i64 0] 23)) w2.heap.size false true n k t r a' b' n' k' t' r' false b' (min n n') 0 0 0 from ⟨HA2.out.alloc _, HD2.out.alloc _, HZ2.out.alloc _, C6.new w2 _ rfl _ _ _ _ _ _ _, HB2.out.alloc HB2.out.size _, hz2⟩)
    generalize w2.alloc (.cells #[.bool false, .bool b', .int .i64 (min n n'), .int .i64 0, .int .i64 0, .int .i64 0] 23) = w3 at *
    generalize w2.heap.size = m at *
    clear a0 a1 a2 a3 a4 a5 b0 b1 b2 b3 b4 b5 HA2 HD2 HZ2 HB2
    refine wp_region_facts (fun W W' => W' = W ∨ W' = W.setCell ⟨m, 3, none⟩ (.int .i64 (min k (min k' M)))) (fun W => ∃ pk, AgAt w W m false true n k t r a' b' n' k' t' r' false b' (min n n') pk 0 0) (fun j v W => factsOf (agFacts w.heap.size m false b' k k' M) j v W ∧ (j = 11 → W.cell? ⟨m, 3, none⟩ = some (.int .i64 (min k (min k' M))))) (by kernel_rfl) (by kernel_rfl) ?hphi2 ?hS2 (fun _ => undef) (by kernel_rfl) ⟨0, ⟨HAG.out.x.drew, HAG.out.y.drew, HAG.out.z.drew, HAG.out.p.drew, HAG.out.bel.drew, HAG.out.lt⟩⟩ ?F2 ?hF2 ?hstep2 ?hend2
    case hphi2 =>
      rintro j v W W' (rfl | rfl) ⟨h1, h2⟩
      · exact ⟨h1, h2⟩
      · exact ⟨facts_still rfl j v W _ h1, fun h => set_here (h2 h)⟩
    case hS2 =>
      rintro W W' (rfl | rfl) ⟨pk, h⟩
      · exact ⟨pk, h⟩
      · exact ⟨_, h.put3 _⟩
    case hF2 =>
      intro u
      simp only [fillAct]
      go_simp
      rfl
    case hstep2 =>
      refine FSteps.cons ?_ ?_
      · intro u W hS hd K hK
        clear hd
        simp only [upd, reduceIte, Nat.reduceEqDiff] at hK
        go_simp
        exact hK.out _ _ (Or.inl rfl) ⟨rfl, fun h => by cases h⟩
      refine FSteps.cons ?_ ?_
      · intro u W hS hd K hK
        have h0 : u 0 = _ := (hd 0 rfl).1
        clear hd
        simp only [upd, h0, reduceIte, Nat.reduceEqDiff] at hK
        obtain ⟨pk, hA⟩ := hS
        have c := hA.x.k3.cell
        go_simp
        exact hK.out _ _ (Or.inl rfl) ⟨rfl, fun h => by cases h⟩
      refine FSteps.cons ?_ ?_
      · intro u W hS hd K hK
        clear hd
        simp only [upd, reduceIte, Nat.reduceEqDiff] at hK
        go_simp
        exact hK.out _ _ (Or.inl rfl) ⟨rfl, fun h => by cases h⟩
      refine FSteps.cons ?_ ?_
      · intro u W hS hd K hK
        have h2 : u 2 = _ := (hd 2 rfl).1
        clear hd
        simp only [upd, h2, reduceIte, Nat.reduceEqDiff] at hK
        obtain ⟨pk, hA⟩ := hS
        have c := hA.y.k3.cell
        go_simp
        exact hK.out _ _ (Or.inl rfl) ⟨rfl, fun h => by cases h⟩
      refine FSteps.cons ?_ ?_
      · intro u W hS hd K hK
        clear hd
        simp only [upd, reduceIte, Nat.reduceEqDiff] at hK
        go_simp
        exact hK.out _ _ (Or.inl rfl) ⟨rfl, fun h => by cases h⟩
      refine FSteps.cons ?_ ?_
      · intro u W hS hd K hK
        have h4 : u 4 = _ := (hd 4 rfl).1
        clear hd
        simp only [upd, h4, reduceIte, Nat.reduceEqDiff] at hK
        obtain ⟨pk, hA⟩ := hS
        have c := hA.p.k0.cell
        go_simp
        exact hK.out _ _ (Or.inl rfl) ⟨rfl, fun h => by cases h⟩
      refine FSteps.cons ?_ ?_
      · intro u W hS hd K hK
        clear hd
        simp only [upd, reduceIte, Nat.reduceEqDiff] at hK
        go_simp
        exact hK.out _ _ (Or.inl rfl) ⟨rfl, fun h => by cases h⟩
      refine FSteps.cons ?_ ?_
      · intro u W hS hd K hK
        have h6 : u 6 = _ := (hd 6 rfl).1
        clear hd
        simp only [upd, h6, reduceIte, Nat.reduceEqDiff] at hK
        obtain ⟨pk, hA⟩ := hS
        have c := hA.p.k1.cell
        go_simp
        exact hK.out _ _ (Or.inl rfl) ⟨rfl, fun h => by cases h⟩
      refine FSteps.cons ?_ ?_
      · intro u W hS hd K hK
        have h5 : u 5 = _ := (hd 5 rfl).1
        have h7 : u 7 = _ := (hd 7 rfl).1
        clear hd
        simp only [upd, h5, h7, reduceIte, Nat.reduceEqDiff] at hK
        go_simp
        go_at_call 9
        refine (HM.out _).mono ?_
        rintro e wc ⟨rfl, rfl⟩
        exact hK.out _ _ (Or.inl rfl) ⟨rfl, fun h => by cases h⟩
      refine FSteps.cons ?_ ?_
      · intro u W hS hd K hK
        have h1 : u 1 = _ := (hd 1 rfl).1
        have h3 : u 3 = _ := (hd 3 rfl).1
        have h8 : u 8 = _ := (hd 8 rfl).1
        clear hd
        simp only [upd, h1, h3, h8, reduceIte, Nat.reduceEqDiff] at hK
        go_simp
        all_goals first | exact hK.out _ _ (Or.inl rfl) ⟨congrArg (Value.int .i64) (by omega), fun h => by cases h⟩ | skip
      refine FSteps.cons ?_ ?_
      · intro u W hS hd K hK
        clear hd
        simp only [upd, reduceIte, Nat.reduceEqDiff] at hK
        go_simp
        exact hK.out _ _ (Or.inl rfl) ⟨rfl, fun h => by cases h⟩
      refine FSteps.cons ?_ ?_
      · intro u W hS hd K hK
        have h9 : u 9 = _ := (hd 9 rfl).1
        have h10 : u 10 = _ := (hd 10 rfl).1
        clear hd
        simp only [upd, h9, h10, reduceIte, Nat.reduceEqDiff] at hK
        obtain ⟨pk, hA⟩ := hS
        have c := hA.p.k3.cell
        have f := hA.p.k3.free
        go_simp
        exact hK.out undef _ (Or.inr rfl) ⟨trivial, fun _ => set_here c⟩
      exact trivial
    case hend2 =>
      intro u w4 hS hd
      obtain ⟨pk, hA⟩ := hS
      have hc := (hd 11 rfl).2 rfl
      obtain rfl : pk = min k (min k' M) := by
        have e := hA.p.k3.cell
        rw [hc] at e
        simp only [Option.some.injEq, Value.int.injEq, true_and] at e
        exact e.symm
      have HAG := Lib.hid hA
      clear hd hc hA
      have hm0 : ¬ m = w.heap.size := by have := HAG.out.lt; omega
      have hm1 : ¬ m = w.heap.size + 1 := by have := HAG.out.lt; omega
      obtain ⟨KM, hKM⟩ : ∃ KM, KM = min k (min k' M) := ⟨_, rfl⟩
      rw [← hKM] at HAG
      have HKM := Lib.hid hKM
      clear hKM
      obtain ⟨⟨⟨a0, -, -⟩, ⟨a1, -, -⟩, ⟨a2, -, -⟩, ⟨a3, -, -⟩, ⟨a4, -, -⟩, ⟨a5, -, -⟩⟩, ⟨⟨b0, -, -⟩, ⟨b1, -, -⟩, ⟨b2, -, -⟩, ⟨b3, -, -⟩, ⟨b4, -, -⟩, ⟨b5, -, -⟩⟩, ⟨⟨z0, y0, -⟩, ⟨z1, y1, -⟩, ⟨z2, y2, -⟩, ⟨z3, y3, -⟩, ⟨z4, y4, -⟩, ⟨z5, y5, -⟩⟩, ⟨⟨p0, q0, -⟩, ⟨p1, q1, -⟩, ⟨p2, q2, -⟩, ⟨p3, q3, -⟩, ⟨p4, q4, -⟩, ⟨p5, q5, -⟩⟩, -, -⟩ := HAG.out
      go_wp2_with fail
      have H5 := Lib.hid ((HAG.out.put4 (max t t')).put5 (min r r'))
      have S6 := stored6 (.bool false) (.bool b') (.int .i64 (min n n')) (.int .i64 KM) (.int .i64 (max t t')) (.int .i64 (min r r')) H5.out.z
      have HBF := Lib.hid (set6_below (m := w.heap.size + 1 + 1) H5.out.bel (by omega) (.bool false) (.bool b') (.int .i64 (min n n')) (.int .i64 KM) (.int .i64 (max t t')) (.int .i64 (min r r')))
      exact bodyPost_ret (v := .tuple #[.agg #[.bool false, .bool b', .int .i64 (min n n'), .int .i64 KM, .int .i64 (max t t'), .int .i64 (min r r')], .int .i64 0]) (by simp [results, Try.results13, go_sem, S6.k0.cell, S6.k1.cell, S6.k2.cell, S6.k3.cell, S6.k4.cell, S6.k5.cell]) rfl ⟨by rw [HKM.out], HBF.out⟩
  · simp only [Bool.true_and, Bool.false_and] at HM ⊢
    go_enter Try.func13, Try.ntmps13
    obtain ⟨⟨a0, -, -⟩, ⟨a1, -, -⟩, ⟨a2, -, -⟩, ⟨a3, -, -⟩, ⟨a4, -, -⟩, ⟨a5, -, -⟩⟩ := HA.out
    go_wp2_with fail
    go_at_call 8
    refine (H1.out _).mono ?_
    rintro e w1 ⟨rfl, hb⟩
    have HB1 := Lib.hid (HB0.out.trans (hb.mono HB0.out.size))
    have HA1 := Lib.hid (HA.out.below hb)
    have HD1 := Lib.hid (HD.out.below hb)
    have HZ1 := Lib.hid (HZ.out.below hb)
    clear hb a0 a1 a2 a3 a4 a5
    obtain ⟨⟨a0, -, -⟩, ⟨a1, -, -⟩, ⟨a2, -, -⟩, ⟨a3, -, -⟩, ⟨a4, -, -⟩, ⟨a5, -, -⟩⟩ := HD1.out
    go_wp2_with fail
    go_at_call 8
    refine (H2.out _).mono ?_
    rintro e w2 ⟨rfl, hb⟩
    have HB2 := Lib.hid (HB1.out.trans (hb.mono HB1.out.size))
    have HA2 := Lib.hid (HA1.out.below hb)
    have HD2 := Lib.hid (HD1.out.below hb)
    have HZ2 := Lib.hid (HZ1.out.below hb)
    clear hb a0 a1 a2 a3 a4 a5 HA HD HZ HA1 HD1 HZ1 HB0 HB1
    obtain ⟨⟨a0, -, -⟩, ⟨a1, -, -⟩, ⟨a2, -, -⟩, ⟨a3, -, -⟩, ⟨a4, -, -⟩, ⟨a5, -, -⟩⟩ := HA2.out
    obtain ⟨⟨b0, -, -⟩, ⟨b1, -, -⟩, ⟨b2, -, -⟩, ⟨b3, -, -⟩, ⟨b4, -, -⟩, ⟨b5, -, -⟩⟩ := HD2.out
    have hz0 := HA2.out.k0.lt
    have hz1 := HD2.out.k0.lt
    have hz2 := HZ2.out.k0.lt
    have hn0 : ¬ w2.heap.size = w.heap.size := by omega
    have hn1 : ¬ w2.heap.size = w.heap.size + 1 := by omega
    go_wp2_with fail
    have HAG := Lib.hid (show AgAt w (w2.alloc (.cells #[.bool a', .bool false, .int .i64 (min n n'), .int .i64 0, .int .i64 0, .int .i64 0] 23)) w2.heap.size true false n k t r a' b' n' k' t' r' a' false (min n n') 0 0 0 from ⟨HA2.out.alloc _, HD2.out.alloc _, HZ2.out.alloc _, C6.new w2 _ rfl _ _ _ _ _ _ _, HB2.out.alloc HB2.out.size _, hz2⟩)
    generalize w2.alloc (.cells #[.bool a', .bool false, .int .i64 (min n n'), .int .i64 0, .int .i64 0, .int .i64 0] 23) = w3 at *
    generalize w2.heap.size = m at *
    clear a0 a1 a2 a3 a4 a5 b0 b1 b2 b3 b4 b5 HA2 HD2 HZ2 HB2
    refine wp_region_facts (fun W W' => W' = W ∨ W' = W.setCell ⟨m, 3, none⟩ (.int .i64 (min k (min k' M)))) (fun W => ∃ pk, AgAt w W m true false n k t r a' b' n' k' t' r' a' false (min n n') pk 0 0) (fun j v W => factsOf (agFacts w.heap.size m a' false k k' M) j v W ∧ (j = 11 → W.cell? ⟨m, 3, none⟩ = some (.int .i64 (min k (min k' M))))) (by kernel_rfl) (by kernel_rfl) ?hphi3 ?hS3 (fun _ => undef) (by kernel_rfl) ⟨0, ⟨HAG.out.x.drew, HAG.out.y.drew, HAG.out.z.drew, HAG.out.p.drew, HAG.out.bel.drew, HAG.out.lt⟩⟩ ?F3 ?hF3 ?hstep3 ?hend3
    case hphi3 =>
      rintro j v W W' (rfl | rfl) ⟨h1, h2⟩
      · exact ⟨h1, h2⟩
      · exact ⟨facts_still rfl j v W _ h1, fun h => set_here (h2 h)⟩
    case hS3 =>
      rintro W W' (rfl | rfl) ⟨pk, h⟩
      · exact ⟨pk, h⟩
      · exact ⟨_, h.put3 _⟩
    case hF3 =>
      intro u
      simp only [fillAct]
      go_simp
      rfl
    case hstep3 =>
      refine FSteps.cons ?_ ?_
      · intro u W hS hd K hK
        clear hd
        simp only [upd, reduceIte, Nat.reduceEqDiff] at hK
        go_simp
        exact hK.out _ _ (Or.inl rfl) ⟨rfl, fun h => by cases h⟩
      refine FSteps.cons ?_ ?_
      · intro u W hS hd K hK
        have h0 : u 0 = _ := (hd 0 rfl).1
        clear hd
        simp only [upd, h0, reduceIte, Nat.reduceEqDiff] at hK
        obtain ⟨pk, hA⟩ := hS
        have c := hA.x.k3.cell
        go_simp
        exact hK.out _ _ (Or.inl rfl) ⟨rfl, fun h => by cases h⟩
      refine FSteps.cons ?_ ?_
      · intro u W hS hd K hK
        clear hd
        simp only [upd, reduceIte, Nat.reduceEqDiff] at hK
        go_simp
        exact hK.out _ _ (Or.inl rfl) ⟨rfl, fun h => by cases h⟩
      refine FSteps.cons ?_ ?_
      · intro u W hS hd K hK
        have h2 : u 2 = _ := (hd 2 rfl).1
        clear hd
        simp only [upd, h2, reduceIte, Nat.reduceEqDiff] at hK
        obtain ⟨pk, hA⟩ := hS
        have c := hA.y.k3.cell
        go_simp
        exact hK.out _ _ (Or.inl rfl) ⟨rfl, fun h => by cases h⟩
      refine FSteps.cons ?_ ?_
      · intro u W hS hd K hK
        clear hd
        simp only [upd, reduceIte, Nat.reduceEqDiff] at hK
        go_simp
        exact hK.out _ _ (Or.inl rfl) ⟨rfl, fun h => by cases h⟩
      refine FSteps.cons ?_ ?_
      · intro u W hS hd K hK
        have h4 : u 4 = _ := (hd 4 rfl).1
        clear hd
        simp only [upd, h4, reduceIte, Nat.reduceEqDiff] at hK
        obtain ⟨pk, hA⟩ := hS
        have c := hA.p.k0.cell
        go_simp
        exact hK.out _ _ (Or.inl rfl) ⟨rfl, fun h => by cases h⟩
      refine FSteps.cons ?_ ?_
      · intro u W hS hd K hK
        clear hd
        simp only [upd, reduceIte, Nat.reduceEqDiff] at hK
        go_simp
        exact hK.out _ _ (Or.inl rfl) ⟨rfl, fun h => by cases h⟩
      refine FSteps.cons ?_ ?_
      · intro u W hS hd K hK
        have h6 : u 6 = _ := (hd 6 rfl).1
        clear hd
        simp only [upd, h6, reduceIte, Nat.reduceEqDiff] at hK
        obtain ⟨pk, hA⟩ := hS
        have c := hA.p.k1.cell
        go_simp
        exact hK.out _ _ (Or.inl rfl) ⟨rfl, fun h => by cases h⟩
      refine FSteps.cons ?_ ?_
      · intro u W hS hd K hK
        have h5 : u 5 = _ := (hd 5 rfl).1
        have h7 : u 7 = _ := (hd 7 rfl).1
        clear hd
        simp only [upd, h5, h7, reduceIte, Nat.reduceEqDiff] at hK
        go_simp
        go_at_call 9
        refine (HM.out _).mono ?_
        rintro e wc ⟨rfl, rfl⟩
        exact hK.out _ _ (Or.inl rfl) ⟨rfl, fun h => by cases h⟩
      refine FSteps.cons ?_ ?_
      · intro u W hS hd K hK
        have h1 : u 1 = _ := (hd 1 rfl).1
        have h3 : u 3 = _ := (hd 3 rfl).1
        have h8 : u 8 = _ := (hd 8 rfl).1
        clear hd
        simp only [upd, h1, h3, h8, reduceIte, Nat.reduceEqDiff] at hK
        go_simp
        all_goals first | exact hK.out _ _ (Or.inl rfl) ⟨congrArg (Value.int .i64) (by omega), fun h => by cases h⟩ | skip
      refine FSteps.cons ?_ ?_
      · intro u W hS hd K hK
        clear hd
        simp only [upd, reduceIte, Nat.reduceEqDiff] at hK
        go_simp
        exact hK.out _ _ (Or.inl rfl) ⟨rfl, fun h => by cases h⟩
      refine FSteps.cons ?_ ?_
      · intro u W hS hd K hK
        have h9 : u 9 = _ := (hd 9 rfl).1
        have h10 : u 10 = _ := (hd 10 rfl).1
        clear hd
        simp only [upd, h9, h10, reduceIte, Nat.reduceEqDiff] at hK
        obtain ⟨pk, hA⟩ := hS
        have c := hA.p.k3.cell
        have f := hA.p.k3.free
        go_simp
        exact hK.out undef _ (Or.inr rfl) ⟨trivial, fun _ => set_here c⟩
      exact trivial
    case hend3 =>
      intro u w4 hS hd
      obtain ⟨pk, hA⟩ := hS
      have hc := (hd 11 rfl).2 rfl
      obtain rfl : pk = min k (min k' M) := by
        have e := hA.p.k3.cell
        rw [hc] at e
        simp only [Option.some.injEq, Value.int.injEq, true_and] at e
        exact e.symm
      have HAG := Lib.hid hA
      clear hd hc hA
      have hm0 : ¬ m = w.heap.size := by have := HAG.out.lt; omega
      have hm1 : ¬ m = w.heap.size + 1 := by have := HAG.out.lt; omega
      obtain ⟨KM, hKM⟩ : ∃ KM, KM = min k (min k' M) := ⟨_, rfl⟩
      rw [← hKM] at HAG
      have HKM := Lib.hid hKM
      clear hKM
      obtain ⟨⟨⟨a0, -, -⟩, ⟨a1, -, -⟩, ⟨a2, -, -⟩, ⟨a3, -, -⟩, ⟨a4, -, -⟩, ⟨a5, -, -⟩⟩, ⟨⟨b0, -, -⟩, ⟨b1, -, -⟩, ⟨b2, -, -⟩, ⟨b3, -, -⟩, ⟨b4, -, -⟩, ⟨b5, -, -⟩⟩, ⟨⟨z0, y0, -⟩, ⟨z1, y1, -⟩, ⟨z2, y2, -⟩, ⟨z3, y3, -⟩, ⟨z4, y4, -⟩, ⟨z5, y5, -⟩⟩, ⟨⟨p0, q0, -⟩, ⟨p1, q1, -⟩, ⟨p2, q2, -⟩, ⟨p3, q3, -⟩, ⟨p4, q4, -⟩, ⟨p5, q5, -⟩⟩, -, -⟩ := HAG.out
      go_wp2_with fail
      have H5 := Lib.hid ((HAG.out.put4 (max t t')).put5 (min r r'))
      have S6 := stored6 (.bool a') (.bool false) (.int .i64 (min n n')) (.int .i64 KM) (.int .i64 (max t t')) (.int .i64 (min r r')) H5.out.z
      have HBF := Lib.hid (set6_below (m := w.heap.size + 1 + 1) H5.out.bel (by omega) (.bool a') (.bool false) (.int .i64 (min n n')) (.int .i64 KM) (.int .i64 (max t t')) (.int .i64 (min r r')))
      exact bodyPost_ret (v := .tuple #[.agg #[.bool a', .bool false, .int .i64 (min n n'), .int .i64 KM, .int .i64 (max t t'), .int .i64 (min r r')], .int .i64 0]) (by simp [results, Try.results13, go_sem, S6.k0.cell, S6.k1.cell, S6.k2.cell, S6.k3.cell, S6.k4.cell, S6.k5.cell]) rfl ⟨by rw [HKM.out], HBF.out⟩
  · simp only [Bool.true_and] at HM ⊢
    go_enter Try.func13, Try.ntmps13
    obtain ⟨⟨a0, -, -⟩, ⟨a1, -, -⟩, ⟨a2, -, -⟩, ⟨a3, -, -⟩, ⟨a4, -, -⟩, ⟨a5, -, -⟩⟩ := HA.out
    go_wp2_with fail
    go_at_call 8
    refine (H1.out _).mono ?_
    rintro e w1 ⟨rfl, hb⟩
    have HB1 := Lib.hid (HB0.out.trans (hb.mono HB0.out.size))
    have HA1 := Lib.hid (HA.out.below hb)
    have HD1 := Lib.hid (HD.out.below hb)
    have HZ1 := Lib.hid (HZ.out.below hb)
    clear hb a0 a1 a2 a3 a4 a5
    obtain ⟨⟨a0, -, -⟩, ⟨a1, -, -⟩, ⟨a2, -, -⟩, ⟨a3, -, -⟩, ⟨a4, -, -⟩, ⟨a5, -, -⟩⟩ := HD1.out
    go_wp2_with fail
    go_at_call 8
    refine (H2.out _).mono ?_
    rintro e w2 ⟨rfl, hb⟩
    have HB2 := Lib.hid (HB1.out.trans (hb.mono HB1.out.size))
    have HA2 := Lib.hid (HA1.out.below hb)
    have HD2 := Lib.hid (HD1.out.below hb)
    have HZ2 := Lib.hid (HZ1.out.below hb)
    clear hb a0 a1 a2 a3 a4 a5 HA HD HZ HA1 HD1 HZ1 HB0 HB1
    obtain ⟨⟨a0, -, -⟩, ⟨a1, -, -⟩, ⟨a2, -, -⟩, ⟨a3, -, -⟩, ⟨a4, -, -⟩, ⟨a5, -, -⟩⟩ := HA2.out
    obtain ⟨⟨b0, -, -⟩, ⟨b1, -, -⟩, ⟨b2, -, -⟩, ⟨b3, -, -⟩, ⟨b4, -, -⟩, ⟨b5, -, -⟩⟩ := HD2.out
    have hz0 := HA2.out.k0.lt
    have hz1 := HD2.out.k0.lt
    have hz2 := HZ2.out.k0.lt
    have hn0 : ¬ w2.heap.size = w.heap.size := by omega
    have hn1 : ¬ w2.heap.size = w.heap.size + 1 := by omega
    go_wp2_with fail
    have HAG := Lib.hid (show AgAt w (w2.alloc (.cells #[.bool a', .bool b', .int .i64 (min n n'), .int .i64 0, .int .i64 0, .int .i64 0] 23)) w2.heap.size true true n k t r a' b' n' k' t' r' a' b' (min n n') 0 0 0 from ⟨HA2.out.alloc _, HD2.out.alloc _, HZ2.out.alloc _, C6.new w2 _ rfl _ _ _ _ _ _ _, HB2.out.alloc HB2.out.size _, hz2⟩)
    generalize w2.alloc (.cells #[.bool a', .bool b', .int .i64 (min n n'), .int .i64 0, .int .i64 0, .int .i64 0] 23) = w3 at *
    generalize w2.heap.size = m at *
    clear a0 a1 a2 a3 a4 a5 b0 b1 b2 b3 b4 b5 HA2 HD2 HZ2 HB2
    refine wp_region_facts (fun W W' => W' = W ∨ W' = W.setCell ⟨m, 3, none⟩ (.int .i64 (min k (min k' M)))) (fun W => ∃ pk, AgAt w W m true true n k t r a' b' n' k' t' r' a' b' (min n n') pk 0 0) (fun j v W => factsOf (agFacts w.heap.size m a' b' k k' M) j v W ∧ (j = 11 → W.cell? ⟨m, 3, none⟩ = some (.int .i64 (min k (min k' M))))) (by kernel_rfl) (by kernel_rfl) ?hphi4 ?hS4 (fun _ => undef) (by kernel_rfl) ⟨0, ⟨HAG.out.x.drew, HAG.out.y.drew, HAG.out.z.drew, HAG.out.p.drew, HAG.out.bel.drew, HAG.out.lt⟩⟩ ?F4 ?hF4 ?hstep4 ?hend4
    case hphi4 =>
      rintro j v W W' (rfl | rfl) ⟨h1, h2⟩
      · exact ⟨h1, h2⟩
      · exact ⟨facts_still rfl j v W _ h1, fun h => set_here (h2 h)⟩
    case hS4 =>
      rintro W W' (rfl | rfl) ⟨pk, h⟩
      · exact ⟨pk, h⟩
      · exact ⟨_, h.put3 _⟩
    case hF4 =>
      intro u
      simp only [fillAct]
      go_simp
      rfl
    case hstep4 =>
      refine FSteps.cons ?_ ?_
      · intro u W hS hd K hK
        clear hd
        simp only [upd, reduceIte, Nat.reduceEqDiff] at hK
        go_simp
        exact hK.out _ _ (Or.inl rfl) ⟨rfl, fun h => by cases h⟩
      refine FSteps.cons ?_ ?_
      · intro u W hS hd K hK
        have h0 : u 0 = _ := (hd 0 rfl).1
        clear hd
        simp only [upd, h0, reduceIte, Nat.reduceEqDiff] at hK
        obtain ⟨pk, hA⟩ := hS
        have c := hA.x.k3.cell
        go_simp
        exact hK.out _ _ (Or.inl rfl) ⟨rfl, fun h => by cases h⟩
      refine FSteps.cons ?_ ?_
      · intro u W hS hd K hK
        clear hd
        simp only [upd, reduceIte, Nat.reduceEqDiff] at hK
        go_simp
        exact hK.out _ _ (Or.inl rfl) ⟨rfl, fun h => by cases h⟩
      refine FSteps.cons ?_ ?_
      · intro u W hS hd K hK
        have h2 : u 2 = _ := (hd 2 rfl).1
        clear hd
        simp only [upd, h2, reduceIte, Nat.reduceEqDiff] at hK
        obtain ⟨pk, hA⟩ := hS
        have c := hA.y.k3.cell
        go_simp
        exact hK.out _ _ (Or.inl rfl) ⟨rfl, fun h => by cases h⟩
      refine FSteps.cons ?_ ?_
      · intro u W hS hd K hK
        clear hd
        simp only [upd, reduceIte, Nat.reduceEqDiff] at hK
        go_simp
        exact hK.out _ _ (Or.inl rfl) ⟨rfl, fun h => by cases h⟩
      refine FSteps.cons ?_ ?_
      · intro u W hS hd K hK
        have h4 : u 4 = _ := (hd 4 rfl).1
        clear hd
        simp only [upd, h4, reduceIte, Nat.reduceEqDiff] at hK
        obtain ⟨pk, hA⟩ := hS
        have c := hA.p.k0.cell
        go_simp
        exact hK.out _ _ (Or.inl rfl) ⟨rfl, fun h => by cases h⟩
      refine FSteps.cons ?_ ?_
      · intro u W hS hd K hK
        clear hd
        simp only [upd, reduceIte, Nat.reduceEqDiff] at hK
        go_simp
        exact hK.out _ _ (Or.inl rfl) ⟨rfl, fun h => by cases h⟩
      refine FSteps.cons ?_ ?_
      · intro u W hS hd K hK
        have h6 : u 6 = _ := (hd 6 rfl).1
        clear hd
        simp only [upd, h6, reduceIte, Nat.reduceEqDiff] at hK
        obtain ⟨pk, hA⟩ := hS
        have c := hA.p.k1.cell
        go_simp
        exact hK.out _ _ (Or.inl rfl) ⟨rfl, fun h => by cases h⟩
      refine FSteps.cons ?_ ?_
      · intro u W hS hd K hK
        have h5 : u 5 = _ := (hd 5 rfl).1
        have h7 : u 7 = _ := (hd 7 rfl).1
        clear hd
        simp only [upd, h5, h7, reduceIte, Nat.reduceEqDiff] at hK
        go_simp
        go_at_call 9
        refine (HM.out _).mono ?_
        rintro e wc ⟨rfl, rfl⟩
        exact hK.out _ _ (Or.inl rfl) ⟨rfl, fun h => by cases h⟩
      refine FSteps.cons ?_ ?_
      · intro u W hS hd K hK
        have h1 : u 1 = _ := (hd 1 rfl).1
        have h3 : u 3 = _ := (hd 3 rfl).1
        have h8 : u 8 = _ := (hd 8 rfl).1
        clear hd
        simp only [upd, h1, h3, h8, reduceIte, Nat.reduceEqDiff] at hK
        go_simp
        all_goals first | exact hK.out _ _ (Or.inl rfl) ⟨congrArg (Value.int .i64) (by omega), fun h => by cases h⟩ | skip
      refine FSteps.cons ?_ ?_
      · intro u W hS hd K hK
        clear hd
        simp only [upd, reduceIte, Nat.reduceEqDiff] at hK
        go_simp
        exact hK.out _ _ (Or.inl rfl) ⟨rfl, fun h => by cases h⟩
      refine FSteps.cons ?_ ?_
      · intro u W hS hd K hK
        have h9 : u 9 = _ := (hd 9 rfl).1
        have h10 : u 10 = _ := (hd 10 rfl).1
        clear hd
        simp only [upd, h9, h10, reduceIte, Nat.reduceEqDiff] at hK
        obtain ⟨pk, hA⟩ := hS
        have c := hA.p.k3.cell
        have f := hA.p.k3.free
        go_simp
        exact hK.out undef _ (Or.inr rfl) ⟨trivial, fun _ => set_here c⟩
      exact trivial
    case hend4 =>
      intro u w4 hS hd
      obtain ⟨pk, hA⟩ := hS
      have hc := (hd 11 rfl).2 rfl
      obtain rfl : pk = min k (min k' M) := by
        have e := hA.p.k3.cell
        rw [hc] at e
        simp only [Option.some.injEq, Value.int.injEq, true_and] at e
        exact e.symm
      have HAG := Lib.hid hA
      clear hd hc hA
      have hm0 : ¬ m = w.heap.size := by have := HAG.out.lt; omega
      have hm1 : ¬ m = w.heap.size + 1 := by have := HAG.out.lt; omega
      obtain ⟨KM, hKM⟩ : ∃ KM, KM = min k (min k' M) := ⟨_, rfl⟩
      rw [← hKM] at HAG
      have HKM := Lib.hid hKM
      clear hKM
      obtain ⟨⟨⟨a0, -, -⟩, ⟨a1, -, -⟩, ⟨a2, -, -⟩, ⟨a3, -, -⟩, ⟨a4, -, -⟩, ⟨a5, -, -⟩⟩, ⟨⟨b0, -, -⟩, ⟨b1, -, -⟩, ⟨b2, -, -⟩, ⟨b3, -, -⟩, ⟨b4, -, -⟩, ⟨b5, -, -⟩⟩, ⟨⟨z0, y0, -⟩, ⟨z1, y1, -⟩, ⟨z2, y2, -⟩, ⟨z3, y3, -⟩, ⟨z4, y4, -⟩, ⟨z5, y5, -⟩⟩, ⟨⟨p0, q0, -⟩, ⟨p1, q1, -⟩, ⟨p2, q2, -⟩, ⟨p3, q3, -⟩, ⟨p4, q4, -⟩, ⟨p5, q5, -⟩⟩, -, -⟩ := HAG.out
      go_wp2_with fail
      have H5 := Lib.hid ((HAG.out.put4 (max t t')).put5 (min r r'))
      have S6 := stored6 (.bool a') (.bool b') (.int .i64 (min n n')) (.int .i64 KM) (.int .i64 (max t t')) (.int .i64 (min r r')) H5.out.z
      have HBF := Lib.hid (set6_below (m := w.heap.size + 1 + 1) H5.out.bel (by omega) (.bool a') (.bool b') (.int .i64 (min n n')) (.int .i64 KM) (.int .i64 (max t t')) (.int .i64 (min r r')))
      exact bodyPost_ret (v := .tuple #[.agg #[.bool a', .bool b', .int .i64 (min n n'), .int .i64 KM, .int .i64 (max t t'), .int .i64 (min r r')], .int .i64 0]) (by simp [results, Try.results13, go_sem, S6.k0.cell, S6.k1.cell, S6.k2.cell, S6.k3.cell, S6.k4.cell, S6.k5.cell]) rfl ⟨by rw [HKM.out], HBF.out⟩
end Go.Proofs.Ytmbjhhpnckfppaa
