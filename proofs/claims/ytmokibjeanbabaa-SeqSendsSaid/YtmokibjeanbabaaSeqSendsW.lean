/-
The walk of SeqSends (written by tools/gen11/gen_sends.py).
-/
import Derived.Test.YtmokibjeanbabaaSeqCBoth
import Derived.Test.YtmokibjeanbabaaSeqRTakeB
namespace Go.Proofs.Ytmokibjeanbabaa
open Go.RowKit
set_option maxRecDepth 20000
/-- both windows, ahead of a round -/
structure SdAt (w : World) (p q : Nat) (m k : Int) (s : So) (W : World) : Prop where
  c : RowAt W p (coV m k s)
  r : RowAt W q (soV m k s)
  bel : Below w.heap.size w W
  l1 : w.heap.size ≤ p
  l2 : w.heap.size ≤ q
  ne : p ≠ q
theorem SdAt.below {w W W' : World} {p q : Nat} {m k : Int} {s : So} (h : SdAt w p q m k s W) (hb : Below W.heap.size W W') : SdAt w p q m k s W' :=
  ⟨h.c.below hb, h.r.below hb, h.bel.trans (hb.mono h.bel.size), h.l1, h.l2, h.ne⟩
theorem SdAt.drew {w W : World} {p q : Nat} {m k : Int} {s : So} (h : SdAt w p q m k s W) : SdAt w p q m k s W.drew := ⟨h.c.drew, h.r.drew, h.bel.drew, h.l1, h.l2, h.ne⟩
/-- the landed one has moved on -/
theorem SdAt.one {w W X : World} {p q : Nat} {m k : Int} {s : So} (h : SdAt w p q m k s W) (t1 : Turn (fun x => x = p) W X) : RowAt X q (soV m k s) ∧ Below w.heap.size w X :=
  ⟨h.r.turn t1 (fun e => h.ne e.symm), h.bel.trans (t1.below h.bel.size (fun b e => by rw [e]; exact h.l1))⟩
/-- both have -/
theorem SdAt.both {w W X Y : World} {p q : Nat} {m k : Int} {s s' : So} (h : SdAt w p q m k s W) (hc : RowAt X p (coV m k s')) (t1 : Turn (fun x => x = p) W X) (hr : RowAt Y q (soV m k s')) (t2 : Turn (fun x => x = q) X Y) : SdAt w p q m k s' Y :=
  ⟨hc.turn t2 h.ne, hr, (h.one t1).2.trans (t2.below (Nat.le_trans h.bel.size t1.size) (fun b e => by rw [e]; exact h.l2)), h.l1, h.l2, h.ne⟩
set_option maxHeartbeats 1000000 in
theorem seqsends_bad (m k : Int) (a : Option Addr) (n cc : Nat) (w : World) (h : modR m = false ∨ k < 1 ∨ m ≤ k) : Calls Try.prog 4 #[.int .i64 m, .int .i64 k, .slice a n cc] w fun e w' => e = .returned (.bool true) ∧ Below w.heap.size w w' := by
  have HAW := Lib.hid (fun W => cseqawake W)
  have HN := Lib.hid (fun W => cnewout_no m k W h)
  have HM := Lib.hid (fun W => rmod_any m W)
  cases hm : modR m with
  | false =>
    rw [hm] at HM
    clear h hm
    go_enter Try.func4, Try.ntmps4
    go_wp2_with (first | (go_at_call 8; (with_reducible refine (HAW.out _).mono ?_); rintro e w1 ⟨rfl, hb⟩; have HB1 := Lib.hid hb; clear hb) | (go_at_call 13; (with_reducible refine (HN.out _).mono ?_); rintro e w1 ⟨rfl, rfl⟩) | (go_at_call 14; (with_reducible refine (HM.out _).mono ?_); rintro e w1 ⟨rfl, rfl⟩))
    exact bodyPost_ret (v := .bool true) (by simp [results, Try.results4, go_sem]) rfl ⟨rfl, HB1.out⟩
  | true =>
    rw [hm] at HM h
    by_cases hk : k < 1
    · have d0 : decide (k < 1) = true := decide_eq_true hk
      clear h hm hk
      go_enter Try.func4, Try.ntmps4
      go_wp2_with (first | (go_at_call 8; (with_reducible refine (HAW.out _).mono ?_); rintro e w1 ⟨rfl, hb⟩; have HB1 := Lib.hid hb; clear hb) | (go_at_call 13; (with_reducible refine (HN.out _).mono ?_); rintro e w1 ⟨rfl, rfl⟩) | (go_at_call 14; (with_reducible refine (HM.out _).mono ?_); rintro e w1 ⟨rfl, rfl⟩))
      exact bodyPost_ret (v := .bool true) (by simp [results, Try.results4, go_sem]) rfl ⟨rfl, HB1.out⟩
    · have d0 : decide (k < 1) = false := decide_eq_false hk
      have d1 : decide (m ≤ k) = true := decide_eq_true (by
        rcases h with h | h | h
        · cases h
        · omega
        · omega)
      clear h hm hk
      go_enter Try.func4, Try.ntmps4
      go_wp2_with (first | (go_at_call 8; (with_reducible refine (HAW.out _).mono ?_); rintro e w1 ⟨rfl, hb⟩; have HB1 := Lib.hid hb; clear hb) | (go_at_call 13; (with_reducible refine (HN.out _).mono ?_); rintro e w1 ⟨rfl, rfl⟩) | (go_at_call 14; (with_reducible refine (HM.out _).mono ?_); rintro e w1 ⟨rfl, rfl⟩))
      exact bodyPost_ret (v := .bool true) (by simp [results, Try.results4, go_sem]) rfl ⟨rfl, HB1.out⟩
set_option maxHeartbeats 2000000 in
theorem seqsends_ok (m k : Int) (a : Option Addr) (n cc : Nat) (L : List Int) (w : World) (hn : L.length = n) (hA : AtL encI w a L) (hyb : ∀ y ∈ L, -9223372036854775808 ≤ y ∧ y ≤ 9223372036854775807) (hmd : m = 8 ∨ m = 128) (hk : 1 ≤ k ∧ k < m) : Calls Try.prog 4 #[.int .i64 m, .int .i64 k, .slice a n cc] w fun e w' => e = .returned (.bool true) ∧ Below w.heap.size w w' := by
  have HAW := Lib.hid (fun W => cseqawake W)
  have HN := Lib.hid (fun W => cnewout_yes m k W hmd hk)
  have HM := Lib.hid (fun W => rmod_any m W)
  rw [show modR m = true from by rcases hmd with e | e <;> subst e <;> rfl] at HM
  have d0 : decide (k < 1) = false := decide_eq_false (by omega)
  have d1 : decide (m ≤ k) = false := decide_eq_false (by omega)
  have HMD := Lib.hid hmd
  have HKK := Lib.hid hk
  have hm0 : ¬ (m = 0) := by omega
  by_cases hz : 400 < n
  · have dz : decide ((400 : Int) < (n : Int)) = true := decide_eq_true (by omega)
    clear hn hA hmd hk hz
    go_enter Try.func4, Try.ntmps4
    go_wp2_with (first | (go_at_call 8; (with_reducible refine (HAW.out _).mono ?_); rintro e w1 ⟨rfl, hb⟩; have HB1 := Lib.hid hb; clear hb) | (go_at_call 13; (with_reducible refine (HN.out _).mono ?_); rintro e w2 ⟨rfl, rfl⟩; have HB2 := Lib.hid (HB1.out.alloc HB1.out.size (.cells #[.int .i64 m, .int .i64 k, .int .i64 0, .int .i64 0] 63))) | (go_at_call 14; (with_reducible refine (HM.out _).mono ?_); rintro e w3 ⟨rfl, rfl⟩))
    exact bodyPost_ret (v := .bool true) (by simp [results, Try.results4, go_sem]) rfl ⟨rfl, HB2.out⟩
  · have dz : decide ((400 : Int) < (n : Int)) = false := decide_eq_false (by omega)
    have HNN := Lib.hid hn
    have HA := Lib.hid hA
    have hn4 : n ≤ 400 := by omega
    clear hn hA hmd hk hz
    go_enter Try.func4, Try.ntmps4
    go_upto_region 11 with (first | (go_at_call 8; (with_reducible refine (HAW.out _).mono ?_); rintro e w1 ⟨rfl, hb⟩; have HB1 := Lib.hid hb; clear hb) | (go_at_call 13; (with_reducible refine (HN.out _).mono ?_); rintro e w2 ⟨rfl, hw2⟩; have HW2 := Lib.hid hw2; clear hw2) | (go_at_call 14; (with_reducible refine (HM.out _).mono ?_); rintro e w3 ⟨rfl, hw3⟩; have HW3 := Lib.hid hw3; clear hw3))
    have HSD := Lib.hid (show SdAt w w1.heap.size (w1.heap.size + 1) m k ⟨0, 0⟩ (w3.alloc (.cells #[.int .i64 m, .int .i64 k, .int .i64 0, .int .i64 0] 34)) from by
      have hsw := HB1.out.size
      rw [HW3.out, HW2.out]
      have e0 : (0 : Int) % m = 0 := by rcases HMD.out with e | e <;> subst e <;> rfl
      refine ⟨?_, RowAt.new (w1.alloc (.cells #[.int .i64 m, .int .i64 k, .int .i64 0, .int .i64 0] 63)) (w1.heap.size + 1) (by simp) [.int .i64 m, .int .i64 k, .int .i64 0, .int .i64 0] 34, (HB1.out.alloc hsw _).alloc (by simp; omega) _, hsw, by omega, by omega⟩
      simp only [coV, e0]
      exact (RowAt.new w1 w1.heap.size rfl [.int .i64 m, .int .i64 k, .int .i64 0, .int .i64 0] 63).alloc _)
    have HS3 := Lib.hid (show w3.heap.size = w1.heap.size + 1 from by rw [HW3.out, HW2.out]; simp)
    rw [HS3.out]
    clear HB1 HAW HN HM d0 d1 dz HW2 HW3
    generalize w3.alloc (.cells #[.int .i64 m, .int .i64 k, .int .i64 0, .int .i64 0] 34) = w4 at *
    obtain ⟨q, hq⟩ : ∃ q, q = w1.heap.size + 1 := ⟨_, rfl⟩
    rw [← hq] at HSD ⊢
    clear hq HS3
    generalize w1.heap.size = p at *
    go_wp2_with fail
    go_loopw [62] (fun v wx => ∃ (j : Nat) (s : So), j ≤ n ∧ v = .int .i64 j ∧ s.opened ≤ (j : Int) ∧ Hid (SoOk m k s ∧ SdAt w p q m k s wx)) (fun v _ => n - (intOf v).toNat)
    case atStart => exact ⟨0, ⟨0, 0⟩, Nat.zero_le _, rfl, by simp, Lib.hid ⟨⟨HMD.out, HKK.out, ⟨Int.le_refl _, Int.le_refl _⟩, by have := HKK.out; show (0 : Int) - 0 ≤ k; omega, by show (0 : Int) ≤ 100000; omega⟩, HSD.out⟩⟩
    case round =>
      obtain ⟨j, s, hj, rfl, hso, HK⟩ := hrel
      clear HSD
      have HOK := Lib.hid HK.out.1
      have HS := Lib.hid HK.out.2
      clear HK
      by_cases hlt : j < n
      · have hL : j < L.length := by rw [HNN.out]; exact hlt
        obtain ⟨g, o, rfl, _⟩ := HA.out.some_ (by omega)
        have x0 := int_at (HA.out.below HS.out.bel) j hL
        have HYB := Lib.hid (hyb _ (List.getElem_mem hL))
        generalize L[j] = y at *
        by_cases hy0 : y = 0
        · have dy : (y == 0) = true := by simpa using hy0
          obtain ⟨⟨s2, n2, f2⟩, hE⟩ : ∃ x, nextS m k s = x := ⟨_, rfl⟩
          have HN1 := Lib.hid (fun W h => cnext_any p m k s W h HOK.out)
          have HN2 := Lib.hid (fun W h => rnext_any q m k s W h HOK.out)
          have hok2 := HOK.out.next (by omega)
          have hso2 : s2.opened ≤ ((j + 1 : Nat) : Int) := by
            have : s2 = (nextS m k s).1 := by rw [hE]
            rw [this]
            unfold nextS
            split
            · show s.opened ≤ _
              omega
            · show s.opened + 1 ≤ _
              omega
          rw [hE] at HN1 HN2 hok2
          have HOK2 := Lib.hid (show SoOk m k s2 from hok2)
          clear hE hok2 hy0 hso HOK
          go_upto_region 29 with (first | (go_at_call 15; (with_reducible refine (HN1.out _ HS.out.c).mono ?_); rintro e w5 ⟨rfl, hr5, ht5⟩; have HR5 := Lib.hid hr5; have HT5 := Lib.hid ht5; have HQ5 := Lib.hid (HS.out.one ht5).1; clear hr5 ht5) | (go_at_call 16; (with_reducible refine (HN2.out _ HQ5.out).mono ?_); rintro e w6 ⟨rfl, hr6, ht6⟩; have HSD2 := Lib.hid (HS.out.both HR5.out HT5.out hr6 ht6); clear hr6 ht6))
          clear HN1 HN2 HR5 HT5 HQ5 HS x0 dy
          have hab2 := HOK2.out.ab
          have hob2 := HOK2.out.ob
          have hkb2 := HOK2.out.kb
          obtain ⟨A2, hA2⟩ : ∃ A, s2.acked % m = A := ⟨_, rfl⟩
          obtain ⟨O2, hO2⟩ : ∃ O, s2.opened % m = O := ⟨_, rfl⟩
          have HVA := Lib.hid (fun W (h : RowAt W p (coV m k s2)) => cva_any p m k s2 W h)
          have HVS := Lib.hid (fun W (h : RowAt W p (coV m k s2)) => cvs_any p m k s2 W h)
          rw [hA2] at HVA
          rw [hO2] at HVS
          obtain ⟨t1, t2, -, -⟩ := rem_num m s2.acked HMD.out (by omega)
          obtain ⟨t3, t4, -, -⟩ := rem_num m s2.opened HMD.out (by omega)
          rw [hA2] at t1 t2
          rw [hO2] at t3 t4
          have HTT := Lib.hid (And.intro t1 (And.intro t2 (And.intro t3 t4)))
          have HOP1 := Lib.hid (fun W (h : RowAt W p (coV m k s2)) => copen_any p m k s2 W h HOK2.out)
          have HOP2 := Lib.hid (fun W (h : RowAt W q (soV m k s2)) => ropen_any q m k s2 W h HOK2.out)
          have HLL := Lib.hid (show (openS m s2).length ≤ 1000 from by rw [openS_len]; have := HMD.out; omega)
          generalize openS m s2 = L2 at *
          clear t1 t2 t3 t4 hA2 hO2 hab2 hob2 hkb2
          refine wp_region_facts (fun W W' => Below W.heap.size W W') (fun W => SdAt w p q m k s2 W)
            (fun j' v W => factsOf [.is (.pointer (some ⟨p, 0, none⟩)), .any, .is (.pointer (some ⟨q, 0, none⟩)), .any, .is (.bool true), .is (.bool false), .is (.bool false), .is (.pointer (some ⟨p, 0, none⟩)), .is (.int .i64 A2), .is (.pointer (some ⟨q, 0, none⟩)), .is (.pointer (some ⟨q, 0, none⟩)), .is (.pointer (some ⟨q, 3, none⟩)), .is (.int .i64 s2.acked), .is (.int .i64 m), .is (.int .i64 A2), .is (.bool false), .is (.bool false), .is (.bool false), .is (.pointer (some ⟨p, 0, none⟩)), .is (.int .i64 O2), .is (.pointer (some ⟨q, 0, none⟩)), .is (.pointer (some ⟨q, 0, none⟩)), .is (.pointer (some ⟨q, 2, none⟩)), .is (.int .i64 s2.opened), .is (.int .i64 m), .is (.int .i64 O2), .is (.bool false), .is (.bool false)] j' v W ∧ (j' = 1 ∨ j' = 3 → SeeL encI W v L2))
            (by kernel_rfl) (by kernel_rfl) (fun j' v W W' hb h => ⟨facts_stay _ j' v W W' hb h.1, fun e => (h.2 e).below hb⟩) (fun W W' hb h => h.below hb) (fun i => [u124, u125, u126, u127, u128, u129, u130, u131, u132, u133, u134, u135, u136, u137, u138, u139, u140, u141, u142, u143, u144, u145, u146, u147, u148, u149, u150, u151].getD i undef) (by kernel_rfl) HSD2.out.drew ?F1 ?hF1 ?hstep1 ?hend1
          case hF1 =>
            intro u
            simp only [fillAct]
            go_simp
            rfl
          case hstep1 =>
            clear HSD2
            refine FSteps.cons ?_ ?_
            · intro u W hS hd K hK
              clear hd
              simp only [upd, reduceIte, Nat.reduceEqDiff] at hK
              go_simp
              exact hK.out _ _ (Below.refl _ _) ⟨rfl, (fun e => absurd e (by decide))⟩
            refine FSteps.cons ?_ ?_
            · intro u W hS hd K hK
              have h0 : u 0 = _ := (hd 0 rfl).1
              clear hd
              simp only [upd, h0, reduceIte, Nat.reduceEqDiff] at hK
              go_simp
              go_at_call 21
              refine (HOP1.out _ hS.c).mono ?_
              rintro e wc ⟨v, rfl, ho, hb⟩
              exact hK.out _ _ hb ⟨trivial, fun _ => ho.see⟩
            refine FSteps.cons ?_ ?_
            · intro u W hS hd K hK
              clear hd
              simp only [upd, reduceIte, Nat.reduceEqDiff] at hK
              go_simp
              exact hK.out _ _ (Below.refl _ _) ⟨rfl, (fun e => absurd e (by decide))⟩
            refine FSteps.cons ?_ ?_
            · intro u W hS hd K hK
              have h2 : u 2 = _ := (hd 2 rfl).1
              clear hd
              simp only [upd, h2, reduceIte, Nat.reduceEqDiff] at hK
              go_simp
              go_at_call 22
              refine (HOP2.out _ hS.r).mono ?_
              rintro e wc ⟨⟨v, rfl, ho⟩, hb⟩
              exact hK.out _ _ hb ⟨trivial, fun _ => ho.see⟩
            refine FSteps.cons ?_ ?_
            · intro u W hS hd K hK
              obtain ⟨a1, c1, h1, A1⟩ := ((hd 1 rfl).2 (Or.inl rfl))
              obtain ⟨a3, c3, h3, A3⟩ := ((hd 3 rfl).2 (Or.inr rfl))
              clear hd
              simp only [upd, h1, h3, reduceIte, Nat.reduceEqDiff] at hK
              go_simp
              go_at_call 20
              refine (isame_yes _ _ L2 W ⟨_, _, rfl, A1⟩ ⟨_, _, rfl, A3⟩ HLL.out).mono ?_
              rintro e wc ⟨rfl, hb⟩
              exact hK.out _ _ hb ⟨rfl, (fun e => absurd e (by decide))⟩
            refine FSteps.cons ?_ ?_
            · intro u W hS hd K hK
              have h4 : u 4 = _ := (hd 4 rfl).1
              clear hd
              simp only [upd, h4, reduceIte, Nat.reduceEqDiff] at hK
              go_simp
              exact hK.out _ _ (Below.refl _ _) ⟨rfl, (fun e => absurd e (by decide))⟩
            refine FSteps.cons ?_ ?_
            · intro u W hS hd K hK
              have h5 : u 5 = _ := (hd 5 rfl).1
              clear hd
              simp only [upd, h5, reduceIte, Nat.reduceEqDiff] at hK
              go_simp
              exact hK.out _ _ (Below.refl _ _) ⟨rfl, (fun e => absurd e (by decide))⟩
            refine FSteps.cons ?_ ?_
            · intro u W hS hd K hK
              have h6 : u 6 = _ := (hd 6 rfl).1
              clear hd
              simp only [upd, h6, reduceIte, Nat.reduceEqDiff] at hK
              go_simp
              exact hK.out _ _ (Below.refl _ _) ⟨rfl, (fun e => absurd e (by decide))⟩
            refine FSteps.cons ?_ ?_
            · intro u W hS hd K hK
              have h6 : u 6 = _ := (hd 6 rfl).1
              have h7 : u 7 = _ := (hd 7 rfl).1
              clear hd
              simp only [upd, h6, h7, reduceIte, Nat.reduceEqDiff] at hK
              go_simp
              go_at_call 23
              refine (HVA.out _ hS.c).mono ?_
              rintro e wc ⟨rfl, rfl⟩
              exact hK.out _ _ (Below.refl _ _) ⟨rfl, (fun e => absurd e (by decide))⟩
            refine FSteps.cons ?_ ?_
            · intro u W hS hd K hK
              have h6 : u 6 = _ := (hd 6 rfl).1
              clear hd
              simp only [upd, h6, reduceIte, Nat.reduceEqDiff] at hK
              go_simp
              exact hK.out _ _ (Below.refl _ _) ⟨rfl, (fun e => absurd e (by decide))⟩
            refine FSteps.cons ?_ ?_
            · intro u W hS hd K hK
              have h6 : u 6 = _ := (hd 6 rfl).1
              have h9 : u 9 = _ := (hd 9 rfl).1
              clear hd
              simp only [upd, h6, h9, reduceIte, Nat.reduceEqDiff] at hK
              go_simp
              exact hK.out _ _ (Below.refl _ _) ⟨rfl, (fun e => absurd e (by decide))⟩
            refine FSteps.cons ?_ ?_
            · intro u W hS hd K hK
              have h6 : u 6 = _ := (hd 6 rfl).1
              have h10 : u 10 = _ := (hd 10 rfl).1
              clear hd
              simp only [upd, h6, h10, reduceIte, Nat.reduceEqDiff] at hK
              go_simp
              exact hK.out _ _ (Below.refl _ _) ⟨rfl, (fun e => absurd e (by decide))⟩
            refine FSteps.cons ?_ ?_
            · intro u W hS hd K hK
              have h6 : u 6 = _ := (hd 6 rfl).1
              have h11 : u 11 = _ := (hd 11 rfl).1
              clear hd
              simp only [upd, h6, h11, reduceIte, Nat.reduceEqDiff] at hK
              have c0 := (show W.cell? ⟨q, 3, none⟩ = some (.int .i64 s2.acked) from hS.r.cell 3 rfl)
              go_simp
              exact hK.out _ _ (Below.refl _ _) ⟨rfl, (fun e => absurd e (by decide))⟩
            refine FSteps.cons ?_ ?_
            · intro u W hS hd K hK
              have h6 : u 6 = _ := (hd 6 rfl).1
              clear hd
              simp only [upd, h6, reduceIte, Nat.reduceEqDiff] at hK
              go_simp
              exact hK.out _ _ (Below.refl _ _) ⟨rfl, (fun e => absurd e (by decide))⟩
            refine FSteps.cons ?_ ?_
            · intro u W hS hd K hK
              have h6 : u 6 = _ := (hd 6 rfl).1
              have h12 : u 12 = _ := (hd 12 rfl).1
              have h13 : u 13 = _ := (hd 13 rfl).1
              clear hd
              simp only [upd, h6, h12, h13, reduceIte, Nat.reduceEqDiff] at hK
              have y1 := HTT.out.1
              have y2 := HTT.out.2.1
              go_simp
              exact hK.out _ _ (Below.refl _ _) ⟨rfl, (fun e => absurd e (by decide))⟩
            refine FSteps.cons ?_ ?_
            · intro u W hS hd K hK
              have h6 : u 6 = _ := (hd 6 rfl).1
              have h8 : u 8 = _ := (hd 8 rfl).1
              have h14 : u 14 = _ := (hd 14 rfl).1
              clear hd
              simp only [upd, h6, h8, h14, reduceIte, Nat.reduceEqDiff] at hK
              go_simp
              exact hK.out _ _ (Below.refl _ _) ⟨rfl, (fun e => absurd e (by decide))⟩
            refine FSteps.cons ?_ ?_
            · intro u W hS hd K hK
              have h6 : u 6 = _ := (hd 6 rfl).1
              have h15 : u 15 = _ := (hd 15 rfl).1
              clear hd
              simp only [upd, h6, h15, reduceIte, Nat.reduceEqDiff] at hK
              go_simp
              exact hK.out _ _ (Below.refl _ _) ⟨rfl, (fun e => absurd e (by decide))⟩
            refine FSteps.cons ?_ ?_
            · intro u W hS hd K hK
              have h16 : u 16 = _ := (hd 16 rfl).1
              clear hd
              simp only [upd, h16, reduceIte, Nat.reduceEqDiff] at hK
              go_simp
              exact hK.out _ _ (Below.refl _ _) ⟨rfl, (fun e => absurd e (by decide))⟩
            refine FSteps.cons ?_ ?_
            · intro u W hS hd K hK
              have h17 : u 17 = _ := (hd 17 rfl).1
              clear hd
              simp only [upd, h17, reduceIte, Nat.reduceEqDiff] at hK
              go_simp
              exact hK.out _ _ (Below.refl _ _) ⟨rfl, (fun e => absurd e (by decide))⟩
            refine FSteps.cons ?_ ?_
            · intro u W hS hd K hK
              have h17 : u 17 = _ := (hd 17 rfl).1
              have h18 : u 18 = _ := (hd 18 rfl).1
              clear hd
              simp only [upd, h17, h18, reduceIte, Nat.reduceEqDiff] at hK
              go_simp
              go_at_call 24
              refine (HVS.out _ hS.c).mono ?_
              rintro e wc ⟨rfl, rfl⟩
              exact hK.out _ _ (Below.refl _ _) ⟨rfl, (fun e => absurd e (by decide))⟩
            refine FSteps.cons ?_ ?_
            · intro u W hS hd K hK
              have h17 : u 17 = _ := (hd 17 rfl).1
              clear hd
              simp only [upd, h17, reduceIte, Nat.reduceEqDiff] at hK
              go_simp
              exact hK.out _ _ (Below.refl _ _) ⟨rfl, (fun e => absurd e (by decide))⟩
            refine FSteps.cons ?_ ?_
            · intro u W hS hd K hK
              have h17 : u 17 = _ := (hd 17 rfl).1
              have h20 : u 20 = _ := (hd 20 rfl).1
              clear hd
              simp only [upd, h17, h20, reduceIte, Nat.reduceEqDiff] at hK
              go_simp
              exact hK.out _ _ (Below.refl _ _) ⟨rfl, (fun e => absurd e (by decide))⟩
            refine FSteps.cons ?_ ?_
            · intro u W hS hd K hK
              have h17 : u 17 = _ := (hd 17 rfl).1
              have h21 : u 21 = _ := (hd 21 rfl).1
              clear hd
              simp only [upd, h17, h21, reduceIte, Nat.reduceEqDiff] at hK
              go_simp
              exact hK.out _ _ (Below.refl _ _) ⟨rfl, (fun e => absurd e (by decide))⟩
            refine FSteps.cons ?_ ?_
            · intro u W hS hd K hK
              have h17 : u 17 = _ := (hd 17 rfl).1
              have h22 : u 22 = _ := (hd 22 rfl).1
              clear hd
              simp only [upd, h17, h22, reduceIte, Nat.reduceEqDiff] at hK
              have c0 := (show W.cell? ⟨q, 2, none⟩ = some (.int .i64 s2.opened) from hS.r.cell 2 rfl)
              go_simp
              exact hK.out _ _ (Below.refl _ _) ⟨rfl, (fun e => absurd e (by decide))⟩
            refine FSteps.cons ?_ ?_
            · intro u W hS hd K hK
              have h17 : u 17 = _ := (hd 17 rfl).1
              clear hd
              simp only [upd, h17, reduceIte, Nat.reduceEqDiff] at hK
              go_simp
              exact hK.out _ _ (Below.refl _ _) ⟨rfl, (fun e => absurd e (by decide))⟩
            refine FSteps.cons ?_ ?_
            · intro u W hS hd K hK
              have h17 : u 17 = _ := (hd 17 rfl).1
              have h23 : u 23 = _ := (hd 23 rfl).1
              have h24 : u 24 = _ := (hd 24 rfl).1
              clear hd
              simp only [upd, h17, h23, h24, reduceIte, Nat.reduceEqDiff] at hK
              have y1 := HTT.out.2.2.1
              have y2 := HTT.out.2.2.2
              go_simp
              exact hK.out _ _ (Below.refl _ _) ⟨rfl, (fun e => absurd e (by decide))⟩
            refine FSteps.cons ?_ ?_
            · intro u W hS hd K hK
              have h17 : u 17 = _ := (hd 17 rfl).1
              have h19 : u 19 = _ := (hd 19 rfl).1
              have h25 : u 25 = _ := (hd 25 rfl).1
              clear hd
              simp only [upd, h17, h19, h25, reduceIte, Nat.reduceEqDiff] at hK
              go_simp
              exact hK.out _ _ (Below.refl _ _) ⟨rfl, (fun e => absurd e (by decide))⟩
            refine FSteps.cons ?_ ?_
            · intro u W hS hd K hK
              have h17 : u 17 = _ := (hd 17 rfl).1
              have h26 : u 26 = _ := (hd 26 rfl).1
              clear hd
              simp only [upd, h17, h26, reduceIte, Nat.reduceEqDiff] at hK
              go_simp
              exact hK.out _ _ (Below.refl _ _) ⟨rfl, (fun e => absurd e (by decide))⟩
            exact trivial
          case hend1 =>
            intro u w6 hS hd
            have h27 : u 27 = _ := (hd 27 rfl).1
            have HSD6 := Lib.hid hS
            clear hd hS HSD2
            rw [h27]
            go_wp2_with fail
            go_roundw
            case rel => exact ⟨j + 1, s2, hlt, by go_num, hso2, Lib.hid ⟨HOK2.out, HSD6.out⟩⟩
            case measure => simp [intOf]; omega
        · have dy : (y == 0) = false := by rw [beq_eq_false_iff_ne]; exact hy0
          by_cases hy1 : y = 1
          · have dy1 : (y == 1) = true := by simpa using hy1
            obtain ⟨s2, hE⟩ : ∃ x, x = (⟨s.acked, s.acked⟩ : So) := ⟨_, rfl⟩
            have HBK := Lib.hid (fun W h => cback_any p m k s W h)
            have hso2 : s2.opened ≤ ((j + 1 : Nat) : Int) := by
              have := HOK.out.ab
              rw [hE]
              show s.acked ≤ _
              omega
            have HOK2 := Lib.hid (show SoOk m k s2 from by
              have := HOK.out.ab
              have := HOK.out.most
              have := HOK.out.kb
              rw [hE]
              exact ⟨HOK.out.md, HOK.out.kb, ⟨HOK.out.ab.1, Int.le_refl _⟩, by show s.acked - s.acked ≤ k; omega, by show s.acked ≤ 100000; omega⟩)
            rw [← hE] at HBK
            have HE := Lib.hid hE
            clear hE hy0 hy1 hso HOK
            go_upto_region 28 with (go_at_call 17; (with_reducible refine (HBK.out _ HS.out.c).mono ?_); rintro e w5 ⟨rfl, hr5, ht5⟩; have HR5 := Lib.hid hr5; have HT5 := Lib.hid ht5; have HQ5 := Lib.hid (HS.out.one ht5).1; clear hr5 ht5)
            have c3 : w5.cell? ⟨q, 3, none⟩ = some (.int .i64 s.acked) := HQ5.out.cell 3 rfl
            have c2 : w5.cell? ⟨q, 2, none⟩ = some (.int .i64 s.opened) := HQ5.out.cell 2 rfl
            have f2 := (HQ5.out.get 2 rfl).free
            clear x0 dy dy1
            go_upto_region 29 with (fail)
            have HSD2 := Lib.hid (show SdAt w p q m k s2 (w5.setCell ⟨q, 2, none⟩ (.int .i64 s.acked)) from HS.out.both HR5.out HT5.out (by
              rw [HE.out]
              exact HQ5.out.put 2 (.int .i64 s.acked) _ rfl) ((Turn.refl (fun x => x = q) w5).set (p := ⟨q, 2, none⟩) (Or.inl rfl) _))
            generalize (w5.setCell ⟨q, 2, none⟩ (.int .i64 s.acked)) = w6 at *
            clear HBK HR5 HT5 HQ5 HS c3 c2 f2 HE
            have hab2 := HOK2.out.ab
            have hob2 := HOK2.out.ob
            have hkb2 := HOK2.out.kb
            obtain ⟨A2, hA2⟩ : ∃ A, s2.acked % m = A := ⟨_, rfl⟩
            obtain ⟨O2, hO2⟩ : ∃ O, s2.opened % m = O := ⟨_, rfl⟩
            have HVA := Lib.hid (fun W (h : RowAt W p (coV m k s2)) => cva_any p m k s2 W h)
            have HVS := Lib.hid (fun W (h : RowAt W p (coV m k s2)) => cvs_any p m k s2 W h)
            rw [hA2] at HVA
            rw [hO2] at HVS
            obtain ⟨t1, t2, -, -⟩ := rem_num m s2.acked HMD.out (by omega)
            obtain ⟨t3, t4, -, -⟩ := rem_num m s2.opened HMD.out (by omega)
            rw [hA2] at t1 t2
            rw [hO2] at t3 t4
            have HTT := Lib.hid (And.intro t1 (And.intro t2 (And.intro t3 t4)))
            have HOP1 := Lib.hid (fun W (h : RowAt W p (coV m k s2)) => copen_any p m k s2 W h HOK2.out)
            have HOP2 := Lib.hid (fun W (h : RowAt W q (soV m k s2)) => ropen_any q m k s2 W h HOK2.out)
            have HLL := Lib.hid (show (openS m s2).length ≤ 1000 from by rw [openS_len]; have := HMD.out; omega)
            generalize openS m s2 = L2 at *
            clear t1 t2 t3 t4 hA2 hO2 hab2 hob2 hkb2
            refine wp_region_facts (fun W W' => Below W.heap.size W W') (fun W => SdAt w p q m k s2 W)
              (fun j' v W => factsOf [.is (.pointer (some ⟨p, 0, none⟩)), .any, .is (.pointer (some ⟨q, 0, none⟩)), .any, .is (.bool true), .is (.bool false), .is (.bool false), .is (.pointer (some ⟨p, 0, none⟩)), .is (.int .i64 A2), .is (.pointer (some ⟨q, 0, none⟩)), .is (.pointer (some ⟨q, 0, none⟩)), .is (.pointer (some ⟨q, 3, none⟩)), .is (.int .i64 s2.acked), .is (.int .i64 m), .is (.int .i64 A2), .is (.bool false), .is (.bool false), .is (.bool false), .is (.pointer (some ⟨p, 0, none⟩)), .is (.int .i64 O2), .is (.pointer (some ⟨q, 0, none⟩)), .is (.pointer (some ⟨q, 0, none⟩)), .is (.pointer (some ⟨q, 2, none⟩)), .is (.int .i64 s2.opened), .is (.int .i64 m), .is (.int .i64 O2), .is (.bool false), .is (.bool false)] j' v W ∧ (j' = 1 ∨ j' = 3 → SeeL encI W v L2))
              (by kernel_rfl) (by kernel_rfl) (fun j' v W W' hb h => ⟨facts_stay _ j' v W W' hb h.1, fun e => (h.2 e).below hb⟩) (fun W W' hb h => h.below hb) (fun i => [u124, u125, u126, u127, u128, u129, u130, u131, u132, u133, u134, u135, u136, u137, u138, u139, u140, u141, u142, u143, u144, u145, u146, u147, u148, u149, u150, u151].getD i undef) (by kernel_rfl) HSD2.out.drew ?F2 ?hF2 ?hstep2 ?hend2
            case hF2 =>
              intro u
              simp only [fillAct]
              go_simp
              rfl
            case hstep2 =>
              clear HSD2
              refine FSteps.cons ?_ ?_
              · intro u W hS hd K hK
                clear hd
                simp only [upd, reduceIte, Nat.reduceEqDiff] at hK
                go_simp
                exact hK.out _ _ (Below.refl _ _) ⟨rfl, (fun e => absurd e (by decide))⟩
              refine FSteps.cons ?_ ?_
              · intro u W hS hd K hK
                have h0 : u 0 = _ := (hd 0 rfl).1
                clear hd
                simp only [upd, h0, reduceIte, Nat.reduceEqDiff] at hK
                go_simp
                go_at_call 21
                refine (HOP1.out _ hS.c).mono ?_
                rintro e wc ⟨v, rfl, ho, hb⟩
                exact hK.out _ _ hb ⟨trivial, fun _ => ho.see⟩
              refine FSteps.cons ?_ ?_
              · intro u W hS hd K hK
                clear hd
                simp only [upd, reduceIte, Nat.reduceEqDiff] at hK
                go_simp
                exact hK.out _ _ (Below.refl _ _) ⟨rfl, (fun e => absurd e (by decide))⟩
              refine FSteps.cons ?_ ?_
              · intro u W hS hd K hK
                have h2 : u 2 = _ := (hd 2 rfl).1
                clear hd
                simp only [upd, h2, reduceIte, Nat.reduceEqDiff] at hK
                go_simp
                go_at_call 22
                refine (HOP2.out _ hS.r).mono ?_
                rintro e wc ⟨⟨v, rfl, ho⟩, hb⟩
                exact hK.out _ _ hb ⟨trivial, fun _ => ho.see⟩
              refine FSteps.cons ?_ ?_
              · intro u W hS hd K hK
                obtain ⟨a1, c1, h1, A1⟩ := ((hd 1 rfl).2 (Or.inl rfl))
                obtain ⟨a3, c3, h3, A3⟩ := ((hd 3 rfl).2 (Or.inr rfl))
                clear hd
                simp only [upd, h1, h3, reduceIte, Nat.reduceEqDiff] at hK
                go_simp
                go_at_call 20
                refine (isame_yes _ _ L2 W ⟨_, _, rfl, A1⟩ ⟨_, _, rfl, A3⟩ HLL.out).mono ?_
                rintro e wc ⟨rfl, hb⟩
                exact hK.out _ _ hb ⟨rfl, (fun e => absurd e (by decide))⟩
              refine FSteps.cons ?_ ?_
              · intro u W hS hd K hK
                have h4 : u 4 = _ := (hd 4 rfl).1
                clear hd
                simp only [upd, h4, reduceIte, Nat.reduceEqDiff] at hK
                go_simp
                exact hK.out _ _ (Below.refl _ _) ⟨rfl, (fun e => absurd e (by decide))⟩
              refine FSteps.cons ?_ ?_
              · intro u W hS hd K hK
                have h5 : u 5 = _ := (hd 5 rfl).1
                clear hd
                simp only [upd, h5, reduceIte, Nat.reduceEqDiff] at hK
                go_simp
                exact hK.out _ _ (Below.refl _ _) ⟨rfl, (fun e => absurd e (by decide))⟩
              refine FSteps.cons ?_ ?_
              · intro u W hS hd K hK
                have h6 : u 6 = _ := (hd 6 rfl).1
                clear hd
                simp only [upd, h6, reduceIte, Nat.reduceEqDiff] at hK
                go_simp
                exact hK.out _ _ (Below.refl _ _) ⟨rfl, (fun e => absurd e (by decide))⟩
              refine FSteps.cons ?_ ?_
              · intro u W hS hd K hK
                have h6 : u 6 = _ := (hd 6 rfl).1
                have h7 : u 7 = _ := (hd 7 rfl).1
                clear hd
                simp only [upd, h6, h7, reduceIte, Nat.reduceEqDiff] at hK
                go_simp
                go_at_call 23
                refine (HVA.out _ hS.c).mono ?_
                rintro e wc ⟨rfl, rfl⟩
                exact hK.out _ _ (Below.refl _ _) ⟨rfl, (fun e => absurd e (by decide))⟩
              refine FSteps.cons ?_ ?_
              · intro u W hS hd K hK
                have h6 : u 6 = _ := (hd 6 rfl).1
                clear hd
                simp only [upd, h6, reduceIte, Nat.reduceEqDiff] at hK
                go_simp
                exact hK.out _ _ (Below.refl _ _) ⟨rfl, (fun e => absurd e (by decide))⟩
              refine FSteps.cons ?_ ?_
              · intro u W hS hd K hK
                have h6 : u 6 = _ := (hd 6 rfl).1
                have h9 : u 9 = _ := (hd 9 rfl).1
                clear hd
                simp only [upd, h6, h9, reduceIte, Nat.reduceEqDiff] at hK
                go_simp
                exact hK.out _ _ (Below.refl _ _) ⟨rfl, (fun e => absurd e (by decide))⟩
              refine FSteps.cons ?_ ?_
              · intro u W hS hd K hK
                have h6 : u 6 = _ := (hd 6 rfl).1
                have h10 : u 10 = _ := (hd 10 rfl).1
                clear hd
                simp only [upd, h6, h10, reduceIte, Nat.reduceEqDiff] at hK
                go_simp
                exact hK.out _ _ (Below.refl _ _) ⟨rfl, (fun e => absurd e (by decide))⟩
              refine FSteps.cons ?_ ?_
              · intro u W hS hd K hK
                have h6 : u 6 = _ := (hd 6 rfl).1
                have h11 : u 11 = _ := (hd 11 rfl).1
                clear hd
                simp only [upd, h6, h11, reduceIte, Nat.reduceEqDiff] at hK
                have c0 := (show W.cell? ⟨q, 3, none⟩ = some (.int .i64 s2.acked) from hS.r.cell 3 rfl)
                go_simp
                exact hK.out _ _ (Below.refl _ _) ⟨rfl, (fun e => absurd e (by decide))⟩
              refine FSteps.cons ?_ ?_
              · intro u W hS hd K hK
                have h6 : u 6 = _ := (hd 6 rfl).1
                clear hd
                simp only [upd, h6, reduceIte, Nat.reduceEqDiff] at hK
                go_simp
                exact hK.out _ _ (Below.refl _ _) ⟨rfl, (fun e => absurd e (by decide))⟩
              refine FSteps.cons ?_ ?_
              · intro u W hS hd K hK
                have h6 : u 6 = _ := (hd 6 rfl).1
                have h12 : u 12 = _ := (hd 12 rfl).1
                have h13 : u 13 = _ := (hd 13 rfl).1
                clear hd
                simp only [upd, h6, h12, h13, reduceIte, Nat.reduceEqDiff] at hK
                have y1 := HTT.out.1
                have y2 := HTT.out.2.1
                go_simp
                exact hK.out _ _ (Below.refl _ _) ⟨rfl, (fun e => absurd e (by decide))⟩
              refine FSteps.cons ?_ ?_
              · intro u W hS hd K hK
                have h6 : u 6 = _ := (hd 6 rfl).1
                have h8 : u 8 = _ := (hd 8 rfl).1
                have h14 : u 14 = _ := (hd 14 rfl).1
                clear hd
                simp only [upd, h6, h8, h14, reduceIte, Nat.reduceEqDiff] at hK
                go_simp
                exact hK.out _ _ (Below.refl _ _) ⟨rfl, (fun e => absurd e (by decide))⟩
              refine FSteps.cons ?_ ?_
              · intro u W hS hd K hK
                have h6 : u 6 = _ := (hd 6 rfl).1
                have h15 : u 15 = _ := (hd 15 rfl).1
                clear hd
                simp only [upd, h6, h15, reduceIte, Nat.reduceEqDiff] at hK
                go_simp
                exact hK.out _ _ (Below.refl _ _) ⟨rfl, (fun e => absurd e (by decide))⟩
              refine FSteps.cons ?_ ?_
              · intro u W hS hd K hK
                have h16 : u 16 = _ := (hd 16 rfl).1
                clear hd
                simp only [upd, h16, reduceIte, Nat.reduceEqDiff] at hK
                go_simp
                exact hK.out _ _ (Below.refl _ _) ⟨rfl, (fun e => absurd e (by decide))⟩
              refine FSteps.cons ?_ ?_
              · intro u W hS hd K hK
                have h17 : u 17 = _ := (hd 17 rfl).1
                clear hd
                simp only [upd, h17, reduceIte, Nat.reduceEqDiff] at hK
                go_simp
                exact hK.out _ _ (Below.refl _ _) ⟨rfl, (fun e => absurd e (by decide))⟩
              refine FSteps.cons ?_ ?_
              · intro u W hS hd K hK
                have h17 : u 17 = _ := (hd 17 rfl).1
                have h18 : u 18 = _ := (hd 18 rfl).1
                clear hd
                simp only [upd, h17, h18, reduceIte, Nat.reduceEqDiff] at hK
                go_simp
                go_at_call 24
                refine (HVS.out _ hS.c).mono ?_
                rintro e wc ⟨rfl, rfl⟩
                exact hK.out _ _ (Below.refl _ _) ⟨rfl, (fun e => absurd e (by decide))⟩
              refine FSteps.cons ?_ ?_
              · intro u W hS hd K hK
                have h17 : u 17 = _ := (hd 17 rfl).1
                clear hd
                simp only [upd, h17, reduceIte, Nat.reduceEqDiff] at hK
                go_simp
                exact hK.out _ _ (Below.refl _ _) ⟨rfl, (fun e => absurd e (by decide))⟩
              refine FSteps.cons ?_ ?_
              · intro u W hS hd K hK
                have h17 : u 17 = _ := (hd 17 rfl).1
                have h20 : u 20 = _ := (hd 20 rfl).1
                clear hd
                simp only [upd, h17, h20, reduceIte, Nat.reduceEqDiff] at hK
                go_simp
                exact hK.out _ _ (Below.refl _ _) ⟨rfl, (fun e => absurd e (by decide))⟩
              refine FSteps.cons ?_ ?_
              · intro u W hS hd K hK
                have h17 : u 17 = _ := (hd 17 rfl).1
                have h21 : u 21 = _ := (hd 21 rfl).1
                clear hd
                simp only [upd, h17, h21, reduceIte, Nat.reduceEqDiff] at hK
                go_simp
                exact hK.out _ _ (Below.refl _ _) ⟨rfl, (fun e => absurd e (by decide))⟩
              refine FSteps.cons ?_ ?_
              · intro u W hS hd K hK
                have h17 : u 17 = _ := (hd 17 rfl).1
                have h22 : u 22 = _ := (hd 22 rfl).1
                clear hd
                simp only [upd, h17, h22, reduceIte, Nat.reduceEqDiff] at hK
                have c0 := (show W.cell? ⟨q, 2, none⟩ = some (.int .i64 s2.opened) from hS.r.cell 2 rfl)
                go_simp
                exact hK.out _ _ (Below.refl _ _) ⟨rfl, (fun e => absurd e (by decide))⟩
              refine FSteps.cons ?_ ?_
              · intro u W hS hd K hK
                have h17 : u 17 = _ := (hd 17 rfl).1
                clear hd
                simp only [upd, h17, reduceIte, Nat.reduceEqDiff] at hK
                go_simp
                exact hK.out _ _ (Below.refl _ _) ⟨rfl, (fun e => absurd e (by decide))⟩
              refine FSteps.cons ?_ ?_
              · intro u W hS hd K hK
                have h17 : u 17 = _ := (hd 17 rfl).1
                have h23 : u 23 = _ := (hd 23 rfl).1
                have h24 : u 24 = _ := (hd 24 rfl).1
                clear hd
                simp only [upd, h17, h23, h24, reduceIte, Nat.reduceEqDiff] at hK
                have y1 := HTT.out.2.2.1
                have y2 := HTT.out.2.2.2
                go_simp
                exact hK.out _ _ (Below.refl _ _) ⟨rfl, (fun e => absurd e (by decide))⟩
              refine FSteps.cons ?_ ?_
              · intro u W hS hd K hK
                have h17 : u 17 = _ := (hd 17 rfl).1
                have h19 : u 19 = _ := (hd 19 rfl).1
                have h25 : u 25 = _ := (hd 25 rfl).1
                clear hd
                simp only [upd, h17, h19, h25, reduceIte, Nat.reduceEqDiff] at hK
                go_simp
                exact hK.out _ _ (Below.refl _ _) ⟨rfl, (fun e => absurd e (by decide))⟩
              refine FSteps.cons ?_ ?_
              · intro u W hS hd K hK
                have h17 : u 17 = _ := (hd 17 rfl).1
                have h26 : u 26 = _ := (hd 26 rfl).1
                clear hd
                simp only [upd, h17, h26, reduceIte, Nat.reduceEqDiff] at hK
                go_simp
                exact hK.out _ _ (Below.refl _ _) ⟨rfl, (fun e => absurd e (by decide))⟩
              exact trivial
            case hend2 =>
              intro u w6 hS hd
              have h27 : u 27 = _ := (hd 27 rfl).1
              have HSD6 := Lib.hid hS
              clear hd hS HSD2
              rw [h27]
              go_wp2_with fail
              go_roundw
              case rel => exact ⟨j + 1, s2, hlt, by go_num, hso2, Lib.hid ⟨HOK2.out, HSD6.out⟩⟩
              case measure => simp [intOf]; omega
          · have dy1 : (y == 1) = false := by rw [beq_eq_false_iff_ne]; exact hy1
            obtain ⟨nr, hnr⟩ : ∃ nr, nr = if 1 < y then y - 2 else y := ⟨_, rfl⟩
            obtain ⟨⟨s2, n2, f2⟩, hE⟩ : ∃ x, acksS m s nr = x := ⟨_, rfl⟩
            have HN1 := Lib.hid (fun W h => cacks_any p m k s nr W h HOK.out)
            have HN2 := Lib.hid (fun W h => racks_any q m k s nr W h HOK.out)
            have hok2 := HOK.out.acks nr
            have hso2 : s2.opened ≤ ((j + 1 : Nat) : Int) := by
              have : s2 = (acksS m s nr).1 := by rw [hE]
              rw [this]
              unfold acksS
              split
              · show s.opened ≤ _
                omega
              · split
                · show s.opened ≤ _
                  omega
                · show s.opened ≤ _
                  omega
            rw [hE] at HN1 HN2 hok2
            have HOK2 := Lib.hid (show SoOk m k s2 from hok2)
            clear hE hok2 hy0 hy1 hso HOK
            by_cases hy2 : 1 < y
            · have dy2 : decide (1 < y) = true := decide_eq_true hy2
              rw [if_pos hy2] at hnr
              have z2 : IntKind.i64.wrap (y - 2) = nr := by rw [hnr]; exact IntWalk.i64_in _ (by have := HYB.out; omega)
              clear hnr hy2
              go_upto_region 29 with (first | (go_at_call 18; (with_reducible refine (HN1.out _ HS.out.c).mono ?_); rintro e w5 ⟨rfl, hr5, ht5⟩; have HR5 := Lib.hid hr5; have HT5 := Lib.hid ht5; have HQ5 := Lib.hid (HS.out.one ht5).1; clear hr5 ht5) | (go_at_call 19; (with_reducible refine (HN2.out _ HQ5.out).mono ?_); rintro e w6 ⟨rfl, hr6, ht6⟩; have HSD2 := Lib.hid (HS.out.both HR5.out HT5.out hr6 ht6); clear hr6 ht6))
              clear HN1 HN2 HR5 HT5 HQ5 HS x0 dy dy1 dy2 z2
              have hab2 := HOK2.out.ab
              have hob2 := HOK2.out.ob
              have hkb2 := HOK2.out.kb
              obtain ⟨A2, hA2⟩ : ∃ A, s2.acked % m = A := ⟨_, rfl⟩
              obtain ⟨O2, hO2⟩ : ∃ O, s2.opened % m = O := ⟨_, rfl⟩
              have HVA := Lib.hid (fun W (h : RowAt W p (coV m k s2)) => cva_any p m k s2 W h)
              have HVS := Lib.hid (fun W (h : RowAt W p (coV m k s2)) => cvs_any p m k s2 W h)
              rw [hA2] at HVA
              rw [hO2] at HVS
              obtain ⟨t1, t2, -, -⟩ := rem_num m s2.acked HMD.out (by omega)
              obtain ⟨t3, t4, -, -⟩ := rem_num m s2.opened HMD.out (by omega)
              rw [hA2] at t1 t2
              rw [hO2] at t3 t4
              have HTT := Lib.hid (And.intro t1 (And.intro t2 (And.intro t3 t4)))
              have HOP1 := Lib.hid (fun W (h : RowAt W p (coV m k s2)) => copen_any p m k s2 W h HOK2.out)
              have HOP2 := Lib.hid (fun W (h : RowAt W q (soV m k s2)) => ropen_any q m k s2 W h HOK2.out)
              have HLL := Lib.hid (show (openS m s2).length ≤ 1000 from by rw [openS_len]; have := HMD.out; omega)
              generalize openS m s2 = L2 at *
              clear t1 t2 t3 t4 hA2 hO2 hab2 hob2 hkb2
              refine wp_region_facts (fun W W' => Below W.heap.size W W') (fun W => SdAt w p q m k s2 W)
                (fun j' v W => factsOf [.is (.pointer (some ⟨p, 0, none⟩)), .any, .is (.pointer (some ⟨q, 0, none⟩)), .any, .is (.bool true), .is (.bool false), .is (.bool false), .is (.pointer (some ⟨p, 0, none⟩)), .is (.int .i64 A2), .is (.pointer (some ⟨q, 0, none⟩)), .is (.pointer (some ⟨q, 0, none⟩)), .is (.pointer (some ⟨q, 3, none⟩)), .is (.int .i64 s2.acked), .is (.int .i64 m), .is (.int .i64 A2), .is (.bool false), .is (.bool false), .is (.bool false), .is (.pointer (some ⟨p, 0, none⟩)), .is (.int .i64 O2), .is (.pointer (some ⟨q, 0, none⟩)), .is (.pointer (some ⟨q, 0, none⟩)), .is (.pointer (some ⟨q, 2, none⟩)), .is (.int .i64 s2.opened), .is (.int .i64 m), .is (.int .i64 O2), .is (.bool false), .is (.bool false)] j' v W ∧ (j' = 1 ∨ j' = 3 → SeeL encI W v L2))
                (by kernel_rfl) (by kernel_rfl) (fun j' v W W' hb h => ⟨facts_stay _ j' v W W' hb h.1, fun e => (h.2 e).below hb⟩) (fun W W' hb h => h.below hb) (fun i => [u124, u125, u126, u127, u128, u129, u130, u131, u132, u133, u134, u135, u136, u137, u138, u139, u140, u141, u142, u143, u144, u145, u146, u147, u148, u149, u150, u151].getD i undef) (by kernel_rfl) HSD2.out.drew ?F3 ?hF3 ?hstep3 ?hend3
              case hF3 =>
                intro u
                simp only [fillAct]
                go_simp
                rfl
              case hstep3 =>
                clear HSD2
                refine FSteps.cons ?_ ?_
                · intro u W hS hd K hK
                  clear hd
                  simp only [upd, reduceIte, Nat.reduceEqDiff] at hK
                  go_simp
                  exact hK.out _ _ (Below.refl _ _) ⟨rfl, (fun e => absurd e (by decide))⟩
                refine FSteps.cons ?_ ?_
                · intro u W hS hd K hK
                  have h0 : u 0 = _ := (hd 0 rfl).1
                  clear hd
                  simp only [upd, h0, reduceIte, Nat.reduceEqDiff] at hK
                  go_simp
                  go_at_call 21
                  refine (HOP1.out _ hS.c).mono ?_
                  rintro e wc ⟨v, rfl, ho, hb⟩
                  exact hK.out _ _ hb ⟨trivial, fun _ => ho.see⟩
                refine FSteps.cons ?_ ?_
                · intro u W hS hd K hK
                  clear hd
                  simp only [upd, reduceIte, Nat.reduceEqDiff] at hK
                  go_simp
                  exact hK.out _ _ (Below.refl _ _) ⟨rfl, (fun e => absurd e (by decide))⟩
                refine FSteps.cons ?_ ?_
                · intro u W hS hd K hK
                  have h2 : u 2 = _ := (hd 2 rfl).1
                  clear hd
                  simp only [upd, h2, reduceIte, Nat.reduceEqDiff] at hK
                  go_simp
                  go_at_call 22
                  refine (HOP2.out _ hS.r).mono ?_
                  rintro e wc ⟨⟨v, rfl, ho⟩, hb⟩
                  exact hK.out _ _ hb ⟨trivial, fun _ => ho.see⟩
                refine FSteps.cons ?_ ?_
                · intro u W hS hd K hK
                  obtain ⟨a1, c1, h1, A1⟩ := ((hd 1 rfl).2 (Or.inl rfl))
                  obtain ⟨a3, c3, h3, A3⟩ := ((hd 3 rfl).2 (Or.inr rfl))
                  clear hd
                  simp only [upd, h1, h3, reduceIte, Nat.reduceEqDiff] at hK
                  go_simp
                  go_at_call 20
                  refine (isame_yes _ _ L2 W ⟨_, _, rfl, A1⟩ ⟨_, _, rfl, A3⟩ HLL.out).mono ?_
                  rintro e wc ⟨rfl, hb⟩
                  exact hK.out _ _ hb ⟨rfl, (fun e => absurd e (by decide))⟩
                refine FSteps.cons ?_ ?_
                · intro u W hS hd K hK
                  have h4 : u 4 = _ := (hd 4 rfl).1
                  clear hd
                  simp only [upd, h4, reduceIte, Nat.reduceEqDiff] at hK
                  go_simp
                  exact hK.out _ _ (Below.refl _ _) ⟨rfl, (fun e => absurd e (by decide))⟩
                refine FSteps.cons ?_ ?_
                · intro u W hS hd K hK
                  have h5 : u 5 = _ := (hd 5 rfl).1
                  clear hd
                  simp only [upd, h5, reduceIte, Nat.reduceEqDiff] at hK
                  go_simp
                  exact hK.out _ _ (Below.refl _ _) ⟨rfl, (fun e => absurd e (by decide))⟩
                refine FSteps.cons ?_ ?_
                · intro u W hS hd K hK
                  have h6 : u 6 = _ := (hd 6 rfl).1
                  clear hd
                  simp only [upd, h6, reduceIte, Nat.reduceEqDiff] at hK
                  go_simp
                  exact hK.out _ _ (Below.refl _ _) ⟨rfl, (fun e => absurd e (by decide))⟩
                refine FSteps.cons ?_ ?_
                · intro u W hS hd K hK
                  have h6 : u 6 = _ := (hd 6 rfl).1
                  have h7 : u 7 = _ := (hd 7 rfl).1
                  clear hd
                  simp only [upd, h6, h7, reduceIte, Nat.reduceEqDiff] at hK
                  go_simp
                  go_at_call 23
                  refine (HVA.out _ hS.c).mono ?_
                  rintro e wc ⟨rfl, rfl⟩
                  exact hK.out _ _ (Below.refl _ _) ⟨rfl, (fun e => absurd e (by decide))⟩
                refine FSteps.cons ?_ ?_
                · intro u W hS hd K hK
                  have h6 : u 6 = _ := (hd 6 rfl).1
                  clear hd
                  simp only [upd, h6, reduceIte, Nat.reduceEqDiff] at hK
                  go_simp
                  exact hK.out _ _ (Below.refl _ _) ⟨rfl, (fun e => absurd e (by decide))⟩
                refine FSteps.cons ?_ ?_
                · intro u W hS hd K hK
                  have h6 : u 6 = _ := (hd 6 rfl).1
                  have h9 : u 9 = _ := (hd 9 rfl).1
                  clear hd
                  simp only [upd, h6, h9, reduceIte, Nat.reduceEqDiff] at hK
                  go_simp
                  exact hK.out _ _ (Below.refl _ _) ⟨rfl, (fun e => absurd e (by decide))⟩
                refine FSteps.cons ?_ ?_
                · intro u W hS hd K hK
                  have h6 : u 6 = _ := (hd 6 rfl).1
                  have h10 : u 10 = _ := (hd 10 rfl).1
                  clear hd
                  simp only [upd, h6, h10, reduceIte, Nat.reduceEqDiff] at hK
                  go_simp
                  exact hK.out _ _ (Below.refl _ _) ⟨rfl, (fun e => absurd e (by decide))⟩
                refine FSteps.cons ?_ ?_
                · intro u W hS hd K hK
                  have h6 : u 6 = _ := (hd 6 rfl).1
                  have h11 : u 11 = _ := (hd 11 rfl).1
                  clear hd
                  simp only [upd, h6, h11, reduceIte, Nat.reduceEqDiff] at hK
                  have c0 := (show W.cell? ⟨q, 3, none⟩ = some (.int .i64 s2.acked) from hS.r.cell 3 rfl)
                  go_simp
                  exact hK.out _ _ (Below.refl _ _) ⟨rfl, (fun e => absurd e (by decide))⟩
                refine FSteps.cons ?_ ?_
                · intro u W hS hd K hK
                  have h6 : u 6 = _ := (hd 6 rfl).1
                  clear hd
                  simp only [upd, h6, reduceIte, Nat.reduceEqDiff] at hK
                  go_simp
                  exact hK.out _ _ (Below.refl _ _) ⟨rfl, (fun e => absurd e (by decide))⟩
                refine FSteps.cons ?_ ?_
                · intro u W hS hd K hK
                  have h6 : u 6 = _ := (hd 6 rfl).1
                  have h12 : u 12 = _ := (hd 12 rfl).1
                  have h13 : u 13 = _ := (hd 13 rfl).1
                  clear hd
                  simp only [upd, h6, h12, h13, reduceIte, Nat.reduceEqDiff] at hK
                  have y1 := HTT.out.1
                  have y2 := HTT.out.2.1
                  go_simp
                  exact hK.out _ _ (Below.refl _ _) ⟨rfl, (fun e => absurd e (by decide))⟩
                refine FSteps.cons ?_ ?_
                · intro u W hS hd K hK
                  have h6 : u 6 = _ := (hd 6 rfl).1
                  have h8 : u 8 = _ := (hd 8 rfl).1
                  have h14 : u 14 = _ := (hd 14 rfl).1
                  clear hd
                  simp only [upd, h6, h8, h14, reduceIte, Nat.reduceEqDiff] at hK
                  go_simp
                  exact hK.out _ _ (Below.refl _ _) ⟨rfl, (fun e => absurd e (by decide))⟩
                refine FSteps.cons ?_ ?_
                · intro u W hS hd K hK
                  have h6 : u 6 = _ := (hd 6 rfl).1
                  have h15 : u 15 = _ := (hd 15 rfl).1
                  clear hd
                  simp only [upd, h6, h15, reduceIte, Nat.reduceEqDiff] at hK
                  go_simp
                  exact hK.out _ _ (Below.refl _ _) ⟨rfl, (fun e => absurd e (by decide))⟩
                refine FSteps.cons ?_ ?_
                · intro u W hS hd K hK
                  have h16 : u 16 = _ := (hd 16 rfl).1
                  clear hd
                  simp only [upd, h16, reduceIte, Nat.reduceEqDiff] at hK
                  go_simp
                  exact hK.out _ _ (Below.refl _ _) ⟨rfl, (fun e => absurd e (by decide))⟩
                refine FSteps.cons ?_ ?_
                · intro u W hS hd K hK
                  have h17 : u 17 = _ := (hd 17 rfl).1
                  clear hd
                  simp only [upd, h17, reduceIte, Nat.reduceEqDiff] at hK
                  go_simp
                  exact hK.out _ _ (Below.refl _ _) ⟨rfl, (fun e => absurd e (by decide))⟩
                refine FSteps.cons ?_ ?_
                · intro u W hS hd K hK
                  have h17 : u 17 = _ := (hd 17 rfl).1
                  have h18 : u 18 = _ := (hd 18 rfl).1
                  clear hd
                  simp only [upd, h17, h18, reduceIte, Nat.reduceEqDiff] at hK
                  go_simp
                  go_at_call 24
                  refine (HVS.out _ hS.c).mono ?_
                  rintro e wc ⟨rfl, rfl⟩
                  exact hK.out _ _ (Below.refl _ _) ⟨rfl, (fun e => absurd e (by decide))⟩
                refine FSteps.cons ?_ ?_
                · intro u W hS hd K hK
                  have h17 : u 17 = _ := (hd 17 rfl).1
                  clear hd
                  simp only [upd, h17, reduceIte, Nat.reduceEqDiff] at hK
                  go_simp
                  exact hK.out _ _ (Below.refl _ _) ⟨rfl, (fun e => absurd e (by decide))⟩
                refine FSteps.cons ?_ ?_
                · intro u W hS hd K hK
                  have h17 : u 17 = _ := (hd 17 rfl).1
                  have h20 : u 20 = _ := (hd 20 rfl).1
                  clear hd
                  simp only [upd, h17, h20, reduceIte, Nat.reduceEqDiff] at hK
                  go_simp
                  exact hK.out _ _ (Below.refl _ _) ⟨rfl, (fun e => absurd e (by decide))⟩
                refine FSteps.cons ?_ ?_
                · intro u W hS hd K hK
                  have h17 : u 17 = _ := (hd 17 rfl).1
                  have h21 : u 21 = _ := (hd 21 rfl).1
                  clear hd
                  simp only [upd, h17, h21, reduceIte, Nat.reduceEqDiff] at hK
                  go_simp
                  exact hK.out _ _ (Below.refl _ _) ⟨rfl, (fun e => absurd e (by decide))⟩
                refine FSteps.cons ?_ ?_
                · intro u W hS hd K hK
                  have h17 : u 17 = _ := (hd 17 rfl).1
                  have h22 : u 22 = _ := (hd 22 rfl).1
                  clear hd
                  simp only [upd, h17, h22, reduceIte, Nat.reduceEqDiff] at hK
                  have c0 := (show W.cell? ⟨q, 2, none⟩ = some (.int .i64 s2.opened) from hS.r.cell 2 rfl)
                  go_simp
                  exact hK.out _ _ (Below.refl _ _) ⟨rfl, (fun e => absurd e (by decide))⟩
                refine FSteps.cons ?_ ?_
                · intro u W hS hd K hK
                  have h17 : u 17 = _ := (hd 17 rfl).1
                  clear hd
                  simp only [upd, h17, reduceIte, Nat.reduceEqDiff] at hK
                  go_simp
                  exact hK.out _ _ (Below.refl _ _) ⟨rfl, (fun e => absurd e (by decide))⟩
                refine FSteps.cons ?_ ?_
                · intro u W hS hd K hK
                  have h17 : u 17 = _ := (hd 17 rfl).1
                  have h23 : u 23 = _ := (hd 23 rfl).1
                  have h24 : u 24 = _ := (hd 24 rfl).1
                  clear hd
                  simp only [upd, h17, h23, h24, reduceIte, Nat.reduceEqDiff] at hK
                  have y1 := HTT.out.2.2.1
                  have y2 := HTT.out.2.2.2
                  go_simp
                  exact hK.out _ _ (Below.refl _ _) ⟨rfl, (fun e => absurd e (by decide))⟩
                refine FSteps.cons ?_ ?_
                · intro u W hS hd K hK
                  have h17 : u 17 = _ := (hd 17 rfl).1
                  have h19 : u 19 = _ := (hd 19 rfl).1
                  have h25 : u 25 = _ := (hd 25 rfl).1
                  clear hd
                  simp only [upd, h17, h19, h25, reduceIte, Nat.reduceEqDiff] at hK
                  go_simp
                  exact hK.out _ _ (Below.refl _ _) ⟨rfl, (fun e => absurd e (by decide))⟩
                refine FSteps.cons ?_ ?_
                · intro u W hS hd K hK
                  have h17 : u 17 = _ := (hd 17 rfl).1
                  have h26 : u 26 = _ := (hd 26 rfl).1
                  clear hd
                  simp only [upd, h17, h26, reduceIte, Nat.reduceEqDiff] at hK
                  go_simp
                  exact hK.out _ _ (Below.refl _ _) ⟨rfl, (fun e => absurd e (by decide))⟩
                exact trivial
              case hend3 =>
                intro u w6 hS hd
                have h27 : u 27 = _ := (hd 27 rfl).1
                have HSD6 := Lib.hid hS
                clear hd hS HSD2
                rw [h27]
                go_wp2_with fail
                go_roundw
                case rel => exact ⟨j + 1, s2, hlt, by go_num, hso2, Lib.hid ⟨HOK2.out, HSD6.out⟩⟩
                case measure => simp [intOf]; omega
            · have dy2 : decide (1 < y) = false := decide_eq_false hy2
              rw [if_neg hy2] at hnr
              rw [hnr] at HN1 HN2
              clear hnr hy2
              go_upto_region 29 with (first | (go_at_call 18; (with_reducible refine (HN1.out _ HS.out.c).mono ?_); rintro e w5 ⟨rfl, hr5, ht5⟩; have HR5 := Lib.hid hr5; have HT5 := Lib.hid ht5; have HQ5 := Lib.hid (HS.out.one ht5).1; clear hr5 ht5) | (go_at_call 19; (with_reducible refine (HN2.out _ HQ5.out).mono ?_); rintro e w6 ⟨rfl, hr6, ht6⟩; have HSD2 := Lib.hid (HS.out.both HR5.out HT5.out hr6 ht6); clear hr6 ht6))
              clear HN1 HN2 HR5 HT5 HQ5 HS x0 dy dy1 dy2
              have hab2 := HOK2.out.ab
              have hob2 := HOK2.out.ob
              have hkb2 := HOK2.out.kb
              obtain ⟨A2, hA2⟩ : ∃ A, s2.acked % m = A := ⟨_, rfl⟩
              obtain ⟨O2, hO2⟩ : ∃ O, s2.opened % m = O := ⟨_, rfl⟩
              have HVA := Lib.hid (fun W (h : RowAt W p (coV m k s2)) => cva_any p m k s2 W h)
              have HVS := Lib.hid (fun W (h : RowAt W p (coV m k s2)) => cvs_any p m k s2 W h)
              rw [hA2] at HVA
              rw [hO2] at HVS
              obtain ⟨t1, t2, -, -⟩ := rem_num m s2.acked HMD.out (by omega)
              obtain ⟨t3, t4, -, -⟩ := rem_num m s2.opened HMD.out (by omega)
              rw [hA2] at t1 t2
              rw [hO2] at t3 t4
              have HTT := Lib.hid (And.intro t1 (And.intro t2 (And.intro t3 t4)))
              have HOP1 := Lib.hid (fun W (h : RowAt W p (coV m k s2)) => copen_any p m k s2 W h HOK2.out)
              have HOP2 := Lib.hid (fun W (h : RowAt W q (soV m k s2)) => ropen_any q m k s2 W h HOK2.out)
              have HLL := Lib.hid (show (openS m s2).length ≤ 1000 from by rw [openS_len]; have := HMD.out; omega)
              generalize openS m s2 = L2 at *
              clear t1 t2 t3 t4 hA2 hO2 hab2 hob2 hkb2
              refine wp_region_facts (fun W W' => Below W.heap.size W W') (fun W => SdAt w p q m k s2 W)
                (fun j' v W => factsOf [.is (.pointer (some ⟨p, 0, none⟩)), .any, .is (.pointer (some ⟨q, 0, none⟩)), .any, .is (.bool true), .is (.bool false), .is (.bool false), .is (.pointer (some ⟨p, 0, none⟩)), .is (.int .i64 A2), .is (.pointer (some ⟨q, 0, none⟩)), .is (.pointer (some ⟨q, 0, none⟩)), .is (.pointer (some ⟨q, 3, none⟩)), .is (.int .i64 s2.acked), .is (.int .i64 m), .is (.int .i64 A2), .is (.bool false), .is (.bool false), .is (.bool false), .is (.pointer (some ⟨p, 0, none⟩)), .is (.int .i64 O2), .is (.pointer (some ⟨q, 0, none⟩)), .is (.pointer (some ⟨q, 0, none⟩)), .is (.pointer (some ⟨q, 2, none⟩)), .is (.int .i64 s2.opened), .is (.int .i64 m), .is (.int .i64 O2), .is (.bool false), .is (.bool false)] j' v W ∧ (j' = 1 ∨ j' = 3 → SeeL encI W v L2))
                (by kernel_rfl) (by kernel_rfl) (fun j' v W W' hb h => ⟨facts_stay _ j' v W W' hb h.1, fun e => (h.2 e).below hb⟩) (fun W W' hb h => h.below hb) (fun i => [u124, u125, u126, u127, u128, u129, u130, u131, u132, u133, u134, u135, u136, u137, u138, u139, u140, u141, u142, u143, u144, u145, u146, u147, u148, u149, u150, u151].getD i undef) (by kernel_rfl) HSD2.out.drew ?F4 ?hF4 ?hstep4 ?hend4
              case hF4 =>
                intro u
                simp only [fillAct]
                go_simp
                rfl
              case hstep4 =>
                clear HSD2
                refine FSteps.cons ?_ ?_
                · intro u W hS hd K hK
                  clear hd
                  simp only [upd, reduceIte, Nat.reduceEqDiff] at hK
                  go_simp
                  exact hK.out _ _ (Below.refl _ _) ⟨rfl, (fun e => absurd e (by decide))⟩
                refine FSteps.cons ?_ ?_
                · intro u W hS hd K hK
                  have h0 : u 0 = _ := (hd 0 rfl).1
                  clear hd
                  simp only [upd, h0, reduceIte, Nat.reduceEqDiff] at hK
                  go_simp
                  go_at_call 21
                  refine (HOP1.out _ hS.c).mono ?_
                  rintro e wc ⟨v, rfl, ho, hb⟩
                  exact hK.out _ _ hb ⟨trivial, fun _ => ho.see⟩
                refine FSteps.cons ?_ ?_
                · intro u W hS hd K hK
                  clear hd
                  simp only [upd, reduceIte, Nat.reduceEqDiff] at hK
                  go_simp
                  exact hK.out _ _ (Below.refl _ _) ⟨rfl, (fun e => absurd e (by decide))⟩
                refine FSteps.cons ?_ ?_
                · intro u W hS hd K hK
                  have h2 : u 2 = _ := (hd 2 rfl).1
                  clear hd
                  simp only [upd, h2, reduceIte, Nat.reduceEqDiff] at hK
                  go_simp
                  go_at_call 22
                  refine (HOP2.out _ hS.r).mono ?_
                  rintro e wc ⟨⟨v, rfl, ho⟩, hb⟩
                  exact hK.out _ _ hb ⟨trivial, fun _ => ho.see⟩
                refine FSteps.cons ?_ ?_
                · intro u W hS hd K hK
                  obtain ⟨a1, c1, h1, A1⟩ := ((hd 1 rfl).2 (Or.inl rfl))
                  obtain ⟨a3, c3, h3, A3⟩ := ((hd 3 rfl).2 (Or.inr rfl))
                  clear hd
                  simp only [upd, h1, h3, reduceIte, Nat.reduceEqDiff] at hK
                  go_simp
                  go_at_call 20
                  refine (isame_yes _ _ L2 W ⟨_, _, rfl, A1⟩ ⟨_, _, rfl, A3⟩ HLL.out).mono ?_
                  rintro e wc ⟨rfl, hb⟩
                  exact hK.out _ _ hb ⟨rfl, (fun e => absurd e (by decide))⟩
                refine FSteps.cons ?_ ?_
                · intro u W hS hd K hK
                  have h4 : u 4 = _ := (hd 4 rfl).1
                  clear hd
                  simp only [upd, h4, reduceIte, Nat.reduceEqDiff] at hK
                  go_simp
                  exact hK.out _ _ (Below.refl _ _) ⟨rfl, (fun e => absurd e (by decide))⟩
                refine FSteps.cons ?_ ?_
                · intro u W hS hd K hK
                  have h5 : u 5 = _ := (hd 5 rfl).1
                  clear hd
                  simp only [upd, h5, reduceIte, Nat.reduceEqDiff] at hK
                  go_simp
                  exact hK.out _ _ (Below.refl _ _) ⟨rfl, (fun e => absurd e (by decide))⟩
                refine FSteps.cons ?_ ?_
                · intro u W hS hd K hK
                  have h6 : u 6 = _ := (hd 6 rfl).1
                  clear hd
                  simp only [upd, h6, reduceIte, Nat.reduceEqDiff] at hK
                  go_simp
                  exact hK.out _ _ (Below.refl _ _) ⟨rfl, (fun e => absurd e (by decide))⟩
                refine FSteps.cons ?_ ?_
                · intro u W hS hd K hK
                  have h6 : u 6 = _ := (hd 6 rfl).1
                  have h7 : u 7 = _ := (hd 7 rfl).1
                  clear hd
                  simp only [upd, h6, h7, reduceIte, Nat.reduceEqDiff] at hK
                  go_simp
                  go_at_call 23
                  refine (HVA.out _ hS.c).mono ?_
                  rintro e wc ⟨rfl, rfl⟩
                  exact hK.out _ _ (Below.refl _ _) ⟨rfl, (fun e => absurd e (by decide))⟩
                refine FSteps.cons ?_ ?_
                · intro u W hS hd K hK
                  have h6 : u 6 = _ := (hd 6 rfl).1
                  clear hd
                  simp only [upd, h6, reduceIte, Nat.reduceEqDiff] at hK
                  go_simp
                  exact hK.out _ _ (Below.refl _ _) ⟨rfl, (fun e => absurd e (by decide))⟩
                refine FSteps.cons ?_ ?_
                · intro u W hS hd K hK
                  have h6 : u 6 = _ := (hd 6 rfl).1
                  have h9 : u 9 = _ := (hd 9 rfl).1
                  clear hd
                  simp only [upd, h6, h9, reduceIte, Nat.reduceEqDiff] at hK
                  go_simp
                  exact hK.out _ _ (Below.refl _ _) ⟨rfl, (fun e => absurd e (by decide))⟩
                refine FSteps.cons ?_ ?_
                · intro u W hS hd K hK
                  have h6 : u 6 = _ := (hd 6 rfl).1
                  have h10 : u 10 = _ := (hd 10 rfl).1
                  clear hd
                  simp only [upd, h6, h10, reduceIte, Nat.reduceEqDiff] at hK
                  go_simp
                  exact hK.out _ _ (Below.refl _ _) ⟨rfl, (fun e => absurd e (by decide))⟩
                refine FSteps.cons ?_ ?_
                · intro u W hS hd K hK
                  have h6 : u 6 = _ := (hd 6 rfl).1
                  have h11 : u 11 = _ := (hd 11 rfl).1
                  clear hd
                  simp only [upd, h6, h11, reduceIte, Nat.reduceEqDiff] at hK
                  have c0 := (show W.cell? ⟨q, 3, none⟩ = some (.int .i64 s2.acked) from hS.r.cell 3 rfl)
                  go_simp
                  exact hK.out _ _ (Below.refl _ _) ⟨rfl, (fun e => absurd e (by decide))⟩
                refine FSteps.cons ?_ ?_
                · intro u W hS hd K hK
                  have h6 : u 6 = _ := (hd 6 rfl).1
                  clear hd
                  simp only [upd, h6, reduceIte, Nat.reduceEqDiff] at hK
                  go_simp
                  exact hK.out _ _ (Below.refl _ _) ⟨rfl, (fun e => absurd e (by decide))⟩
                refine FSteps.cons ?_ ?_
                · intro u W hS hd K hK
                  have h6 : u 6 = _ := (hd 6 rfl).1
                  have h12 : u 12 = _ := (hd 12 rfl).1
                  have h13 : u 13 = _ := (hd 13 rfl).1
                  clear hd
                  simp only [upd, h6, h12, h13, reduceIte, Nat.reduceEqDiff] at hK
                  have y1 := HTT.out.1
                  have y2 := HTT.out.2.1
                  go_simp
                  exact hK.out _ _ (Below.refl _ _) ⟨rfl, (fun e => absurd e (by decide))⟩
                refine FSteps.cons ?_ ?_
                · intro u W hS hd K hK
                  have h6 : u 6 = _ := (hd 6 rfl).1
                  have h8 : u 8 = _ := (hd 8 rfl).1
                  have h14 : u 14 = _ := (hd 14 rfl).1
                  clear hd
                  simp only [upd, h6, h8, h14, reduceIte, Nat.reduceEqDiff] at hK
                  go_simp
                  exact hK.out _ _ (Below.refl _ _) ⟨rfl, (fun e => absurd e (by decide))⟩
                refine FSteps.cons ?_ ?_
                · intro u W hS hd K hK
                  have h6 : u 6 = _ := (hd 6 rfl).1
                  have h15 : u 15 = _ := (hd 15 rfl).1
                  clear hd
                  simp only [upd, h6, h15, reduceIte, Nat.reduceEqDiff] at hK
                  go_simp
                  exact hK.out _ _ (Below.refl _ _) ⟨rfl, (fun e => absurd e (by decide))⟩
                refine FSteps.cons ?_ ?_
                · intro u W hS hd K hK
                  have h16 : u 16 = _ := (hd 16 rfl).1
                  clear hd
                  simp only [upd, h16, reduceIte, Nat.reduceEqDiff] at hK
                  go_simp
                  exact hK.out _ _ (Below.refl _ _) ⟨rfl, (fun e => absurd e (by decide))⟩
                refine FSteps.cons ?_ ?_
                · intro u W hS hd K hK
                  have h17 : u 17 = _ := (hd 17 rfl).1
                  clear hd
                  simp only [upd, h17, reduceIte, Nat.reduceEqDiff] at hK
                  go_simp
                  exact hK.out _ _ (Below.refl _ _) ⟨rfl, (fun e => absurd e (by decide))⟩
                refine FSteps.cons ?_ ?_
                · intro u W hS hd K hK
                  have h17 : u 17 = _ := (hd 17 rfl).1
                  have h18 : u 18 = _ := (hd 18 rfl).1
                  clear hd
                  simp only [upd, h17, h18, reduceIte, Nat.reduceEqDiff] at hK
                  go_simp
                  go_at_call 24
                  refine (HVS.out _ hS.c).mono ?_
                  rintro e wc ⟨rfl, rfl⟩
                  exact hK.out _ _ (Below.refl _ _) ⟨rfl, (fun e => absurd e (by decide))⟩
                refine FSteps.cons ?_ ?_
                · intro u W hS hd K hK
                  have h17 : u 17 = _ := (hd 17 rfl).1
                  clear hd
                  simp only [upd, h17, reduceIte, Nat.reduceEqDiff] at hK
                  go_simp
                  exact hK.out _ _ (Below.refl _ _) ⟨rfl, (fun e => absurd e (by decide))⟩
                refine FSteps.cons ?_ ?_
                · intro u W hS hd K hK
                  have h17 : u 17 = _ := (hd 17 rfl).1
                  have h20 : u 20 = _ := (hd 20 rfl).1
                  clear hd
                  simp only [upd, h17, h20, reduceIte, Nat.reduceEqDiff] at hK
                  go_simp
                  exact hK.out _ _ (Below.refl _ _) ⟨rfl, (fun e => absurd e (by decide))⟩
                refine FSteps.cons ?_ ?_
                · intro u W hS hd K hK
                  have h17 : u 17 = _ := (hd 17 rfl).1
                  have h21 : u 21 = _ := (hd 21 rfl).1
                  clear hd
                  simp only [upd, h17, h21, reduceIte, Nat.reduceEqDiff] at hK
                  go_simp
                  exact hK.out _ _ (Below.refl _ _) ⟨rfl, (fun e => absurd e (by decide))⟩
                refine FSteps.cons ?_ ?_
                · intro u W hS hd K hK
                  have h17 : u 17 = _ := (hd 17 rfl).1
                  have h22 : u 22 = _ := (hd 22 rfl).1
                  clear hd
                  simp only [upd, h17, h22, reduceIte, Nat.reduceEqDiff] at hK
                  have c0 := (show W.cell? ⟨q, 2, none⟩ = some (.int .i64 s2.opened) from hS.r.cell 2 rfl)
                  go_simp
                  exact hK.out _ _ (Below.refl _ _) ⟨rfl, (fun e => absurd e (by decide))⟩
                refine FSteps.cons ?_ ?_
                · intro u W hS hd K hK
                  have h17 : u 17 = _ := (hd 17 rfl).1
                  clear hd
                  simp only [upd, h17, reduceIte, Nat.reduceEqDiff] at hK
                  go_simp
                  exact hK.out _ _ (Below.refl _ _) ⟨rfl, (fun e => absurd e (by decide))⟩
                refine FSteps.cons ?_ ?_
                · intro u W hS hd K hK
                  have h17 : u 17 = _ := (hd 17 rfl).1
                  have h23 : u 23 = _ := (hd 23 rfl).1
                  have h24 : u 24 = _ := (hd 24 rfl).1
                  clear hd
                  simp only [upd, h17, h23, h24, reduceIte, Nat.reduceEqDiff] at hK
                  have y1 := HTT.out.2.2.1
                  have y2 := HTT.out.2.2.2
                  go_simp
                  exact hK.out _ _ (Below.refl _ _) ⟨rfl, (fun e => absurd e (by decide))⟩
                refine FSteps.cons ?_ ?_
                · intro u W hS hd K hK
                  have h17 : u 17 = _ := (hd 17 rfl).1
                  have h19 : u 19 = _ := (hd 19 rfl).1
                  have h25 : u 25 = _ := (hd 25 rfl).1
                  clear hd
                  simp only [upd, h17, h19, h25, reduceIte, Nat.reduceEqDiff] at hK
                  go_simp
                  exact hK.out _ _ (Below.refl _ _) ⟨rfl, (fun e => absurd e (by decide))⟩
                refine FSteps.cons ?_ ?_
                · intro u W hS hd K hK
                  have h17 : u 17 = _ := (hd 17 rfl).1
                  have h26 : u 26 = _ := (hd 26 rfl).1
                  clear hd
                  simp only [upd, h17, h26, reduceIte, Nat.reduceEqDiff] at hK
                  go_simp
                  exact hK.out _ _ (Below.refl _ _) ⟨rfl, (fun e => absurd e (by decide))⟩
                exact trivial
              case hend4 =>
                intro u w6 hS hd
                have h27 : u 27 = _ := (hd 27 rfl).1
                have HSD6 := Lib.hid hS
                clear hd hS HSD2
                rw [h27]
                go_wp2_with fail
                go_roundw
                case rel => exact ⟨j + 1, s2, hlt, by go_num, hso2, Lib.hid ⟨HOK2.out, HSD6.out⟩⟩
                case measure => simp [intOf]; omega
      · have dj : decide ((j : Int) < (n : Int)) = false := decide_eq_false (by omega)
        go_wp2_with fail
        exact bodyPost_ret (v := .bool true) (by simp [results, Try.results4, go_sem]) rfl ⟨rfl, HS.out.bel⟩
theorem seqsends_any (m k : Int) (a : Option Addr) (n cc : Nat) (L : List Int) (w : World) (hn : L.length = n) (hA : AtL encI w a L) (hy : ∀ y ∈ L, -9223372036854775808 ≤ y ∧ y ≤ 9223372036854775807) : Calls Try.prog 4 #[.int .i64 m, .int .i64 k, .slice a n cc] w fun e w' => e = .returned (.bool true) ∧ Below w.heap.size w w' := by
  by_cases h : modR m = true ∧ 1 ≤ k ∧ k < m
  · exact seqsends_ok m k a n cc L w hn hA hy (modR_yes h.1) h.2
  · refine seqsends_bad m k a n cc w ?_
    cases hm : modR m with
    | false => exact Or.inl rfl
    | true => exact Or.inr (by by_cases h1 : k < 1
                               · exact Or.inl h1
                               · exact Or.inr (by by_cases h2 : k < m
                                                  · exact absurd ⟨hm, by omega, h2⟩ h
                                                  · omega))
end Go.Proofs.Ytmokibjeanbabaa
