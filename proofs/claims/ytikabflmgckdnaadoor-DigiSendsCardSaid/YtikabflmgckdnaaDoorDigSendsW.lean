/-
The walk of DigiSends.
-/
import Derived.Test.YtikabflmgckdnaaDoorMix33
import Derived.Test.YtikabflmgckdnaaDoorMix40
import Derived.Lib.QuietBelow
import Derived.Deep.QuietTactic
namespace Go.Proofs.YtikabflmgckdnaaDoor
open Go.RowKit Go.Sort
set_option maxRecDepth 20000
theorem made_cases (C : List Cl) : madeD C = 0 ∨ madeD C = 12 ∨ madeD C = 6 := by
  unfold madeD
  split
  · exact Or.inr (Or.inl rfl)
  · split
    · exact Or.inr (Or.inr rfl)
    · exact Or.inl rfl
theorem on_how (C : List Cl) (s : List UInt8) : (onD C s).2 ≤ 2 ∧ decB s = decide ((onD C s).2 ≠ 2) := by
  unfold onD
  cases hd : decB s with
  | false => exact ⟨Nat.le_refl _, rfl⟩
  | true =>
    rw [if_neg (by decide)]
    split
    · exact ⟨Nat.le_succ _, rfl⟩
    · split
      · exact ⟨Nat.zero_le _, rfl⟩
      · exact ⟨Nat.le_succ _, rfl⟩
theorem mine_own (x : Cl) (A : List Cl) : mineB (x :: A) x = true := by
  unfold mineB
  rw [List.any_cons, decide_eq_true rfl, Bool.true_or]
abbrev numK (k : Nat × Nat × Nat) : List Value := [.int .i64 (k.1 : Nat), .int .i64 (k.2.1 : Nat), .int .i64 (k.2.2 : Nat)]
/-- what the walk keeps: its own box, its three numbers, the calls, the digipeater -/
structure SdK (D : DiP) (w : World) (b : ByteArray) (n : Int) (C : List Cl) (cg p d : Nat) (k ko : Nat × Nat × Nat) (W : World) : Prop where
  box : RowAt W w.heap.size [.string b, .int .i64 n]
  num : RowAt W p (numK k)
  calls : CallsAt W (some ⟨cg, 0, none⟩) C
  own : DiO D w d C ko (fun x => x = w.heap.size ∨ x = cg ∨ x = p) W
  off : p ≠ w.heap.size ∧ p ≠ cg ∧ w.heap.size ≤ p
section
variable {D : DiP} (hD : DiC D) {w W W' : World} {b : ByteArray} {n : Int} {C : List Cl} {cg p d : Nat} {k ko : Nat × Nat × Nat}
theorem SdK.bel (h : SdK D w b n C cg p d k ko W) : Below w.heap.size w W := h.own.bel
include hD
theorem SdK.below (h : SdK D w b n C cg p d k ko W) (hb : Below W.heap.size W W') : SdK D w b n C cg p d k ko W' := ⟨h.box.below hb, h.num.below hb, h.calls.below hb, h.own.below hD hb, h.off⟩
theorem SdK.put (h : SdK D w b n C cg p d k ko W) (i : Nat) (v : Value) (k' : Nat × Nat × Nat) (e : numK k' = (numK k).set i v) : SdK D w b n C cg p d k' ko (W.setCell ⟨p, i, none⟩ v) := by
  have ho := h.off
  refine ⟨h.box.other v ho.1, h.num.put i v _ e, h.calls.same (fun q hq => Below.heap_setCell _ _ _ _ (by cases hq; exact fun e => ho.2.1 e.symm)) (by simp [World.setCell]), ?_, ho⟩
  obtain ⟨F, h1, h2, h3, h4⟩ := h.own
  have hpf := (h4 p (Or.inr (Or.inr rfl))).2
  have hso : SameOn F W (W.setCell ⟨p, i, none⟩ v) := SameOn.of_set hpf v
  exact ⟨F, hD.stay h1 hso, h2, h3.setCell (p := ⟨p, i, none⟩) ho.2.2 v, fun x hx => ⟨Nat.lt_of_lt_of_le (h4 x hx).1 hso.1, (h4 x hx).2⟩⟩
omit hD in
theorem SdK.turned {k2 : Nat × Nat × Nat} (h : SdK D w b n C cg p d k ko W) (ho : DiO D w d C k2 (fun x => x = w.heap.size ∨ x = cg ∨ x = p) W') (hs : SameOn (fun x => x = w.heap.size ∨ x = cg ∨ x = p) W W') : SdK D w b n C cg p d k k2 W' :=
  ⟨h.box.block (hs.2 _ (Or.inl rfl)) hs.1, h.num.block (hs.2 _ (Or.inr (Or.inr rfl))) hs.1, h.calls.same (fun q hq => by cases hq; exact hs.2 _ (Or.inr (Or.inl rfl))) hs.1, ho, h.off⟩
end
set_option maxHeartbeats 1000000 in
theorem disends_far (b : ByteArray) (n : Int) (aa : Option Addr) (am ac : Nat) (la : Option Addr) (ln lc : Nat) (w : World) {D : DiP} (hD : DiC D) (hC : CodesOk w) (h40 : 40 < am) :
    Calls Tryd.prog 3 #[.agg #[.string b, .int .i64 n], .slice aa am ac, .slice la ln lc] w fun e w' => e = .returned (.bool true) ∧ Below w.heap.size w w' := by
  have hb0 := (Below.refl w.heap.size w).alloc (Nat.le_refl _) (.cells #[.string b, .int .i64 n] 23)
  have HAW := Lib.hid (cawake18 hD _ (hC.below hb0))
  have HB0 := Lib.hid hb0
  have dg : decide ((40 : Int) < (am : Int)) = true := decide_eq_true (by omega)
  clear hb0 hC hD h40
  go_enter Tryd.func3, Tryd.ntmps3
  go_wp2_with (go_at_call 6; (with_reducible refine HAW.out.mono ?_); rintro e w1 ⟨rfl, hb⟩; have HB1 := Lib.hid (HB0.out.trans (hb.mono HB0.out.size)); clear hb)
  exact bodyPost_ret (v := .bool true) (by simp [results, Tryd.results3, go_sem]) rfl ⟨rfl, HB1.out⟩
set_option maxHeartbeats 1000000 in
theorem disends_great (b : ByteArray) (n : Int) (aa : Option Addr) (am ac : Nat) (la : Option Addr) (ln lc : Nat) (L : List ByteArray) (w : World) {D : DiP} (hD : DiC D) (hC : CodesOk w) (h40 : am ≤ 40) (hLn : L.length = ln) (hL : AtL encS w la L) (hg : greatB18 L = true) :
    Calls Tryd.prog 3 #[.agg #[.string b, .int .i64 n], .slice aa am ac, .slice la ln lc] w fun e w' => e = .returned (.bool true) ∧ Below w.heap.size w w' := by
  have hb0 := (Below.refl w.heap.size w).alloc (Nat.le_refl _) (.cells #[.string b, .int .i64 n] 23)
  have HAW := Lib.hid (cawake18 hD _ (hC.below hb0))
  have HB0 := Lib.hid hb0
  have HGR := Lib.hid (fun W h => great18 la ln lc L W hLn h)
  rw [hg] at HGR
  have HL := Lib.hid hL
  have dg : decide ((40 : Int) < (am : Int)) = false := decide_eq_false (by omega)
  clear hb0 hC hD h40 hL hLn hg
  go_enter Tryd.func3, Tryd.ntmps3
  go_wp2_with (first
    | (go_at_call 6; (with_reducible refine HAW.out.mono ?_); rintro e w1 ⟨rfl, hb⟩; have HB1 := Lib.hid (HB0.out.trans (hb.mono HB0.out.size)); clear hb)
    | (go_at_call 7; (with_reducible refine (HGR.out _ (HL.out.below HB1.out)).mono ?_); rintro e w2 ⟨rfl, rfl⟩))
  exact bodyPost_ret (v := .bool true) (by simp [results, Tryd.results3, go_sem]) rfl ⟨rfl, HB1.out⟩
set_option maxHeartbeats 2000000 in
theorem disends_no (b : ByteArray) (n : Int) (aa : Option Addr) (am ac : Nat) (A : List Cl) (la : Option Addr) (ln lc : Nat) (L : List ByteArray) (w : World) {D : DiP} (hD : DiC D) (hC : CodesOk w) (h40 : am ≤ 40) (hAn : A.length = am) (hA : CallsAt w aa A) (hA0 : aa = none → ac = 0) (hLn : L.length = ln) (hL : AtL encS w la L) (hg : greatB18 L = false) (hm : madeD ((b, n) :: A) ≠ 0) :
    Calls Tryd.prog 3 #[.agg #[.string b, .int .i64 n], .slice aa am ac, .slice la ln lc] w fun e w' => e = .returned (.bool true) ∧ Below w.heap.size w w' := by
  have hb0 := (Below.refl w.heap.size w).alloc (Nat.le_refl _) (.cells #[.string b, .int .i64 n] 23)
  have HAW := Lib.hid (cawake18 hD _ (hC.below hb0))
  have HB0 := Lib.hid hb0
  have HR0 := Lib.hid (RowAt.new w w.heap.size rfl [.string b, .int .i64 n] 23)
  have HGR := Lib.hid (fun W h => great18 la ln lc L W hLn h)
  rw [hg] at HGR
  have HL := Lib.hid hL
  have dg : decide ((40 : Int) < (am : Int)) = false := decide_eq_false (by omega)
  have HAP := Lib.hid (show ∀ W, Below w.heap.size w W → _ from fun W hb => calls_own18 W 24 (b, n) aa am ac A hAn (hA.below hb) hA0 (by omega))
  have HMA := Lib.hid (fun W cg cc (h : CallsAt W (some ⟨cg, 0, none⟩) ((b, n) :: A)) => made18 (some ⟨cg, 0, none⟩) (am + 1) cc ((b, n) :: A) W (by simp [hAn]) h (by omega))
  have HNE := Lib.hid (show ∀ W, Below w.heap.size w W → Calls Tryd.prog 8 #[.agg #[.string b, .int .i64 n], .slice aa am ac] W fun e w' => e = .returned (.tuple #[.pointer none, .int .i64 (madeD ((b, n) :: A) : Nat)]) ∧ Below W.heap.size W w' from fun W hb => (hD.new W b n aa am ac A (hC.below hb) hAn h40 (hA.below hb) hA0).mono (by
    rintro e w' ⟨⟨h0, -⟩ | ⟨-, h1⟩, h2⟩
    · exact absurd h0 hm
    · exact ⟨h1, h2⟩))
  obtain ⟨r, hr⟩ : ∃ r, madeD ((b, n) :: A) = r := ⟨_, rfl⟩
  have hr2 : r = 12 ∨ r = 6 := by
    rw [← hr]
    rcases made_cases ((b, n) :: A) with h | h
    · exact absurd h hm
    · exact h
  rw [hr] at HNE HMA
  clear hb0 hC hD h40 hL hLn hg hAn hA hA0 hm hr
  rcases hr2 with rfl | rfl
  · go_enter Tryd.func3, Tryd.ntmps3
    go_wp2_with (first
      | (go_at_call 6; (with_reducible refine HAW.out.mono ?_); rintro e w1 ⟨rfl, hb⟩; have HB1 := Lib.hid (HB0.out.trans (hb.mono HB0.out.size)); have HR1 := Lib.hid (HR0.out.below hb); clear hb; have x0 := HR1.out.cell 0 rfl; have x1 := HR1.out.cell 1 rfl)
      | (go_at_call 7; (with_reducible refine (HGR.out _ (HL.out.below HB1.out)).mono ?_); rintro e w2 ⟨rfl, rfl⟩)
      | (at_builtin; obtain ⟨cg, cc, w3, hr, -, hcg1, hcg2, hca, hb⟩ := HAP.out _ HB1.out; refine Lib.wpList_append_run _ rfl _ _ _ _ rfl _ _ rfl rfl _ _ hr ?_; clear hr x0 x1; have HB3 := Lib.hid (HB1.out.trans (hb.mono HB1.out.size)); have HR3 := Lib.hid (HR1.out.below hb); have HCG := Lib.hid (And.intro (Nat.le_trans HB1.out.size hcg1) hcg2); have HGN := Lib.hid (show w.heap.size ≠ cg from fun e => by have := HR1.out.lt; omega); have HCA := Lib.hid hca; clear hb hcg1 hcg2 hca; have x0 := HR3.out.cell 0 rfl; have x1 := HR3.out.cell 1 rfl)
      | (go_at_call 8; (with_reducible refine (HNE.out _ HB3.out).mono ?_); rintro e w4 ⟨rfl, hb⟩; have HB4 := Lib.hid (HB3.out.trans (hb.mono HB3.out.size)); have HCA4 := Lib.hid (HCA.out.below hb); clear hb x0 x1)
      | (go_at_call 9; (with_reducible refine (HMA.out _ cg _ HCA4.out).mono ?_); rintro e w5 ⟨rfl, hb⟩; have HB5 := Lib.hid (HB4.out.trans (hb.mono HB4.out.size)); clear hb))
    exact bodyPost_ret (v := .bool true) (by simp [results, Tryd.results3, go_sem]) rfl ⟨rfl, HB5.out⟩
  · go_enter Tryd.func3, Tryd.ntmps3
    go_wp2_with (first
      | (go_at_call 6; (with_reducible refine HAW.out.mono ?_); rintro e w1 ⟨rfl, hb⟩; have HB1 := Lib.hid (HB0.out.trans (hb.mono HB0.out.size)); have HR1 := Lib.hid (HR0.out.below hb); clear hb; have x0 := HR1.out.cell 0 rfl; have x1 := HR1.out.cell 1 rfl)
      | (go_at_call 7; (with_reducible refine (HGR.out _ (HL.out.below HB1.out)).mono ?_); rintro e w2 ⟨rfl, rfl⟩)
      | (at_builtin; obtain ⟨cg, cc, w3, hr, -, hcg1, hcg2, hca, hb⟩ := HAP.out _ HB1.out; refine Lib.wpList_append_run _ rfl _ _ _ _ rfl _ _ rfl rfl _ _ hr ?_; clear hr x0 x1; have HB3 := Lib.hid (HB1.out.trans (hb.mono HB1.out.size)); have HR3 := Lib.hid (HR1.out.below hb); have HCG := Lib.hid (And.intro (Nat.le_trans HB1.out.size hcg1) hcg2); have HGN := Lib.hid (show w.heap.size ≠ cg from fun e => by have := HR1.out.lt; omega); have HCA := Lib.hid hca; clear hb hcg1 hcg2 hca; have x0 := HR3.out.cell 0 rfl; have x1 := HR3.out.cell 1 rfl)
      | (go_at_call 8; (with_reducible refine (HNE.out _ HB3.out).mono ?_); rintro e w4 ⟨rfl, hb⟩; have HB4 := Lib.hid (HB3.out.trans (hb.mono HB3.out.size)); have HCA4 := Lib.hid (HCA.out.below hb); clear hb x0 x1)
      | (go_at_call 9; (with_reducible refine (HMA.out _ cg _ HCA4.out).mono ?_); rintro e w5 ⟨rfl, hb⟩; have HB5 := Lib.hid (HB4.out.trans (hb.mono HB4.out.size)); clear hb))
    exact bodyPost_ret (v := .bool true) (by simp [results, Tryd.results3, go_sem]) rfl ⟨rfl, HB5.out⟩
set_option maxHeartbeats 4000000 in
theorem disends_yes (b : ByteArray) (n : Int) (aa : Option Addr) (am ac : Nat) (A : List Cl) (la : Option Addr) (ln lc : Nat) (L : List ByteArray) (w : World) {D : DiP} (hD : DiC D) (hC : CodesOk w) (h40 : am ≤ 40) (hAn : A.length = am) (hA : CallsAt w aa A) (hA0 : aa = none → ac = 0) (hLn : L.length = ln) (hL : AtL encS w la L) (hg : greatB18 L = false) (hm : madeD ((b, n) :: A) = 0) :
    Calls Tryd.prog 3 #[.agg #[.string b, .int .i64 n], .slice aa am ac, .slice la ln lc] w fun e w' => e = .returned (.bool true) ∧ Below w.heap.size w w' := by
  have hb0 := (Below.refl w.heap.size w).alloc (Nat.le_refl _) (.cells #[.string b, .int .i64 n] 23)
  have HAW := Lib.hid (cawake18 hD _ (hC.below hb0))
  have HB0 := Lib.hid hb0
  have HR0 := Lib.hid (RowAt.new w w.heap.size rfl [.string b, .int .i64 n] 23)
  have HGR := Lib.hid (fun W h => great18 la ln lc L W hLn h)
  rw [hg] at HGR
  have HL := Lib.hid hL
  have dg : decide ((40 : Int) < (am : Int)) = false := decide_eq_false (by omega)
  have HAP := Lib.hid (show ∀ W, Below w.heap.size w W → _ from fun W hb => calls_own18 W 24 (b, n) aa am ac A hAn (hA.below hb) hA0 (by omega))
  have HMA := Lib.hid (fun W cg cc (h : CallsAt W (some ⟨cg, 0, none⟩) ((b, n) :: A)) => made18 (some ⟨cg, 0, none⟩) (am + 1) cc ((b, n) :: A) W (by simp [hAn]) h (by omega))
  have HNE := Lib.hid (show ∀ W, Below w.heap.size w W → Calls Tryd.prog 8 #[.agg #[.string b, .int .i64 n], .slice aa am ac] W fun e w' => (∃ d F, e = .returned (.tuple #[ptrD d, .int .i64 0]) ∧ D w' d ((b, n) :: A) (0, 0, 0) F ∧ (∀ b, F b → W.heap.size ≤ b)) ∧ Below W.heap.size W w' from fun W hb => (hD.new W b n aa am ac A (hC.below hb) hAn h40 (hA.below hb) hA0).mono (by
    rintro e w' ⟨⟨-, h0⟩ | ⟨h1, -⟩, h2⟩
    · exact ⟨h0, h2⟩
    · exact absurd hm h1))
  rw [hm] at HMA
  obtain ⟨h1a, h1b⟩ := great18_no hg
  have HS1 := Lib.hid h1b
  have HLN := Lib.hid hLn
  have HMO := Lib.hid (mine_own (b, n) A)
  have HHO := Lib.hid (fun s => on_how ((b, n) :: A) s)
  have HD := Lib.hid hD
  have HC := Lib.hid hC
  have hln : ln ≤ 40 := by omega
  have hcl : ((b, n) :: A).length = am + 1 := by simp [hAn]
  have HCL := Lib.hid hcl
  clear hb0 hC hD hL hLn hg hAn hA hA0 hm h1a h1b hcl
  generalize (b, n) :: A = C at *
  go_enter Tryd.func3, Tryd.ntmps3
  go_wp2_with (first
    | (go_at_call 6; (with_reducible refine HAW.out.mono ?_); rintro e w1 ⟨rfl, hb⟩; have HB1 := Lib.hid (HB0.out.trans (hb.mono HB0.out.size)); have HR1 := Lib.hid (HR0.out.below hb); clear hb; have x0 := HR1.out.cell 0 rfl; have x1 := HR1.out.cell 1 rfl)
    | (go_at_call 7; (with_reducible refine (HGR.out _ (HL.out.below HB1.out)).mono ?_); rintro e w2 ⟨rfl, rfl⟩)
    | (at_builtin; obtain ⟨cg, cc, w3, hr, -, hcg1, hcg2, hca, hb⟩ := HAP.out _ HB1.out; refine Lib.wpList_append_run _ rfl _ _ _ _ rfl _ _ rfl rfl _ _ hr ?_; clear hr x0 x1; have HB3 := Lib.hid (HB1.out.trans (hb.mono HB1.out.size)); have HR3 := Lib.hid (HR1.out.below hb); have HCG := Lib.hid (And.intro (Nat.le_trans HB1.out.size hcg1) hcg2); have HGN := Lib.hid (show w.heap.size ≠ cg from fun e => by have := HR1.out.lt; omega); have HCA := Lib.hid hca; clear hb hcg1 hcg2 hca; have x0 := HR3.out.cell 0 rfl; have x1 := HR3.out.cell 1 rfl)
    | (go_at_call 8; (with_reducible refine (HNE.out _ HB3.out).mono ?_); rintro e w4 ⟨⟨d, F, rfl, hd, hf⟩, hb⟩; have HO := Lib.hid (show DiO D w d C (0, 0, 0) (fun x => x = w.heap.size ∨ x = cg) w4 from ⟨F, hd, fun x hx => Nat.le_trans HB3.out.size (hf x hx), HB3.out.trans (hb.mono HB3.out.size), fun x hx => by
        rcases hx with rfl | rfl
        · exact ⟨Nat.lt_of_lt_of_le HR3.out.lt hb.size, fun hx => by have := hf _ hx; have := HR3.out.lt; omega⟩
        · exact ⟨Nat.lt_of_lt_of_le HCG.out.2 hb.size, fun hx => by have := hf _ hx; have := HCG.out.2; omega⟩⟩); have HCA4 := Lib.hid (HCA.out.below hb); have HR4 := Lib.hid (HR3.out.below hb); clear hb hd hf x0 x1)
    | (go_at_call 9; (with_reducible refine (HMA.out _ cg _ HCA4.out).mono ?_); rintro e w5 ⟨rfl, hb⟩; have HK0 := Lib.hid (show SdK D w b n C cg w5.heap.size d (0, 0, 0) (0, 0, 0) (w5.alloc (.cells #[.int .i64 0, .int .i64 0, .int .i64 0] 33)) from ⟨(HR4.out.below hb).alloc _, RowAt.new w5 w5.heap.size rfl _ _, (HCA4.out.below hb).below ((Below.refl w5.heap.size w5).alloc (Nat.le_refl _) _), ((HO.out.below HD.out hb).alloc HD.out _).less (fun x hx => by
        rcases hx with h | h | h
        · exact Or.inl (Or.inl h)
        · exact Or.inl (Or.inr h)
        · exact Or.inr h), by
        have h1 := (HR4.out.below hb).lt
        have h3 := (HO.out.below HD.out hb).bel.size
        obtain ⟨F, -, -, -, h4⟩ := HO.out.below HD.out hb
        have h5 := (h4 cg (Or.inr rfl)).1
        exact ⟨by omega, by omega, h3⟩⟩); clear hb))
  clear HAW HB0 HR0 HGR HAP HMA HNE HB1 HR1 HCA HB3 HR3 HCA4 HR4 HO HCG HGN dg
  generalize w5.heap.size = p at *
  go_loopw [56] (fun iv wx => ∃ j : Nat, j ≤ ln ∧ iv = .int .i64 j ∧ Hid (∃ k : Nat × Nat × Nat, (k.1 ≤ j ∧ k.2.1 ≤ j ∧ k.2.2 ≤ j) ∧ SdK D w b n C cg p d k k wx)) (fun iv _ => ln - (intOf iv).toNat)
  case atStart => exact ⟨0, Nat.zero_le _, rfl, Lib.hid ⟨(0, 0, 0), ⟨Nat.le_refl _, Nat.le_refl _, Nat.le_refl _⟩, HK0.out⟩⟩
  case round =>
    obtain ⟨j, hj, rfl, HJ⟩ := hrel
    clear HK0
    have HZJ := Lib.hid (show wrap64 ((j : Int) + 1) = (j : Int) + 1 from IntWalk.wrap64_in _ (by omega))
    obtain ⟨⟨k0, k1, k2⟩, ⟨hk0, hk1, hk2⟩, hs⟩ := HJ.out
    simp only at hk0 hk1 hk2
    have HS := Lib.hid hs
    clear hs HJ
    by_cases hlj : j < ln
    · have dj : decide (j < ln) = true := decide_eq_true hlj
      have hLj : j < L.length := by rw [HLN.out]; exact hlj
      obtain ⟨g, o, rfl, -⟩ := HL.out.some_ (by omega)
      have x0 : wr.cell? ⟨g, o + j, none⟩ = some (.string L[j]) := by
        have := (HL.out.below HS.out.bel).get j hLj 0 (u := .string L[j]) rfl
        simpa [encS] using this
      have hsz := HS1.out L[j] (List.getElem_mem hLj)
      obtain ⟨hh1, hh2⟩ := HHO.out L[j].data.toList
      generalize L[j] = s at *
      have hon := fun W (h : DiO D w d C (k0, k1, k2) (fun x => x = w.heap.size ∨ x = cg ∨ x = p) W) => h.on HD.out HC.out s hsz ⟨by show k0 ≤ 1000; omega, by show k1 ≤ 1000; omega, by show k2 ≤ 1000; omega⟩
      have hro := fun W (h : CallsAt W (some ⟨cg, 0, none⟩) C) => ron18 (some ⟨cg, 0, none⟩) (am + 1) cc C s W (by omega) HCL.out h (by omega)
      have hde := fun W (hb : Below w.heap.size w W) => HD.out.decodes W s (HC.out.below hb) hsz
      have HFO := Lib.hid (fun W (hb : Below w.heap.size w W) => HD.out.for_ W b n s (HC.out.below hb) hsz)
      have HRF := Lib.hid (fun W => rfor18 b n s W (by omega))
      rw [hh2] at hde
      clear hh2 hsz
      generalize onD C s.data.toList = r at *
      generalize forD (b, n) s.data.toList = fo at *
      obtain ⟨t, how⟩ := r
      simp only at hon hro hde hh1
      obtain ⟨T, hT⟩ : ∃ T : ByteArray, T = ⟨t.toArray⟩ := ⟨_, rfl⟩
      have hsay : sayD (t, how) = .tuple #[.string T, .bool (decide (how = 0))] := by rw [hT]
      have honv : onV (t, how) = .tuple #[.string T, .int .i64 (how : Nat)] := by rw [hT]
      rw [hsay] at hon
      rw [honv] at hro
      have hkk : (cntD (k0, k1, k2) how).1 ≤ j + 1 ∧ (cntD (k0, k1, k2) how).2.1 ≤ j + 1 ∧ (cntD (k0, k1, k2) how).2.2 ≤ j + 1 := by
        unfold cntD
        split
        · exact ⟨by show k0 + 1 ≤ j + 1; omega, by show k1 ≤ j + 1; omega, by show k2 ≤ j + 1; omega⟩
        · split
          · exact ⟨by show k0 ≤ j + 1; omega, by show k1 + 1 ≤ j + 1; omega, by show k2 ≤ j + 1; omega⟩
          · exact ⟨by show k0 ≤ j + 1; omega, by show k1 ≤ j + 1; omega, by show k2 + 1 ≤ j + 1; omega⟩
      have HKK := Lib.hid hkk
      clear hkk hsay honv hT
      rcases (show how = 0 ∨ how = 1 ∨ how = 2 by omega) with rfl | rfl | rfl
      · have HPUT := Lib.hid (show ∀ W, SdK D w b n C cg p d (k0, k1, k2) (cntD (k0, k1, k2) 0) W → ∃ W7, W7 = W.setCell ⟨p, 0, none⟩ (.int .i64 ((k0 : Int) + 1)) ∧ SdK D w b n C cg p d (cntD (k0, k1, k2) 0) (cntD (k0, k1, k2) 0) W7 from fun W h => ⟨_, rfl, h.put HD.out 0 _ _ (by simp [cntD, numK])⟩)
        have hz : wrap64 ((k0 : Int) + 1) = (k0 : Int) + 1 := IntWalk.wrap64_in _ (by omega)
        rw [show decide ((0 : Nat) = 0) = true from rfl] at hon
        rw [show decide ((0 : Nat) ≠ 2) = true from rfl] at hde
        rw [show ((0 : Nat) : Int) = 0 from rfl] at hro
        generalize cntD (k0, k1, k2) 0 = kk at *
        have HON := Lib.hid hon
        have HRO := Lib.hid hro
        have HDE := Lib.hid hde
        clear hon hro hde hh1
        have y0 := HS.out.num.cell 0 rfl
        go_upto_region 19 with (first
          | (go_at_call 10; (with_reducible refine (HON.out _ HS.out.own).mono ?_); rintro e w6 ⟨rfl, ho, hso⟩; have HS6 := Lib.hid (HS.out.turned ho hso); clear ho hso)
          | (go_at_call 11; (with_reducible refine (HRO.out _ HS6.out.calls).mono ?_); rintro e w7 ⟨rfl, hb⟩; have HS7 := Lib.hid (HS6.out.below HD.out hb); clear hb x0; have q0 := HS7.out.num.cell 0 rfl; have q1 := HS7.out.num.cell 1 rfl; have q2 := HS7.out.num.cell 2 rfl; have f0 := (HS7.out.num.get 0 rfl).free; have f1 := (HS7.out.num.get 1 rfl).free; have f2 := (HS7.out.num.get 2 rfl).free))
        obtain ⟨W7, hW7, hs7⟩ := HPUT.out _ HS7.out
        rw [← hW7]
        clear hW7 q0 q1 q2 f0 f1 f2 y0 hz
        have HX1 := Lib.hid (fun d os => HDE.out (grow (redrawn W7 d) os) (hs7.bel.trans ((below_regrown W7 d os).mono hs7.bel.size)))
        have HX2 := Lib.hid (fun d os => HFO.out (grow (redrawn W7 d) os) (hs7.bel.trans ((below_regrown W7 d os).mono hs7.bel.size)))
        have HX3 := Lib.hid (fun d os => HRF.out (grow (redrawn W7 d) os))
        have z0 := fun d os => cell_regrown (hs7.box.cell 0 rfl) d os
        have z1 := fun d os => cell_regrown (hs7.box.cell 1 rfl) d os
        have HS8 := Lib.hid (fun d os => hs7.below HD.out (below_regrown W7 d os))
        clear hs7
        refine wp_region_quiet_below (by kernel_rfl) (by kernel_rfl) ?_
        repeat (quiet_step (first
          | (go_at_call 12; with_reducible exact Calls.regrown_of (HX1.out _ _))
          | (go_at_call 13; with_reducible exact Calls.regrown_of (HX2.out _ _))
          | (go_at_call 14; with_reducible exact Calls.regrown_of (HX3.out _ _))))
        refine wpQuiet_nil ?_
        intro _ hw'
        obtain ⟨pg, hw''⟩ := hw'
        subst hw''
        have HS9 := Lib.hid (HS8.out pg.d pg.os)
        clear HX1 HX2 HX3 z0 z1 HS8
        generalize grow (redrawn W7 pg.d) pg.os = W9 at *
        go_wp2_with fail
        go_roundw
        case rel => exact ⟨j + 1, by omega, (by (try rw [HZJ.out]); rfl), Lib.hid ⟨kk, HKK.out, HS9.out⟩⟩
        case measure =>
          try rw [HZJ.out]
          simp [intOf]
          omega
      · have HPUT := Lib.hid (show ∀ W, SdK D w b n C cg p d (k0, k1, k2) (cntD (k0, k1, k2) 1) W → ∃ W7, W7 = W.setCell ⟨p, 1, none⟩ (.int .i64 ((k1 : Int) + 1)) ∧ SdK D w b n C cg p d (cntD (k0, k1, k2) 1) (cntD (k0, k1, k2) 1) W7 from fun W h => ⟨_, rfl, h.put HD.out 1 _ _ (by simp [cntD, numK])⟩)
        have hz : wrap64 ((k1 : Int) + 1) = (k1 : Int) + 1 := IntWalk.wrap64_in _ (by omega)
        rw [show decide ((1 : Nat) = 0) = false from rfl] at hon
        rw [show decide ((1 : Nat) ≠ 2) = true from rfl] at hde
        rw [show ((1 : Nat) : Int) = 1 from rfl] at hro
        generalize cntD (k0, k1, k2) 1 = kk at *
        have HON := Lib.hid hon
        have HRO := Lib.hid hro
        have HDE := Lib.hid hde
        clear hon hro hde hh1
        have y0 := HS.out.num.cell 0 rfl
        go_upto_region 19 with (first
          | (go_at_call 10; (with_reducible refine (HON.out _ HS.out.own).mono ?_); rintro e w6 ⟨rfl, ho, hso⟩; have HS6 := Lib.hid (HS.out.turned ho hso); clear ho hso)
          | (go_at_call 11; (with_reducible refine (HRO.out _ HS6.out.calls).mono ?_); rintro e w7 ⟨rfl, hb⟩; have HS7 := Lib.hid (HS6.out.below HD.out hb); clear hb x0; have q0 := HS7.out.num.cell 0 rfl; have q1 := HS7.out.num.cell 1 rfl; have q2 := HS7.out.num.cell 2 rfl; have f0 := (HS7.out.num.get 0 rfl).free; have f1 := (HS7.out.num.get 1 rfl).free; have f2 := (HS7.out.num.get 2 rfl).free))
        obtain ⟨W7, hW7, hs7⟩ := HPUT.out _ HS7.out
        rw [← hW7]
        clear hW7 q0 q1 q2 f0 f1 f2 y0 hz
        have HX1 := Lib.hid (fun d os => HDE.out (grow (redrawn W7 d) os) (hs7.bel.trans ((below_regrown W7 d os).mono hs7.bel.size)))
        have HX2 := Lib.hid (fun d os => HFO.out (grow (redrawn W7 d) os) (hs7.bel.trans ((below_regrown W7 d os).mono hs7.bel.size)))
        have HX3 := Lib.hid (fun d os => HRF.out (grow (redrawn W7 d) os))
        have z0 := fun d os => cell_regrown (hs7.box.cell 0 rfl) d os
        have z1 := fun d os => cell_regrown (hs7.box.cell 1 rfl) d os
        have HS8 := Lib.hid (fun d os => hs7.below HD.out (below_regrown W7 d os))
        clear hs7
        refine wp_region_quiet_below (by kernel_rfl) (by kernel_rfl) ?_
        repeat (quiet_step (first
          | (go_at_call 12; with_reducible exact Calls.regrown_of (HX1.out _ _))
          | (go_at_call 13; with_reducible exact Calls.regrown_of (HX2.out _ _))
          | (go_at_call 14; with_reducible exact Calls.regrown_of (HX3.out _ _))))
        refine wpQuiet_nil ?_
        intro _ hw'
        obtain ⟨pg, hw''⟩ := hw'
        subst hw''
        have HS9 := Lib.hid (HS8.out pg.d pg.os)
        clear HX1 HX2 HX3 z0 z1 HS8
        generalize grow (redrawn W7 pg.d) pg.os = W9 at *
        go_wp2_with fail
        go_roundw
        case rel => exact ⟨j + 1, by omega, (by (try rw [HZJ.out]); rfl), Lib.hid ⟨kk, HKK.out, HS9.out⟩⟩
        case measure =>
          try rw [HZJ.out]
          simp [intOf]
          omega
      · have HPUT := Lib.hid (show ∀ W, SdK D w b n C cg p d (k0, k1, k2) (cntD (k0, k1, k2) 2) W → ∃ W7, W7 = W.setCell ⟨p, 2, none⟩ (.int .i64 ((k2 : Int) + 1)) ∧ SdK D w b n C cg p d (cntD (k0, k1, k2) 2) (cntD (k0, k1, k2) 2) W7 from fun W h => ⟨_, rfl, h.put HD.out 2 _ _ (by simp [cntD, numK])⟩)
        have hz : wrap64 ((k2 : Int) + 1) = (k2 : Int) + 1 := IntWalk.wrap64_in _ (by omega)
        rw [show decide ((2 : Nat) = 0) = false from rfl] at hon
        rw [show decide ((2 : Nat) ≠ 2) = false from rfl] at hde
        rw [show ((2 : Nat) : Int) = 2 from rfl] at hro
        generalize cntD (k0, k1, k2) 2 = kk at *
        have HON := Lib.hid hon
        have HRO := Lib.hid hro
        have HDE := Lib.hid hde
        clear hon hro hde hh1
        have y0 := HS.out.num.cell 0 rfl
        go_upto_region 19 with (first
          | (go_at_call 10; (with_reducible refine (HON.out _ HS.out.own).mono ?_); rintro e w6 ⟨rfl, ho, hso⟩; have HS6 := Lib.hid (HS.out.turned ho hso); clear ho hso)
          | (go_at_call 11; (with_reducible refine (HRO.out _ HS6.out.calls).mono ?_); rintro e w7 ⟨rfl, hb⟩; have HS7 := Lib.hid (HS6.out.below HD.out hb); clear hb x0; have q0 := HS7.out.num.cell 0 rfl; have q1 := HS7.out.num.cell 1 rfl; have q2 := HS7.out.num.cell 2 rfl; have f0 := (HS7.out.num.get 0 rfl).free; have f1 := (HS7.out.num.get 1 rfl).free; have f2 := (HS7.out.num.get 2 rfl).free))
        obtain ⟨W7, hW7, hs7⟩ := HPUT.out _ HS7.out
        rw [← hW7]
        clear hW7 q0 q1 q2 f0 f1 f2 y0 hz
        have HX1 := Lib.hid (fun d os => HDE.out (grow (redrawn W7 d) os) (hs7.bel.trans ((below_regrown W7 d os).mono hs7.bel.size)))
        have HX2 := Lib.hid (fun d os => HFO.out (grow (redrawn W7 d) os) (hs7.bel.trans ((below_regrown W7 d os).mono hs7.bel.size)))
        have HX3 := Lib.hid (fun d os => HRF.out (grow (redrawn W7 d) os))
        have z0 := fun d os => cell_regrown (hs7.box.cell 0 rfl) d os
        have z1 := fun d os => cell_regrown (hs7.box.cell 1 rfl) d os
        have HS8 := Lib.hid (fun d os => hs7.below HD.out (below_regrown W7 d os))
        clear hs7
        refine wp_region_quiet_below (by kernel_rfl) (by kernel_rfl) ?_
        repeat (quiet_step (first
          | (go_at_call 12; with_reducible exact Calls.regrown_of (HX1.out _ _))
          | (go_at_call 13; with_reducible exact Calls.regrown_of (HX2.out _ _))
          | (go_at_call 14; with_reducible exact Calls.regrown_of (HX3.out _ _))))
        refine wpQuiet_nil ?_
        intro _ hw'
        obtain ⟨pg, hw''⟩ := hw'
        subst hw''
        have HS9 := Lib.hid (HS8.out pg.d pg.os)
        clear HX1 HX2 HX3 z0 z1 HS8
        generalize grow (redrawn W7 pg.d) pg.os = W9 at *
        go_wp2_with fail
        go_roundw
        case rel => exact ⟨j + 1, by omega, (by (try rw [HZJ.out]); rfl), Lib.hid ⟨kk, HKK.out, HS9.out⟩⟩
        case measure =>
          try rw [HZJ.out]
          simp [intOf]
          omega
    · have dj : decide (j < ln) = false := decide_eq_false hlj
      have HCO := Lib.hid (HS.out.own.counts HD.out)
      have HMI := Lib.hid (fun W (h : DiO D w d C (k0, k1, k2) (fun x => x = w.heap.size ∨ x = cg ∨ x = p) W) => h.mine HD.out b n)
      rw [HMO.out] at HMI
      go_wp2_with (first
        | (go_at_call 15; (with_reducible refine HCO.out.mono ?_); rintro e w6 ⟨rfl, ho, hb⟩; have HO6 := Lib.hid ho; have HR6 := Lib.hid (HS.out.box.below hb); have HN6 := Lib.hid (HS.out.num.below hb); clear ho hb; have x0 := HR6.out.cell 0 rfl; have x1 := HR6.out.cell 1 rfl; have n0 := HN6.out.cell 0 rfl; have n1 := HN6.out.cell 1 rfl; have n2 := HN6.out.cell 2 rfl)
        | (go_at_call 16; (with_reducible refine (HMI.out _ HO6.out).mono ?_); rintro e w7 ⟨rfl, ho, hb⟩; have HB7 := Lib.hid ho.bel; clear ho hb))
      exact bodyPost_ret (v := .bool true) (by simp [results, Tryd.results3, go_sem]) rfl ⟨rfl, HB7.out⟩
theorem disends_any (b : ByteArray) (n : Int) (aa : Option Addr) (am ac : Nat) (A : List Cl) (la : Option Addr) (ln lc : Nat) (L : List ByteArray) (w : World) {D : DiP} (hD : DiC D) (hC : CodesOk w) (hAn : A.length = am) (hA : CallsAt w aa A) (hA0 : aa = none → ac = 0) (hLn : L.length = ln) (hL : AtL encS w la L) :
    Calls Tryd.prog 3 #[.agg #[.string b, .int .i64 n], .slice aa am ac, .slice la ln lc] w fun e w' => e = .returned (.bool true) ∧ Below w.heap.size w w' := by
  by_cases h40 : 40 < am
  · exact disends_far b n aa am ac la ln lc w hD hC h40
  · have h40' : am ≤ 40 := by omega
    cases hg : greatB18 L with
    | true => exact disends_great b n aa am ac la ln lc L w hD hC h40' hLn hL hg
    | false =>
      by_cases hm : madeD ((b, n) :: A) = 0
      · exact disends_yes b n aa am ac A la ln lc L w hD hC h40' hAn hA hA0 hLn hL hg hm
      · exact disends_no b n aa am ac A la ln lc L w hD hC h40' hAn hA hA0 hLn hL hg hm
end Go.Proofs.YtikabflmgckdnaaDoor
