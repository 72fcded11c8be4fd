/-
The document's Stop and Set (written by tools/gen13/gen_rstop.py).
-/
import Derived.Test.YtchhaolgmdhnmaaClkRef
import Derived.Test.YtchhaolgmdhnmaaClkRefP
namespace Go.Proofs.Ytchhaolgmdhnmaa
open Go.RowKit
set_option maxRecDepth 20000
theorem at_news' {α : Type} {E : Enc α} {w : World} {g : Nat} {u : α} (h : AtL E w (some ⟨g, 0, none⟩) [u]) : ∀ j y, (flatE E [u])[j]? = some y → w.cell? ((⟨g, 0, none⟩ : Addr).add j) = some y := by
  intro j y hj
  rw [flatE_single] at hj
  have := h.get 0 (by simp) j hj
  have e : (⟨g, 0, none⟩ : Addr).add j = ⟨g, j, none⟩ := by unfold Addr.add; split <;> simp_all
  rw [e]
  simpa using this
/-- both parts of a slice about an element -/
theorem d_slices (g n c i : Nat) (hi : i < n) (hc : n ≤ c) : ∃ o, (∀ W, (Instr.slice 27 (.slice (some ⟨g, 0, none⟩) n c) none (some (.int .i64 (i : Int))) none).run Try.prog W = .ok (.slice (some ⟨g, 0, none⟩) i c) W) ∧
    (∀ W, (Instr.slice 27 (.slice (some ⟨g, 0, none⟩) n c) (some (.int .i64 ((i : Int) + 1))) none none).run Try.prog W = .ok (.slice (some ⟨g, o, none⟩) (n - (i + 1)) (c - (i + 1))) W) ∧ (o = (i + 1) * 3 ∨ n = i + 1) := by
  have ht' : Try.prog.underlying 27 = some (.slice (Try.prog.elem 27)) := by simp [Program.elem, Try.underlying27]
  have hee : Try.prog.elem 27 = 45 := by simp [Program.elem, Try.underlying27]
  have hz : ∀ w, (Go.sizeOf 45).run Try.prog w = .ok 3 w := fun w => by kernel_rfl
  have ea : ∀ k, (⟨g, 0, none⟩ : Addr).add k = ⟨g, k, none⟩ := fun k => by unfold Addr.add; split <;> simp_all
  have e1 : ((i : Int) + 1).toNat = i + 1 := by omega
  refine ⟨if c = i + 1 then 0 else (i + 1) * 3, fun W => ?_, fun W => ?_, ?_⟩
  · rw [run_slice_h W 27 _ _ _ ht' .i64 (i : Int) (by omega) (by omega), hee, hz]
    simp only [Result.andThen_ok, sliced, Int.toNat_natCast]
    rw [if_neg (by omega), Option.map_some, Nat.zero_mul, ea, Nat.sub_zero, Nat.sub_zero]
  · rw [run_slice_l W 27 _ _ _ ht' .i64 ((i : Int) + 1) (by omega) (by omega), hee, hz]
    simp only [Result.andThen_ok, sliced, e1]
    by_cases h : c = i + 1
    · rw [if_pos h, if_pos h]
    · rw [if_neg h, if_neg h, Option.map_some, ea]
  · by_cases h : c = i + 1
    · exact Or.inr (by omega)
    · rw [if_neg h]
      exact Or.inl rfl
set_option maxHeartbeats 1000000 in
theorem rstop_none (k n : Int) (p : Nat) (now : Int) (L : List Tm) (F : Nat → Prop) (w : World) (h : RkL w p now L F) (hl : L.length ≤ 1000) (hat : atF ⟨k, n⟩ L 0 = -1) : Calls Try.prog 11 #[.pointer (some ⟨p, 0, none⟩), .int .i64 k, .int .i64 n] w fun e w' => e = .returned (.int .i64 0) ∧ Below w.heap.size w w' := by
  have HA := Lib.hid (rat_any k n p now L F w h hl)
  rw [hat] at HA
  clear h hat
  go_enter Try.func11, Try.ntmps11
  go_wp2_with (go_at_call 17; (with_reducible refine HA.out.mono ?_); rintro e w2 ⟨rfl, hb⟩)
  exact bodyPost_ret (v := .int .i64 0) (by simp [results, Try.results11, go_sem]) rfl ⟨rfl, hb⟩
/-- amid making the new list -/
structure RsAt (w3 : World) (p : Nat) (now : Int) (tv : Value) (L : List Tm) (W : World) : Prop where
  row : RowAt W p [.int .i64 now, tv]
  own : OwnD W tv L
  bel : Below w3.heap.size w3 W
  pl : p < w3.heap.size
  tl : ∀ b, tv.ownBlock = some b → b < w3.heap.size
/-- what an operation may do there -/
def RsR (B : Nat) (M : List Tm) (W W' : World) : Prop := Below B W W' ∧ ∀ X x, X <+: M → OwnL encT 45 W B x X → OwnL encT 45 W' B x X
theorem RsR.of_below {B : Nat} {M : List Tm} {W W' : World} (h : Below W.heap.size W W') (hB : B ≤ W.heap.size) : RsR B M W W' := ⟨h.mono hB, fun _ _ _ k => k.below h⟩
theorem RsAt.step {w3 : World} {p : Nat} {now : Int} {tv : Value} {L M : List Tm} {W W' : World} (h : RsAt w3 p now tv L W) (hR : RsR w3.heap.size M W W') : RsAt w3 p now tv L W' :=
  ⟨h.row.block (hR.1.block p h.pl) hR.1.size, h.own.same (fun g e => hR.1.block g (h.tl g e)), h.bel.trans hR.1, h.pl, h.tl⟩
theorem rs_first {B b1 : Nat} {M A : List Tm} {W W' : World} (h : OwnL encT 45 W B (.slice (some ⟨b1, 0, none⟩) 0 0) ([] : List Tm)) (hg : W.grownBy W' (Value.slice (some ⟨b1, 0, none⟩) 0 0).ownBlock)
    (hp : ∀ X B' x, X <+: [] ++ A → OwnL encT 45 W B' x X → OwnL encT 45 W' B' x X) (hB : B ≤ W.heap.size) : RsR B M W W' := by
  refine ⟨⟨hg.os, hg.tape, hg.output, hg.size, fun k hk => hg.block k (Nat.lt_of_lt_of_le hk hB) (fun e => by have := (h.ge e.symm).1; omega)⟩, fun X x _ k => ?_⟩
  by_cases hx : x.ownBlock = some b1
  · obtain rfl := OwnL.none_of h k hx
    exact hp _ _ _ List.nil_prefix k
  · exact k.grown hg (fun b e q => by
      simp only [Value.ownBlock, Option.some.injEq] at q
      exact hx (q ▸ e))
theorem rs_next {B : Nat} {A Z : List Tm} {v : Value} {W W' : World} (h : OwnL encT 45 W B v A) (hg : W.grownBy W' v.ownBlock)
    (hp : ∀ X B' x, X <+: A ++ Z → OwnL encT 45 W B' x X → OwnL encT 45 W' B' x X) (hB : B ≤ W.heap.size) : RsR B (A ++ Z) W W' :=
  ⟨⟨hg.os, hg.tape, hg.output, hg.size, fun k hk => hg.block k (Nat.lt_of_lt_of_le hk hB) (fun e => by have := (h.ge e.symm).1; omega)⟩, fun X x hX k => hp X B x hX k⟩
theorem d_news {W : World} {g m c i o : Nat} {A Z : List Tm} {t : Tm} (h : OwnD W (.slice (some ⟨g, 0, none⟩) m c) (A ++ t :: Z)) (ho : o = (i + 1) * 3 ∨ m = i + 1) (hm : m = i + 1 + Z.length) (hi : A.length = i) : ∀ j u, (flatE encT Z)[j]? = some u → W.cell? ((⟨g, o, none⟩ : Addr).add j) = some u := by
  by_cases hz : Z = []
  · subst hz
    intro j u hj
    simp [flatE] at hj
  · have hl : 0 < Z.length := List.length_pos_iff.2 hz
    have ho' : o = (i + 1) * 3 := by omega
    refine h.part (A ++ [t]) Z [] (by simp) o ?_
    rw [List.length_append, List.length_singleton, hi]
    exact ho'
theorem rs_done {w w3 W : World} {p g m c va vc : Nat} {now : Int} {L M : List Tm} {vb : Option Addr} (h : RsAt w3 p now (.slice (some ⟨g, 0, none⟩) m c) L W) (ho : OwnL encT 45 W w3.heap.size (.slice vb va vc) M) (hb : Below w.heap.size w w3) (hpv : (Value.slice (some ⟨g, 0, none⟩) m c).ownBlock ≠ some p) :
    RkL (W.setCell ⟨p, 1, none⟩ (.slice vb va vc)) p now M (fun k => k = p ∨ (Value.slice vb va vc).ownBlock = some k) ∧ Turn (fun k => k = p ∨ (Value.slice (some ⟨g, 0, none⟩) m c).ownBlock = some k) w (W.setCell ⟨p, 1, none⟩ (.slice vb va vc)) ∧ Grew (fun k => k = p ∨ (Value.slice (some ⟨g, 0, none⟩) m c).ownBlock = some k) (fun k => k = p ∨ (Value.slice vb va vc).ownBlock = some k) w := by
  have hge : ∀ b, (Value.slice vb va vc).ownBlock = some b → w3.heap.size ≤ b := fun b e => (ho.ge e).1
  have hpl := h.pl
  have hne : (Value.slice vb va vc).ownBlock ≠ some p := fun e => by have := hge p e; omega
  have hbs := hb.size
  refine ⟨⟨_, h.row.put 1 _ _ rfl, (ho.base (Nat.zero_le _)).same (fun b e => Below.heap_setCell _ _ _ _ (show b ≠ p from fun q => hne (q ▸ e))), hne, rfl⟩, ?_, fun k hk => ?_⟩
  · exact (Turn.of_below (hb.trans (h.bel.mono hbs))).set (p := ⟨p, 1, none⟩) (Or.inl (Or.inl rfl)) _
  · rcases hk with rfl | e
    · exact Or.inl (Or.inl rfl)
    · exact Or.inr (Nat.le_trans hbs (hge k e))
set_option maxHeartbeats 4000000 in
theorem rstop_some (k n : Int) (p : Nat) (now : Int) (A Z : List Tm) (t : Tm) (F : Nat → Prop) (w : World) (h : RkL w p now (A ++ t :: Z) F) (hl : (A ++ t :: Z).length ≤ 1000) (hat : atF ⟨k, n⟩ (A ++ t :: Z) 0 = (A.length : Nat)) : Calls Try.prog 11 #[.pointer (some ⟨p, 0, none⟩), .int .i64 k, .int .i64 n] w fun e w' =>
    ∃ F', e = .returned (.int .i64 1) ∧ RkL w' p now (A ++ Z) F' ∧ Turn F w w' ∧ Grew F F' w := by
  have HA := Lib.hid (rat_any k n p now _ F w h hl)
  rw [hat] at HA
  clear hat
  obtain ⟨v, hr, ho, hpv, rfl⟩ := h
  obtain ⟨g, c, rfl, -, -, -⟩ := ho.some_ (by rw [List.length_append, List.length_cons]; omega)
  obtain ⟨m, hm⟩ : ∃ m, (A ++ t :: Z).length = m := ⟨_, rfl⟩
  obtain ⟨i, hi⟩ : ∃ i, A.length = i := ⟨_, rfl⟩
  have hmi : m = i + 1 + Z.length := by rw [← hm, ← hi, List.length_append, List.length_cons]; omega
  have hmc : m ≤ c := by
    rcases ho.2 with ⟨h0, _⟩ | ⟨g', cap', cur, hv, hb, hg, hc, hmx, hss, ht⟩
    · cases h0
    · simp only [Value.slice.injEq] at hv
      obtain ⟨-, -, rfl⟩ := hv
      omega
  rw [hm] at hr ho hl
  obtain ⟨o, hs1, hs2, hoo⟩ := d_slices g m c i (by omega) hmc
  rw [hi] at HA
  have HR0 := Lib.hid hr
  have HO0 := Lib.hid ho
  have HPV := Lib.hid hpv
  have HMI := Lib.hid hmi
  have HII := Lib.hid hi
  have HOO := Lib.hid hoo
  have z1 : IntKind.i64.wrap ((i : Int) + 1) = (i : Int) + 1 := i64_near _ (by omega) (by omega)
  have hzl : Z.length = m - (i + 1) := by omega
  have HZL := Lib.hid hzl
  have hlen : i + Z.length ≤ 100000 := by omega
  have z1' := z1
  rw [IntWalk.i64_left] at z1
  clear hr ho hpv hmi hi hm hoo hzl
  go_enter Try.func11, Try.ntmps11
  go_upto_region 4 with (go_at_call 17; (with_reducible refine HA.out.mono ?_); rintro e w3 ⟨rfl, hb⟩; have HB3 := Lib.hid hb; clear hb)
  have HS0 := Lib.hid (show RsAt w3 p now (.slice (some ⟨g, 0, none⟩) m c) (A ++ t :: Z) w3 from ⟨HR0.out.below HB3.out, HO0.out.below HB3.out, Below.refl _ _, ((HR0.out.below HB3.out).get 0 rfl).lt, fun b e => ((HO0.out.below HB3.out).ge e).2⟩)
  clear HR0 HO0 HA hmc
  refine wp_region_upto 19 0 (fun W W' => RsR w3.heap.size (A ++ Z) W W') (fun W => RsAt w3 p now (.slice (some ⟨g, 0, none⟩) m c) (A ++ t :: Z) W)
    (fun j' v W => factsOf [.is (.pointer (some ⟨p, 0, none⟩)), .any, .is (.pointer (some ⟨p, 0, none⟩)), .is (.pointer (some ⟨p, 0, none⟩)), .is (.pointer (some ⟨p, 1, none⟩)), .is (.slice (some ⟨g, 0, none⟩) m c), .is (.int .i64 (i : Int)), .is (.slice (some ⟨g, 0, none⟩) i c), .any, .is (.pointer (some ⟨p, 0, none⟩)), .is (.pointer (some ⟨p, 0, none⟩)), .is (.pointer (some ⟨p, 1, none⟩)), .is (.slice (some ⟨g, 0, none⟩) m c), .is (.int .i64 (i : Int)), .is (.int .i64 ((i : Int) + 1)), .is (.slice (some ⟨g, o, none⟩) (m - (i + 1)) (c - (i + 1))), .any, .is (.pointer (some ⟨p, 0, none⟩)), .is (.pointer (some ⟨p, 1, none⟩))] j' v W ∧ (j' = 1 → ∃ b, v = .slice (some ⟨b, 0, none⟩) 0 0 ∧ OwnL encT 45 W w3.heap.size v []) ∧ (j' = 8 → OwnL encT 45 W w3.heap.size v A) ∧ (j' = 16 → OwnL encT 45 W w3.heap.size v (A ++ Z)))
    (by kernel_rfl) rfl (by kernel_rfl) (by kernel_rfl)
    (fun j' v W W' hR h => ⟨facts_still rfl j' v W W' h.1, (fun e => by obtain ⟨b, hv, hB⟩ := h.2.1 e; exact ⟨b, hv, hR.2 _ _ List.nil_prefix hB⟩), (fun e => hR.2 _ _ (List.prefix_append _ _) (h.2.2.1 e)), (fun e => hR.2 _ _ (List.prefix_refl _) (h.2.2.2 e))⟩) (fun W W' hR h => h.step hR) (fun _ => undef) (by kernel_rfl) (HS0.out.step (M := []) (RsR.of_below ((Below.refl _ _).drew) (Nat.le_refl _))) ?F1 ?hF1 ?hstep1 ?hend1
  case hF1 =>
    intro u
    simp only [List.take, fillAct]
    go_simp
    rfl
  case hstep1 =>
    clear HS0
    refine FSteps.cons ?_ ?_
    · intro u W hS hd K hK
      clear hd
      simp only [upd, reduceIte, Nat.reduceEqDiff] at hK
      go_simp
      exact hK.out _ _ (RsR.of_below (Below.refl _ _) hS.bel.size) ⟨rfl, (fun e => absurd e (by decide)), (fun e => absurd e (by decide)), (fun e => absurd e (by decide))⟩
    refine FSteps.cons ?_ ?_
    · intro u W hS hd K hK
      clear hd
      simp only [upd, reduceIte, Nat.reduceEqDiff] at hK
      go_simp
      exact hK.out _ _ (RsR.of_below ((Below.refl _ _).alloc (Nat.le_refl _) _) hS.bel.size) ⟨trivial, (fun _ => ⟨_, rfl, OwnL.lit encT 45 W w3.heap.size [] [] rfl hS.bel.size (by simp) 0 rfl⟩), (fun e => absurd e (by decide)), (fun e => absurd e (by decide))⟩
    refine FSteps.cons ?_ ?_
    · intro u W hS hd K hK
      clear hd
      simp only [upd, reduceIte, Nat.reduceEqDiff] at hK
      go_simp
      exact hK.out _ _ (RsR.of_below (Below.refl _ _) hS.bel.size) ⟨rfl, (fun e => absurd e (by decide)), (fun e => absurd e (by decide)), (fun e => absurd e (by decide))⟩
    refine FSteps.cons ?_ ?_
    · intro u W hS hd K hK
      have h2 : u 2 = _ := (hd 2 rfl).1
      clear hd
      simp only [upd, h2, reduceIte, Nat.reduceEqDiff] at hK
      go_simp
      exact hK.out _ _ (RsR.of_below (Below.refl _ _) hS.bel.size) ⟨rfl, (fun e => absurd e (by decide)), (fun e => absurd e (by decide)), (fun e => absurd e (by decide))⟩
    refine FSteps.cons ?_ ?_
    · intro u W hS hd K hK
      have h3 : u 3 = _ := (hd 3 rfl).1
      clear hd
      simp only [upd, h3, reduceIte, Nat.reduceEqDiff] at hK
      go_simp
      exact hK.out _ _ (RsR.of_below (Below.refl _ _) hS.bel.size) ⟨rfl, (fun e => absurd e (by decide)), (fun e => absurd e (by decide)), (fun e => absurd e (by decide))⟩
    refine FSteps.cons ?_ ?_
    · intro u W hS hd K hK
      have h4 : u 4 = _ := (hd 4 rfl).1
      clear hd
      simp only [upd, h4, reduceIte, Nat.reduceEqDiff] at hK
      have c0 := hS.row.cell 1 rfl
      go_simp
      exact hK.out _ _ (RsR.of_below (Below.refl _ _) hS.bel.size) ⟨rfl, (fun e => absurd e (by decide)), (fun e => absurd e (by decide)), (fun e => absurd e (by decide))⟩
    refine FSteps.cons ?_ ?_
    · intro u W hS hd K hK
      clear hd
      simp only [upd, reduceIte, Nat.reduceEqDiff] at hK
      go_simp
      exact hK.out _ _ (RsR.of_below (Below.refl _ _) hS.bel.size) ⟨rfl, (fun e => absurd e (by decide)), (fun e => absurd e (by decide)), (fun e => absurd e (by decide))⟩
    refine FSteps.cons ?_ ?_
    · intro u W hS hd K hK
      have h5 : u 5 = _ := (hd 5 rfl).1
      have h6 : u 6 = _ := (hd 6 rfl).1
      clear hd
      simp only [upd, h5, h6, reduceIte, Nat.reduceEqDiff] at hK
      have hs := hs1 W
      go_simp
      exact hK.out _ _ (RsR.of_below (Below.refl _ _) hS.bel.size) ⟨rfl, (fun e => absurd e (by decide)), (fun e => absurd e (by decide)), (fun e => absurd e (by decide))⟩
    refine FSteps.cons ?_ ?_
    · intro u W hS hd K hK
      have h7 : u 7 = _ := (hd 7 rfl).1
      obtain ⟨b1, h1, O1⟩ := (hd 1 rfl).2.1 rfl
      clear hd
      simp only [upd, h7, h1, reduceIte, Nat.reduceEqDiff] at hK
      rw [h1] at O1
      obtain ⟨v', w7, hr, hown, hgr, hov, hpx⟩ := run_append_full encT 45 27 27 Try.underlying27 infoD rfl (by decide) W w3.heap.size _ [] O1 ⟨g, 0, none⟩ c A (hS.own.part [] A (t :: Z) (by simp) 0 (by simp)) (by simp only [List.length_nil]; rw [HII.out]; omega) hS.bel.size
      rw [HII.out] at hr
      rw [if_pos (by kernel_rfl)]
      simp only [h1, h7]
      refine wp_append_run (.tmp 15) (.tmp 21) rfl rfl rfl hr ?_
      exact hK.out _ _ (rs_first O1 hgr hpx hS.bel.size) ⟨trivial, (fun e => absurd e (by decide)), (fun _ => hown), (fun e => absurd e (by decide))⟩
    refine FSteps.cons ?_ ?_
    · intro u W hS hd K hK
      clear hd
      simp only [upd, reduceIte, Nat.reduceEqDiff] at hK
      go_simp
      exact hK.out _ _ (RsR.of_below (Below.refl _ _) hS.bel.size) ⟨rfl, (fun e => absurd e (by decide)), (fun e => absurd e (by decide)), (fun e => absurd e (by decide))⟩
    refine FSteps.cons ?_ ?_
    · intro u W hS hd K hK
      have h9 : u 9 = _ := (hd 9 rfl).1
      clear hd
      simp only [upd, h9, reduceIte, Nat.reduceEqDiff] at hK
      go_simp
      exact hK.out _ _ (RsR.of_below (Below.refl _ _) hS.bel.size) ⟨rfl, (fun e => absurd e (by decide)), (fun e => absurd e (by decide)), (fun e => absurd e (by decide))⟩
    refine FSteps.cons ?_ ?_
    · intro u W hS hd K hK
      have h10 : u 10 = _ := (hd 10 rfl).1
      clear hd
      simp only [upd, h10, reduceIte, Nat.reduceEqDiff] at hK
      go_simp
      exact hK.out _ _ (RsR.of_below (Below.refl _ _) hS.bel.size) ⟨rfl, (fun e => absurd e (by decide)), (fun e => absurd e (by decide)), (fun e => absurd e (by decide))⟩
    refine FSteps.cons ?_ ?_
    · intro u W hS hd K hK
      have h11 : u 11 = _ := (hd 11 rfl).1
      clear hd
      simp only [upd, h11, reduceIte, Nat.reduceEqDiff] at hK
      have c0 := hS.row.cell 1 rfl
      go_simp
      exact hK.out _ _ (RsR.of_below (Below.refl _ _) hS.bel.size) ⟨rfl, (fun e => absurd e (by decide)), (fun e => absurd e (by decide)), (fun e => absurd e (by decide))⟩
    refine FSteps.cons ?_ ?_
    · intro u W hS hd K hK
      clear hd
      simp only [upd, reduceIte, Nat.reduceEqDiff] at hK
      go_simp
      exact hK.out _ _ (RsR.of_below (Below.refl _ _) hS.bel.size) ⟨rfl, (fun e => absurd e (by decide)), (fun e => absurd e (by decide)), (fun e => absurd e (by decide))⟩
    refine FSteps.cons ?_ ?_
    · intro u W hS hd K hK
      have h13 : u 13 = _ := (hd 13 rfl).1
      clear hd
      simp only [upd, h13, reduceIte, Nat.reduceEqDiff] at hK
      go_simp
      exact hK.out _ _ (RsR.of_below (Below.refl _ _) hS.bel.size) ⟨rfl, (fun e => absurd e (by decide)), (fun e => absurd e (by decide)), (fun e => absurd e (by decide))⟩
    refine FSteps.cons ?_ ?_
    · intro u W hS hd K hK
      have h12 : u 12 = _ := (hd 12 rfl).1
      have h14 : u 14 = _ := (hd 14 rfl).1
      clear hd
      simp only [upd, h12, h14, reduceIte, Nat.reduceEqDiff] at hK
      have hs := hs2 W
      go_simp
      exact hK.out _ _ (RsR.of_below (Below.refl _ _) hS.bel.size) ⟨rfl, (fun e => absurd e (by decide)), (fun e => absurd e (by decide)), (fun e => absurd e (by decide))⟩
    refine FSteps.cons ?_ ?_
    · intro u W hS hd K hK
      have h15 : u 15 = _ := (hd 15 rfl).1
      obtain ⟨v8, h8, O8⟩ : ∃ v8, u 8 = v8 ∧ OwnL encT 45 W w3.heap.size v8 A := ⟨_, rfl, (hd 8 rfl).2.2.1 rfl⟩
      clear hd
      simp only [upd, h15, h8, reduceIte, Nat.reduceEqDiff] at hK
      obtain ⟨v', w7, hr, hown, hgr, hov, hpx⟩ := run_append_full encT 45 27 27 Try.underlying27 infoD rfl (by decide) W w3.heap.size v8 A O8 ⟨g, o, none⟩ (c - (i + 1)) Z (d_news hS.own HOO.out HMI.out HII.out) (by rw [HII.out]; omega) hS.bel.size
      rw [HZL.out] at hr
      rw [if_pos (by kernel_rfl)]
      simp only [h8, h15]
      refine wp_append_run (.tmp 22) (.tmp 29) rfl rfl rfl hr ?_
      exact hK.out _ _ (rs_next O8 hgr hpx hS.bel.size) ⟨trivial, (fun e => absurd e (by decide)), (fun e => absurd e (by decide)), (fun _ => hown)⟩
    refine FSteps.cons ?_ ?_
    · intro u W hS hd K hK
      have h0 : u 0 = _ := (hd 0 rfl).1
      clear hd
      simp only [upd, h0, reduceIte, Nat.reduceEqDiff] at hK
      go_simp
      exact hK.out _ _ (RsR.of_below (Below.refl _ _) hS.bel.size) ⟨rfl, (fun e => absurd e (by decide)), (fun e => absurd e (by decide)), (fun e => absurd e (by decide))⟩
    refine FSteps.cons ?_ ?_
    · intro u W hS hd K hK
      have h17 : u 17 = _ := (hd 17 rfl).1
      clear hd
      simp only [upd, h17, reduceIte, Nat.reduceEqDiff] at hK
      go_simp
      exact hK.out _ _ (RsR.of_below (Below.refl _ _) hS.bel.size) ⟨rfl, (fun e => absurd e (by decide)), (fun e => absurd e (by decide)), (fun e => absurd e (by decide))⟩
    exact trivial
  case hend1 =>
    intro u w6 hS hd
    have h18 : u 18 = _ := (hd 18 rfl).1
    have h16 := (hd 16 rfl).2.2.2 rfl
    obtain ⟨va, vn, vc, hv'⟩ := OwnL.form' h16
    rw [hv'] at h16
    have HE := Lib.hid (rs_done hS h16 HB3.out HPV.out)
    have c0 := hS.row.cell 1 rfl
    have f0 := (hS.row.get 1 rfl).free
    simp only [hv', h18]
    clear hd hS h16 hv' h18
    refine wpAny_ready (rs := [19]) (by kernel_rfl) (by simp) ?_
    refine AllReady.cons rfl (fun K hK => ?_) AllReady.nil
    go_simp
    refine hK _ _ ?_
    clear hK K
    refine wpAny_done (by kernel_rfl) ?_ _
    go_wp2_with fail
    exact bodyPost_ret (v := .int .i64 1) (by simp [results, Try.results11, go_sem]) rfl ⟨_, rfl, HE.out⟩
theorem rstop_any (a : Nm) (p : Nat) (now : Int) (L : List Tm) (F : Nat → Prop) (w : World) (h : RkL w p now L F) (hl : L.length ≤ 1000) (hp : L.Pairwise fun s t => eqN s.nm t.nm = false) : Calls Try.prog 11 #[.pointer (some ⟨p, 0, none⟩), .int .i64 a.k, .int .i64 a.n] w fun e w' =>
    ∃ F', e = .returned (.int .i64 (cntT (isT a) L : Nat)) ∧ RkL w' p now (stopT a L) F' ∧ Turn F w w' ∧ Grew F F' w := by
  rcases atF_spec a L 0 with ⟨h1, h2⟩ | ⟨A, t, Z, rfl, h2, h3, h4⟩
  · rw [stopT_none h2, stopT_zero h2]
    exact (rstop_none a.k a.n p now L F w h hl h1).mono fun e w' ⟨he, hb⟩ => ⟨F, he, h.below hb, Turn.of_below hb, Grew.refl F w⟩
  · obtain ⟨e1, e2⟩ := stopT_split h4 h3 hp
    rw [e1, e2]
    exact rstop_some a.k a.n p now A Z t F w h hl (by rw [h2]; omega)
end Go.Proofs.Ytchhaolgmdhnmaa
