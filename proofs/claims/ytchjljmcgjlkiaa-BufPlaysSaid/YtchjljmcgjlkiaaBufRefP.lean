/-
The document's box: Put (written by tools/gen19/gen_rput.py).
-/
import Derived.Test.YtchjljmcgjlkiaaBufRef
import Derived.Test.YtchjljmcgjlkiaaSegRCut
import Derived.Test.YtchjljmcgjlkiaaFactsUpto
namespace Go.Proofs.Ytchjljmcgjlkiaa
open Go.RowKit
set_option maxRecDepth 20000
theorem at_news' {α : Type} {E : Enc α} {w : World} {g : Nat} {u : α} (h : AtL E w (some ⟨g, 0, none⟩) [u]) : ∀ j y, (flatE E [u])[j]? = some y → w.cell? ((⟨g, 0, none⟩ : Addr).add j) = some y := by
  intro j y hj
  have hl := (List.getElem?_eq_some_iff.1 hj).1
  rw [flatE_single] at hj hl
  have e1 : (⟨g, 0, none⟩ : Addr).add j = ⟨g, 0 + j, none⟩ := by unfold Addr.add; split <;> simp_all
  have := h.get 0 (by simp) j hj
  rw [e1]
  simpa using this
/-- what a call that may put answers -/
def RbTo (w : World) (p : Nat) (n1 : Int) (F : Nat → Prop) (x : Int) (c : Int) (D : List (Int × Pc)) : Ending → World → Prop := fun e w' => e = .returned (.int .i64 x) ∧ ∃ F', RbL w' p n1 c D F' ∧ Turn F w w' ∧ Grew F F' w
/-- amid the loop -/
structure PuAt (w : World) (p : Nat) (n1 c : Int) (F : Nat → Prop) (D : List (Int × Pc)) (al : Option Addr) (L : List Pc) (k : Nat) (tv : Value) (W : World) : Prop where
  row : RowAt W p [.int .i64 n1, .int .i64 c, tv]
  own : OwnT19 W tv (D ++ (L.take k).map fun x => (c, x))
  pv : tv.ownBlock ≠ some p
  off : ∀ q, al = some q → tv.ownBlock ≠ some q.block ∧ q.block ≠ p
  at_ : AtL encP W al L
  turn : Turn F w W
  grew : Grew F (fun k => k = p ∨ tv.ownBlock = some k) w
theorem take_tag (c : Int) (L : List Pc) (k : Nat) (hk : k < L.length) : ((L.take (k + 1)).map fun x => (c, x)) = ((L.take k).map fun x => (c, x)) ++ [(c, L[k])] := by
  rw [List.take_succ_eq_append_getElem hk, List.map_append]
  rfl
set_option maxHeartbeats 2000000 in
theorem rput19_no (n1 pid : Int) (text : ByteArray) (p : Nat) (b : Bx) (F : Nat → Prop) (w : World) (h : RbL w p n1 b.cnt (docB b) F) (hb : BOk b) (hE : putErrB n1 pid text b ≠ 0) :
    Calls Try.prog 11 #[.pointer (some ⟨p, 0, none⟩), .int .i64 pid, .string text] w (RbTo w p n1 F (putErrB n1 pid text b) b.cnt (docB b)) := by
  have HQ := Lib.hid h
  have HSP := Lib.hid (fun W => rsplit_any pid n1 text W)
  have HLE := Lib.hid (fun W (hb : Below w.heap.size w W) => rlen19 p n1 b.cnt (docB b) F W (h.below hb) (by rw [doc_left]; have := left_le ‹BOk b›; omega))
  rw [doc_len hb] at HLE
  obtain ⟨v, hr, -, -, -⟩ := h
  have c0 := hr.cell 0 rfl
  unfold putErrB at hE ⊢
  obtain ⟨⟨L, E⟩, hLE⟩ : ∃ r, splitD pid text n1 = r := ⟨_, rfl⟩
  rw [hLE] at hE HSP ⊢
  simp only at hE ⊢
  by_cases h0 : E = 0
  · subst h0
    rw [if_neg (by simp)] at hE ⊢
    have h8 : b.M.length = 8 := Classical.byContradiction fun h8 => hE (if_neg h8)
    rw [if_pos h8]
    rw [h8] at HLE
    clear hr hLE hE h8 hb
    generalize docB b = D at *
    generalize b.cnt = c at *
    go_enter Try.func11, Try.ntmps11
    go_wp2_with (first
      | (go_at_call 24; (with_reducible refine (HSP.out _).mono ?_); rintro e w2 ⟨⟨v1, rfl, -⟩, hb⟩; have HB2 := Lib.hid hb; clear hb)
      | (go_at_call 15; (with_reducible refine (HLE.out _ HB2.out).mono ?_); rintro e w3 ⟨rfl, hb⟩; have HB3 := Lib.hid (HB2.out.trans (hb.mono HB2.out.size)); clear hb))
    exact bodyPost_ret (v := .int .i64 6) (by simp [results, Try.results11, go_sem]) rfl ⟨rfl, F, HQ.out.below HB3.out, Turn.of_below HB3.out, Grew.refl F w⟩
  · rw [if_pos h0]
    have d0 : (E != 0) = true := by simpa using h0
    clear hr hLE hE h0 hb HLE
    generalize docB b = D at *
    generalize b.cnt = c at *
    go_enter Try.func11, Try.ntmps11
    go_wp2_with (first
      | (go_at_call 24; (with_reducible refine (HSP.out _).mono ?_); rintro e w2 ⟨⟨v1, rfl, -⟩, hb⟩; have HB2 := Lib.hid hb; clear hb))
    exact bodyPost_ret (v := .int .i64 E) (by simp [results, Try.results11, go_sem]) rfl ⟨rfl, F, HQ.out.below HB2.out, Turn.of_below HB2.out, Grew.refl F w⟩
set_option maxHeartbeats 2000000 in
theorem rput19_yes (n1 pid : Int) (text : ByteArray) (p : Nat) (b : Bx) (F : Nat → Prop) (w : World) (h : RbL w p n1 b.cnt (docB b) F) (hb : BOk b) (hc : 0 ≤ b.cnt ∧ b.cnt ≤ 100000) (hE : putErrB n1 pid text b = 0) :
    Calls Try.prog 11 #[.pointer (some ⟨p, 0, none⟩), .int .i64 pid, .string text] w (RbTo w p n1 F 0 (b.cnt + 1) (docB (putB n1 pid text b))) := by
  rw [doc_put hE]
  have HQ := Lib.hid h
  have HSP := Lib.hid (fun W => rsplit_any pid n1 text W)
  have hdl : (docB b).length ≤ 360 := by rw [doc_left]; exact left_le hb
  have HLE := Lib.hid (fun W (hb : Below w.heap.size w W) => rlen19 p n1 b.cnt (docB b) F W (h.below hb) (by omega))
  rw [doc_len hb] at HLE
  obtain ⟨hE0, hM⟩ := putErr_zero hE
  have hL45 := (split_good hE0).2.2.1
  obtain ⟨⟨L, E⟩, hLE⟩ : ∃ r, splitD pid text n1 = r := ⟨_, rfl⟩
  rw [hLE] at hE0 HSP hL45 ⊢
  simp only at hE0 hL45
  subst hE0
  have hM8 := hb.many
  have d8 : ((b.M.length : Int) == 8) = false := by rw [beq_eq_false_iff_ne]; omega
  obtain ⟨m8, hm8⟩ : ∃ m, m = b.M.length := ⟨_, rfl⟩
  rw [← hm8] at HLE d8
  obtain ⟨D, hD⟩ : ∃ D, docB b = D := ⟨_, rfl⟩
  rw [hD] at HQ hdl ⊢
  obtain ⟨c0', hc0⟩ : ∃ c, b.cnt = c := ⟨_, rfl⟩
  rw [hc0] at HQ hc ⊢
  obtain ⟨c, hcc⟩ : ∃ c, c0' + 1 = c := ⟨_, rfl⟩
  have hz : wrap64 (c0' + 1) = c := by rw [IntWalk.wrap64_in _ (by omega)]; exact hcc
  have HZH := Lib.hid (show IntKind.i64.wrap (c0' + 1) = c from by rw [IntWalk.i64_left]; exact hz)
  rw [hcc]
  clear hLE hE hM hb hm8 hD hc0 hM8 h
  obtain ⟨v, hr, ho, hn, hF⟩ := HQ.out
  have c0 := hr.cell 0 rfl
  have HR0 := Lib.hid hr
  have HO0 := Lib.hid (And.intro ho (And.intro hn hF))
  have HCC := Lib.hid hcc
  clear hr ho hn hF hc hcc
  go_enter Try.func11, Try.ntmps11
  go_upto_region 6 with (first
    | (go_at_call 24; (with_reducible refine (HSP.out _).mono ?_); rintro e w2 ⟨⟨lv, rfl, hlo⟩, hb⟩; have HB2 := Lib.hid hb; have HL2 := Lib.hid hlo; clear hb hlo)
    | (go_at_call 15; (with_reducible refine (HLE.out _ HB2.out).mono ?_); rintro e w3 ⟨rfl, hb⟩; have HB3 := Lib.hid (HB2.out.trans (hb.mono HB2.out.size)); have HL3 := Lib.hid (HL2.out.below hb); clear hb))
  obtain ⟨al, lc, rfl, hA3⟩ := HL3.out.see
  have HR3 := Lib.hid (HR0.out.below HB3.out)
  have c1 := HR3.out.cell 1 rfl
  have f1 := (HR3.out.get 1 rfl).free
  have HP0 := Lib.hid (show PuAt w p n1 c F D al L 0 v (w3.setCell ⟨p, 1, none⟩ (.int .i64 c)) from by
    have hpw := HR0.out.lt
    obtain ⟨ho, hn, hF⟩ := HO0.out
    have hal : ∀ q, al = some q → w.heap.size ≤ q.block := fun q e => by
      rcases HL3.out.2 with ⟨h0, _⟩ | ⟨g', cap', cur, hv, hb, _⟩
      · simp only [Value.slice.injEq] at h0
        rw [h0.1] at e
        cases e
      · simp only [Value.slice.injEq] at hv
        rw [hv.1] at e
        cases e
        exact hb
    refine ⟨HR3.out.put 1 _ _ rfl, ?_, hn, fun q e => ⟨fun e2 => ?_, ?_⟩, hA3.set _ fun q e => ?_, ?_, ?_⟩
    · rw [List.take_zero, List.map_nil, List.append_nil]
      exact (ho.below HB3.out).same fun g e => Below.heap_setCell _ _ _ _ (show g ≠ p from fun q => hn (q ▸ e))
    · have := (ho.ge e2).2
      have := hal q e
      omega
    · have := hal q e
      omega
    · have := hal q e
      show q.block ≠ p
      omega
    · rw [hF]
      exact (Turn.of_below HB3.out).set (p := ⟨p, 1, none⟩) (Or.inl (Or.inl rfl)) _
    · rw [hF]
      exact Grew.refl _ _)
  obtain ⟨N, hN⟩ : ∃ N, L.length = N := ⟨_, rfl⟩
  have HN := Lib.hid hN
  rw [hN] at hL45
  rw [hN]
  clear hN hA3 HL3 HL2 HB2 HSP HLE HQ
  go_wp2_with fail
  go_loopw [9] (fun kv wx => ∃ k : Nat, k ≤ N ∧ kv = .int .i64 k ∧ ∃ tv : Value, Hid (PuAt w p n1 c F D al L k tv wx)) (fun kv _ => N - (intOf kv).toNat)
  case atStart => exact ⟨0, Nat.zero_le _, rfl, _, HP0⟩
  case round =>
    obtain ⟨k, hk, rfl, tv, HK⟩ := hrel
    clear HP0 c0 c1 f1
    have HZ2 := Lib.hid (show wrap64 ((k : Int) + 1) = (k : Int) + 1 from IntWalk.wrap64_in _ (by omega))
    by_cases hlt : k < N
    · have hL : k < L.length := by rw [HN.out]; exact hlt
      obtain ⟨gl, ol, rfl, -⟩ := HK.out.at_.some_ (by omega)
      have HX := Lib.hid (take_tag c L k hL)
      have HPC := Lib.hid (fun W (h : AtL encP W (some ⟨gl, ol, none⟩) L) => pc_at h k hL)
      have hdl2 : (D ++ (L.take k).map fun x => (c, x)).length ≤ 500 := by
        rw [List.length_append, List.length_map, List.length_take]
        omega
      obtain ⟨DL, hDL⟩ : ∃ DL, D ++ ((L.take k).map fun x => (c, x)) = DL := ⟨_, rfl⟩
      have HDL := Lib.hid hDL
      rw [hDL] at hdl2
      have e1 : L[k] = ⟨L[k].pid, L[k].info⟩ := rfl
      rw [e1] at HX
      generalize L[k].pid = x0 at *
      generalize L[k].info = x1 at *
      have HSE := Lib.hid (show SlAt encT19 63 wr p [.int .i64 n1, .int .i64 c, tv] tv DL wr from SlAt.start HK.out.row (hDL ▸ HK.out.own) HK.out.pv)
      have hgl : ¬ (fun k => tv.ownBlock = some k) gl := (HK.out.off _ rfl).1
      have HGL := Lib.hid hgl
      have hpre : DL <+: DL ++ [(c, (⟨x0, x1⟩ : Pc))] := List.prefix_append _ _
      clear hDL e1 hL
      go_upto_region 10 with fail
      refine wp_region_upto 18 0 (fun W W' => SlR encT19 63 tv (DL ++ [(c, (⟨x0, x1⟩ : Pc))]) W W') (fun W => SlAt encT19 63 wr p [.int .i64 n1, .int .i64 c, tv] tv DL W ∧ AtL encP W (some ⟨gl, ol, none⟩) L)
        (fun j' v W => factsOf [.is (.pointer (some ⟨p, 0, none⟩)), .is (.pointer (some ⟨p, 0, none⟩)), .is (.pointer (some ⟨p, 0, none⟩)), .is (.pointer (some ⟨p, 2, none⟩)), .is (tv), .is (.pointer (some ⟨p, 0, none⟩)), .is (.pointer (some ⟨p, 0, none⟩)), .is (.pointer (some ⟨p, 1, none⟩)), .is (.int .i64 c), .is (.slice (some ⟨gl, ol, none⟩) N lc), .is (.int .i64 (k : Int)), .is (.pointer (some ⟨gl, ol + k * 2, none⟩)), .is (.agg #[.int .i64 x0, .string x1]), .is (.agg #[.int .i64 c, .int .i64 x0, .string x1]), .any, .any, .is (.pointer (some ⟨p, 0, none⟩)), .is (.pointer (some ⟨p, 2, none⟩))] j' v W ∧
          (j' = 14 → ∃ b, v = .slice (some ⟨b, 0, none⟩) 1 1 ∧ AtL encT19 W (some ⟨b, 0, none⟩) [(c, (⟨x0, x1⟩ : Pc))] ∧ tv.ownBlock ≠ some b) ∧ (j' = 15 → OwnT19 W v (DL ++ [(c, (⟨x0, x1⟩ : Pc))]) ∧ ∀ k, v.ownBlock = some k → tv.ownBlock = some k ∨ wr.heap.size ≤ k))
        (by kernel_rfl) rfl (by kernel_rfl) (by kernel_rfl)
        (fun j' v W W' hR h => ⟨facts_still rfl j' v W W' h.1, (fun e => by obtain ⟨b, hv, hB, hn⟩ := h.2.1 e; exact ⟨b, hv, hB.turn hR.1 (fun q e => by cases e; exact hn), hn⟩), (fun e => ⟨hR.2 _ _ (List.prefix_refl _) (h.2.2 e).1, (h.2.2 e).2⟩)⟩) (fun W W' hR h => ⟨h.1.step hpre hR, h.2.turn hR.1 (fun q e => by cases e; exact hgl)⟩) (fun i => [u39, u40, u41, u42, u43, u44, u45, u46, u47, u48, u49, u50, u51, u52, u53, u54, u55, u56].getD i undef) (by kernel_rfl) ⟨HSE.out.step hpre (SlR.of_below ((Below.refl _ _).drew)), HK.out.at_.drew⟩ ?F1 ?hF1 ?hstep1 ?hend1
      case hF1 =>
        intro u
        simp only [List.take, fillAct]
        go_simp
        rfl
      case hstep1 =>
        clear HSE hgl
        refine FSteps.cons ?_ ?_
        · intro u W hS hd K hK
          clear hd
          simp only [upd, reduceIte, Nat.reduceEqDiff] at hK
          go_simp
          exact hK.out _ _ (SlR.of_below (Below.refl _ _)) ⟨rfl, (fun e => absurd e (by decide)), (fun e => absurd e (by decide))⟩
        refine FSteps.cons ?_ ?_
        · intro u W hS hd K hK
          clear hd
          simp only [upd, reduceIte, Nat.reduceEqDiff] at hK
          go_simp
          exact hK.out _ _ (SlR.of_below (Below.refl _ _)) ⟨rfl, (fun e => absurd e (by decide)), (fun e => absurd e (by decide))⟩
        refine FSteps.cons ?_ ?_
        · intro u W hS hd K hK
          have h1 : u 1 = _ := (hd 1 rfl).1
          clear hd
          simp only [upd, h1, reduceIte, Nat.reduceEqDiff] at hK
          go_simp
          exact hK.out _ _ (SlR.of_below (Below.refl _ _)) ⟨rfl, (fun e => absurd e (by decide)), (fun e => absurd e (by decide))⟩
        refine FSteps.cons ?_ ?_
        · intro u W hS hd K hK
          have h2 : u 2 = _ := (hd 2 rfl).1
          clear hd
          simp only [upd, h2, reduceIte, Nat.reduceEqDiff] at hK
          go_simp
          exact hK.out _ _ (SlR.of_below (Below.refl _ _)) ⟨rfl, (fun e => absurd e (by decide)), (fun e => absurd e (by decide))⟩
        refine FSteps.cons ?_ ?_
        · intro u W hS hd K hK
          have h3 : u 3 = _ := (hd 3 rfl).1
          clear hd
          simp only [upd, h3, reduceIte, Nat.reduceEqDiff] at hK
          have c0 := hS.1.row.cell 2 rfl
          go_simp
          exact hK.out _ _ (SlR.of_below (Below.refl _ _)) ⟨rfl, (fun e => absurd e (by decide)), (fun e => absurd e (by decide))⟩
        refine FSteps.cons ?_ ?_
        · intro u W hS hd K hK
          clear hd
          simp only [upd, reduceIte, Nat.reduceEqDiff] at hK
          go_simp
          exact hK.out _ _ (SlR.of_below (Below.refl _ _)) ⟨rfl, (fun e => absurd e (by decide)), (fun e => absurd e (by decide))⟩
        refine FSteps.cons ?_ ?_
        · intro u W hS hd K hK
          have h5 : u 5 = _ := (hd 5 rfl).1
          clear hd
          simp only [upd, h5, reduceIte, Nat.reduceEqDiff] at hK
          go_simp
          exact hK.out _ _ (SlR.of_below (Below.refl _ _)) ⟨rfl, (fun e => absurd e (by decide)), (fun e => absurd e (by decide))⟩
        refine FSteps.cons ?_ ?_
        · intro u W hS hd K hK
          have h6 : u 6 = _ := (hd 6 rfl).1
          clear hd
          simp only [upd, h6, reduceIte, Nat.reduceEqDiff] at hK
          go_simp
          exact hK.out _ _ (SlR.of_below (Below.refl _ _)) ⟨rfl, (fun e => absurd e (by decide)), (fun e => absurd e (by decide))⟩
        refine FSteps.cons ?_ ?_
        · intro u W hS hd K hK
          have h7 : u 7 = _ := (hd 7 rfl).1
          clear hd
          simp only [upd, h7, reduceIte, Nat.reduceEqDiff] at hK
          have c0 := hS.1.row.cell 1 rfl
          go_simp
          exact hK.out _ _ (SlR.of_below (Below.refl _ _)) ⟨rfl, (fun e => absurd e (by decide)), (fun e => absurd e (by decide))⟩
        refine FSteps.cons ?_ ?_
        · intro u W hS hd K hK
          clear hd
          simp only [upd, reduceIte, Nat.reduceEqDiff] at hK
          go_simp
          exact hK.out _ _ (SlR.of_below (Below.refl _ _)) ⟨rfl, (fun e => absurd e (by decide)), (fun e => absurd e (by decide))⟩
        refine FSteps.cons ?_ ?_
        · intro u W hS hd K hK
          clear hd
          simp only [upd, reduceIte, Nat.reduceEqDiff] at hK
          go_simp
          exact hK.out _ _ (SlR.of_below (Below.refl _ _)) ⟨rfl, (fun e => absurd e (by decide)), (fun e => absurd e (by decide))⟩
        refine FSteps.cons ?_ ?_
        · intro u W hS hd K hK
          have h9 : u 9 = _ := (hd 9 rfl).1
          have h10 : u 10 = _ := (hd 10 rfl).1
          clear hd
          simp only [upd, h9, h10, reduceIte, Nat.reduceEqDiff] at hK
          go_simp
          exact hK.out _ _ (SlR.of_below (Below.refl _ _)) ⟨rfl, (fun e => absurd e (by decide)), (fun e => absurd e (by decide))⟩
        refine FSteps.cons ?_ ?_
        · intro u W hS hd K hK
          have h11 : u 11 = _ := (hd 11 rfl).1
          clear hd
          simp only [upd, h11, reduceIte, Nat.reduceEqDiff] at hK
          have ⟨z0, z1⟩ := HPC.out W hS.2
          go_simp
          exact hK.out _ _ (SlR.of_below (Below.refl _ _)) ⟨rfl, (fun e => absurd e (by decide)), (fun e => absurd e (by decide))⟩
        refine FSteps.cons ?_ ?_
        · intro u W hS hd K hK
          have h8 : u 8 = _ := (hd 8 rfl).1
          have h12 : u 12 = _ := (hd 12 rfl).1
          clear hd
          simp only [upd, h8, h12, reduceIte, Nat.reduceEqDiff] at hK
          go_simp
          exact hK.out _ _ (SlR.of_below (Below.refl _ _)) ⟨rfl, (fun e => absurd e (by decide)), (fun e => absurd e (by decide))⟩
        refine FSteps.cons ?_ ?_
        · intro u W hS hd K hK
          have h13 : u 13 = _ := (hd 13 rfl).1
          clear hd
          simp only [upd, h13, reduceIte, Nat.reduceEqDiff] at hK
          have hne : tv.ownBlock ≠ some W.heap.size := (fun e => by have := hS.1.tw _ e; have := hS.1.turn.size; omega)
          go_simp
          exact hK.out _ _ (SlR.of_below ((Below.refl _ _).alloc (Nat.le_refl _) _)) ⟨trivial, (fun _ => ⟨_, rfl, AtL.made encT19 63 _ _ (c, ⟨x0, x1⟩) _ rfl rfl, hne⟩), (fun e => absurd e (by decide))⟩
        refine FSteps.cons ?_ ?_
        · intro u W hS hd K hK
          have h4 : u 4 = _ := (hd 4 rfl).1
          obtain ⟨b8, h14, B8, N8⟩ := (hd 14 rfl).2.1 rfl
          clear hd
          simp only [upd, h4, h14, reduceIte, Nat.reduceEqDiff] at hK
          obtain ⟨v', w7, hr, hown, hgr, hov, hpx⟩ := run_append_full encT19 63 43 43 Try.underlying43 infoT19 rfl (by decide) W 0 tv DL hS.1.own ⟨b8, 0, none⟩ 1 [(c, ⟨x0, x1⟩)] (at_news' B8) (by simp; omega) (Nat.zero_le _)
          rw [if_pos (by kernel_rfl)]
          simp only [h4, h14]
          refine wp_append_run (.tmp 43) (.tmp 53) rfl rfl rfl hr ?_
          exact hK.out _ _ (SlR.of_grown hgr hpx) ⟨trivial, (fun e => absurd e (by decide)), (fun _ => ⟨hown, own_or hov hS.1.turn.size⟩)⟩
        refine FSteps.cons ?_ ?_
        · intro u W hS hd K hK
          have h0 : u 0 = _ := (hd 0 rfl).1
          clear hd
          simp only [upd, h0, reduceIte, Nat.reduceEqDiff] at hK
          go_simp
          exact hK.out _ _ (SlR.of_below (Below.refl _ _)) ⟨rfl, (fun e => absurd e (by decide)), (fun e => absurd e (by decide))⟩
        refine FSteps.cons ?_ ?_
        · intro u W hS hd K hK
          have h16 : u 16 = _ := (hd 16 rfl).1
          clear hd
          simp only [upd, h16, reduceIte, Nat.reduceEqDiff] at hK
          go_simp
          exact hK.out _ _ (SlR.of_below (Below.refl _ _)) ⟨rfl, (fun e => absurd e (by decide)), (fun e => absurd e (by decide))⟩
        exact trivial
      case hend1 =>
        intro u w6 hS hd
        have h17 : u 17 = _ := (hd 17 rfl).1
        have h15 := (hd 15 rfl).2.2 rfl
        obtain ⟨va, vn, vc, hv'⟩ := OwnL.form' h15.1
        rw [hv'] at h15
        have HE := Lib.hid (hS.1.done h15.1 h15.2 HK.out.row.lt 2 [.int .i64 n1, .int .i64 c, .slice va vn vc] rfl)
        have HAE := Lib.hid (show AtL encP (w6.setCell ⟨p, 2, none⟩ (.slice va vn vc)) (some ⟨gl, ol, none⟩) L from hS.2.set _ fun q e => by cases e; exact (HK.out.off _ rfl).2)
        have HOF := Lib.hid (show (Value.slice va vn vc).ownBlock ≠ some gl from fun e => by
          rcases h15.2 gl e with q | q
          · exact HGL.out q
          · obtain ⟨g', o', e', hg'⟩ := HK.out.at_.some_ (by have := HN.out; omega)
            cases e'
            omega)
        have c0 := hS.1.row.cell 2 rfl
        have f0 := (hS.1.row.get 2 rfl).free
        simp only [hv', h17]
        clear hd hS h15 hv' h17
        refine wpAny_ready (rs := [18]) (by kernel_rfl) (by simp) ?_
        refine AllReady.cons rfl (fun K hK => ?_) AllReady.nil
        go_simp
        refine hK _ _ ?_
        clear hK K
        refine wpAny_done (by kernel_rfl) ?_ _
        go_wp2_with fail
        go_roundw
        case rel =>
          refine ⟨k + 1, by omega, by (try rw [HZ2.out]); rfl, .slice va vn vc, Lib.hid ⟨HE.out.1, ?_, HE.out.2.2.1, fun q e => ?_, HAE.out, HK.out.turn.trans HE.out.2.2.2.1 HK.out.grew, HK.out.grew.trans HE.out.2.2.2.2 HK.out.turn.size⟩⟩
          · rw [HX.out, ← List.append_assoc, HDL.out]
            exact HE.out.2.1
          · cases e
            exact ⟨HOF.out, (HK.out.off _ rfl).2⟩
        case measure =>
          try rw [HZ2.out]
          simp [intOf]
          omega
    · have e : L.take k = L := List.take_of_length_le (by have := HN.out; omega)
      have hfin := HK.out
      go_wp2_with fail
      exact bodyPost_ret (v := .int .i64 0) (by simp [results, Try.results11, go_sem]) rfl ⟨rfl, _, ⟨tv, hfin.row, by have := hfin.own; rwa [e] at this, hfin.pv, rfl⟩, hfin.turn, hfin.grew⟩
end Go.Proofs.Ytchjljmcgjlkiaa
