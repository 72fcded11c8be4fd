/-
The walk of BufPlays (written by tools/gen19/gen_plays.py).
-/
import Derived.Test.YtchjljmcgjlkiaaBufNoneW
namespace Go.Proofs.Ytchjljmcgjlkiaa
open Go.RowKit Go.Sort
set_option maxRecDepth 20000
/-- the frame behind what an op does -/
def bfFr (n1 : Int) (g o n c q p i : Nat) (uu : Nat → Value) : Act := { tmps := #[.int .i64 n1, .slice (some ⟨g, o, none⟩) n c, undef, undef, uu 4, ptrB q, .int .i64 0, ptrB p, undef, uu 9, uu 10, uu 11, uu 12, uu 13, .bool true, .bool false, .slice (some ⟨g, o, none⟩) n c, .bool false, .tuple #[ptrB q, .int .i64 0], .int .i64 n1, .tuple #[ptrB q, .int .i64 0], ptrB q, .int .i64 0, .int .i64 n1, ptrB p, ptrB p, .bool false, undef, undef, undef, undef, undef, undef, ptrB q, .bool false, .bool false, .int .i64 0, .bool false, .bool false, .slice (some ⟨g, o, none⟩) n c, .int .i64 (n : Int), .int .i64 (i : Int), uu 42, uu 43, uu 44, uu 45, uu 46, uu 47, uu 48, uu 49, uu 50, uu 51, uu 52, uu 53, uu 54, uu 55, uu 56, uu 57, uu 58, uu 59, uu 60, uu 61, uu 62, uu 63, uu 64, uu 65, uu 66, uu 67, uu 68, uu 69, uu 70, uu 71, uu 72, uu 73, uu 74, uu 75, uu 76, uu 77, uu 78, uu 79, uu 80, uu 81, uu 82, uu 83, uu 84, uu 85, uu 86, uu 87, uu 88, uu 89, uu 90, uu 91, uu 92, uu 93, uu 94, uu 95, uu 96, uu 97, uu 98, uu 99, uu 100, uu 101, uu 102, uu 103, uu 104, uu 105, uu 106, uu 107, uu 108, uu 109, uu 110, uu 111, uu 112, uu 113, uu 114, uu 115, uu 116, uu 117, uu 118, uu 119, uu 120, uu 121, uu 122, uu 123, uu 124], defers := [] }
/-- both boxes hold the same -/
def BpAt (B : BoP) (w : World) (q p : Nat) (n1 : Int) (i : Nat) (K : Nat → Prop) (W : World) : Prop := ∃ b : Bx, BOk b ∧ 0 ≤ b.cnt ∧ b.cnt ≤ i ∧ BoB B w q p n1 b b.cnt (docB b) K W
/-- what each op leaves behind -/
def BfWy (B : BoP) (w : World) (q p : Nat) (n1 : Int) (i ob : Nat) (R : List Value) (W : World) : Prop := BpAt B w q p n1 (i + 1) (fun k => k = ob) W ∧ RowAt W ob R
theorem bf_way {KT : Act → World → Prop} {P : World → Prop} {n1 : Int} {g o n c q p i : Nat} (H : ∀ (uu : Nat → Value) (W : World), P W → KT (bfFr n1 g o n c q p i uu) W) (a : Act) (W : World) (hP : P W) (ha : a = bfFr n1 g o n c q p i (fun k => a.tmps.getD k undef)) : KT a W := by
  rw [ha]
  exact H _ _ hP
theorem put_cnt (n1 pid : Int) (text : ByteArray) (b : Bx) (i : Nat) (h : 0 ≤ b.cnt ∧ b.cnt ≤ i) : 0 ≤ (putB n1 pid text b).cnt ∧ (putB n1 pid text b).cnt ≤ (i + 1 : Nat) := by
  by_cases hE : putErrB n1 pid text b = 0
  · rw [putB_yes hE]
    show 0 ≤ b.cnt + 1 ∧ b.cnt + 1 ≤ _
    omega
  · rw [putB_no hE]
    omega
theorem doc_none : docB noB = [] := rfl
/-- the document's box is empty again -/
theorem BoB.wipe {B : BoP} (hC : BoC B) {w0 W : World} {q p : Nat} {n1 c : Int} {b : Bx} {D : List (Int × Pc)} {K : Nat → Prop} (h : BoB B w0 q p n1 b c D K W) :
    (∃ v, RowAt W p [.int .i64 n1, .int .i64 c, v]) ∧ BoB B w0 q p n1 b 0 [] K ((W.setCell ⟨p, 2, none⟩ (.slice none 0 0)).setCell ⟨p, 1, none⟩ (.int .i64 0)) ∧ SameOn K W ((W.setCell ⟨p, 2, none⟩ (.slice none 0 0)).setCell ⟨p, 1, none⟩ (.int .i64 0)) := by
  obtain ⟨F, F2, h1, h2, h3, h4, h5, h6, h7⟩ := h
  obtain ⟨v, hr, ho, hn, rfl⟩ := h2
  have ht : Turn (fun k => k = p ∨ v.ownBlock = some k) W ((W.setCell ⟨p, 2, none⟩ (.slice none 0 0)).setCell ⟨p, 1, none⟩ (.int .i64 0)) := (((Turn.refl _ W).set (p := ⟨p, 2, none⟩) (Or.inl (Or.inl rfl)) _).set (p := ⟨p, 1, none⟩) (Or.inl (Or.inl rfl)) _)
  have hg : Grew (fun k => k = p ∨ v.ownBlock = some k) (fun k => k = p ∨ (Value.slice none 0 0).ownBlock = some k) W := fun k hk => by
    rcases hk with rfl | e
    · exact Or.inl (Or.inl rfl)
    · cases e
  exact ⟨⟨v, hr⟩, BoB.turn2 hC h1 h3 h4 h5 h6 h7 ⟨_, (hr.put 2 _ _ rfl).put 1 _ _ rfl, OwnL.nil _ _ _ _, (fun e => by cases e), rfl⟩ ht hg⟩
set_option maxHeartbeats 4000000 in
theorem bufplays_any {B : BoP} (hC : BoC B) (n1 : Int) (a : Option Addr) (n c : Nat) (Ops : List Op19) (w : World) (hn : Ops.length = n) (hA : AtL encO19 w a Ops) : Calls Try.prog 3 #[.int .i64 n1, .slice a n c] w fun e w' => e = .returned (.bool true) ∧ Below w.heap.size w w' := by
  have HC := Lib.hid hC
  have HAW := Lib.hid (fun W => cawake19 hC W)
  have HGR := Lib.hid (fun (W : World) (hb : Below w.heap.size w W) => great_any19 a n c Ops W hn (hA.below hb))
  cases hg : greatB19 Ops with
  | true =>
    rw [hg] at HGR
    clear hC hg hn hA
    go_enter Try.func3, Try.ntmps3
    go_wp2_with (first
      | (go_at_call 6; (with_reducible refine (HAW.out _).mono ?_); rintro e w1 ⟨rfl, hb⟩; have HB1 := Lib.hid hb; clear hb)
      | (go_at_call 7; (with_reducible refine (HGR.out _ HB1.out).mono ?_); rintro e w2 ⟨rfl, hb⟩; have HB2 := Lib.hid (HB1.out.trans (hb.mono HB1.out.size)); clear hb))
    exact bodyPost_ret (v := .bool true) (by simp [results, Try.results3, go_sem]) rfl ⟨rfl, HB2.out⟩
  | false =>
    rw [hg] at HGR
    have hno := great_no19 hg
    have hl : n ≤ 150 := by rw [← hn]; exact hno.1
    have HSZ := Lib.hid hno.2
    have HN := Lib.hid hn
    have HA := Lib.hid hA
    by_cases hn1 : n1 < 16 ∨ 256 < n1
    · have HNW := Lib.hid (fun W => hC.newNo n1 W hn1)
      have HRN := Lib.hid (fun W => rnew19_no n1 W hn1)
      clear hC hg hn hA hno hn1
      go_enter Try.func3, Try.ntmps3
      go_wp2_with (first
        | (go_at_call 6; (with_reducible refine (HAW.out _).mono ?_); rintro e w1 ⟨rfl, hb⟩; have HB1 := Lib.hid hb; clear hb)
        | (go_at_call 7; (with_reducible refine (HGR.out _ HB1.out).mono ?_); rintro e w2 ⟨rfl, hb⟩; have HB2 := Lib.hid (HB1.out.trans (hb.mono HB1.out.size)); clear hb)
        | (go_at_call 8; (with_reducible refine (HNW.out _).mono ?_); rintro e w3 ⟨rfl, hb⟩; have HB3 := Lib.hid (HB2.out.trans (hb.mono HB2.out.size)); clear hb)
        | (go_at_call 9; (with_reducible refine (HRN.out _).mono ?_); rintro e w4 ⟨rfl, rfl⟩))
      exact bodyPost_ret (v := .bool true) (by simp [results, Try.results3, go_sem]) rfl ⟨rfl, HB3.out⟩
    have HNW := Lib.hid (fun W => hC.newYes n1 W hn1)
    have HRN := Lib.hid (fun W => rnew19_yes n1 W hn1)
    clear hC hg hn hA hno hn1
    go_enter Try.func3, Try.ntmps3
    go_wp2_with (first
      | (go_at_call 6; (with_reducible refine (HAW.out _).mono ?_); rintro e w1 ⟨rfl, hb⟩; have HB1 := Lib.hid hb; clear hb)
      | (go_at_call 7; (with_reducible refine (HGR.out _ HB1.out).mono ?_); rintro e w2 ⟨rfl, hb⟩; have HB2 := Lib.hid (HB1.out.trans (hb.mono HB1.out.size)); clear hb)
      | (go_at_call 8; (with_reducible refine (HNW.out _).mono ?_); rintro e w3 ⟨q, rfl, F, h1, h2, h3⟩; have HQ3 := Lib.hid (And.intro h1 (And.intro h2 h3)); clear h1 h2 h3)
      | (go_at_call 9; (with_reducible refine (HRN.out _).mono ?_); rintro e w4 ⟨p, F2, rfl, h1, h2, h3⟩; have HQ4 := Lib.hid (And.intro h1 (And.intro h2 h3)); clear h1 h2 h3))
    have HP0 := Lib.hid (show BpAt B w q p n1 0 (fun _ => False) w4 from ⟨noB, noB_ok, by decide, by decide, by
      obtain ⟨h1, h2, h3⟩ := HQ3.out
      obtain ⟨k1, k2, k3⟩ := HQ4.out
      have hs := HB2.out.size
      have hs3 := h3.size
      have hm := HC.out.mem h1
      exact ⟨F, F2, HC.out.stay h1 (SameOn.of_below k3 hm), k1, fun k hf => Nat.le_trans hs (h2 k hf), fun k hf => Nat.le_trans (Nat.le_trans hs hs3) (k2 k hf), fun k hf hf2 => by have := hm k hf; have := k2 k hf2; omega, (HB2.out.trans (h3.mono hs)).trans (k3.mono (Nat.le_trans hs hs3)), fun k hk => hk.elim⟩⟩)
    clear HAW HGR HNW HRN HB1 HB2 HQ3 HQ4
    go_loopw [41] (fun v wx => ∃ i : Nat, i ≤ n ∧ v = .int .i64 i ∧ Hid (BpAt B w q p n1 i (fun _ => False) wx)) (fun v _ => n - (intOf v).toNat)
    case atStart => exact ⟨0, Nat.zero_le _, rfl, HP0⟩
    case round =>
      obtain ⟨i, hi, rfl, HK⟩ := hrel
      clear HP0
      by_cases hlt : i < n
      · have dk : decide (i < n) = true := decide_eq_true hlt
        have hL : i < Ops.length := by rw [HN.out]; exact hlt
        obtain ⟨b, hok, hc0, hci, hq⟩ := HK.out
        obtain ⟨g, o, rfl, -⟩ := HA.out.some_ (by omega)
        obtain ⟨e0, e1, e2⟩ := (HA.out.below hq.bel).op19 i hL
        have HFS := Lib.hid (HSZ.out Ops[i] (List.getElem_mem hL))
        generalize Ops[i] = x at *
        obtain ⟨x0, x1, x2⟩ := x
        simp only at e0 e1 e2 HFS
        have HQ := Lib.hid ((hq.grown HC.out ((Below.refl wr.heap.size wr).alloc (Nat.le_refl _) (.cells #[.int .i64 x0, .int .i64 x1, .string x2] 32))).less (K' := fun k => k = wr.heap.size) (fun k hk => Or.inr ⟨by rw [hk]; exact Nat.le_refl _, by rw [hk]; simp⟩))
        have HR := Lib.hid (RowAt.new wr wr.heap.size rfl [.int .i64 x0, .int .i64 x1, .string x2] 32)
        have HOK := Lib.hid hok
        have HCN := Lib.hid (And.intro hc0 hci)
        clear hq hok HK hc0 hci
        have r0 := HR.out.cell 0 rfl
        go_upto_region 15 with fail
        rename_i KT hKT K0 hK0
        have HTAIL : ∀ (uu : Nat → Value) (W : World), BfWy B w q p n1 i wr.heap.size [.int .i64 x0, .int .i64 x1, .string x2] W → KT (bfFr n1 g o n c q p i uu) W := by
          rintro uu W ⟨⟨b', hok', hc0', hci', hq'⟩, -⟩
          refine hKT _ _ ?_
          unfold bfFr
          obtain ⟨F2, hrq⟩ := hq'.ref
          have HRQ := Lib.hid hrq
          obtain ⟨v2, hrow, hown, -, -⟩ := hrq
          obtain ⟨ad2, c2, rfl, -⟩ := hown.see
          have hdl : (docB b').length = leftM b'.M := doc_left b'
          rw [hdl] at hrow
          have HROW := Lib.hid hrow
          have hm8 := hok'.many
          have dm8 : decide ((8 : Int) < (b'.M.length : Int)) = false := decide_eq_false (by omega)
          have HQ' := Lib.hid hq'
          have HL1 := Lib.hid (fun X (hb : Below W.heap.size W X) => (HQ'.out.below HC.out hb).len1 HC.out hok')
          have HL2 := Lib.hid (fun X (hb : Below W.heap.size W X) => (HQ'.out.below HC.out hb).len2 hok')
          have HF1 := Lib.hid (fun X (hb : Below W.heap.size W X) => (HQ'.out.below HC.out hb).left1 HC.out hok')
          have HT1 := Lib.hid (fun X (hb : Below W.heap.size W X) => (HQ'.out.below HC.out hb).total1 HC.out hok')
          have HFIN := Lib.hid (show ∀ X, Below W.heap.size W X → BpAt B w q p n1 (i + 1) (fun _ => False) X from fun X hb => ⟨b', hok', hc0', hci', (HQ'.out.below HC.out hb).less fun k hk => hk.elim⟩)
          clear hrow hown hq' hok' hdl hc0' hci' hKT
          generalize b'.M.length = m at *
          generalize leftM b'.M = l at *
          generalize b'.cnt = ct at *
          have HX1 := Lib.hid (fun d os => HL1.out (grow (redrawn W d) os) (below_regrown W d os))
          have HX2 := Lib.hid (fun d os => HL2.out (grow (redrawn W d) os) (below_regrown W d os))
          have HX3 := Lib.hid (fun d os => HF1.out (grow (redrawn W d) os) (below_regrown W d os))
          have HX4 := Lib.hid (fun d os => HT1.out (grow (redrawn W d) os) (below_regrown W d os))
          have z1 := fun d os => cell_regrown (HROW.out.cell 1 rfl) d os
          have z2 := fun d os => cell_regrown (HROW.out.cell 2 rfl) d os
          go_upto_region 27 with fail
          refine wp_region_quiet_below (by kernel_rfl) (by kernel_rfl) ?_
          repeat (quiet_step (first
            | (go_at_call 16; with_reducible exact Calls.regrown_of (HX1.out _ _))
            | (go_at_call 15; with_reducible exact Calls.regrown_of (HX2.out _ _))
            | (go_at_call 17; with_reducible exact Calls.regrown_of (HX3.out _ _))
            | (go_at_call 18; with_reducible exact Calls.regrown_of (HX4.out _ _))))
          refine wpQuiet_nil ?_
          intro _ hw'
          obtain ⟨pg, hw''⟩ := hw'
          subst hw''
          have HE := Lib.hid (HFIN.out _ (below_regrown W pg.d pg.os))
          have HZI := Lib.hid (show wrap64 ((i : Int) + 1) = (i : Int) + 1 from IntWalk.wrap64_in _ (by omega))
          clear z1 z2
          generalize grow (redrawn W pg.d) pg.os = W9 at *
          go_wp2_with fail
          go_roundw
          case rel =>
            (repeat apply Exists.intro)
            exact ⟨⟨i + 1, by omega, (by (try rw [HZI.out]); rfl), HE⟩, rfl⟩
          case measure =>
            try rw [HZI.out]
            simp [intOf]
            omega
        clear hKT
        have HWAY := Lib.hid HTAIL
        clear HTAIL
        obtain ⟨ob, hob⟩ : ∃ ob, ob = wr.heap.size := ⟨_, rfl⟩
        generalize wr.alloc (.cells #[.int .i64 x0, .int .i64 x1, .string x2] 32) = wA at *
        rw [← hob] at HQ HR HWAY r0 ⊢
        clear hob
        by_cases h0 : x0 = 0
        · have d0 : (x0 == 0) = true := by simpa using h0
          clear h0
          have HP1 := Lib.hid (show ∀ X, Below wA.heap.size wA X → _ from fun X hb => (HQ.out.below HC.out hb).put1 HC.out HOK.out (by have := HCN.out; omega) x1 x2 HFS.out)
          have HPC := Lib.hid (put_cnt n1 x1 x2 b i HCN.out)
          have HPO := Lib.hid (putB_ok (n1 := n1) (pid := x1) (text := x2) HOK.out)
          have HB := Lib.hid HR.out.drew
          go_upto_region 16 with fail
          refine wp_region_held (S := fun W' => RowAt W' ob [.int .i64 x0, .int .i64 x1, .string x2]) (by kernel_rfl) ?_
          change wpAnyH _ _ _ _ _ _ _ _ wA.drew
          refine wpAnyH_take (i := 0) (v := ?_) rfl (by kernel_rfl) (by kernel_rfl) (by kernel_rfl) (fun _ _ _ h => h) (Or.inl ⟨by rfl, ?_⟩) HB.out ?_
          rotate_left
          · intro w' hw'
            go_simp
            with_reducible rfl
          go_simp
          refine wpAnyH_take (i := 1) (v := ?_) rfl (by kernel_rfl) (by kernel_rfl) (by kernel_rfl) (fun _ _ _ h => h) (Or.inl ⟨by rfl, ?_⟩) HB.out ?_
          rotate_left
          · intro w' hw'
            go_simp
            with_reducible rfl
          go_simp
          refine wpAnyH_take (i := 3) (v := ?_) rfl (by kernel_rfl) (by kernel_rfl) (by kernel_rfl) (fun _ _ _ h => h) (Or.inl ⟨by rfl, ?_⟩) HB.out ?_
          rotate_left
          · intro w' hw'
            go_simp
            with_reducible rfl
          go_simp
          refine wpAnyH_take (i := 6) (v := ?_) rfl (by kernel_rfl) (by kernel_rfl) (by kernel_rfl) (fun _ _ _ h => h) (Or.inl ⟨by rfl, ?_⟩) HB.out ?_
          rotate_left
          · intro w' hw'
            go_simp
            with_reducible rfl
          go_simp
          refine wpAnyH_take (i := 7) (v := ?_) rfl (by kernel_rfl) (by kernel_rfl) (by kernel_rfl) (fun _ _ _ h => h) (Or.inl ⟨by rfl, ?_⟩) HB.out ?_
          rotate_left
          · intro w' hw'
            go_simp
            with_reducible rfl
          go_simp
          refine wpAnyH_take (i := 9) (v := ?_) rfl (by kernel_rfl) (by kernel_rfl) (by kernel_rfl) (fun _ _ _ h => h) (Or.inl ⟨by rfl, ?_⟩) HB.out ?_
          rotate_left
          · intro w' hw'
            go_simp
            with_reducible rfl
          go_simp
          refine wpAnyH_take (i := 2) (v := ?_) rfl (by kernel_rfl) (by kernel_rfl) (by kernel_rfl) (fun _ _ _ h => h) (Or.inl ⟨by rfl, ?_⟩) HB.out ?_
          rotate_left
          · intro w' hw'
            have xx := hw'.cell 1 rfl
            go_simp
            with_reducible rfl
          go_simp
          refine wpAnyH_take (i := 8) (v := ?_) rfl (by kernel_rfl) (by kernel_rfl) (by kernel_rfl) (fun _ _ _ h => h) (Or.inl ⟨by rfl, ?_⟩) HB.out ?_
          rotate_left
          · intro w' hw'
            have xx := hw'.cell 1 rfl
            go_simp
            with_reducible rfl
          go_simp
          refine wpAnyH_take (i := 4) (v := ?_) rfl (by kernel_rfl) (by kernel_rfl) (by kernel_rfl) (fun _ _ _ h => h) (Or.inl ⟨by rfl, ?_⟩) HB.out ?_
          rotate_left
          · intro w' hw'
            have xx := hw'.cell 2 rfl
            go_simp
            with_reducible rfl
          go_simp
          refine wpAnyH_take (i := 10) (v := ?_) rfl (by kernel_rfl) (by kernel_rfl) (by kernel_rfl) (fun _ _ _ h => h) (Or.inl ⟨by rfl, ?_⟩) HB.out ?_
          rotate_left
          · intro w' hw'
            have xx := hw'.cell 2 rfl
            go_simp
            with_reducible rfl
          go_simp
          refine wpAnyH_ready (rs := [5]) (by kernel_rfl) (by simp) ?_
          refine AllReadyH.cons rfl (fun K hK => ?_) AllReadyH.nil
          go_simp
          go_at_call 10
          refine (HP1.out _ (Below.refl _ _).drew).mono ?_
          rintro e wc ⟨rfl, hq1, hs1⟩
          replace HB := Lib.hid (HB.out.block (hs1.2 ob rfl) hs1.1)
          have HQ1 := Lib.hid hq1
          clear hq1 hs1
          change K _ _
          refine hK.out _ _ HB.out (fun _ => ?_)
          clear hK K
          refine wpAnyH_ready (rs := [11]) (by kernel_rfl) (by simp) ?_
          refine AllReadyH.cons rfl (fun K hK => ?_) AllReadyH.nil
          go_simp
          go_at_call 11
          refine (HQ1.out.put2 HC.out HOK.out (by have := HCN.out; omega) x1 x2).mono ?_
          rintro e wc2 ⟨rfl, hq2, hs2⟩
          replace HB := Lib.hid (HB.out.block (hs2.2 ob rfl) hs2.1)
          have HQ2 := Lib.hid hq2
          clear hq2 hs2
          change K _ _
          refine hK.out _ _ HB.out (fun _ => ?_)
          clear hK K
          refine wpAnyH_take (i := 12) (v := ?_) rfl (by kernel_rfl) (by kernel_rfl) (by kernel_rfl) (fun _ _ _ h => h) (Or.inl ⟨by rfl, ?_⟩) HB.out ?_
          rotate_left
          · intro w' hw'
            go_simp
            with_reducible rfl
          go_simp
          refine wpAnyH_done (by kernel_rfl) ?_ _
          go_wp2_with fail
          exact bf_way HWAY.out _ _ ⟨⟨_, HPO.out, HPC.out.1, HPC.out.2, HQ2.out⟩, HB.out⟩ (by kernel_rfl)
        · have d0 : (x0 == 0) = false := by simpa using h0
          clear h0
          by_cases h1 : x0 = 1
          · have d1 : (x0 == 1) = true := by simpa using h1
            clear h1
            have HNC := Lib.hid (show (nextB b).1.cnt = b.cnt from rfl)
            have HNO := Lib.hid (nextB_ok HOK.out)
            have HP1 := Lib.hid (HQ.out.next1 HC.out HOK.out)
            have HP2 := Lib.hid (fun K W (h : BoB B w q p n1 (nextB b).1 b.cnt (docB b) K W) => h.next2 HC.out HOK.out)
            generalize (nextB b).2 = nb at *
            obtain ⟨⟨y0, y1⟩, y2⟩ := nb
            simp only [pcV] at HP1 HP2
            have dy : (y2 != y2) = false := by cases y2 <;> rfl
            go_upto_region 20 with (first
              | (go_at_call 12; (with_reducible refine HP1.out.mono ?_); rintro e w5 ⟨rfl, hq1, hs1⟩; have HQ5 := Lib.hid hq1; have HR5 := Lib.hid (HR.out.block (hs1.2 ob rfl) hs1.1); clear hq1 hs1))
            have hb6 := (Below.refl w5.heap.size w5).alloc (Nat.le_refl _) (.cells #[.int .i64 y0, .string y1] 36)
            have HQ6 := Lib.hid ((HQ5.out.grown HC.out hb6).less (K' := fun k => k = ob ∨ k = w5.heap.size) (fun k hk => by
              rcases hk with rfl | rfl
              · exact Or.inl rfl
              · exact Or.inr ⟨Nat.le_refl _, by simp⟩))
            have HR6 := Lib.hid (HR5.out.below hb6)
            have HM6 := Lib.hid (RowAt.new w5 w5.heap.size rfl [.int .i64 y0, .string y1] 36)
            have HP7 := Lib.hid (HP2.out _ _ HQ6.out)
            clear hb6
            generalize w5.alloc (.cells #[.int .i64 y0, .string y1] 36) = w6 at *
            generalize w5.heap.size = m5 at *
            go_upto_region 21 with (first
              | (go_at_call 13; (with_reducible refine HP7.out.mono ?_); rintro e w7 ⟨rfl, hq2, hs2⟩; have HQ7 := Lib.hid hq2; have HR7 := Lib.hid (HR6.out.block (hs2.2 ob (Or.inl rfl)) hs2.1); have HM7 := Lib.hid (HM6.out.block (hs2.2 m5 (Or.inr rfl)) hs2.1); clear hq2 hs2))
            have hb8 := (Below.refl w7.heap.size w7).alloc (Nat.le_refl _) (.cells #[.int .i64 y0, .string y1] 39)
            have HQ8 := Lib.hid ((HQ7.out.below HC.out hb8).less (K' := fun k => k = ob) (fun k hk => Or.inl hk))
            have HR8 := Lib.hid (HR7.out.below hb8)
            have HM8 := Lib.hid (HM7.out.below hb8)
            have HN8 := Lib.hid (RowAt.new w7 w7.heap.size rfl [.int .i64 y0, .string y1] 39)
            clear hb8
            have u0 := HM8.out.cell 0 rfl
            have u1 := HM8.out.cell 1 rfl
            have s0 := HN8.out.cell 0 rfl
            have s1 := HN8.out.cell 1 rfl
            generalize w7.alloc (.cells #[.int .i64 y0, .string y1] 39) = w8 at *
            go_wp2_with fail
            exact bf_way HWAY.out _ _ ⟨⟨_, HNO.out, by rw [HNC.out]; exact HCN.out.1, by rw [HNC.out]; have := HCN.out.2; omega, by rw [HNC.out]; exact HQ8.out⟩, HR8.out⟩ (by kernel_rfl)
          · have d1 : (x0 == 1) = false := by simpa using h1
            clear h1
            by_cases h2 : x0 = 2
            · have d2 : (x0 == 2) = true := by simpa using h2
              clear h2
              have HP1 := Lib.hid (HQ.out.reset1 HC.out HOK.out)
              go_upto_region 26 with (first
                | (go_at_call 14; (with_reducible refine HP1.out.mono ?_); rintro e w5 ⟨rfl, hq1, hs1⟩; have HQ5 := Lib.hid hq1; have HR5 := Lib.hid (HR.out.block (hs1.2 ob rfl) hs1.1); have HP2 := Lib.hid (hq1.len2 HOK.out); clear hq1 hs1)
                | (go_at_call 15; (with_reducible refine HP2.out.mono ?_); rintro e w6 ⟨rfl, hb⟩; have HQ6 := Lib.hid (HQ5.out.below HC.out hb); have HR6 := Lib.hid (HR5.out.below hb); clear hb))
              obtain ⟨⟨v6, hr6⟩, hq7, hs7⟩ := HQ6.out.wipe HC.out
              have HQ7 := Lib.hid hq7
              have HR7 := Lib.hid (HR6.out.block (hs7.2 ob rfl) hs7.1)
              have y1 := hr6.cell 1 rfl
              have y2 := hr6.cell 2 rfl
              have f1 := (hr6.get 1 rfl).free
              have f2 := (hr6.get 2 rfl).free
              clear hq7 hs7 hr6
              go_wp2_with fail
              exact bf_way HWAY.out _ _ ⟨⟨noB, noB_ok, (by decide), (by show (0 : Int) ≤ _; omega), HQ7.out⟩, HR7.out⟩ (by kernel_rfl)
            · have d2 : (x0 == 2) = false := by simpa using h2
              clear h2
              go_wp2_with fail
              exact bf_way HWAY.out _ _ ⟨⟨b, HOK.out, HCN.out.1, by have := HCN.out.2; omega, HQ.out⟩, HR.out⟩ (by kernel_rfl)
      · have dk : decide (i < n) = false := decide_eq_false hlt
        obtain ⟨b, -, -, -, hq⟩ := HK.out
        have HBEL := Lib.hid hq.bel
        clear hq
        go_wp2_with fail
        exact bodyPost_ret (v := .bool true) (by simp [results, Try.results3, go_sem]) rfl ⟨rfl, HBEL.out⟩
end Go.Proofs.Ytchjljmcgjlkiaa
