/-
The walk of TxqPlays (written by tools/gen16/gen_plays.py).
-/
import Derived.Test.YtliamhphpnifaaaTxqNoneW
namespace Go.Proofs.Ytliamhphpnifaaa
open Go.RowKit
set_option maxRecDepth 20000
/-- the frame behind what an op does -/
def txFr (g o n c q p ob i : Nat) (uu : Nat → Value) : Act := { tmps := #[.slice (some ⟨g, o, none⟩) n c, undef, uu 2, ptrQ q, .pointer (some ⟨p, 0, none⟩), undef, .pointer (some ⟨ob, 0, none⟩), uu 7, uu 8, undef, uu 10, uu 11, uu 12, .bool true, .bool false, .slice (some ⟨g, o, none⟩) n c, .bool false, ptrQ q, .agg #[.slice none 0 0], .pointer (some ⟨p, 0, none⟩), .slice (some ⟨g, o, none⟩) n c, .int .i64 (n : Int), .int .i64 (i : Int), uu 23, uu 24, uu 25, uu 26, uu 27, uu 28, uu 29, uu 30, uu 31, uu 32, uu 33, uu 34, uu 35, uu 36, uu 37, uu 38, uu 39, uu 40, uu 41, uu 42, uu 43, uu 44, uu 45, uu 46, uu 47, uu 48, uu 49, uu 50, uu 51, uu 52, uu 53, uu 54, uu 55, uu 56, uu 57, uu 58, uu 59, uu 60, uu 61, uu 62, uu 63, uu 64, uu 65, uu 66, uu 67, uu 68, uu 69, uu 70, uu 71, uu 72, uu 73, uu 74, uu 75, uu 76, uu 77, uu 78, uu 79, uu 80, uu 81, uu 82, uu 83, uu 84, uu 85, uu 86, uu 87, uu 88, uu 89, uu 90, uu 91, uu 92, uu 93, uu 94, uu 95, uu 96, uu 97, uu 98, uu 99, uu 100, uu 101, uu 102, uu 103, uu 104, uu 105, uu 106, uu 107, uu 108, uu 109, uu 110, uu 111, uu 112, uu 113, uu 114, uu 115, uu 116, uu 117, uu 118, uu 119, uu 120, uu 121, uu 122, uu 123, uu 124, uu 125, uu 126, uu 127, uu 128, uu 129, uu 130, uu 131, uu 132, uu 133, uu 134, uu 135, uu 136, uu 137, uu 138, uu 139, uu 140, uu 141, uu 142, uu 143, uu 144, uu 145, uu 146, uu 147, uu 148], defers := [] }
/-- in the loop over the ops -/
def PlAt (Q : QuP) (w : World) (q p : Nat) (W : World) : Prop := ∃ L, okE L ∧ QuB Q w q p (sortE L) L (fun _ => False) W
theorem cnt_one (k : Int) (L : List Ent) : (L.filter fun e => decide (e.key = k)).length = cntK [k] L := by
  unfold cntK
  rw [List.countP_eq_length_filter]
  congr 2
  funext e
  simp
theorem two_made16 (w : World) (a b : Int) : AtL encI (w.alloc (.cells #[.int .i64 a, .int .i64 b] 3)) (some ⟨w.heap.size, 0, none⟩) [a, b] := by
  obtain ⟨g, c, hv, -, -, hA⟩ := (OwnL.lit encI 3 w w.heap.size [a, b] [.int .i64 a, .int .i64 b] rfl (Nat.le_refl _) (by simp) 2 rfl).some_ (by simp)
  simp only [Value.slice.injEq, Option.some.injEq, Addr.mk.injEq, and_true] at hv
  obtain ⟨rfl, -⟩ := hv
  exact hA
/-- what each op leaves behind -/
def Wy (Q : QuP) (w : World) (q p ob : Nat) (R : List Value) (W : World) : Prop := ∃ L', okE L' ∧ QuB Q w q p (sortE L') L' (fun b => False ∨ b = ob) W ∧ RowAt W ob R
theorem tx_way {KT : Act → World → Prop} {P : World → Prop} {g o n c q p ob i : Nat} (H : ∀ (uu : Nat → Value) (W : World), P W → KT (txFr g o n c q p ob i uu) W) (a : Act) (W : World) (hP : P W) (ha : a = txFr g o n c q p ob i (fun k => a.tmps.getD k undef)) : KT a W := by
  rw [ha]
  exact H _ _ hP
set_option maxHeartbeats 4000000 in
theorem txqplays_any {Q : QuP} (hC : QuC Q) (a : Option Addr) (n c : Nat) (Ops : List Op16) (w : World) (hn : Ops.length = n) (hA : AtL encO w a Ops) : Calls Try.prog 3 #[.slice a n c] w fun e w' => e = .returned (.bool true) ∧ Below w.heap.size w w' := by
  have HC := Lib.hid hC
  have HAW := Lib.hid (fun W => cawake16 hC W)
  have HGR := Lib.hid (fun (W : World) (hb : Below w.heap.size w W) => great_any a n c Ops W hn (hA.below hb))
  have HNW := Lib.hid (fun W => hC.new W)
  cases hg : greatB Ops with
  | true =>
    rw [hg] at HGR
    clear hC hg hn hA
    go_enter Try.func3, Try.ntmps3
    go_wp2_with (first
      | (go_at_call 6; (with_reducible refine (HAW.out _).mono ?_); rintro e w1 ⟨rfl, hb⟩; have HB1 := Lib.hid hb; clear hb)
      | (go_at_call 7; (with_reducible refine (HGR.out _ HB1.out).mono ?_); rintro e w2 ⟨rfl, hb⟩; have HB2 := Lib.hid (HB1.out.trans (hb.mono HB1.out.size)); clear hb))
    exact bodyPost_ret (v := .bool true) (by simp [results, Try.results3, go_sem]) rfl ⟨rfl, HB2.out⟩
  | false =>
    rw [hg] at HGR
    have hno := great_no hg
    have hl : n ≤ 150 := by rw [← hn]; exact hno.1
    have HSZ := Lib.hid hno.2
    have HN := Lib.hid hn
    have HA := Lib.hid hA
    clear hC hg hn hA hno
    go_enter Try.func3, Try.ntmps3
    go_wp2_with (first
      | (go_at_call 6; (with_reducible refine (HAW.out _).mono ?_); rintro e w1 ⟨rfl, hb⟩; have HB1 := Lib.hid hb; clear hb)
      | (go_at_call 7; (with_reducible refine (HGR.out _ HB1.out).mono ?_); rintro e w2 ⟨rfl, hb⟩; have HB2 := Lib.hid (HB1.out.trans (hb.mono HB1.out.size)); clear hb)
      | (go_at_call 8; (with_reducible refine (HNW.out _).mono ?_); rintro e w3 ⟨q, F, rfl, h1, h2, h3⟩; have HQ3 := Lib.hid (And.intro h1 (And.intro h2 h3)); clear h1 h2 h3))
    have HP0 := Lib.hid (show PlAt Q w q w3.heap.size (w3.alloc (.cells #[.slice none 0 0] 30)) from ⟨[], (fun e he => absurd he List.not_mem_nil), by
      have hb := (Below.refl w3.heap.size w3).alloc (Nat.le_refl _) (.cells #[.slice none 0 0] 30)
      have hm := HC.out.mem HQ3.out.1
      have hs := HB2.out.size
      have hs3 := HQ3.out.2.2.size
      refine ⟨F, fun k => k = w3.heap.size ∨ ∃ x, (none : Option Addr) = some x ∧ x.block = k, HC.out.stay HQ3.out.1 (SameOn.of_below hb hm), ⟨none, 0, RowAt.new w3 w3.heap.size rfl [.slice none 0 0] _, Nat.le_refl _, AtL.nil _ _ _, (fun x e => by cases e), rfl⟩, fun b hf => Nat.le_trans hs (HQ3.out.2.1 b hf), fun b hf => ?_, fun b hf hf2 => ?_, (HB2.out.trans (HQ3.out.2.2.mono hs)).trans (hb.mono (Nat.le_trans hs hs3)), fun b hk => hk.elim⟩
      · rcases hf with rfl | ⟨x, e, -⟩
        · omega
        · cases e
      · have := hm b hf
        rcases hf2 with rfl | ⟨x, e, -⟩
        · omega
        · cases e⟩)
    generalize w3.heap.size = p at *
    generalize w3.alloc (.cells #[.slice none 0 0] 30) = w4 at *
    clear HAW HGR HNW HB1 HQ3
    go_loopw [22] (fun v wx => ∃ i : Nat, i ≤ n ∧ v = .int .i64 i ∧ Hid (PlAt Q w q p wx)) (fun v _ => n - (intOf v).toNat)
    case atStart => exact ⟨0, Nat.zero_le _, rfl, HP0⟩
    case round =>
      obtain ⟨i, hi, rfl, HK⟩ := hrel
      clear HP0
      by_cases hlt : i < n
      · have dk : decide (i < n) = true := decide_eq_true hlt
        have hL : i < Ops.length := by rw [HN.out]; exact hlt
        obtain ⟨L, hok, hq⟩ := HK.out
        obtain ⟨g, o, rfl, -⟩ := HA.out.some_ (by omega)
        obtain ⟨e0, e1, e2, e3, e4⟩ := (HA.out.below hq.bel).op i hL
        have HFS := Lib.hid (HSZ.out Ops[i] (List.getElem_mem hL))
        generalize Ops[i] = x at *
        obtain ⟨x0, x1, x2, x3, x4⟩ := x
        simp only at e0 e1 e2 e3 e4
        have HQ := Lib.hid (hq.alloc HC.out (.cells #[.int .i64 x0, .int .i64 x1, .int .i64 x2, .int .i64 x3, .string x4] 32))
        have HR := Lib.hid (RowAt.new wr wr.heap.size rfl [.int .i64 x0, .int .i64 x1, .int .i64 x2, .int .i64 x3, .string x4] 32)
        have HOK := Lib.hid hok
        clear hq hok HK
        have r0 := HR.out.cell 0 rfl
        go_upto_region 10 with fail
        rename_i KT hKT K0 hK0
        have HTAIL : ∀ (uu : Nat → Value) (W : World) (L' : List Ent), okE L' → QuB Q w q p (sortE L') L' (fun b => False ∨ b = wr.heap.size) W → RowAt W wr.heap.size [.int .i64 x0, .int .i64 x1, .int .i64 x2, .int .i64 x3, .string x4] → KT (txFr g o n c q p wr.heap.size i uu) W := by
          intro uu W L' hok' hq' hrow'
          refine hKT _ _ ?_
          unfold txFr
          have HQ' := Lib.hid hq'
          have HR' := Lib.hid hrow'
          have HOK' := Lib.hid hok'
          have hinv := hq'.inv HC.out
          have hperm := sort_perm L' hok'
          have hlen := hperm.length_eq
          have HLL := Lib.hid (show L'.length ≤ 16 from by have := hinv.many; omega)
          obtain ⟨F2, hrq⟩ := hq'.ref
          have HSO := Lib.hid (rsorted_any p L' F2 W hrq (by have := HLL.out; omega))
          obtain ⟨S, hS⟩ : ∃ S, S = sortE L' := ⟨_, rfl⟩
          rw [← hS] at HSO HQ' hinv hlen
          have HS := Lib.hid hS
          have HIN := Lib.hid hinv
          have HLEN := Lib.hid hlen
          clear hq' hrow' hok' hperm hrq hS hinv hlen hKT
          obtain ⟨ob, hob⟩ : ∃ ob, ob = wr.heap.size := ⟨_, rfl⟩
          rw [← hob] at HQ' HR' ⊢
          clear hob
          go_wp2_with (first
            | (go_at_call 16; (with_reducible refine HSO.out.mono ?_); rintro e w5 ⟨v5, rfl, hown5, hb5⟩; obtain ⟨ad5, c5, rfl, hA5⟩ := hown5.see; have HA5 := Lib.hid hA5; have HB5 := Lib.hid hb5; clear hown5 hb5 hA5))
          obtain ⟨N, hN⟩ : ∃ N, N = S.length := ⟨_, rfl⟩
          have HN5 := Lib.hid hN
          have hN16 : N ≤ 16 := by have := HIN.out.many; omega
          rw [← hN]
          clear hN HSO
          go_loopw [8, 86] (fun ov jv wx => ∃ (j : Nat) (tv : Value), j ≤ N ∧ jv = .int .i64 j ∧ tv = ov ∧ Hid (OwnL encS 9 wx w5.heap.size tv (frs (S.take j)) ∧ Below w5.heap.size w5 wx)) (fun _ jv _ => N - (intOf jv).toNat)
          case atStart => exact ⟨0, _, Nat.zero_le _, rfl, rfl, Lib.hid ⟨OwnL.nil _ _ _ _, Below.refl _ _⟩⟩
          case round =>
            obtain ⟨j, tv, hj, rfl, rfl, HJ⟩ := hrel
            have HZJ := Lib.hid (show wrap64 ((j : Int) + 1) = (j : Int) + 1 from IntWalk.wrap64_in _ (by omega))
            by_cases hlj : j < N
            · have dj : decide (j < N) = true := decide_eq_true hlj
              have hLj : j < S.length := by rw [← HN5.out]; exact hlj
              obtain ⟨g5, o5, rfl, -⟩ := HA5.out.some_ (by omega)
              obtain ⟨f0, f1, f2⟩ := (HA5.out.below HJ.out.2).ent j hLj
              have HX := Lib.hid (frs_next S j hLj)
              have HLE := Lib.hid (show (frs (S.take j)).length ≤ 1000 from by rw [List.length_map, List.length_take]; omega)
              generalize S[j] = y at *
              obtain ⟨y0, y1, y2⟩ := y
              simp only at f0 f1 f2 HX
              have HBA := Lib.hid (HJ.out.2.alloc HJ.out.2.size (.cells #[.int .i64 y0, .int .i64 y1, .string y2] 43))
              have HOA := Lib.hid (OwnL.alloc HJ.out.1 (.cells #[.int .i64 y0, .int .i64 y1, .string y2] 43))
              have q2 := (RowAt.new wr wr.heap.size rfl [.int .i64 y0, .int .i64 y1, .string y2] 43).cell 2 rfl
              have HSZ5 := Lib.hid (show (wr.alloc (.cells #[.int .i64 y0, .int .i64 y1, .string y2] 43)).heap.size = wr.heap.size + 1 from by simp)
              go_wp2_with (at_builtin; refine wpList_append_one encS 9 37 Try.underlying37 infoS16 rfl (by decide) _ rfl (.tmp 90) (.tmp 93) rfl w5.heap.size _ _ rfl (OwnL.alloc HOA.out _) (wr.heap.size + 1) 1 rfl y2 (AtL.made encS 9 _ (wr.heap.size + 1) y2 _ rfl HSZ5.out.symm) (by have := HLE.out; omega) (by have := HBA.out.size; simp at this ⊢; omega) ?_; intro v2 w7 hown hgr hwh)
              have HE := Lib.hid (And.intro hown (OwnL.appended (OwnL.alloc HOA.out (.cells #[.string y2] 9)) (HBA.out.alloc HBA.out.size _) (Nat.le_refl _) (by have := HBA.out.size; simp at this ⊢; omega) hgr))
              clear hown hgr hwh
              go_roundw
              case rel => exact ⟨j + 1, _, by omega, by (try rw [HZJ.out]); rfl, rfl, Lib.hid ⟨by rw [HX.out]; exact HE.out.1, HE.out.2⟩⟩
              case measure =>
                try rw [HZJ.out]
                simp [intOf]
                omega
            · have dj : decide (j < N) = false := decide_eq_false hlj
              have e : S.take j = S := List.take_of_length_le (by have := HN5.out; omega)
              have hj2 := HJ.out
              rw [e] at hj2
              have HJ2 := Lib.hid hj2
              clear e hj2 HJ
              have HBW := Lib.hid (show Below W.heap.size W wr from HB5.out.trans (HJ2.out.2.mono HB5.out.size))
              obtain ⟨F2, hrq2⟩ := HQ'.out.ref
              have HRQ := Lib.hid hrq2
              obtain ⟨adq, cq, hrowq, -⟩ := hrq2
              have hLN : L'.length = N := by rw [HN5.out]; exact HLEN.out.symm
              rw [hLN] at hrowq
              have HCE := Lib.hid (fun X (hb : Below W.heap.size W X) => And.intro ((hrowq.below hb).cell 0 rfl) ((HR'.out.below hb).cell 3 rfl))
              have hl16 := HLL.out
              have HQX := Lib.hid (fun X (hb : Below W.heap.size W X) => HQ'.out.below HC.out hb)
              have HC1 := Lib.hid (fun X (hb : Below W.heap.size W X) => (HQX.out X hb).len1 HC.out)
              have HC2 := Lib.hid (fun X (hb : Below W.heap.size W X) => (HQX.out X hb).count1 HC.out x3)
              have HC3 := Lib.hid (fun X (hb : Below W.heap.size W X) => rcount_any x3 p L' F2 X (HRQ.out.below hb) (by omega))
              have HC4 := Lib.hid (fun X (hb : Below W.heap.size W X) => (HQX.out X hb).all1 HC.out)
              have hcn : cntK [x3] S = cntK [x3] L' := by rw [HS.out]; exact cnt_sort _ _ HOK'.out
              rw [← HN5.out] at HC1 HC4
              rw [hcn] at HC2
              rw [cnt_one] at HC3
              generalize cntK [x3] L' = M at *
              obtain ⟨at_, ct, htv, hAt⟩ := HJ2.out.1.see
              have hfl : (frs S).length = N := by rw [List.length_map]; exact HN5.out.symm
              rw [hfl] at htv
              subst htv
              have HAT := Lib.hid (fun X (hb : Below wr.heap.size wr X) => hAt.below hb)
              have HFL := Lib.hid hfl
              clear hrowq hcn hAt hfl hl16 hLN HJ2
              go_upto_region 26 with fail
              refine wp_region_held (S := fun W' => Below wr.heap.size wr W') (by kernel_rfl) ?_
              change wpAnyH _ _ _ _ _ _ _ _ wr.drew
              have HB := Lib.hid ((Below.refl wr.heap.size wr).drew)
              have HWX := Lib.hid (fun X (hb : Below wr.heap.size wr X) => HBW.out.trans (hb.mono HBW.out.size))
              refine wpAnyH_take (i := 0) (v := ?_) rfl (by kernel_rfl) (by kernel_rfl) (by kernel_rfl) (fun _ _ _ h => h) (Or.inl ⟨by rfl, ?_⟩) HB.out ?_
              rotate_left
              · intro w' hw'
                go_simp
                with_reducible rfl
              go_simp
              refine wpAnyH_take (i := 2) (v := ?_) rfl (by kernel_rfl) (by kernel_rfl) (by kernel_rfl) (fun _ _ _ h => h) (Or.inl ⟨by rfl, ?_⟩) HB.out ?_
              rotate_left
              · intro w' hw'
                go_simp
                with_reducible rfl
              go_simp
              refine wpAnyH_take (i := 3) (v := ?_) rfl (by kernel_rfl) (by kernel_rfl) (by kernel_rfl) (fun _ _ _ h => h) (Or.inl ⟨by rfl, ?_⟩) HB.out ?_
              rotate_left
              · intro w' hw'
                go_simp
                with_reducible rfl
              go_simp
              refine wpAnyH_take (i := 4) (v := ?_) rfl (by kernel_rfl) (by kernel_rfl) (by kernel_rfl) (fun _ _ _ h => h) (Or.inl ⟨by rfl, ?_⟩) HB.out ?_
              rotate_left
              · intro w' hw'
                go_simp
                with_reducible rfl
              go_simp
              refine wpAnyH_take (i := 5) (v := ?_) rfl (by kernel_rfl) (by kernel_rfl) (by kernel_rfl) (fun _ _ _ h => h) (Or.inl ⟨by rfl, ?_⟩) HB.out ?_
              rotate_left
              · intro w' hw'
                have xx := (HCE.out _ (HWX.out _ hw')).1
                go_simp
                with_reducible rfl
              go_simp
              refine wpAnyH_take (i := 6) (v := ?_) rfl (by kernel_rfl) (by kernel_rfl) (by kernel_rfl) (fun _ _ _ h => h) (Or.inl ⟨by rfl, ?_⟩) HB.out ?_
              rotate_left
              · intro w' hw'
                go_simp
                with_reducible rfl
              go_simp
              refine wpAnyH_ready (rs := [1]) (by kernel_rfl) (by simp) ?_
              refine AllReadyH.cons rfl (fun K hK => ?_) AllReadyH.nil
              go_simp
              go_at_call 17
              refine (HC1.out _ (HWX.out _ HB.out)).mono ?_
              rintro e wc ⟨rfl, -, hb⟩
              replace HB := Lib.hid (show Below wr.heap.size wr wc from HB.out.trans (hb.mono HB.out.size))
              clear hb
              change K _ _
              refine hK.out _ _ HB.out (fun _ => ?_)
              clear hK K
              refine wpAnyH_take (i := 7) (v := ?_) rfl (by kernel_rfl) (by kernel_rfl) (by kernel_rfl) (fun _ _ _ h => h) (Or.inl ⟨by rfl, ?_⟩) HB.out ?_
              rotate_left
              · intro w' hw'
                go_simp
                with_reducible rfl
              go_simp
              refine wpAnyH_take (i := 8) (v := ?_) rfl (by kernel_rfl) (by kernel_rfl) (by kernel_rfl) (fun _ _ _ h => h) (Or.inl ⟨by rfl, ?_⟩) HB.out ?_
              rotate_left
              · intro w' hw'
                go_simp
                with_reducible rfl
              go_simp
              refine wpAnyH_take (i := 9) (v := ?_) rfl (by kernel_rfl) (by kernel_rfl) (by kernel_rfl) (fun _ _ _ h => h) (Or.inl ⟨by rfl, ?_⟩) HB.out ?_
              rotate_left
              · intro w' hw'
                go_simp
                with_reducible rfl
              go_simp
              refine wpAnyH_take (i := 10) (v := ?_) rfl (by kernel_rfl) (by kernel_rfl) (by kernel_rfl) (fun _ _ _ h => h) (Or.inl ⟨by rfl, ?_⟩) HB.out ?_
              rotate_left
              · intro w' hw'
                go_simp
                with_reducible rfl
              go_simp
              refine wpAnyH_take (i := 13) (v := ?_) rfl (by kernel_rfl) (by kernel_rfl) (by kernel_rfl) (fun _ _ _ h => h) (Or.inl ⟨by rfl, ?_⟩) HB.out ?_
              rotate_left
              · intro w' hw'
                go_simp
                with_reducible rfl
              go_simp
              refine wpAnyH_take (i := 14) (v := ?_) rfl (by kernel_rfl) (by kernel_rfl) (by kernel_rfl) (fun _ _ _ h => h) (Or.inl ⟨by rfl, ?_⟩) HB.out ?_
              rotate_left
              · intro w' hw'
                go_simp
                with_reducible rfl
              go_simp
              refine wpAnyH_take (i := 11) (v := ?_) rfl (by kernel_rfl) (by kernel_rfl) (by kernel_rfl) (fun _ _ _ h => h) (Or.inl ⟨by rfl, ?_⟩) HB.out ?_
              rotate_left
              · intro w' hw'
                have xx := (HCE.out _ (HWX.out _ hw')).2
                go_simp
                with_reducible rfl
              go_simp
              refine wpAnyH_take (i := 15) (v := ?_) rfl (by kernel_rfl) (by kernel_rfl) (by kernel_rfl) (fun _ _ _ h => h) (Or.inl ⟨by rfl, ?_⟩) HB.out ?_
              rotate_left
              · intro w' hw'
                have xx := (HCE.out _ (HWX.out _ hw')).2
                go_simp
                with_reducible rfl
              go_simp
              refine wpAnyH_ready (rs := [12]) (by kernel_rfl) (by simp) ?_
              refine AllReadyH.cons rfl (fun K hK => ?_) AllReadyH.nil
              go_simp
              go_at_call 18
              refine (HC2.out _ (HWX.out _ HB.out)).mono ?_
              rintro e wc2 ⟨rfl, -, hb⟩
              replace HB := Lib.hid (show Below wr.heap.size wr wc2 from HB.out.trans (hb.mono HB.out.size))
              clear hb
              change K _ _
              refine hK.out _ _ HB.out (fun _ => ?_)
              clear hK K
              refine wpAnyH_ready (rs := [16]) (by kernel_rfl) (by simp) ?_
              refine AllReadyH.cons rfl (fun K hK => ?_) AllReadyH.nil
              go_simp
              go_at_call 19
              refine (HC3.out _ (HWX.out _ HB.out)).mono ?_
              rintro e wc3 ⟨rfl, rfl⟩
              change K _ _
              refine hK.out _ _ HB.out (fun _ => ?_)
              clear hK K
              refine wpAnyH_take (i := 17) (v := ?_) rfl (by kernel_rfl) (by kernel_rfl) (by kernel_rfl) (fun _ _ _ h => h) (Or.inl ⟨by rfl, ?_⟩) HB.out ?_
              rotate_left
              · intro w' hw'
                go_simp
                with_reducible rfl
              go_simp
              refine wpAnyH_take (i := 18) (v := ?_) rfl (by kernel_rfl) (by kernel_rfl) (by kernel_rfl) (fun _ _ _ h => h) (Or.inl ⟨by rfl, ?_⟩) HB.out ?_
              rotate_left
              · intro w' hw'
                go_simp
                with_reducible rfl
              go_simp
              refine wpAnyH_take (i := 19) (v := ?_) rfl (by kernel_rfl) (by kernel_rfl) (by kernel_rfl) (fun _ _ _ h => h) (Or.inl ⟨by rfl, ?_⟩) HB.out ?_
              rotate_left
              · intro w' hw'
                go_simp
                with_reducible rfl
              go_simp
              refine wpAnyH_take (i := 20) (v := ?_) rfl (by kernel_rfl) (by kernel_rfl) (by kernel_rfl) (fun _ _ _ h => h) (Or.inl ⟨by rfl, ?_⟩) HB.out ?_
              rotate_left
              · intro w' hw'
                go_simp
                with_reducible rfl
              go_simp
              refine wpAnyH_take (i := 22) (v := ?_) rfl (by kernel_rfl) (by kernel_rfl) (by kernel_rfl) (fun _ _ _ h => h) (Or.inl ⟨by rfl, ?_⟩) HB.out ?_
              rotate_left
              · intro w' hw'
                go_simp
                with_reducible rfl
              go_simp
              refine wpAnyH_ready (rs := [21]) (by kernel_rfl) (by simp) ?_
              refine AllReadyH.cons rfl (fun K hK => ?_) AllReadyH.nil
              go_simp
              go_at_call 20
              refine (HC4.out _ (HWX.out _ HB.out)).mono ?_
              rintro e wc4 ⟨aa, ca, rfl, hAA, -, hb⟩
              replace HB := Lib.hid (show Below wr.heap.size wr wc4 from HB.out.trans (hb.mono HB.out.size))
              have HAA := Lib.hid hAA
              clear hb hAA
              change K _ _
              refine hK.out _ _ HB.out (fun _ => ?_)
              clear hK K
              refine wpAnyH_ready (rs := [23]) (by kernel_rfl) (by simp) ?_
              refine AllReadyH.cons rfl (fun K hK => ?_) AllReadyH.nil
              go_simp
              go_at_call 11
              refine (rsame_yes aa at_ N ca ct (frs S) _ HFL.out HAA.out (HAT.out _ HB.out) (by omega)).mono ?_
              rintro e wc5 ⟨rfl, hb⟩
              replace HB := Lib.hid (show Below wr.heap.size wr wc5 from HB.out.trans (hb.mono HB.out.size))
              clear hb
              change K _ _
              refine hK.out _ _ HB.out (fun _ => ?_)
              clear hK K
              refine wpAnyH_take (i := 24) (v := ?_) rfl (by kernel_rfl) (by kernel_rfl) (by kernel_rfl) (fun _ _ _ h => h) (Or.inl ⟨by rfl, ?_⟩) HB.out ?_
              rotate_left
              · intro w' hw'
                go_simp
                with_reducible rfl
              go_simp
              refine wpAnyH_take (i := 25) (v := ?_) rfl (by kernel_rfl) (by kernel_rfl) (by kernel_rfl) (fun _ _ _ h => h) (Or.inl ⟨by rfl, ?_⟩) HB.out ?_
              rotate_left
              · intro w' hw'
                go_simp
                with_reducible rfl
              go_simp
              refine wpAnyH_done (by kernel_rfl) ?_ _
              have HY0 := Lib.hid (HWX.out _ HB.out)
              clear HB HWX HAA HAT HFL HC1 HC2 HC3 HC4 HBW
              go_wp2_with fail
              go_loopw [11] (fun cv wx => ∃ c : Int, -1 ≤ c ∧ c ≤ 4 ∧ cv = .int .i64 c ∧ Hid (Below W.heap.size W wx)) (fun cv _ => (4 - intOf cv).toNat)
              case atStart => exact ⟨-1, by omega, by omega, rfl, HY0⟩
              case round =>
                obtain ⟨cc, hc1, hc2, rfl, HY⟩ := hrel
                have HZC := Lib.hid (show wrap64 (cc + 1) = cc + 1 from IntWalk.wrap64_in _ (by omega))
                have HRM := Lib.hid (fun X (hb : Below W.heap.size W X) => (HQX.out X hb).room1 HC.out cc)
                have hrm : roomE cc S = roomE cc L' := by rw [HS.out]; exact room_sort _ _ HOK'.out
                rw [hrm] at HRM
                unfold roomE at HRM
                have hLN : L'.length = N := by rw [HN5.out]; exact HLEN.out.symm
                rw [hLN] at HRM
                clear hrm
                by_cases hcl : cc ≤ 3
                · have d1 : decide (cc ≤ 3) = true := decide_eq_true hcl
                  by_cases hin : 0 ≤ cc ∧ cc ≤ 2
                  · rw [if_pos hin] at HRM
                    have d2 : decide (0 ≤ cc) = true := decide_eq_true hin.1
                    have d3 : decide (cc ≤ 2) = true := decide_eq_true hin.2
                    have HOF := Lib.hid (fun X (hb : Below W.heap.size W X) => rof_any cc p L' F2 X (HRQ.out.below hb) (by have := HLL.out; omega))
                    have hm16 : (ofC cc L').length ≤ 16 := Nat.le_trans (List.length_filter_le _ _) HLL.out
                    generalize (ofC cc L').length = m at *
                    have HZ8 := Lib.hid (show wrap64 (8 - (m : Int)) = 8 - (m : Int) from IntWalk.wrap64_in _ (by omega))
                    have HZ16 := Lib.hid (show wrap64 (16 - (N : Int)) = 16 - (N : Int) from IntWalk.wrap64_in _ (by omega))
                    go_upto_region 33 with fail
                    refine wp_region_held (S := fun W' => Below W.heap.size W W') (by kernel_rfl) ?_
                    change wpAnyH _ _ _ _ _ _ _ _ wr.drew
                    have HB := Lib.hid HY.out.drew
                    refine wpAnyH_take (i := 0) (v := ?_) rfl (by kernel_rfl) (by kernel_rfl) (by kernel_rfl) (fun _ _ _ h => h) (Or.inl ⟨by rfl, ?_⟩) HB.out ?_
                    rotate_left
                    · intro w' hw'
                      go_simp
                      with_reducible rfl
                    go_simp
                    refine wpAnyH_take (i := 1) (v := ?_) rfl (by kernel_rfl) (by kernel_rfl) (by kernel_rfl) (fun _ _ _ h => h) (Or.inl ⟨by rfl, ?_⟩) HB.out ?_
                    rotate_left
                    · intro w' hw'
                      go_simp
                      with_reducible rfl
                    go_simp
                    refine wpAnyH_take (i := 4) (v := ?_) rfl (by kernel_rfl) (by kernel_rfl) (by kernel_rfl) (fun _ _ _ h => h) (Or.inl ⟨by rfl, ?_⟩) HB.out ?_
                    rotate_left
                    · intro w' hw'
                      go_simp
                      with_reducible rfl
                    go_simp
                    refine wpAnyH_take (i := 5) (v := ?_) rfl (by kernel_rfl) (by kernel_rfl) (by kernel_rfl) (fun _ _ _ h => h) (Or.inl ⟨by rfl, ?_⟩) HB.out ?_
                    rotate_left
                    · intro w' hw'
                      go_simp
                      with_reducible rfl
                    go_simp
                    refine wpAnyH_take (i := 6) (v := ?_) rfl (by kernel_rfl) (by kernel_rfl) (by kernel_rfl) (fun _ _ _ h => h) (Or.inl ⟨by rfl, ?_⟩) HB.out ?_
                    rotate_left
                    · intro w' hw'
                      go_simp
                      with_reducible rfl
                    go_simp
                    refine wpAnyH_take (i := 7) (v := ?_) rfl (by kernel_rfl) (by kernel_rfl) (by kernel_rfl) (fun _ _ _ h => h) (Or.inl ⟨by rfl, ?_⟩) HB.out ?_
                    rotate_left
                    · intro w' hw'
                      have xx := (HCE.out _ hw').1
                      go_simp
                      with_reducible rfl
                    go_simp
                    refine wpAnyH_take (i := 8) (v := ?_) rfl (by kernel_rfl) (by kernel_rfl) (by kernel_rfl) (fun _ _ _ h => h) (Or.inl ⟨by rfl, ?_⟩) HB.out ?_
                    rotate_left
                    · intro w' hw'
                      go_simp
                      with_reducible rfl
                    go_simp
                    refine wpAnyH_take (i := 9) (v := ?_) rfl (by kernel_rfl) (by kernel_rfl) (by kernel_rfl) (fun _ _ _ h => h) (Or.inl ⟨by rfl, ?_⟩) HB.out ?_
                    rotate_left
                    · intro w' hw'
                      have xx := HZ16.out
                      go_simp
                      with_reducible rfl
                    go_simp
                    refine wpAnyH_ready (rs := [2]) (by kernel_rfl) (by simp) ?_
                    refine AllReadyH.cons rfl (fun K hK => ?_) AllReadyH.nil
                    go_simp
                    go_at_call 21
                    refine (HOF.out _ HB.out).mono ?_
                    rintro e wc6 ⟨rfl, rfl⟩
                    change K _ _
                    refine hK.out _ _ HB.out (fun _ => ?_)
                    clear hK K
                    refine wpAnyH_take (i := 3) (v := ?_) rfl (by kernel_rfl) (by kernel_rfl) (by kernel_rfl) (fun _ _ _ h => h) (Or.inl ⟨by rfl, ?_⟩) HB.out ?_
                    rotate_left
                    · intro w' hw'
                      have xx := HZ8.out
                      go_simp
                      with_reducible rfl
                    go_simp
                    refine wpAnyH_take (i := 10) (v := ?_) rfl (by kernel_rfl) (by kernel_rfl) (by kernel_rfl) (fun _ _ _ h => h) (Or.inl ⟨by rfl, ?_⟩) HB.out ?_
                    rotate_left
                    · intro w' hw'
                      go_simp
                      with_reducible rfl
                    go_simp
                    refine wpAnyH_take (i := 11) (v := ?_) rfl (by kernel_rfl) (by kernel_rfl) (by kernel_rfl) (fun _ _ _ h => h) (Or.inl ⟨by rfl, ?_⟩) HB.out ?_
                    rotate_left
                    · intro w' hw'
                      go_simp
                      with_reducible rfl
                    go_simp
                    refine wpAnyH_done (by kernel_rfl) ?_ _
                    go_wp2_with (first
                      | (go_at_call 22; (with_reducible refine (HRM.out _ HB.out).mono ?_); rintro e wc7 ⟨rfl, -, hb⟩; have HB7 := Lib.hid (HB.out.trans (hb.mono HB.out.size)); clear hb))
                    go_roundw
                    case rel => exact ⟨cc + 1, by omega, by omega, (by (try rw [HZC.out]); rfl), HB7⟩
                    case measure =>
                      try rw [HZC.out]
                      simp [intOf]
                      omega
                  · rw [if_neg hin] at HRM
                    by_cases hz : 0 ≤ cc
                    · have d2 : decide (0 ≤ cc) = true := decide_eq_true hz
                      have d3 : decide (cc ≤ 2) = false := decide_eq_false (by omega)
                      go_wp2_with (first
                        | (go_at_call 22; (with_reducible refine (HRM.out _ HY.out).mono ?_); rintro e wc7 ⟨rfl, -, hb⟩; have HB7 := Lib.hid (HY.out.trans (hb.mono HY.out.size)); clear hb))
                      go_roundw
                      case rel => exact ⟨cc + 1, by omega, by omega, (by (try rw [HZC.out]); rfl), HB7⟩
                      case measure =>
                        try rw [HZC.out]
                        simp [intOf]
                        omega
                    · have d2 : decide (0 ≤ cc) = false := decide_eq_false hz
                      go_wp2_with (first
                        | (go_at_call 22; (with_reducible refine (HRM.out _ HY.out).mono ?_); rintro e wc7 ⟨rfl, -, hb⟩; have HB7 := Lib.hid (HY.out.trans (hb.mono HY.out.size)); clear hb))
                      go_roundw
                      case rel => exact ⟨cc + 1, by omega, by omega, (by (try rw [HZC.out]); rfl), HB7⟩
                      case measure =>
                        try rw [HZC.out]
                        simp [intOf]
                        omega
                · have d1 : decide (cc ≤ 3) = false := decide_eq_false hcl
                  have HZI := Lib.hid (show wrap64 ((i : Int) + 1) = (i : Int) + 1 from IntWalk.wrap64_in _ (by omega))
                  go_wp2_with fail
                  go_roundw
                  case rel => exact ⟨i + 1, by omega, (by (try rw [HZI.out]); rfl), Lib.hid ⟨L', HOK'.out, HS.out ▸ (HQX.out _ HY.out).less fun b hb => hb.elim⟩⟩
                  case measure =>
                    try rw [HZI.out]
                    simp [intOf]
                    omega

        clear hKT
        have HW : ∀ (uu : Nat → Value) (W : World), Wy Q w q p wr.heap.size [.int .i64 x0, .int .i64 x1, .int .i64 x2, .int .i64 x3, .string x4] W → KT (txFr g o n c q p wr.heap.size i uu) W := fun uu W h => by
          obtain ⟨L', h1, h2, h3⟩ := h
          exact HTAIL uu W L' h1 h2 h3
        clear HTAIL
        have hperm := sort_perm L HOK.out
        have hlen := hperm.length_eq
        have hinv := HQ.out.inv HC.out
        have HL16 := Lib.hid (show L.length ≤ 16 from by have := hinv.many; omega)
        have HINV := Lib.hid hinv
        clear hperm hlen hinv
        have HWAY := Lib.hid HW
        clear HW
        obtain ⟨ob, hob⟩ : ∃ ob, ob = wr.heap.size := ⟨_, rfl⟩
        generalize wr.alloc (.cells #[.int .i64 x0, .int .i64 x1, .int .i64 x2, .int .i64 x3, .string x4] 32) = wA at *
        rw [← hob] at HQ HR HWAY r0 ⊢
        clear hob
        by_cases h0 : x0 = 0
        · have d0 : (x0 == 0) = true := by simpa using h0
          clear h0
          have HP1 := Lib.hid (show ∀ X, Below wA.heap.size wA X → _ from fun X hb => (HQ.out.below HC.out hb).put1 HC.out x1 x3 x4 HFS.out)
          have hps := put_sort x1 x3 x4 L HOK.out
          rw [hps.1, hps.2] at HP1
          clear hps
          have HB := Lib.hid HR.out.drew
          go_upto_region 11 with fail
          refine wp_region_held (S := fun W' => RowAt W' ob [.int .i64 x0, .int .i64 x1, .int .i64 x2, .int .i64 x3, .string x4]) (by kernel_rfl) ?_
          change wpAnyH _ _ _ _ _ _ _ _ wA.drew
          refine wpAnyH_take (i := 0) (v := ?_) rfl (by kernel_rfl) (by kernel_rfl) (by kernel_rfl) (fun _ _ _ h => h) (Or.inl ⟨by rfl, ?_⟩) HB.out ?_
          rotate_left
          · intro w' hw'
            go_simp
            with_reducible rfl
          go_simp
          refine wpAnyH_take (i := 1) (v := ?_) rfl (by kernel_rfl) (by kernel_rfl) (by kernel_rfl) (fun _ _ _ h => h) (Or.inl ⟨by rfl, ?_⟩) HB.out ?_
          rotate_left
          · intro w' hw'
            go_simp
            with_reducible rfl
          go_simp
          refine wpAnyH_take (i := 3) (v := ?_) rfl (by kernel_rfl) (by kernel_rfl) (by kernel_rfl) (fun _ _ _ h => h) (Or.inl ⟨by rfl, ?_⟩) HB.out ?_
          rotate_left
          · intro w' hw'
            go_simp
            with_reducible rfl
          go_simp
          refine wpAnyH_take (i := 5) (v := ?_) rfl (by kernel_rfl) (by kernel_rfl) (by kernel_rfl) (fun _ _ _ h => h) (Or.inl ⟨by rfl, ?_⟩) HB.out ?_
          rotate_left
          · intro w' hw'
            go_simp
            with_reducible rfl
          go_simp
          refine wpAnyH_take (i := 8) (v := ?_) rfl (by kernel_rfl) (by kernel_rfl) (by kernel_rfl) (fun _ _ _ h => h) (Or.inl ⟨by rfl, ?_⟩) HB.out ?_
          rotate_left
          · intro w' hw'
            go_simp
            with_reducible rfl
          go_simp
          refine wpAnyH_take (i := 9) (v := ?_) rfl (by kernel_rfl) (by kernel_rfl) (by kernel_rfl) (fun _ _ _ h => h) (Or.inl ⟨by rfl, ?_⟩) HB.out ?_
          rotate_left
          · intro w' hw'
            go_simp
            with_reducible rfl
          go_simp
          refine wpAnyH_take (i := 11) (v := ?_) rfl (by kernel_rfl) (by kernel_rfl) (by kernel_rfl) (fun _ _ _ h => h) (Or.inl ⟨by rfl, ?_⟩) HB.out ?_
          rotate_left
          · intro w' hw'
            go_simp
            with_reducible rfl
          go_simp
          refine wpAnyH_take (i := 13) (v := ?_) rfl (by kernel_rfl) (by kernel_rfl) (by kernel_rfl) (fun _ _ _ h => h) (Or.inl ⟨by rfl, ?_⟩) HB.out ?_
          rotate_left
          · intro w' hw'
            go_simp
            with_reducible rfl
          go_simp
          refine wpAnyH_take (i := 2) (v := ?_) rfl (by kernel_rfl) (by kernel_rfl) (by kernel_rfl) (fun _ _ _ h => h) (Or.inl ⟨by rfl, ?_⟩) HB.out ?_
          rotate_left
          · intro w' hw'
            have xx := hw'.cell 1 rfl
            go_simp
            with_reducible rfl
          go_simp
          refine wpAnyH_take (i := 10) (v := ?_) rfl (by kernel_rfl) (by kernel_rfl) (by kernel_rfl) (fun _ _ _ h => h) (Or.inl ⟨by rfl, ?_⟩) HB.out ?_
          rotate_left
          · intro w' hw'
            have xx := hw'.cell 1 rfl
            go_simp
            with_reducible rfl
          go_simp
          refine wpAnyH_take (i := 4) (v := ?_) rfl (by kernel_rfl) (by kernel_rfl) (by kernel_rfl) (fun _ _ _ h => h) (Or.inl ⟨by rfl, ?_⟩) HB.out ?_
          rotate_left
          · intro w' hw'
            have xx := hw'.cell 3 rfl
            go_simp
            with_reducible rfl
          go_simp
          refine wpAnyH_take (i := 12) (v := ?_) rfl (by kernel_rfl) (by kernel_rfl) (by kernel_rfl) (fun _ _ _ h => h) (Or.inl ⟨by rfl, ?_⟩) HB.out ?_
          rotate_left
          · intro w' hw'
            have xx := hw'.cell 3 rfl
            go_simp
            with_reducible rfl
          go_simp
          refine wpAnyH_take (i := 6) (v := ?_) rfl (by kernel_rfl) (by kernel_rfl) (by kernel_rfl) (fun _ _ _ h => h) (Or.inl ⟨by rfl, ?_⟩) HB.out ?_
          rotate_left
          · intro w' hw'
            have xx := hw'.cell 4 rfl
            go_simp
            with_reducible rfl
          go_simp
          refine wpAnyH_take (i := 14) (v := ?_) rfl (by kernel_rfl) (by kernel_rfl) (by kernel_rfl) (fun _ _ _ h => h) (Or.inl ⟨by rfl, ?_⟩) HB.out ?_
          rotate_left
          · intro w' hw'
            have xx := hw'.cell 4 rfl
            go_simp
            with_reducible rfl
          go_simp
          refine wpAnyH_ready (rs := [7]) (by kernel_rfl) (by simp) ?_
          refine AllReadyH.cons rfl (fun K hK => ?_) AllReadyH.nil
          go_simp
          go_at_call 9
          refine (HP1.out _ (Below.refl _ _).drew).mono ?_
          rintro e wc ⟨rfl, hq1, hs1⟩
          replace HB := Lib.hid (HB.out.block (hs1.2 ob (Or.inr rfl)) hs1.1)
          have HQ1 := Lib.hid hq1
          clear hq1 hs1
          change K _ _
          refine hK.out _ _ HB.out (fun _ => ?_)
          clear hK K
          refine wpAnyH_ready (rs := [15]) (by kernel_rfl) (by simp) ?_
          refine AllReadyH.cons rfl (fun K hK => ?_) AllReadyH.nil
          go_simp
          go_at_call 10
          refine (HQ1.out.put2 HC.out (by have := HL16.out; omega) x1 x3 x4 HFS.out).mono ?_
          rintro e wc2 ⟨rfl, hq2, hs2⟩
          replace HB := Lib.hid (HB.out.block (hs2.2 ob (Or.inr rfl)) hs2.1)
          have HQ2 := Lib.hid hq2
          clear hq2 hs2
          change K _ _
          refine hK.out _ _ HB.out (fun _ => ?_)
          clear hK K
          refine wpAnyH_take (i := 16) (v := ?_) rfl (by kernel_rfl) (by kernel_rfl) (by kernel_rfl) (fun _ _ _ h => h) (Or.inl ⟨by rfl, ?_⟩) HB.out ?_
          rotate_left
          · intro w' hw'
            go_simp
            with_reducible rfl
          go_simp
          refine wpAnyH_done (by kernel_rfl) ?_ _
          go_wp2_with fail
          exact tx_way HWAY.out _ _ ⟨_, put_ok HOK.out, HQ2.out, HB.out⟩ (by kernel_rfl)
        · have d0 : (x0 == 0) = false := by simpa using h0
          clear h0
          by_cases h1 : x0 = 1
          · have d1 : (x0 == 1) = true := by simpa using h1
            clear h1
            have HP1 := Lib.hid (show ∀ X, Below wA.heap.size wA X → _ from fun X hb => (HQ.out.below HC.out hb).take1 HC.out x1 x2)
            have hso := sort_ok L
            have hfx := sort_drop L
            have htl := takeN_le x1 x2 (sortE L) 0 0
            have HZS := Lib.hid (fun e he => Nat.le_trans (HINV.out.size e he) (by omega : 333 ≤ 1000))
            have HMY := Lib.hid HINV.out.many
            generalize hTK : takeN x1 x2 0 0 (sortE L) = tk at *
            have HTK := Lib.hid hTK
            have HFX := Lib.hid (hfx tk)
            have HKO := Lib.hid (ok_drop hso tk)
            have hfl : (frs ((sortE L).take tk)).length = tk := by rw [List.length_map, List.length_take]; omega
            have HFL := Lib.hid hfl
            rw [hfl] at HP1
            clear hso hfx hTK hfl
            have HB := Lib.hid HR.out.drew
            go_upto_region 14 with fail
            refine wp_region_held (S := fun W' => RowAt W' ob [.int .i64 x0, .int .i64 x1, .int .i64 x2, .int .i64 x3, .string x4]) (by kernel_rfl) ?_
            change wpAnyH _ _ _ _ _ _ _ _ wA.drew
            refine wpAnyH_take (i := 0) (v := ?_) rfl (by kernel_rfl) (by kernel_rfl) (by kernel_rfl) (fun _ _ _ h => h) (Or.inl ⟨by rfl, ?_⟩) HB.out ?_
            rotate_left
            · intro w' hw'
              go_simp
              with_reducible rfl
            go_simp
            refine wpAnyH_take (i := 1) (v := ?_) rfl (by kernel_rfl) (by kernel_rfl) (by kernel_rfl) (fun _ _ _ h => h) (Or.inl ⟨by rfl, ?_⟩) HB.out ?_
            rotate_left
            · intro w' hw'
              go_simp
              with_reducible rfl
            go_simp
            refine wpAnyH_take (i := 3) (v := ?_) rfl (by kernel_rfl) (by kernel_rfl) (by kernel_rfl) (fun _ _ _ h => h) (Or.inl ⟨by rfl, ?_⟩) HB.out ?_
            rotate_left
            · intro w' hw'
              go_simp
              with_reducible rfl
            go_simp
            refine wpAnyH_take (i := 6) (v := ?_) rfl (by kernel_rfl) (by kernel_rfl) (by kernel_rfl) (fun _ _ _ h => h) (Or.inl ⟨by rfl, ?_⟩) HB.out ?_
            rotate_left
            · intro w' hw'
              go_simp
              with_reducible rfl
            go_simp
            refine wpAnyH_take (i := 7) (v := ?_) rfl (by kernel_rfl) (by kernel_rfl) (by kernel_rfl) (fun _ _ _ h => h) (Or.inl ⟨by rfl, ?_⟩) HB.out ?_
            rotate_left
            · intro w' hw'
              go_simp
              with_reducible rfl
            go_simp
            refine wpAnyH_take (i := 9) (v := ?_) rfl (by kernel_rfl) (by kernel_rfl) (by kernel_rfl) (fun _ _ _ h => h) (Or.inl ⟨by rfl, ?_⟩) HB.out ?_
            rotate_left
            · intro w' hw'
              go_simp
              with_reducible rfl
            go_simp
            refine wpAnyH_take (i := 2) (v := ?_) rfl (by kernel_rfl) (by kernel_rfl) (by kernel_rfl) (fun _ _ _ h => h) (Or.inl ⟨by rfl, ?_⟩) HB.out ?_
            rotate_left
            · intro w' hw'
              have xx := hw'.cell 1 rfl
              go_simp
              with_reducible rfl
            go_simp
            refine wpAnyH_take (i := 8) (v := ?_) rfl (by kernel_rfl) (by kernel_rfl) (by kernel_rfl) (fun _ _ _ h => h) (Or.inl ⟨by rfl, ?_⟩) HB.out ?_
            rotate_left
            · intro w' hw'
              have xx := hw'.cell 1 rfl
              go_simp
              with_reducible rfl
            go_simp
            refine wpAnyH_take (i := 4) (v := ?_) rfl (by kernel_rfl) (by kernel_rfl) (by kernel_rfl) (fun _ _ _ h => h) (Or.inl ⟨by rfl, ?_⟩) HB.out ?_
            rotate_left
            · intro w' hw'
              have xx := hw'.cell 2 rfl
              go_simp
              with_reducible rfl
            go_simp
            refine wpAnyH_take (i := 10) (v := ?_) rfl (by kernel_rfl) (by kernel_rfl) (by kernel_rfl) (fun _ _ _ h => h) (Or.inl ⟨by rfl, ?_⟩) HB.out ?_
            rotate_left
            · intro w' hw'
              have xx := hw'.cell 2 rfl
              go_simp
              with_reducible rfl
            go_simp
            refine wpAnyH_ready (rs := [5]) (by kernel_rfl) (by simp) ?_
            refine AllReadyH.cons rfl (fun K hK => ?_) AllReadyH.nil
            go_simp
            go_at_call 12
            refine (HP1.out _ (Below.refl _ _).drew).mono ?_
            rintro e wc ⟨a1, c1, rfl, hA1, hq1, hs1⟩
            replace HB := Lib.hid (HB.out.block (hs1.2 ob (Or.inr rfl)) hs1.1)
            have HQ1 := Lib.hid hq1
            have HA1 := Lib.hid hA1
            clear hq1 hs1 hA1
            change K _ _
            refine hK.out _ _ HB.out (fun _ => ?_)
            clear hK K
            have HP2 := Lib.hid (HQ1.out.take2 HC.out (by have := HL16.out; omega) x1 x2 HZS.out (by have := HMY.out; omega))
            rw [HTK.out, HFL.out] at HP2
            refine wpAnyH_ready (rs := [11]) (by kernel_rfl) (by simp) ?_
            refine AllReadyH.cons rfl (fun K hK => ?_) AllReadyH.nil
            go_simp
            go_at_call 13
            refine HP2.out.mono ?_
            rintro e wc2 ⟨a2, c2, rfl, hA2, hq2, hs2⟩
            replace HB := Lib.hid (HB.out.block (hs2.2 ob (Or.inl (Or.inr rfl))) hs2.1)
            replace HA1 := Lib.hid (HA1.out.same (fun x e => hs2.2 _ (Or.inr ⟨x, e, rfl⟩)) hs2.1)
            have HQ2 := Lib.hid hq2
            have HA2 := Lib.hid hA2
            clear hq2 hs2 hA2 HP2
            change K _ _
            refine hK.out _ _ HB.out (fun _ => ?_)
            clear hK K
            refine wpAnyH_ready (rs := [12]) (by kernel_rfl) (by simp) ?_
            refine AllReadyH.cons rfl (fun K hK => ?_) AllReadyH.nil
            go_simp
            go_at_call 11
            refine (rsame_yes a1 a2 tk c1 c2 _ _ HFL.out HA1.out HA2.out (by have := HMY.out; omega)).mono ?_
            rintro e wc3 ⟨rfl, hb⟩
            replace HB := Lib.hid (HB.out.below hb)
            have HQ3 := Lib.hid ((HQ2.out.below HC.out hb).less (K' := fun b => False ∨ b = ob) fun b h => Or.inl h)
            clear hb HQ2 HA1 HA2
            change K _ _
            refine hK.out _ _ HB.out (fun _ => ?_)
            clear hK K
            refine wpAnyH_take (i := 13) (v := ?_) rfl (by kernel_rfl) (by kernel_rfl) (by kernel_rfl) (fun _ _ _ h => h) (Or.inl ⟨by rfl, ?_⟩) HB.out ?_
            rotate_left
            · intro w' hw'
              go_simp
              with_reducible rfl
            go_simp
            refine wpAnyH_done (by kernel_rfl) ?_ _
            go_wp2_with fail
            exact tx_way HWAY.out _ _ ⟨_, HKO.out, HFX.out.symm ▸ HQ3.out, HB.out⟩ (by kernel_rfl)
          · have d1 : (x0 == 1) = false := by simpa using h1
            clear h1
            by_cases h2 : x0 = 2
            · have d2 : (x0 == 2) = true := by simpa using h2
              clear h2
              have HP1 := Lib.hid (show ∀ X, Below wA.heap.size wA X → _ from fun X hb => (HQ.out.below HC.out hb).drop2 HC.out (by have := HL16.out; omega) x3)
              have r3 := HR.out.cell 3 rfl
              go_upto_region 18 with (first
                | (go_at_call 14; (with_reducible refine (HP1.out _ (Below.refl _ _)).mono ?_); rintro e wB ⟨rfl, hq1, hs1⟩; have HRB := Lib.hid (HR.out.block (hs1.2 ob (Or.inr rfl)) hs1.1); have HQ1 := Lib.hid hq1; clear hq1 hs1))
              have hso := sort_ok L
              have hcs := cnt_sort [x3, x1] L HOK.out
              have hct := cnt_two x3 x1 L
              have hbd : cntK [x3, x1] L ≤ L.length := List.countP_le_length
              have HBD := Lib.hid (show cntK [x3] L + cntK [x1] (offK [x3] L) ≤ 16 from by have := HL16.out; omega)
              have HP2 := Lib.hid (show ∀ X K', QuB Q w q p (sortE L) (offK [x3] L) K' X → _ from fun X K' hq => (hq.alloc HC.out (.cells #[.int .i64 x3, .int .i64 x1] 3)).drop1 HC.out (some ⟨X.heap.size, 0, none⟩) 2 2 [x3, x1] rfl (by omega) (two_made16 X x3 x1) (fun x e => Or.inr (by cases e; rfl)))
              rw [hcs, ← hct] at HP2
              have HEND := Lib.hid (show okE (offK [x1] (offK [x3] L)) ∧ sortE (offK [x1] (offK [x3] L)) = offK [x3, x1] (sortE L) from by
                rw [off_two, off_sort]
                exact ⟨ok_filter HOK.out _, rfl⟩)
              have HLO := Lib.hid (show (offK [x3] L).length ≤ 16 from Nat.le_trans (List.length_filter_le _ _) HL16.out)
              have HP3 := Lib.hid (show ∀ X K' S', QuB Q w q p S' (offK [x3] L) K' X → _ from fun X K' S' hq => hq.drop2 HC.out (by have := HLO.out; omega) x1)
              generalize cntK [x3] L = m1 at *
              generalize cntK [x1] (offK [x3] L) = m2 at *
              have HZS := Lib.hid (show wrap64 ((m1 : Int) + (m2 : Int)) = ((m1 + m2 : Nat) : Int) from by rw [IntWalk.wrap64_in _ (by have := HBD.out; omega)]; omega)
              have HZT := Lib.hid (show IntKind.i64.wrap ((m1 : Int) + (m2 : Int)) = ((m1 + m2 : Nat) : Int) from by rw [IntWalk.i64_in _ (by have := HBD.out; omega)]; omega)
              obtain ⟨mm, hmm⟩ : ∃ mm, mm = m1 + m2 := ⟨_, rfl⟩
              rw [← hmm] at HP2 HZS HZT
              clear hso hcs hct hbd hmm
              have HB := Lib.hid HRB.out.drew
              refine wp_region_held (S := fun W' => RowAt W' ob [.int .i64 x0, .int .i64 x1, .int .i64 x2, .int .i64 x3, .string x4]) (by kernel_rfl) ?_
              change wpAnyH _ _ _ _ _ _ _ _ wB.drew
              refine wpAnyH_take (i := 0) (v := ?_) rfl (by kernel_rfl) (by kernel_rfl) (by kernel_rfl) (fun _ _ _ h => h) (Or.inl ⟨by rfl, ?_⟩) HB.out ?_
              rotate_left
              · intro w' hw'
                go_simp
                with_reducible rfl
              go_simp
              refine wpAnyH_take (i := 1) (v := ?_) rfl (by kernel_rfl) (by kernel_rfl) (by kernel_rfl) (fun _ _ _ h => h) (Or.inl ⟨by rfl, ?_⟩) HB.out ?_
              rotate_left
              · intro w' hw'
                go_simp
                with_reducible rfl
              go_simp
              refine wpAnyH_take (i := 3) (v := ?_) rfl (by kernel_rfl) (by kernel_rfl) (by kernel_rfl) (fun _ _ _ h => h) (Or.inl ⟨by rfl, ?_⟩) HB.out ?_
              rotate_left
              · intro w' hw'
                go_simp
                with_reducible rfl
              go_simp
              refine wpAnyH_take (i := 7) (v := ?_) rfl (by kernel_rfl) (by kernel_rfl) (by kernel_rfl) (fun _ _ _ h => h) (Or.inl ⟨by rfl, ?_⟩) HB.out ?_
              rotate_left
              · intro w' hw'
                go_simp
                with_reducible rfl
              go_simp
              refine wpAnyH_take (i := 8) (v := ?_) rfl (by kernel_rfl) (by kernel_rfl) (by kernel_rfl) (fun _ _ _ h => h) (Or.inl ⟨by rfl, ?_⟩) HB.out ?_
              rotate_left
              · intro w' hw'
                go_simp
                with_reducible rfl
              go_simp
              refine wpAnyH_take (i := 9) (v := ?_) rfl (by kernel_rfl) (by kernel_rfl) (by kernel_rfl) (fun _ _ _ h => h) (Or.inl ⟨by rfl, ?_⟩) HB.out ?_
              rotate_left
              · intro w' hw'
                go_simp
                with_reducible rfl
              go_simp
              refine wpAnyH_take (i := 2) (v := ?_) rfl (by kernel_rfl) (by kernel_rfl) (by kernel_rfl) (fun _ _ _ h => h) (Or.inl ⟨by rfl, ?_⟩) HB.out ?_
              rotate_left
              · intro w' hw'
                have xx := hw'.cell 3 rfl
                go_simp
                with_reducible rfl
              go_simp
              refine wpAnyH_take (i := 4) (v := ?_) rfl (by kernel_rfl) (by kernel_rfl) (by kernel_rfl) (fun _ _ _ h => h) (Or.inl ⟨by rfl, ?_⟩) HB.out ?_
              rotate_left
              · intro w' hw'
                have xx := hw'.cell 1 rfl
                go_simp
                with_reducible rfl
              go_simp
              refine wpAnyH_take (i := 10) (v := ?_) rfl (by kernel_rfl) (by kernel_rfl) (by kernel_rfl) (fun _ _ _ h => h) (Or.inl ⟨by rfl, ?_⟩) HB.out ?_
              rotate_left
              · intro w' hw'
                have xx := hw'.cell 1 rfl
                go_simp
                with_reducible rfl
              go_simp
              refine wpAnyH_ready (rs := [5]) (by kernel_rfl) (by simp) ?_
              refine AllReadyH.cons rfl (fun K hK => ?_) AllReadyH.nil
              go_simp
              replace HB := Lib.hid (HRB.out.alloc (.cells #[.int .i64 x3, .int .i64 x1] 3)).drew
              refine hK.out _ _ HB.out (fun _ => ?_)
              clear hK K
              refine wpAnyH_ready (rs := [6]) (by kernel_rfl) (by simp) ?_
              refine AllReadyH.cons rfl (fun K hK => ?_) AllReadyH.nil
              go_simp
              go_at_call 15
              refine (HP2.out wB.drew _ (HQ1.out.below HC.out (Below.refl _ _).drew)).mono ?_
              rintro e wc ⟨rfl, hq2, hs2⟩
              replace HB := Lib.hid (HB.out.block (hs2.2 ob (Or.inl (Or.inr rfl))) hs2.1)
              have HQ2 := Lib.hid hq2
              clear hq2 hs2
              change K _ _
              refine hK.out _ _ HB.out (fun _ => ?_)
              clear hK K
              refine wpAnyH_ready (rs := [11]) (by kernel_rfl) (by simp) ?_
              refine AllReadyH.cons rfl (fun K hK => ?_) AllReadyH.nil
              go_simp
              go_at_call 14
              refine (HP3.out _ _ _ HQ2.out).mono ?_
              rintro e wc2 ⟨rfl, hq3, hs3⟩
              replace HB := Lib.hid (HB.out.block (hs3.2 ob (Or.inl (Or.inr rfl))) hs3.1)
              have HQ3 := Lib.hid (hq3.less (K' := fun b => False ∨ b = ob) fun b h => Or.inl h)
              clear hq3 hs3
              change K _ _
              refine hK.out _ _ HB.out (fun _ => ?_)
              clear hK K
              refine wpAnyH_take (i := 12) (v := ?_) rfl (by kernel_rfl) (by kernel_rfl) (by kernel_rfl) (fun _ _ _ h => h) (Or.inl ⟨by rfl, ?_⟩) HB.out ?_
              rotate_left
              · intro w' hw'
                have xx := HZS.out; have xy := HZT.out
                go_simp
                with_reducible rfl
              go_simp
              refine wpAnyH_take (i := 13) (v := ?_) rfl (by kernel_rfl) (by kernel_rfl) (by kernel_rfl) (fun _ _ _ h => h) (Or.inl ⟨by rfl, ?_⟩) HB.out ?_
              rotate_left
              · intro w' hw'
                go_simp
                with_reducible rfl
              go_simp
              refine wpAnyH_done (by kernel_rfl) ?_ _
              go_wp2_with fail
              exact tx_way HWAY.out _ _ ⟨_, HEND.out.1, HEND.out.2.symm ▸ HQ3.out, HB.out⟩ (by kernel_rfl)
            · have d2 : (x0 == 2) = false := by simpa using h2
              clear h2
              go_wp2_with fail
              exact tx_way HWAY.out _ _ ⟨_, HOK.out, HQ.out, HR.out⟩ (by kernel_rfl)
      · have dk : decide (i < n) = false := decide_eq_false hlt
        obtain ⟨L, hok, hq⟩ := HK.out
        have HE := Lib.hid hq.bel
        clear hq hok HK
        go_wp2_with fail
        exact bodyPost_ret (v := .bool true) (by simp [results, Try.results3, go_sem]) rfl ⟨rfl, HE.out⟩
end Go.Proofs.Ytliamhphpnifaaa
