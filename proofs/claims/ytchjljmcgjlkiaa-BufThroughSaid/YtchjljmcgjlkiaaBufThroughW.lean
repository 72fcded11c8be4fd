/-
The walk of BufThrough.
-/
import Derived.Test.YtchjljmcgjlkiaaBufThruT
import Derived.Test.YtchjljmcgjlkiaaBufNoneW
import Derived.Test.YtchjljmcgjlkiaaFactsUpto
import Derived.Shelf.Abstract
namespace Go.Proofs.Ytchjljmcgjlkiaa
open Go.RowKit Go.Sort
set_option maxRecDepth 20000
/-- in the loops -/
def TuAt (B : BoP) (w : World) (n1 : Int) (q m c5 c7 c8 c9 : Nat) (i : Nat) (K : Nat → Prop) (W : World) : Prop :=
  ∃ want got b g wv, ThInv n1 want got b.M g ∧ BOk b ∧ want.length ≤ i ∧ (0 ≤ b.cnt ∧ b.cnt ≤ i) ∧ ThAt B w n1 q m c5 c7 c8 c9 want got b g wv K W
set_option maxHeartbeats 4000000 in
theorem bufthrough_any {B : BoP} (hC : BoC B) (n1 : Int) (a : Option Addr) (n c : Nat) (Ops : List Op19) (w : World) (hn : Ops.length = n) (hA : AtL encO19 w a Ops) : Calls Try.prog 4 #[.int .i64 n1, .slice a n c] w fun e w' => e = .returned (.bool true) ∧ Below w.heap.size w w' := by
  have HC := Lib.hid hC
  have HAW := Lib.hid (fun W => cawake19 hC W)
  have HGR := Lib.hid (fun (W : World) (hb : Below w.heap.size w W) => great_any19 a n c Ops W hn (hA.below hb))
  cases hg : greatB19 Ops with
  | true =>
    rw [hg] at HGR
    clear hC hg hn hA
    go_enter Try.func4, Try.ntmps4
    go_wp2_with (first
      | (go_at_call 6; (with_reducible refine (HAW.out _).mono ?_); rintro e w1 ⟨rfl, hb⟩; have HB1 := Lib.hid hb; clear hb)
      | (go_at_call 7; (with_reducible refine (HGR.out _ HB1.out).mono ?_); rintro e w2 ⟨rfl, hb⟩; have HB2 := Lib.hid (HB1.out.trans (hb.mono HB1.out.size)); clear hb))
    exact bodyPost_ret (v := .bool true) (by simp [results, Try.results4, go_sem]) rfl ⟨rfl, HB2.out⟩
  | false =>
    rw [hg] at HGR
    have hno := great_no19 hg
    have hl : n ≤ 150 := by rw [← hn]; exact hno.1
    have HSZ := Lib.hid hno.2
    have HN := Lib.hid hn
    have HA := Lib.hid hA
    by_cases hn1 : n1 < 16 ∨ 256 < n1
    · have HNW := Lib.hid (fun W => hC.newNo n1 W hn1)
      clear hC hg hn hA hno hn1
      go_enter Try.func4, Try.ntmps4
      go_wp2_with (first
        | (go_at_call 6; (with_reducible refine (HAW.out _).mono ?_); rintro e w1 ⟨rfl, hb⟩; have HB1 := Lib.hid hb; clear hb)
        | (go_at_call 7; (with_reducible refine (HGR.out _ HB1.out).mono ?_); rintro e w2 ⟨rfl, hb⟩; have HB2 := Lib.hid (HB1.out.trans (hb.mono HB1.out.size)); clear hb)
        | (go_at_call 8; (with_reducible refine (HNW.out _).mono ?_); rintro e w3 ⟨rfl, hb⟩; have HB3 := Lib.hid (HB2.out.trans (hb.mono HB2.out.size)); clear hb))
      exact bodyPost_ret (v := .bool true) (by simp [results, Try.results4, go_sem]) rfl ⟨rfl, HB3.out.alloc HB3.out.size _⟩
    have HNW := Lib.hid (fun W => hC.newYes n1 W hn1)
    have hmf : ∀ (fn : Fn) (first cap : Array Value) (W : World), (Instr.makeFunc fn first cap).run Try.prog W = .ok (.func fn first cap) W := fun _ _ _ _ => rfl
    clear hC hg hn hA hno hn1
    go_enter Try.func4, Try.ntmps4
    go_upto_region 12 with (first
      | (go_at_call 6; (with_reducible refine (HAW.out _).mono ?_); rintro e w1 ⟨rfl, hb⟩; have HB1 := Lib.hid hb; clear hb)
      | (go_at_call 7; (with_reducible refine (HGR.out _ HB1.out).mono ?_); rintro e w2 ⟨rfl, hb⟩; have HB2 := Lib.hid (HB1.out.trans (hb.mono HB1.out.size)); clear hb)
      | (go_at_call 8; (with_reducible refine (HNW.out _).mono ?_); rintro e w3 ⟨q, rfl, F, h1, h2, h3⟩; have HQ3 := Lib.hid (And.intro h1 (And.intro h2 h3)); clear h1 h2 h3)
      | (go_at_call 19; (with_reducible refine (cnew_any _).mono ?_); rintro e w4 ⟨rfl, rfl⟩))
    have HT0 := Lib.hid (show ThAt B w n1 q (w3.heap.size + 1) w3.heap.size (w3.heap.size + 1 + 1) (w3.heap.size + 1 + 1 + 1) (w3.heap.size + 1 + 1 + 1 + 1) [] 0 noB zeroG (.slice none 0 0) (fun _ => False) _ from th_made HC.out (show BoO B w q n1 noB (fun _ => False) w3 from ⟨F, HQ3.out.1, fun k hk => Nat.le_trans HB2.out.size (HQ3.out.2.1 k hk), HB2.out.trans (HQ3.out.2.2.mono HB2.out.size), fun k hk => hk.elim⟩) 25 67 47 49 3)
    clear HAW HGR HNW HB1 HB2 HQ3
    generalize (((((w3.alloc (.cells #[ptrB q] 25)).alloc (.cells #[.int .i64 0, .int .i64 0, .string ⟨#[]⟩] 67)).alloc (.cells #[ptrB (w3.heap.size + 1)] 47)).alloc (.cells #[.slice none 0 0] 49)).alloc (.cells #[.int .i64 0] 3)) = w5 at *
    generalize w3.heap.size + 1 + 1 + 1 + 1 = c9 at *
    generalize w3.heap.size + 1 + 1 + 1 = c8 at *
    generalize w3.heap.size + 1 + 1 = c7 at *
    generalize w3.heap.size + 1 = m at *
    generalize w3.heap.size = c5 at *
    have HP0 := Lib.hid (show TuAt B w n1 q m c5 c7 c8 c9 0 (fun _ => False) w5 from ⟨_, _, _, _, _, th_start n1, noB_ok, Nat.le_refl _, ⟨by decide, by decide⟩, HT0.out⟩)
    clear HT0
    go_wp2_with fail
    go_loopw [31] (fun v wx => ∃ i : Nat, i ≤ n ∧ v = .int .i64 i ∧ Hid (TuAt B w n1 q m c5 c7 c8 c9 i (fun _ => False) wx)) (fun v _ => n - (intOf v).toNat)
    case atStart => exact ⟨0, Nat.zero_le _, rfl, HP0⟩
    case round =>
      obtain ⟨i, hi, rfl, HK⟩ := hrel
      clear HP0
      have HZI := Lib.hid (show wrap64 ((i : Int) + 1) = (i : Int) + 1 from IntWalk.wrap64_in _ (by omega))
      by_cases hlt : i < n
      · have dk : decide (i < n) = true := decide_eq_true hlt
        have hL : i < Ops.length := by rw [HN.out]; exact hlt
        obtain ⟨want, got, b, gs, wv, hinv, hok, hwl, hcn, hth⟩ := HK.out
        obtain ⟨g, o, rfl, -⟩ := HA.out.some_ (by omega)
        obtain ⟨e0, e1, e2⟩ := (HA.out.below hth.bel).op19 i hL
        have HFS := Lib.hid (HSZ.out Ops[i] (List.getElem_mem hL))
        generalize Ops[i] = x at *
        obtain ⟨x0, x1, x2⟩ := x
        simp only at e0 e1 e2 HFS
        have HT := Lib.hid ((hth.alloc HC.out (.cells #[.int .i64 x0, .int .i64 x1, .string x2] 32)).less (K' := fun k => k = wr.heap.size) (fun k hk => Or.inr hk))
        have HR := Lib.hid (RowAt.new wr wr.heap.size rfl [.int .i64 x0, .int .i64 x1, .string x2] 32)
        have HOK := Lib.hid hok
        have HIN := Lib.hid hinv
        have HCN := Lib.hid (And.intro hwl hcn)
        have hko : ∀ k, wv.ownBlock = some k → k ≠ wr.heap.size := fun k e => by have := (hth.own.ge e).2; omega
        have hk8 : c8 ≠ wr.heap.size := by have := hth.r8.lt; omega
        clear hth hok hinv hwl hcn HK
        go_upto_region 15 with fail
        clear e0 e1 e2
        obtain ⟨ob, hob⟩ : ∃ ob, ob = wr.heap.size := ⟨_, rfl⟩
        generalize wr.alloc (.cells #[.int .i64 x0, .int .i64 x1, .string x2] 32) = wA at *
        rw [← hob] at HT HR hko hk8 ⊢
        have HKO := Lib.hid hko
        have HK8 := Lib.hid hk8
        clear hob hko hk8
        have r0 := HR.out.cell 0 rfl
        have r1 := HR.out.cell 1 rfl
        have r2 := HR.out.cell 2 rfl
        have s5 := HT.out.r5.cell 0 rfl
        by_cases h0 : x0 = 0
        · have d0 : (x0 == 0) = true := by simpa using h0
          have d1 : (x0 == 1) = false := by rw [h0]; rfl
          clear h0
          have HP := Lib.hid (HT.out.box.put HC.out HOK.out (by have := HCN.out.2; omega) x1 x2 HFS.out)
          by_cases hE : putErrB n1 x1 x2 b = 0
          · have hpy := putB_yes hE
            have HPO := Lib.hid (putB_ok (n1 := n1) (pid := x1) (text := x2) HOK.out)
            have HPI := Lib.hid (show ThInv n1 (want ++ [⟨x1, x2⟩]) got (putB n1 x1 x2 b).M gs from by rw [hpy]; exact th_put HIN.out ⟨x1, x2⟩ (putErr_zero hE).1)
            have HPC := Lib.hid (show (putB n1 x1 x2 b).cnt = b.cnt + 1 from by rw [hpy])
            rw [hE] at HP
            clear hE hpy
            generalize putB n1 x1 x2 b = b' at *
            go_upto_region 16 with (first
              | (go_at_call 10; (with_reducible refine HP.out.mono ?_); rintro e w6 ⟨rfl, h1, h2⟩; have HT6 := Lib.hid (HT.out.turnBox h1 h2); have HR6 := Lib.hid (HR.out.block (h2.2 ob (by simp)) h2.1); clear h1 h2 r0 r1 r2 s5))
            have r0 := HR6.out.cell 0 rfl
            have r1 := HR6.out.cell 1 rfl
            have r2 := HR6.out.cell 2 rfl
            have s8 := HT6.out.r8.cell 0 rfl
            have HT7 := Lib.hid (HT6.out.below HC.out ((Below.refl _ _).alloc (Nat.le_refl _) (.cells #[.int .i64 x1, .string x2] 36)))
            have HSZ6 := Lib.hid (show w.heap.size ≤ (w6.alloc (.cells #[.int .i64 x1, .string x2] 36)).heap.size from HT7.out.bel.size)
            go_upto_region 17 with (first
              | (at_builtin; refine wpList_append_one encP 36 49 Try.underlying49 infoC rfl (by decide) _ rfl (.tmp 47) (.tmp 53) rfl w.heap.size wv want rfl HT7.out.own w6.heap.size 1 rfl ⟨x1, x2⟩ (AtL.made encP 36 w6 w6.heap.size ⟨x1, x2⟩ _ rfl rfl) (by have := HCN.out.1; omega) HSZ6.out ?_
                 intro v2 w8 hown hgr hwh
                 obtain ⟨va, vn, vc, rfl⟩ := OwnL.form' hown
                 have HT8 := Lib.hid (HT7.out.wanted HC.out hown hgr (by simpa using hwh))
                 have hr8 := HT7.out.row8 hgr
                 have t8 := hr8.cell 0 rfl
                 have f8 := (hr8.get 0 rfl).free
                 have hbo := HT7.out.box
                 have HR8 := Lib.hid (show RowAt (w8.setCell ⟨c8, 0, none⟩ (.slice va vn vc)) ob [.int .i64 x0, .int .i64 x1, .string x2] from ((HR6.out.alloc _).block (hgr.block ob (HR6.out.alloc (.cells #[.int .i64 x1, .string x2] 36)).lt (fun e => HKO.out ob e.symm rfl)) hgr.size).other _ HK8.out)
                 clear hown hgr hwh hr8 hbo))
            have r0 := HR8.out.cell 0 rfl
            have HEND := Lib.hid (show TuAt B w n1 q m c5 c7 c8 c9 (i + 1) (fun _ => False) (w8.setCell ⟨c8, 0, none⟩ (.slice va vn vc)) from ⟨_, got, b', gs, .slice va vn vc, HPI.out, HPO.out, by have := HCN.out.1; rw [List.length_append, List.length_singleton]; omega, by rw [HPC.out]; have := HCN.out.2; omega, HT8.out.less (fun k hk => hk.elim)⟩)
            clear t8 f8 s8
            generalize w8.setCell ⟨c8, 0, none⟩ (.slice va vn vc) = w9 at *
            go_wp2_with fail
            go_roundw
            case rel => exact ⟨i + 1, by omega, (by (try rw [HZI.out]); rfl), HEND⟩
            case measure =>
              try rw [HZI.out]
              simp [intOf]
              omega
          · have HPN := Lib.hid (putB_no hE)
            rw [HPN.out] at HP
            have dE : (putErrB n1 x1 x2 b == 0) = false := by simpa using hE
            clear hE
            generalize putErrB n1 x1 x2 b = E at *
            go_upto_region 17 with (first
              | (go_at_call 10; (with_reducible refine HP.out.mono ?_); rintro e w6 ⟨rfl, h1, h2⟩; have HT6 := Lib.hid (HT.out.turnBox h1 h2); have HR6 := Lib.hid (HR.out.block (h2.2 ob (by simp)) h2.1); clear h1 h2 r0 r1 r2 s5))
            have r0 := HR6.out.cell 0 rfl
            have HEND := Lib.hid (show TuAt B w n1 q m c5 c7 c8 c9 (i + 1) (fun _ => False) w6 from ⟨want, got, b, gs, wv, HIN.out, HOK.out, by have := HCN.out.1; omega, by have := HCN.out.2; omega, HT6.out.less (fun k hk => hk.elim)⟩)
            go_wp2_with fail
            go_roundw
            case rel => exact ⟨i + 1, by omega, (by (try rw [HZI.out]); rfl), HEND⟩
            case measure =>
              try rw [HZI.out]
              simp [intOf]
              omega
        · have d0 : (x0 == 0) = false := by simpa using h0
          clear h0
          by_cases h1 : x0 = 1
          · have d1 : (x0 == 1) = true := by simpa using h1
            clear h1
            have HTK := Lib.hid (thtake_any HC.out (HT.out.less (K' := fun _ => False) (fun k hk => hk.elim)) HOK.out HIN.out (by have := HCN.out.1; omega))
            have HNO := Lib.hid (nextB_ok HOK.out)
            have HNC := Lib.hid (show (nextB b).1.cnt = b.cnt from rfl)
            generalize (nextB b).1 = b' at *
            have hen : ∀ args W, (callFunc 20 args).run Try.prog W = .ok (.enter 20 args) W := enters_of Try.func20 (by kernel_rfl) rfl
            go_wp2_with (first
              | (go_at_fn 20; (with_reducible refine HTK.out.mono ?_); rintro e w6 ⟨rfl, got', g', hi', ht'⟩; have HT6 := Lib.hid ht'; have HI6 := Lib.hid hi'; clear hi' ht'))
            have HEND := Lib.hid (show TuAt B w n1 q m c5 c7 c8 c9 (i + 1) (fun _ => False) w6 from ⟨want, got', b', g', wv, HI6.out, HNO.out, by have := HCN.out.1; omega, by rw [HNC.out]; have := HCN.out.2; omega, HT6.out⟩)
            go_roundw
            case rel => exact ⟨i + 1, by omega, (by (try rw [HZI.out]); rfl), HEND⟩
            case measure =>
              try rw [HZI.out]
              simp [intOf]
              omega
          · have d1 : (x0 == 1) = false := by simpa using h1
            clear h1
            have HEND := Lib.hid (show TuAt B w n1 q m c5 c7 c8 c9 (i + 1) (fun _ => False) wA from ⟨want, got, b, gs, wv, HIN.out, HOK.out, by have := HCN.out.1; omega, by have := HCN.out.2; omega, HT.out.less (fun k hk => hk.elim)⟩)
            go_wp2_with fail
            go_roundw
            case rel => exact ⟨i + 1, by omega, (by (try rw [HZI.out]); rfl), HEND⟩
            case measure =>
              try rw [HZI.out]
              simp [intOf]
              omega
      · have dk : decide (i < n) = false := decide_eq_false hlt
        have HP2 := Lib.hid (show ∃ want got b g wv, ThInv n1 want got b.M g ∧ BOk b ∧ want.length ≤ 150 ∧ True ∧ ThAt B w n1 q m c5 c7 c8 c9 want got b g wv (fun _ => False) wr from by
          obtain ⟨want, got, b, gs, wv, h1, h2, h3, -, h4⟩ := HK.out
          exact ⟨want, got, b, gs, wv, h1, h2, by omega, trivial, h4⟩)
        clear HK hlt hi HZI
        go_wp2_with fail
        go_loopw [13] (fun v wx => ∃ b : Bx, (v = undef ∨ ∃ x : Nat, v = .int .i64 x ∧ x ≤ 360 ∧ leftM b.M < x) ∧ Hid (∃ want got g wv, ThInv n1 want got b.M g ∧ BOk b ∧ want.length ≤ 150 ∧ ThAt B w n1 q m c5 c7 c8 c9 want got b g wv (fun _ => False) wx)) (fun v _ => match v with | .int _ x => x.toNat | _ => 1000)
        case atStart =>
          obtain ⟨want, got, b, gs, wv, h1, h2, h3, -, h4⟩ := HP2.out
          exact ⟨b, Or.inl rfl, Lib.hid ⟨want, got, gs, wv, h1, h2, h3, h4⟩⟩
        case round =>
          obtain ⟨b, hv, HK2⟩ := hrel
          clear HP2
          obtain ⟨want, got, gs, wv, hinv, hok, hwl, hth⟩ := HK2.out
          have HT := Lib.hid hth
          have HIN := Lib.hid hinv
          have HOK := Lib.hid hok
          have HWL := Lib.hid hwl
          have HLE := Lib.hid (left_le hok)
          have HF := Lib.hid (fun W (hb : Below wr.heap.size wr W) => (hth.below HC.out hb).box.left HC.out hok)
          have s5 := hth.r5.cell 0 rfl
          clear HK2
          by_cases hz : leftM b.M = 0
          · have hM := left_zero hok hz
            have hgot := (th_none hinv hM).2
            rw [hz] at HF
            clear hinv hok hwl hv hz hM
            go_upto_region 24 with (first
              | (go_at_call 17; (with_reducible refine (HF.out _ (Below.refl _ _)).mono ?_); rintro e w6 ⟨rfl, hb⟩; have HT6 := Lib.hid (HT.out.below HC.out hb); clear hb s5))
            obtain ⟨ad8, c8', hv8, -⟩ := HT6.out.own.see
            have s8 := HT6.out.r8.cell 0 rfl
            have s9 := HT6.out.r9.cell 0 rfl
            rw [hv8] at s8
            have HBE := Lib.hid HT6.out.bel
            obtain ⟨nn, hnn⟩ : ∃ nn, nn = want.length := ⟨_, rfl⟩
            rw [← hnn] at s8 hgot
            subst hgot
            clear hnn hth hv8 HT HT6 HF
            go_wp2_with fail
            exact bodyPost_ret (v := .bool true) (by simp [results, Try.results4, go_sem]) rfl ⟨rfl, HBE.out⟩
          · have HTK := Lib.hid (fun W (hb : Below wr.heap.size wr W) => thtake_any HC.out (hth.below HC.out hb) hok hinv (by omega))
            have HNO := Lib.hid (nextB_ok hok)
            have HLN := Lib.hid (left_next hok)
            obtain ⟨l, hl2⟩ : ∃ l, leftM b.M = l := ⟨_, rfl⟩
            rw [hl2] at HF HLN HLE hv hz
            have dl : decide (0 < l) = true := decide_eq_true (by omega)
            have dl2 : decide ((0 : Int) < (l : Int)) = true := decide_eq_true (by omega)
            have HF2 := Lib.hid (fun W (h : ∃ got' g', ThInv n1 want got' (nextB b).1.M g' ∧ ThAt B w n1 q m c5 c7 c8 c9 want got' (nextB b).1 g' wv (fun _ => False) W) => (show Calls Try.prog 17 #[ptrB q] W fun e w' => e = .returned (.int .i64 (leftM (nextB b).1.M : Nat)) ∧ Below W.heap.size W w' from by
              obtain ⟨got', g', -, h2⟩ := h
              exact h2.box.left HC.out HNO.out))
            rw [HLN.out] at HF2
            have hzl : wrap64 ((l : Int) - 1) = ((l - 1 : Nat) : Int) := by have := HLE.out; rw [IntWalk.wrap64_in _ (by omega)]; omega
            have hzl2 : (l : Int) - 1 = ((l - 1 : Nat) : Int) := by omega
            have hen : ∀ args W, (callFunc 20 args).run Try.prog W = .ok (.enter 20 args) W := enters_of Try.func20 (by kernel_rfl) rfl
            generalize (nextB b).1 = b' at *
            clear hinv hok hwl
            go_upto_region 21 with (first
              | (go_at_call 17; (with_reducible refine (HF.out _ (Below.refl _ _)).mono ?_); rintro e w6 ⟨rfl, hb⟩; have HB6 := Lib.hid hb; have s5 := (HT.out.below HC.out hb).r5.cell 0 rfl; clear hb))
            go_upto_region 22 with (first
              | (go_at_call 17; (with_reducible refine (HF.out _ HB6.out).mono ?_); rintro e w7 ⟨rfl, hb⟩; have HB7 := Lib.hid (HB6.out.trans (hb.mono HB6.out.size)); clear hb s5))
            obtain ⟨l1, hl1⟩ : ∃ l1, l1 = l - 1 := ⟨_, rfl⟩
            rw [← hl1] at HF2 hzl hzl2 HLN
            have HL1 := Lib.hid hl1
            have hzl3 : wrap64 (l1 : Int) = (l1 : Int) := IntWalk.wrap64_in _ (by have := HLE.out; omega)
            clear hl1
            go_wp2_with (first
              | (go_at_fn 20; (with_reducible refine (HTK.out _ HB7.out).mono ?_); rintro e w8 ⟨rfl, ht'⟩; have HT8 := Lib.hid ht'; have s5 := (show w8.cell? ⟨c5, 0, none⟩ = some (ptrB q) from by obtain ⟨_, _, _, h⟩ := ht'; exact h.r5.cell 0 rfl); clear ht')
              | (go_at_call 17; (with_reducible refine (HF2.out _ HT8.out).mono ?_); rintro e w9 ⟨rfl, hb⟩; have HT9 := Lib.hid (show ∃ got' g', ThInv n1 want got' b'.M g' ∧ ThAt B w n1 q m c5 c7 c8 c9 want got' b' g' wv (fun _ => False) w9 from by obtain ⟨got', g', h1, h2⟩ := HT8.out; exact ⟨got', g', h1, h2.below HC.out hb⟩); clear hb))
            go_roundw
            case rel =>
              obtain ⟨got', g', h1, h2⟩ := HT9.out
              exact ⟨b', Or.inr ⟨l, rfl, HLE.out, by rw [HLN.out]; have := HL1.out; omega⟩, Lib.hid ⟨want, got', g', wv, h1, HNO.out, HWL.out, h2⟩⟩
            case measure =>
              have hle := HLE.out
              rcases hv with hv | ⟨x, hv, hx, hlx⟩
              · rw [hv]
                show (l : Int).toNat < 1000
                omega
              · rw [hv]
                show (l : Int).toNat < (x : Int).toNat
                omega
end Go.Proofs.Ytchjljmcgjlkiaa
