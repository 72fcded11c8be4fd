/-
The walk of HeardLast.
-/
import Derived.Test.YtmgfpnemamedoaaDoorHrdLastM
namespace Go.Proofs.YtmgfpnemamedoaaDoor
open Go.RowKit Go.Sort
set_option maxRecDepth 20000
theorem not_own23 {w0 W0 W : World} {p k : Nat} {R : List (ByteArray × Int)} {tv : Value} (h : H1 w0 p R tv W0) (hb : Below W0.heap.size W0 W) (hk : W0.heap.size ≤ k) : p ≠ k ∧ ∀ sv L, HdAt W p sv L → sv.ownBlock ≠ some k := by
  obtain ⟨L0, ⟨⟨sv0, h1, -⟩, -, -⟩, -⟩ := h.hd
  have hp := h1.lt
  refine ⟨by omega, fun sv L hd e => ?_⟩
  have e1 := (hb.cell (p := ⟨p, 0, none⟩) hp).trans (h1.row.cell 0 rfl)
  rw [hd.row.cell 0 rfl] at e1
  obtain rfl := Option.some.inj e1
  have := (h1.own.ge e).2
  omega
set_option maxHeartbeats 4000000 in
theorem hlast_any (a : Option Addr) (cap : Nat) (C : List (ByteArray × Int)) (w : World) (hCo : CodesOk w) (hE : CallsAt w a C) (hs : ∀ x ∈ C, x.1.size ≤ 140737488351232) :
    Calls Tryd.prog 3 #[.slice a C.length cap] w fun e w' => e = .returned (.bool true) ∧ Below w.heap.size w w' := by
  have HAW := Lib.hid (fun W (hb : Below w.heap.size w W) => cawake23 W (hCo.below hb))
  have HB0 := Lib.hid (Below.refl w.heap.size w)
  by_cases h60 : 60 < C.length
  · have d2 : decide ((60 : Int) < (C.length : Int)) = true := decide_eq_true (by omega)
    clear hE hs hCo h60
    go_enter Tryd.func3, Tryd.ntmps3
    go_wp2_with (go_at_call 5; (with_reducible refine (HAW.out _ HB0.out).mono ?_); rintro e w1 ⟨rfl, hb⟩; have HB1 := Lib.hid (HB0.out.trans (hb.mono HB0.out.size)); clear hb)
    exact bodyPost_ret (v := .bool true) (by simp [results, Tryd.results3, go_sem]) rfl ⟨rfl, HB1.out⟩
  have d2 : decide ((60 : Int) < (C.length : Int)) = false := decide_eq_false (by omega)
  have hl60 : C.length ≤ 60 := by omega
  have rx : rightD ⟨#[88]⟩ 0 = true := by decide +kernel
  have HE := Lib.hid hE
  have HS := Lib.hid hs
  have HNE := Lib.hid (fun W => cnew23 W)
  have HVI := Lib.hid (fun cb cn W (h : ByteArray.size cb ≤ 140737488351232) => via23 ⟨#[88]⟩ cb 0 cn W rx (by decide) h)
  have HEN := Lib.hid (fun cb cn da dc W (hb : Below w.heap.size w W) hE (hf : rightD cb cn = true) => enc23 ⟨#[88]⟩ cb 0 cn da dc W (hCo.below hb) hE rx hf)
  have HHE := Lib.hid (fun (W : World) (p : Nat) (R : List (ByteArray × Int)) (tv : Value) (h : H1 w p R tv W) (k : Nat) (X : List Value) (hk : RowAt W k X) (hX : 0 < X.length) hpk hnk (cb : ByteArray) (cn now : Int) (hf : rightD cb cn = true) => h.hear hk hX hpk hnk ⟨#[88]⟩ cb 0 cn now rx hf)
  have HRN := Lib.hid (right_next C)
  have HRL := Lib.hid (right_le C)
  clear hE hs hCo h60 rx
  go_enter Tryd.func3, Tryd.ntmps3
  go_wp2_with (first
    | (go_at_call 5; (with_reducible refine (HAW.out _ HB0.out).mono ?_); rintro e w1 ⟨rfl, hb⟩; have HB1 := Lib.hid (HB0.out.trans (hb.mono HB0.out.size)); clear hb)
    | (go_at_call 6; (with_reducible refine (HNE.out _).mono ?_); rintro e w2 ⟨⟨p, rfl, hge, hd⟩, hb⟩; have H0 := Lib.hid (show H1 w p (rightL (C.take 0)) (.slice none 0 0) w2 from ⟨⟨[], HdO.start HB1.out hge hd hb, rfl⟩, OwnL.nil _ _ _ _, fun e => by cases e⟩); clear hge hd hb))
  go_loopw [4, 23] (fun tv iv wx => ∃ k : Nat, k ≤ C.length ∧ iv = .int .i64 k ∧ Hid (H1 w p (rightL (C.take k)) tv wx)) (fun _ iv _ => C.length - (intOf iv).toNat)
  case atStart => exact ⟨0, Nat.zero_le _, rfl, H0⟩
  case round =>
    obtain ⟨k, hk, rfl, HQ⟩ := hrel
    clear H0
    by_cases hlt : k < C.length
    · have dk : decide ((k : Int) < (C.length : Int)) = true := decide_eq_true (by omega)
      obtain ⟨g, o, rfl, hg, c0, c1⟩ := (HE.out.below HQ.out.bel) k hlt
      have hrn := HRN.out k hlt
      have hsz := HS.out _ (List.getElem_mem hlt)
      have hfew : (rightL (C.take k)).length ≤ 60 := Nat.le_trans (HRL.out k) (by omega)
      generalize C[k] = c at *
      obtain ⟨cb, cn⟩ := c
      simp only at c0 c1 hrn hsz
      have HVC := Lib.hid (fun W => HVI.out cb cn W hsz)
      have HQ0 := Lib.hid (HQ.out.alloc (.cells #[.string cb, .int .i64 cn] 27))
      have HK0 := Lib.hid (RowAt.new wr wr.heap.size rfl [.string cb, .int .i64 cn] 27)
      have HBK0 := Lib.hid ((Below.refl wr.heap.size wr).alloc (Nat.le_refl _) (.cells #[.string cb, .int .i64 cn] 27))
      clear hsz
      cases hr : rightD cb cn with
      | false =>
        rw [hr] at hrn HVC
        simp only [Bool.false_eq_true, if_false] at hrn HVC
        have HRR := Lib.hid hrn
        clear hr hrn
        go_wp2_with (go_at_call 7; (with_reducible refine (HVC.out _).mono ?_); rintro e w3 ⟨rfl, hb⟩; have HQ1 := Lib.hid ((HQ0.out.below hb).alloc (.cells #[.string ⟨#[]⟩, .int .i64 0, .string ⟨#[]⟩, .int .i64 0, .bool false, .bool false, .slice none 0 0] 30)); clear hb)
        go_roundw
        case rel => exact ⟨k + 1, by omega, by go_num, HRR.out ▸ HQ1⟩
        case measure =>
          simp [intOf]
          omega
      | true =>
        rw [hr] at hrn HVC
        simp only [if_true] at hrn HVC
        have HRR := Lib.hid hrn
        have HEC := Lib.hid (fun da dc W hb hE => HEN.out cb cn da dc W hb hE hr)
        have HHC := Lib.hid (fun W (h : H1 w p (rightL (C.take k)) u4 W) hk hpk hnk => HHE.out W p (rightL (C.take k)) u4 h wr.heap.size [.string cb, .int .i64 cn] hk (by simp) hpk hnk cb cn (k : Int) hr)
        obtain ⟨S, hS⟩ : ∃ S, S = uaS ⟨#[88]⟩ cb 0 cn := ⟨_, rfl⟩
        rw [← hS] at HEC HHC
        have hrr := hr
        clear hr hrn hS
        generalize rightL (C.take k) = R at *
        go_upto_region 13 with (first
          | (go_at_call 7; (with_reducible refine (HVC.out _).mono ?_); rintro e w3 ⟨⟨da, dc, rfl, hE⟩, hb⟩; have HQ1 := Lib.hid ((HQ0.out.below hb).alloc (.cells #[.string ⟨#[88]⟩, .int .i64 0, .string cb, .int .i64 cn, .bool true, .bool false, .slice da 0 dc] 30)); have HK1 := Lib.hid ((HK0.out.below hb).alloc (.cells #[.string ⟨#[88]⟩, .int .i64 0, .string cb, .int .i64 cn, .bool true, .bool false, .slice da 0 dc] 30)); have HBK1 := Lib.hid ((HBK0.out.trans (hb.mono HBK0.out.size)).alloc (Nat.le_trans HBK0.out.size hb.size) (.cells #[.string ⟨#[88]⟩, .int .i64 0, .string cb, .int .i64 cn, .bool true, .bool false, .slice da 0 dc] 30)); have HE1 := Lib.hid (hE.alloc (.cells #[.string ⟨#[88]⟩, .int .i64 0, .string cb, .int .i64 cn, .bool true, .bool false, .slice da 0 dc] 30)); have HP1 := Lib.hid (RowAt.new w3 w3.heap.size rfl [.string ⟨#[88]⟩, .int .i64 0, .string cb, .int .i64 cn, .bool true, .bool false, .slice da 0 dc] 30); clear hb hE; have p0 := HP1.out.cell 0 rfl; have p1 := HP1.out.cell 1 rfl; have p2 := HP1.out.cell 2 rfl; have p3 := HP1.out.cell 3 rfl; have p4 := HP1.out.cell 4 rfl; have p5 := HP1.out.cell 5 rfl; have p6 := HP1.out.cell 6 rfl)
          | (go_at_call 8; (with_reducible refine (HEC.out da dc _ HQ1.out.bel HE1.out).mono ?_); rintro e w4 ⟨rfl, hb⟩; clear p0 p1 p2 p3 p4 p5 p6; have HQ2 := Lib.hid (HQ1.out.below hb); have HK2 := Lib.hid (HK1.out.below hb); have HBK2 := Lib.hid (HBK1.out.trans (hb.mono HBK1.out.size)); clear hb))
        obtain ⟨hpk, hnk⟩ := not_own23 HQ.out HBK2.out.drew (Nat.le_refl _)
        obtain ⟨ta, tl, tc, htv⟩ := OwnL.form' HQ.out.own
        subst htv
        have hz : (cb, cn) = ((cb, cn) : ByteArray × Int) := rfl
        have heq := fun W => run_eq_call18 cb cb cn cn W true (decide_eq_true hz).symm
        refine wp_region_held (S := fun W' => RowAt W' wr.heap.size [.string cb, .int .i64 cn]) (by kernel_rfl) ?_
        change wpAnyH _ _ _ _ _ _ _ _ (World.drew _)
        have HQ3 := Lib.hid (HQ2.out.below ((Below.refl _ w4).drew))
        have HB := Lib.hid HK2.out.drew
        have HPK := Lib.hid hpk
        have HNK := Lib.hid hnk
        clear hpk hnk hz HQ2 HK2 HBK2 HQ1 HK1 HBK1 HE1 HP1 HQ0 HK0 HBK0
        generalize World.drew _ = W3 at *
        refine wpAnyH_take (i := 0) (v := ?_) rfl (by kernel_rfl) (by kernel_rfl) (by kernel_rfl) (fun _ _ _ h => h) (Or.inl ⟨by rfl, ?_⟩) HB.out ?_
        rotate_left
        · intro w' hw'
          go_simp
          with_reducible rfl
        go_simp
        refine wpAnyH_take (i := 1) (v := ?_) rfl (by kernel_rfl) (by kernel_rfl) (by kernel_rfl) (fun _ _ _ h => h) (Or.inl ⟨by rfl, ?_⟩) HB.out ?_
        rotate_left
        · intro w' hw'
          go_simp
          with_reducible rfl
        go_simp
        refine wpAnyH_take (i := 2) (v := ?_) rfl (by kernel_rfl) (by kernel_rfl) (by kernel_rfl) (fun _ _ _ h => h) (Or.inl ⟨by rfl, ?_⟩) HB.out ?_
        rotate_left
        · intro w' hw'
          go_simp
          with_reducible rfl
        go_simp
        refine wpAnyH_ready (rs := [3]) (by kernel_rfl) (by simp) ?_
        refine AllReadyH.cons rfl (fun K hK => ?_) AllReadyH.nil
        go_simp
        go_at_call 9
        refine (HHC.out W3 HQ3.out HB.out HPK.out HNK.out).mono ?_
        rintro e w5 ⟨rfl, ⟨L, hH2, x, M, hLx, hx⟩, hk5⟩
        subst hLx
        have HH5 := Lib.hid hH2
        clear hH2 HB
        have HB := Lib.hid hk5
        clear hk5
        change K _ _
        refine hK.out _ _ HB.out (fun _ => ?_)
        clear hK K
        refine wpAnyH_take (i := 4) (v := ?_) rfl (by kernel_rfl) (by kernel_rfl) (by kernel_rfl) (fun _ _ _ h => h) (Or.inl ⟨by rfl, ?_⟩) HB.out ?_
        rotate_left
        · intro w' hw'
          go_simp
          with_reducible rfl
        go_simp
        refine wpAnyH_take (i := 5) (v := ?_) rfl (by kernel_rfl) (by kernel_rfl) (by kernel_rfl) (fun _ _ _ h => h) (Or.inl ⟨by rfl, ?_⟩) HB.out ?_
        rotate_left
        · intro w' hw'
          go_simp
          with_reducible rfl
        go_simp
        refine wpAnyH_take (i := 6) (v := ?_) rfl (by kernel_rfl) (by kernel_rfl) (by kernel_rfl) (fun _ _ _ h => h) (Or.inl ⟨by rfl, ?_⟩) HB.out ?_
        rotate_left
        · intro w' hw'
          go_simp
          with_reducible rfl
        go_simp
        refine wpAnyH_take (i := 11) (v := ?_) rfl (by kernel_rfl) (by kernel_rfl) (by kernel_rfl) (fun _ _ _ h => h) (Or.inl ⟨by rfl, ?_⟩) HB.out ?_
        rotate_left
        · intro w' hw'
          have x0 := hw'.cell 0 rfl; have x1 := hw'.cell 1 rfl
          go_simp
          with_reducible rfl
        go_simp
        refine wpAnyH_ready (rs := [7]) (by kernel_rfl) (by simp) ?_
        refine AllReadyH.cons rfl (fun K hK => ?_) AllReadyH.nil
        go_simp
        go_at_call 10
        refine (HH5.out.all hx).mono ?_
        rintro e w6 ⟨⟨g6, n6, cap6, rfl, y0, y1⟩, hb⟩
        have HK6 := Lib.hid (HB.out.below hb)
        have HH6 := Lib.hid (HH5.out.below hb)
        clear HB
        have HB := Lib.hid HK6.out
        clear hb
        change K _ _
        refine hK.out _ _ HB.out (fun _ => ?_)
        clear hK K
        refine wpAnyH_take (i := 8) (v := ?_) rfl (by kernel_rfl) (by kernel_rfl) (by kernel_rfl) (fun _ _ _ h => h) (Or.inl ⟨by rfl, ?_⟩) HB.out ?_
        rotate_left
        · intro w' hw'
          go_simp
          with_reducible rfl
        go_simp
        refine wpAnyH_take (i := 9) (v := ?_) rfl (by kernel_rfl) (by kernel_rfl) (by kernel_rfl) (fun _ _ _ h => h) (Or.inl ⟨by rfl, ?_⟩) HB.out ?_
        rotate_left
        · intro w' hw'
          go_simp
          with_reducible rfl
        go_simp
        refine wpAnyH_ready (rs := [10]) (by kernel_rfl) (by simp) ?_
        refine AllReadyH.cons rfl (fun K hK => ?_) AllReadyH.nil
        go_simp
        refine hK.out _ _ HB.out (fun _ => ?_)
        clear hK K
        refine wpAnyH_take (i := 12) (v := ?_) rfl (by kernel_rfl) (by kernel_rfl) (by kernel_rfl) (fun _ _ _ h => h) (Or.inl ⟨by rfl, ?_⟩) HB.out ?_
        rotate_left
        · intro w' hw'
          go_simp
          with_reducible rfl
        go_simp
        refine wpAnyH_take (i := 13) (v := ?_) rfl (by kernel_rfl) (by kernel_rfl) (by kernel_rfl) (fun _ _ _ h => h) (Or.inl ⟨by rfl, ?_⟩) HB.out ?_
        rotate_left
        · intro w' hw'
          go_simp
          with_reducible rfl
        go_simp
        refine wpAnyH_done (by kernel_rfl) ?_ _
        clear y0 y1 HB
        have x0 := HK6.out.cell 0 rfl
        have x1 := HK6.out.cell 1 rfl
        have HM6 := Lib.hid (AtL.made encCl 27 w6 w6.heap.size (cb, cn) [.string cb, .int .i64 cn] rfl rfl)
        have HH7 := Lib.hid (HH6.out.below ((Below.refl _ w6).alloc (Nat.le_refl _) (.cells #[.string cb, .int .i64 cn] 27)))
        go_wp2_with (at_builtin; refine wpList_append_one encCl 27 22 Tryd.underlying22 infoCl rfl (by decide) _ rfl (.tmp 57) (.tmp 59) rfl w.heap.size (.slice ta tl tc) R rfl HH7.out.own w6.heap.size 1 rfl (cb, cn) HM6.out (by omega) HH7.out.hd.bel.size ?_; intro v2 w8 hown hgr hwh; have HQ8 := Lib.hid (HH7.out.note hown hgr hwh); clear hown hgr hwh x0 x1)
        go_roundw
        case rel => exact ⟨k + 1, by omega, by go_num, HRR.out ▸ HQ8⟩
        case measure =>
          simp [intOf]
          omega
    · obtain rfl : k = C.length := by omega
      have dk : decide ((C.length : Int) < (C.length : Int)) = false := decide_eq_false (by omega)
      have hfew : (rightL (C.take C.length)).length ≤ 60 := Nat.le_trans (HRL.out _) (by omega)
      have hright : ∀ c ∈ rightL (C.take C.length), rightD c.1 c.2 = true := fun c hc => (List.mem_filter.1 hc).2
      generalize rightL (C.take C.length) = R at *
      obtain ⟨va, vn, vc, htv⟩ := OwnL.form' HQ.out.own
      obtain ⟨sa, sc, htv2, hat⟩ := HQ.out.own.see
      subst htv
      simp only [Value.slice.injEq] at htv2
      obtain ⟨rfl, rfl, rfl⟩ := htv2
      have HH0 := Lib.hid (show H3 w p wr.heap.size R (.slice va R.length vc) 0 [] (wr.alloc (.map #[] 0)) from ⟨HQ.out.alloc _, SeAt.made wr, rfl, HQ.out.bel.size, fun e => by
        obtain ⟨L0, ⟨⟨sv0, h1, -⟩, -, -⟩, -⟩ := HQ.out.hd
        have := h1.lt
        omega⟩)
      have hmm := @run_makeMap Tryd.prog
      have hz0 : IntKind.i64.wrap ((R.length : Int) - 1) = (R.length : Int) - 1 := i64_near _ (by omega) (by omega)
      obtain ⟨N, hN⟩ : ∃ N, N = (nubL R.reverse).length := ⟨_, rfl⟩
      have HRT := Lib.hid hright
      clear hat HQ hright HAW HNE HVI HEN HHE HRN HRL HS HE
      go_wp2_with fail
      generalize wr.alloc (.map #[] 0) = wm at *
      generalize wr.heap.size = m at *
      go_loopw [12] (fun iv wx => ∃ (j : Nat) (A : List (ByteArray × Int)), j ≤ R.length ∧ iv = .int .i64 ((R.length : Int) - 1 - j) ∧ Hid (H3 w p m R (.slice va R.length vc) j A wx)) (fun iv _ => (intOf iv + 1).toNat)
      case atStart => exact ⟨0, [], Nat.zero_le _, by simp, HH0⟩
      case round =>
        obtain ⟨j, A, hj, hiv, HQ⟩ := hrel
        clear HH0
        by_cases hlt2 : j < R.length
        · obtain ⟨i, hi⟩ : ∃ i, i + 1 + j = R.length := ⟨R.length - 1 - j, by omega⟩
          have e : ((R.length : Int) - 1 - j) = (i : Int) := by omega
          rw [e] at hiv
          subst hiv
          have hil : i < R.length := by omega
          have hz1 : IntKind.i64.wrap ((i : Int) - 1) = (i : Int) - 1 := i64_near _ (by omega) (by omega)
          have HIV := Lib.hid (show (i : Int) - 1 = (R.length : Int) - 1 - ((j + 1 : Nat) : Int) by omega)
          have d0 : decide ((0 : Int) ≤ (i : Int)) = true := decide_eq_true (by omega)
          obtain ⟨g, c', hv, -, -, hat⟩ := HQ.out.h.own.some_ (by omega)
          simp only [Value.slice.injEq] at hv
          obtain ⟨rfl, -, rfl⟩ := hv
          have HAT := Lib.hid (fun W (h : H3 w p m R (.slice (some ⟨g, 0, none⟩) R.length vc) j A W) => show W.cell? ⟨g, i * 2, none⟩ = some (.string R[i].1) ∧ W.cell? ⟨g, i * 2 + 1, none⟩ = some (.int .i64 R[i].2) from by
            obtain ⟨g', c', hv, -, -, hat⟩ := h.h.own.some_ (by omega)
            simp only [Value.slice.injEq, Option.some.injEq, Addr.mk.injEq, and_true, true_and] at hv
            obtain ⟨rfl, rfl⟩ := hv
            have c0 := hat.get i hil 0 (u := .string R[i].1) rfl
            have c1 := hat.get i hil 1 (u := .int .i64 R[i].2) rfl
            simp only [show encCl.n = 2 from rfl, Nat.zero_add, Nat.add_zero] at c0 c1
            exact ⟨c0, c1⟩)
          have hrr := HRT.out R[i] (List.getElem_mem hil)
          have hlk := HQ.out.seen.look R[i] hrr
          have HOLD := Lib.hid (fun hn => HQ.out.old hil hi hn)
          have HTH := Lib.hid (fun hn => HQ.out.there hil hi hn)
          have hfa := HQ.out.few
          have HPUT := Lib.hid (fun W (h : H3 w p m R (.slice (some ⟨g, 0, none⟩) R.length vc) j A W) hn => h.mark hil hi hn hrr (by omega))
          have HLN := Lib.hid (fun W (h : H3 w p m R (.slice (some ⟨g, 0, none⟩) R.length vc) j A W) ty => h.seen.len ty)
          have HFI := Lib.hid (fun W (h : H3 w p m R (.slice (some ⟨g, 0, none⟩) R.length vc) j A W) => h.h.find R[i].1 R[i].2)
          obtain ⟨c0, c1⟩ := HAT.out wr HQ.out
          clear hat hrr hi e
          generalize R[i] = y at *
          obtain ⟨yb, yn⟩ := y
          simp only at c0 c1 hlk HFI HAT HTH HPUT
          obtain ⟨n, hn⟩ : ∃ n, n = R.length := ⟨_, rfl⟩
          cases hin : inL (yb, yn) A with
          | true =>
            rw [hin] at hlk
            have HO := Lib.hid (HOLD.out hin)
            clear HOLD HTH HPUT HLN HFI HAT hin HQ
            go_wp2_with fail
            go_roundw
            case rel => exact ⟨j + 1, A, by omega, by rw [HIV.out], HO⟩
            case measure =>
              simp [intOf]
          | false =>
            rw [hin] at hlk
            have hth := HTH.out hin
            obtain ⟨r, hr⟩ : ∃ r, r = decide (A.length < 8) := ⟨_, rfl⟩
            rw [hth, ← hr] at HFI
            have hr2 : decide ((A.length : Int) < 8) = r := by rw [hr]; exact decide_eq_decide.2 (by omega)
            have HPU := Lib.hid (fun W h => HPUT.out W h hin)
            clear HOLD HTH HPUT hin hth hr
            go_wp2_with (first
              | (go_at_call 11; (with_reducible refine (HFI.out _ HQ.out).mono ?_); rintro e w6 ⟨⟨xb, xn, zb, zn, xc, xt, rfl⟩, hb⟩; have HQ6 := Lib.hid ((HQ.out.below hb).below ((Below.refl _ w6).alloc (Nat.le_refl _) (.cells #[.string xb, .int .i64 xn, .string zb, .int .i64 zn, .int .i64 xc, .int .i64 xt] 42))); clear hb c0 c1; obtain ⟨c0, c1⟩ := HAT.out _ HQ6.out; have hln := HLN.out _ HQ6.out; obtain ⟨w7, hup, hq7⟩ := HPU.out _ HQ6.out; have HQ7 := Lib.hid hq7; clear hq7))
            go_roundw
            case rel => exact ⟨j + 1, _, by omega, by rw [HIV.out], HQ7⟩
            case measure =>
              simp [intOf]
        · obtain rfl : j = R.length := by omega
          have hA : A = nubL R.reverse := by rw [HQ.out.see, List.take_of_length_le (by rw [List.length_reverse]; omega), see_all]
          have e : ((R.length : Int) - 1 - (R.length : Int)) = -1 := by omega
          rw [e] at hiv
          subst hiv
          rw [← hA] at hN
          have hfa := HQ.out.few
          have hall := HQ.out.h.len
          rw [← hA, ← hN] at hall
          have HLN := Lib.hid (fun W (h : H3 w p m R (.slice va R.length vc) R.length A W) ty => h.seen.len ty)
          rw [← hN] at HLN
          have HALL := Lib.hid hall
          have heqN : (((min 8 N : Nat) : Int) == min 8 (N : Int)) = true := beq_iff_eq.2 (by omega)
          clear hall hA hlt2 e hN hfa
          go_wp2_with (go_at_call 10; (with_reducible refine HALL.out.mono ?_); rintro e w6 ⟨⟨a6, c6, rfl⟩, hb⟩; have HQ6 := Lib.hid (HQ.out.below hb); clear hb; have hln := HLN.out _ HQ6.out)
          exact bodyPost_ret (v := .bool true) (by simp [results, Tryd.results3, go_sem]) rfl ⟨rfl, HQ6.out.h.bel⟩
end Go.Proofs.YtmgfpnemamedoaaDoor
