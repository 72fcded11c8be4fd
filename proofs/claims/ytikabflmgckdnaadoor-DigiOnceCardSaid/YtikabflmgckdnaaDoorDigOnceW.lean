/-
The walk of DigiOnce.
-/
import Derived.Test.YtikabflmgckdnaaDoorDigOnceM
namespace Go.Proofs.YtikabflmgckdnaaDoor
open Go.RowKit Go.Sort
set_option maxRecDepth 20000
set_option maxHeartbeats 1000000 in
theorem dionce_no {D : DiP} (hD : DiC D) (s : ByteArray) (w : World) (hC : CodesOk w) (h : 1000 < s.size ∨ decB s.data.toList = false) : Calls Tryd.prog 4 #[.string s] w fun e w' => e = .returned (.bool true) ∧ Below w.heap.size w w' := by
  have HAW := Lib.hid (cawake18 hD w hC)
  have HGR := Lib.hid (fun W => great18 (some ⟨W.heap.size, 0, none⟩) 1 1 [s] (W.alloc (.cells #[.string s] 9)) rfl (AtL.made encS 9 W W.heap.size s [.string s] rfl rfl))
  rw [great_one] at HGR
  have HDE := Lib.hid (fun W h => rdecs18 s W h)
  clear hD hC
  cases hg : decide (1000 < s.size) with
  | true =>
    rw [hg] at HGR
    clear hg HDE h
    go_enter Tryd.func4, Tryd.ntmps4
    go_wp2_with (first
      | (go_at_call 6; (with_reducible refine HAW.out.mono ?_); rintro e w1 ⟨rfl, hb⟩; have HB1 := Lib.hid (hb.alloc hb.size (.cells #[.string s] 9)); clear hb)
      | (go_at_call 7; (with_reducible refine (HGR.out _).mono ?_); rintro e w2 ⟨rfl, rfl⟩))
    exact bodyPost_ret (v := .bool true) (by simp [results, Tryd.results4, go_sem]) rfl ⟨rfl, HB1.out⟩
  | false =>
    have hg' := hg
    rw [decide_eq_false_iff_not] at hg'
    have hd : decB s.data.toList = false := h.resolve_left hg'
    rw [hg] at HGR
    rw [hd] at HDE
    have HDE2 := Lib.hid (fun W => HDE.out W (by omega))
    clear hg h hd hg' HDE
    go_enter Tryd.func4, Tryd.ntmps4
    go_wp2_with (first
      | (go_at_call 6; (with_reducible refine HAW.out.mono ?_); rintro e w1 ⟨rfl, hb⟩; have HB1 := Lib.hid (hb.alloc hb.size (.cells #[.string s] 9)); clear hb)
      | (go_at_call 7; (with_reducible refine (HGR.out _).mono ?_); rintro e w2 ⟨rfl, rfl⟩)
      | (go_at_call 17; (with_reducible refine (HDE2.out _).mono ?_); rintro e w3 ⟨rfl, hb⟩; have HB3 := Lib.hid (HB1.out.trans (hb.mono HB1.out.size)); clear hb))
    exact bodyPost_ret (v := .bool true) (by simp [results, Tryd.results4, go_sem]) rfl ⟨rfl, HB3.out⟩
/-- what holds behind k digipeaters -/
def OnS (w : World) (Fr k : Nat) (s : ByteArray) (pb : Nat) (W : World) : Prop :=
  decB s.data.toList = true ∧ s.size ≤ 1000 ∧ freeN ((pathL s.data.toList).drop 2) + k = Fr ∧ ∃ g o gc, OnK w (pathL s.data.toList) pb g o gc W
set_option maxHeartbeats 8000000 in
theorem dionce_yes {D : DiP} (hD : DiC D) (s : ByteArray) (w : World) (hC : CodesOk w) (hs : s.size ≤ 1000) (hd : decB s.data.toList = true) : Calls Tryd.prog 4 #[.string s] w fun e w' => e = .returned (.bool true) ∧ Below w.heap.size w w' := by
  have HAW := Lib.hid (cawake18 hD w hC)
  have HGR := Lib.hid (fun W => great18 (some ⟨W.heap.size, 0, none⟩) 1 1 [s] (W.alloc (.cells #[.string s] 9)) rfl (AtL.made encS 9 W W.heap.size s [.string s] rfl rfl))
  rw [great_one, decide_eq_false (by omega)] at HGR
  have HDE := Lib.hid (fun W => rdecs18 s W (by omega))
  rw [hd] at HDE
  have HGE := Lib.hid (fun W => rget18 s hd W)
  have HD := Lib.hid hD
  have HC := Lib.hid hC
  have hr := path_right hd
  obtain ⟨-, hl2, hl10, -⟩ := right_path _ hr
  have HS0 := Lib.hid (And.intro hd hs)
  clear hr hd hs hD hC
  obtain ⟨L, hL⟩ : ∃ L, L = pathL s.data.toList := ⟨_, rfl⟩
  rw [← hL] at HGE hl2 hl10
  have HLL := Lib.hid hL
  clear hL
  go_enter Tryd.func4, Tryd.ntmps4
  go_wp2_with (first
    | (go_at_call 6; (with_reducible refine HAW.out.mono ?_); rintro e w1 ⟨rfl, hb⟩; have HB1 := Lib.hid (hb.alloc hb.size (.cells #[.string s] 9)); clear hb)
    | (go_at_call 7; (with_reducible refine (HGR.out _).mono ?_); rintro e w2 ⟨rfl, rfl⟩)
    | (go_at_call 17; (with_reducible refine (HDE.out _).mono ?_); rintro e w3 ⟨rfl, hb⟩; have HB3 := Lib.hid (HB1.out.trans (hb.mono HB1.out.size)); clear hb)
    | (go_at_call 18; (with_reducible refine (HGE.out _).mono ?_); rintro e w4 ⟨⟨ga, gc, rfl, hE⟩, hb⟩; obtain ⟨g, o, rfl, hg⟩ := hE.some_ (by omega); have HK1 := Lib.hid (OnK.new (HB3.out.trans (hb.mono HB3.out.size)) hE hg 46); clear hb hE hg))
  clear HAW HGR HDE HGE HB1 HB3
  obtain ⟨pb, hpb⟩ : ∃ pb, pb = w4.heap.size := ⟨_, rfl⟩
  rw [← hpb] at HK1 ⊢
  clear hpb
  generalize w4.alloc (.cells #[.slice (some ⟨g, o, none⟩) L.length gc] 46) = W1 at *
  go_loopw [6, 7] (fun lv iv wx => ∃ i : Nat, 2 ≤ i ∧ i ≤ L.length ∧ iv = .int .i64 i ∧ lv = .int .i64 (freeK L i : Nat) ∧ W1 = wx) (fun _ iv _ => L.length - (intOf iv).toNat)
  case atStart => exact ⟨2, Nat.le_refl _, hl2, rfl, by rw [freeK_two]; rfl, by first | rfl | trivial⟩
  case round =>
    obtain ⟨i, hi2, hi, rfl, rfl, rfl⟩ := hrel
    have x0 := HK1.out.box.cell 0 rfl
    by_cases hlt : i < L.length
    · have dk : decide (i < L.length) = true := decide_eq_true hlt
      have dk2 : decide ((i : Int) < (L.length : Int)) = true := decide_eq_true (by omega)
      have HZI := Lib.hid (show wrap64 ((i : Int) + 1) = (i : Int) + 1 from IntWalk.wrap64_in _ (by omega))
      have hfl := freeK_le L i
      have HFN := Lib.hid (freeK_next L i hi2 hlt)
      obtain ⟨-, -, c2⟩ := HK1.out.call i hlt
      have hzf : wrap64 ((freeK L i : Int) + 1) = (freeK L i : Int) + 1 := IntWalk.wrap64_in _ (by omega)
      cases hm : L[i].2.2 with
      | true =>
        rw [hm] at c2
        have HFM := Lib.hid (show freeK L (i + 1) = freeK L i from by rw [HFN.out, hm]; rfl)
        clear hm hzf HFN
        go_wp2_with fail
        go_roundw
        case rel => exact ⟨i + 1, by omega, by omega, (by (try rw [HZI.out]); rfl), by rw [HFM.out], by first | rfl | trivial⟩
        case measure =>
          try rw [HZI.out]
          simp [intOf]
          omega
      | false =>
        rw [hm] at c2
        have HFM := Lib.hid (show freeK L (i + 1) = freeK L i + 1 from by rw [HFN.out, hm]; rfl)
        clear hm HFN
        go_wp2_with fail
        go_roundw
        case rel => exact ⟨i + 1, by omega, by omega, (by (try rw [HZI.out]); rfl), by rw [HFM.out]; rfl, by first | rfl | trivial⟩
        case measure =>
          try rw [HZI.out]
          simp [intOf]
          omega
    · have dk : decide (i < L.length) = false := decide_eq_false hlt
      have dk2 : decide ((i : Int) < (L.length : Int)) = false := decide_eq_false (by omega)
      obtain rfl : i = L.length := by omega
      rw [freeK_all]
      obtain ⟨Fr, hFr⟩ : ∃ Fr, Fr = freeN (L.drop 2) := ⟨_, rfl⟩
      rw [← hFr]
      have hFr10 : Fr ≤ 10 := by
        rw [hFr, ← freeK_all]
        exact Nat.le_trans (freeK_le L _) hl10
      have HS1 := Lib.hid (show OnS w Fr 0 s pb W1 from ⟨HS0.out.1, HS0.out.2, by rw [← HLL.out, hFr]; rfl, g, o, gc, by rw [← HLL.out]; exact HK1.out⟩)
      clear hFr HS0
      go_wp2_with fail
      clear HK1 HLL hl2 hl10 dk dk2 x0 hi hi2 hlt
      go_loopw [0, 8] (fun sv kv wx => ∃ (k : Nat) (s : ByteArray), k ≤ Fr ∧ kv = .int .i64 k ∧ sv = .string s ∧ Hid (OnS w Fr k s pb wx)) (fun _ kv _ => Fr - (intOf kv).toNat)
      case atStart => exact ⟨0, s, Nat.zero_le _, rfl, rfl, HS1⟩
      case round =>
        obtain ⟨k, s, hk, rfl, rfl, HS⟩ := hrel
        clear HS1
        obtain ⟨hd, hs, hfr, g, o, gc, hK⟩ := HS.out
        have HK := Lib.hid hK
        have hr := path_right hd
        obtain ⟨hrr, hl2, hl10, hoo⟩ := right_path _ hr
        have hfo := free_ord _ hoo
        rw [List.length_drop] at hfo
        have HZK := Lib.hid (show wrap64 ((k : Int) + 1) = (k : Int) + 1 from IntWalk.wrap64_in _ (by omega))
        clear HS hK
        by_cases hlk : k < Fr
        · have dk : decide (k < Fr) = true := decide_eq_true hlk
          have dk2 : decide ((k : Int) < (Fr : Int)) = true := decide_eq_true (by omega)
          obtain ⟨e, hx⟩ : ∃ e, (pathL s.data.toList)[2 + fstD ((pathL s.data.toList).drop 2)]? = some e := ⟨_, List.getElem?_eq_getElem (show 2 + fstD ((pathL s.data.toList).drop 2) < (pathL s.data.toList).length by omega)⟩
          obtain ⟨t, ht1, ht2, ht3, ht4, pre, c, c', post, hS, hT, hc, hc'⟩ := once_step hd hx
          obtain ⟨T, hTT⟩ : ∃ T : ByteArray, T = ⟨t.toArray⟩ := ⟨_, rfl⟩
          have hTl : T.data.toList = t := by rw [hTT]
          rw [← hTl] at ht1 ht2 ht3 ht4 hT
          obtain ⟨t1, t2, t3, t4, t5⟩ := two_texts18 s T pre post c c' hS hT
          have hsay : sayD (T.data.toList, 0) = .tuple #[.string T, .bool true] := by
            show Value.tuple #[.string ⟨T.data.toList.toArray⟩, .bool true] = _
            rw [Array.toArray_toList]
          have hon := fun W d K (h : DiO D w d [(e.1, e.2.1)] (0, 0, 0) K W) => h.on HD.out HC.out s hs ⟨Nat.zero_le _, Nat.zero_le _, Nat.zero_le _⟩
          rw [ht1, hsay] at hon
          have hnx := fun W h => rnext_any (some ⟨g, o, none⟩) gc (pathL s.data.toList) W (by omega) hl2 h
          rw [nxt_yes _ e hx] at hnx
          obtain ⟨hX, hXe⟩ := List.getElem?_eq_some_iff.1 hx
          have hfo' := fun W hb => HD.out.for_ W (pathL s.data.toList)[0].1 (pathL s.data.toList)[0].2.1 s (HC.out.below hb) hs
          rw [for_not hx] at hfo'
          have hdt := fun W hb => HD.out.decodes W T (HC.out.below hb) (by omega)
          rw [ht2] at hdt
          have HGT := Lib.hid (fun W => rget18 T ht2 W)
          have hpt2 : 0 < (pathL T.data.toList).length := by rw [ht3, sentL_len]; omega
          have hme : madeD [(e.1, e.2.1)] = 0 := made_one _ (hrr e (by rw [← hXe]; exact List.getElem_mem hX))
          have HNE := Lib.hid (show ∀ W, Below w.heap.size w W → Calls Tryd.prog 8 #[.agg #[.string e.1, .int .i64 e.2.1], .slice none 0 0] W fun v w' => (∃ d F, v = .returned (.tuple #[ptrD d, .int .i64 0]) ∧ D w' d [(e.1, e.2.1)] (0, 0, 0) F ∧ (∀ b, F b → W.heap.size ≤ b)) ∧ Below W.heap.size W w' from fun W hb => (HD.out.new W e.1 e.2.1 none 0 0 [] (HC.out.below hb) rfl (by decide) (fun k hk => by simp at hk) (fun _ => rfl)).mono (by
            rintro e w' ⟨⟨-, h0⟩ | ⟨h1, -⟩, h2⟩
            · exact ⟨h0, h2⟩
            · exact absurd hme h1))
          have HNXT := Lib.hid (show ∀ W g' o' gc', OnK w (pathL T.data.toList) pb g' o' gc' W → OnS w Fr (k + 1) T pb W from fun W g' o' gc' h => ⟨ht2, by omega, by omega, g', o', gc', h⟩)
          obtain ⟨LT, hLT⟩ : ∃ LT, LT = pathL T.data.toList := ⟨_, rfl⟩
          rw [← hLT] at HGT HNXT hpt2
          have hXX : 2 + fstD ((pathL s.data.toList).drop 2) < (pathL s.data.toList).length := hX
          generalize 2 + fstD ((pathL s.data.toList).drop 2) = X at *
          have HH0 := Lib.hid (fun W (h : OnK w (pathL s.data.toList) pb g o gc W) => h.call 0 (by omega))
          have HHX := Lib.hid (fun W (h : OnK w (pathL s.data.toList) pb g o gc W) => h.call X hX)
          rw [hXe] at HHX
          generalize (pathL s.data.toList)[0] = z at *
          have HON := Lib.hid hon
          have HNX := Lib.hid hnx
          have HFO := Lib.hid hfo'
          have HDT := Lib.hid hdt
          obtain ⟨xb, xn, xm⟩ := e
          obtain ⟨zb, zn, zm⟩ := z
          simp only at HHX HH0 HNE HON HFO
          obtain ⟨M, hM⟩ : ∃ M, M = pre.length := ⟨_, rfl⟩
          rw [← hM] at t2 t3
          have t6 : ∀ h : M < s.size, (s[M]'h).toNat < 128 := fun h => by
            subst hM
            rw [t4 h]
            exact hc
          have t7 : ∀ (h : M < s.size) (hk : M < T.size), (T[M]' hk).toNat = (s[M]' h).toNat + 128 := fun h hk => by
            subst hM
            rw [t4 h, t5 hk]
            exact hc'
          have HT1 := Lib.hid t1
          have HT2 := Lib.hid t2
          have HT3 := Lib.hid t3
          have HT6 := Lib.hid t6
          have HT7 := Lib.hid t7
          have hst : ((T.size : Int) != (s.size : Int)) = false := by rw [t1]; simp
          have hst2 : (T.size != s.size) = false := by rw [t1]; simp
          have dx : decide (X < (pathL s.data.toList).length) = true := decide_eq_true hXX
          have HL2 := Lib.hid hl2
          clear hd hs hfr hr hrr hl10 hoo hfo hx ht1 ht2 ht3 ht4 hS hT hc hc' hTT hTl hsay hon hnx hX hXe hfo' hdt hme hLT hM t1 t2 t3 t4 t5 t6 t7 hl2
          generalize pathL s.data.toList = L at *
          have x0 := HK.out.box.cell 0 rfl
          go_wp2_with (first
            | (go_at_call 19; (with_reducible refine (HNX.out _ HK.out.ents).mono ?_); rintro v w6 ⟨rfl, hb⟩; have HK6 := Lib.hid (HK.out.below hb); clear hb x0; have x0 := HK6.out.box.cell 0 rfl; obtain ⟨y0, y1, -⟩ := HHX.out _ HK6.out)
            | (go_at_call 8; (with_reducible refine (HNE.out _ HK6.out.bel).mono ?_); rintro v w7 ⟨⟨d, F, rfl, hd, hf⟩, hb⟩; have HO7 := Lib.hid (HK6.out.made hd hf hb); have HK7 := Lib.hid (HK6.out.below hb); clear hd hf hb x0 y0 y1; have x0 := HK7.out.box.cell 0 rfl; obtain ⟨y0, y1, -⟩ := HH0.out _ HK7.out; simp only [Nat.zero_mul, Nat.add_zero] at y0 y1)
            | (go_at_call 13; (with_reducible refine (HFO.out _ HK7.out.bel).mono ?_); rintro v w8 ⟨rfl, hb⟩; have HO8 := Lib.hid (HO7.out.below HD.out hb); have HK8 := Lib.hid (HK7.out.below hb); clear hb x0 y0 y1)
            | (go_at_call 10; (with_reducible refine (HON.out _ _ _ HO8.out).mono ?_); rintro v w9 ⟨rfl, ho, hso⟩; have HK9 := Lib.hid (HK8.out.kept hso ho.bel); clear ho hso)
            | (go_at_call 12; (with_reducible refine (HDT.out _ HK9.out.bel).mono ?_); rintro v w10 ⟨rfl, hb⟩; have HKA := Lib.hid (HK9.out.below hb); clear hb))
          clear HNX HNE HFO HON HDT HHX HH0 HK6 HO7 HK7 HO8 HK8 HK9 dk dk2 dx hst hst2
          go_loopw [14] (fun u wx => ∃ p : Nat, u = .int .i64 (if M < p then 1 else 0) ∧ Hid (ItAt w10 wx s p)) (fun _ wx => s.size - wx.iterPos w10.heap.size)
          case atStart => exact ⟨0, by rw [if_neg (by omega)], Lib.hid ⟨World.iter_heap w10 s 0, (Below.refl w10.heap.size w10).alloc (Nat.le_refl _) (.stringIter s 0)⟩⟩
          case round =>
            obtain ⟨p, hu, HS⟩ := hrel
            by_cases hlt : p < s.size
            · have hpT : p < T.size := by rw [← HT1.out]; exact hlt
              have hnx : ∀ ty, (Instr.next (.pointer (some ⟨w10.heap.size, 0, none⟩)) true ty).run Tryd.prog wr = .ok (.tuple #[.bool true, .int .i64 (p : Int), .int .i32 ((Utf8.decode s p).1 : Nat)]) (wr.iterAt w10.heap.size s (p + (Utf8.decode s p).2)) := fun ty => Lib.run_next_any_at wr _ s p ty HS.out.it hlt
              have hwd := width_one s p hlt
              have hjump := fun j h1 h2 => decode_jump s p j h1 h2
              have hasc := fun h => congrArg Prod.snd (decode_ascii s p hlt h)
              have HSN := Lib.hid (HS.out.step (p + (Utf8.decode s p).2))
              have HPA := Lib.hid HS.out.pos
              generalize (Utf8.decode s p).2 = wd at *
              generalize (Utf8.decode s p).1 = rune at *
              generalize wr.iterAt w10.heap.size s (p + wd) = wi at *
              clear HS
              have HSD := Lib.hid (HSN.out.below ((Below.refl _ wi).drew))
              have HSE := Lib.hid (HSD.out.below ((Below.refl _ wi.drew).drew))
              have HPD := Lib.hid HSD.out.pos
              have HPE := Lib.hid HSE.out.pos
              clear HSN
              by_cases hpM : p = M
              · subst hpM
                rw [if_neg (by omega)] at hu
                subst hu
                have hxy := HT7.out hlt hpT
                have hx1 := HT6.out hlt
                have hwd1 : wd = 1 := hasc hx1
                obtain ⟨C, hC⟩ : ∃ C, C = (s[p]'hlt).toNat := ⟨_, rfl⟩
                rw [← hC] at hxy hx1
                have hxo := xor_mark18 ⟨C, hx1⟩
                dsimp only at hxo
                obtain ⟨X1, hX1⟩ : ∃ X1 : Int, X1 = (C : Int) := ⟨_, rfl⟩
                obtain ⟨Y1, hY1⟩ : ∃ Y1 : Int, Y1 = ((C + 128 : Nat) : Int) := ⟨_, rfl⟩
                rw [← hX1, ← hY1] at hxo
                have hxs : (((s[p]'hlt).toNat : Nat) : Int) = X1 := by rw [hX1, hC]
                have hxt : (((T[p]'hpT).toNat : Nat) : Int) = Y1 := by rw [hxy, hY1]
                have hxx : (X1 != Y1) = true := by rw [bne_iff_ne]; omega
                clear hasc hjump hX1 hY1 hC hxy
                go_wp2_with fail
                refine wp_region_any (by kernel_rfl) ?_
                try (change wpAny _ _ _ _ _ _ _ (World.drew _))
                refine wpAny_take (i := 0) (v := ?_) rfl (by kernel_rfl) (by kernel_rfl) (by kernel_rfl) (fun _ _ _ h => h) (Or.inl ⟨by rfl, ?_⟩) ?_
                rotate_left
                · intro w; go_simp; with_reducible rfl
                refine wpAny_take (i := 1) (v := ?_) rfl (by kernel_rfl) (by kernel_rfl) (by kernel_rfl) (fun _ _ _ h => h) (Or.inl ⟨by rfl, ?_⟩) ?_
                rotate_left
                · intro w; go_simp; with_reducible rfl
                refine wpAny_take (i := 2) (v := ?_) rfl (by kernel_rfl) (by kernel_rfl) (by kernel_rfl) (fun _ _ _ h => h) (Or.inl ⟨by rfl, ?_⟩) ?_
                rotate_left
                · intro w; go_simp; with_reducible rfl
                refine wpAny_take (i := 3) (v := ?_) rfl (by kernel_rfl) (by kernel_rfl) (by kernel_rfl) (fun _ _ _ h => h) (Or.inl ⟨by rfl, ?_⟩) ?_
                rotate_left
                · intro w; go_simp; with_reducible rfl
                refine wpAny_take (i := 4) (v := ?_) rfl (by kernel_rfl) (by kernel_rfl) (by kernel_rfl) (fun _ _ _ h => h) (Or.inl ⟨by rfl, ?_⟩) ?_
                rotate_left
                · intro w; go_simp; with_reducible rfl
                refine wpAny_take (i := 5) (v := ?_) rfl (by kernel_rfl) (by kernel_rfl) (by kernel_rfl) (fun _ _ _ h => h) (Or.inl ⟨by rfl, ?_⟩) ?_
                rotate_left
                · intro w; go_simp; with_reducible rfl
                refine wpAny_take (i := 6) (v := ?_) rfl (by kernel_rfl) (by kernel_rfl) (by kernel_rfl) (fun _ _ _ h => h) (Or.inl ⟨by rfl, ?_⟩) ?_
                rotate_left
                · intro w; go_simp; with_reducible rfl
                go_simp
                refine wpAny_done (by kernel_rfl) ?_ _
                go_wp2_with fail
                refine wp_region_any (by kernel_rfl) ?_
                try (change wpAny _ _ _ _ _ _ _ (World.drew _))
                refine wpAny_take (i := 0) (v := ?_) rfl (by kernel_rfl) (by kernel_rfl) (by kernel_rfl) (fun _ _ _ h => h) (Or.inl ⟨by rfl, ?_⟩) ?_
                rotate_left
                · intro w; go_simp; with_reducible rfl
                refine wpAny_take (i := 1) (v := ?_) rfl (by kernel_rfl) (by kernel_rfl) (by kernel_rfl) (fun _ _ _ h => h) (Or.inl ⟨by rfl, ?_⟩) ?_
                rotate_left
                · intro w; go_simp; with_reducible rfl
                refine wpAny_take (i := 2) (v := ?_) rfl (by kernel_rfl) (by kernel_rfl) (by kernel_rfl) (fun _ _ _ h => h) (Or.inl ⟨by rfl, ?_⟩) ?_
                rotate_left
                · intro w; go_simp; with_reducible rfl
                refine wpAny_take (i := 3) (v := ?_) rfl (by kernel_rfl) (by kernel_rfl) (by kernel_rfl) (fun _ _ _ h => h) (Or.inl ⟨by rfl, ?_⟩) ?_
                rotate_left
                · intro w; go_simp; with_reducible rfl
                refine wpAny_take (i := 4) (v := ?_) rfl (by kernel_rfl) (by kernel_rfl) (by kernel_rfl) (fun _ _ _ h => h) (Or.inl ⟨by rfl, ?_⟩) ?_
                rotate_left
                · intro w; go_simp; with_reducible rfl
                refine wpAny_take (i := 5) (v := ?_) rfl (by kernel_rfl) (by kernel_rfl) (by kernel_rfl) (fun _ _ _ h => h) (Or.inl ⟨by rfl, ?_⟩) ?_
                rotate_left
                · intro w; go_simp; with_reducible rfl
                refine wpAny_take (i := 6) (v := ?_) rfl (by kernel_rfl) (by kernel_rfl) (by kernel_rfl) (fun _ _ _ h => h) (Or.inl ⟨by rfl, ?_⟩) ?_
                rotate_left
                · intro w; go_simp; with_reducible rfl
                refine wpAny_take (i := 7) (v := ?_) rfl (by kernel_rfl) (by kernel_rfl) (by kernel_rfl) (fun _ _ _ h => h) (Or.inl ⟨by rfl, ?_⟩) ?_
                rotate_left
                · intro w; go_simp; with_reducible rfl
                go_simp
                refine wpAny_done (by kernel_rfl) ?_ _
                go_wp2_with fail
                go_roundw
                case rel => exact ⟨p + wd, by rw [if_pos (by omega)], HSE⟩
                case measure => rw [HPE.out, HPA.out]; omega
              · have hxy : s[p]'hlt = T[p]'hpT := HT3.out p hlt hpT hpM
                obtain ⟨X1, hX1⟩ : ∃ X1 : Int, X1 = (((s[p]'hlt).toNat : Nat) : Int) := ⟨_, rfl⟩
                have hxs : (((s[p]'hlt).toNat : Nat) : Int) = X1 := hX1.symm
                have hxt : (((T[p]'hpT).toNat : Nat) : Int) = X1 := by rw [← hxy]; exact hX1.symm
                have hxx : (X1 != X1) = false := by simp
                have HUP := Lib.hid (show (if M < p then (1 : Int) else 0) = if M < p + wd then 1 else 0 from by
                  by_cases h1 : M < p
                  · rw [if_pos h1, if_pos (by omega)]
                  · by_cases h2 : M < p + wd
                    · exfalso
                      have h3 := hjump (M - p) (by omega) (by omega)
                      rw [show p + (M - p) = M from by omega, show s.get! M = s[M]'(HT2.out) from get_at s M HT2.out] at h3
                      have := HT6.out HT2.out
                      omega
                    · rw [if_neg h1, if_neg h2])
                clear hxy hX1 hjump hasc
                go_wp2_with fail
                refine wp_region_any (by kernel_rfl) ?_
                try (change wpAny _ _ _ _ _ _ _ (World.drew _))
                refine wpAny_take (i := 0) (v := ?_) rfl (by kernel_rfl) (by kernel_rfl) (by kernel_rfl) (fun _ _ _ h => h) (Or.inl ⟨by rfl, ?_⟩) ?_
                rotate_left
                · intro w; go_simp; with_reducible rfl
                refine wpAny_take (i := 1) (v := ?_) rfl (by kernel_rfl) (by kernel_rfl) (by kernel_rfl) (fun _ _ _ h => h) (Or.inl ⟨by rfl, ?_⟩) ?_
                rotate_left
                · intro w; go_simp; with_reducible rfl
                refine wpAny_take (i := 2) (v := ?_) rfl (by kernel_rfl) (by kernel_rfl) (by kernel_rfl) (fun _ _ _ h => h) (Or.inl ⟨by rfl, ?_⟩) ?_
                rotate_left
                · intro w; go_simp; with_reducible rfl
                refine wpAny_take (i := 3) (v := ?_) rfl (by kernel_rfl) (by kernel_rfl) (by kernel_rfl) (fun _ _ _ h => h) (Or.inl ⟨by rfl, ?_⟩) ?_
                rotate_left
                · intro w; go_simp; with_reducible rfl
                refine wpAny_take (i := 4) (v := ?_) rfl (by kernel_rfl) (by kernel_rfl) (by kernel_rfl) (fun _ _ _ h => h) (Or.inl ⟨by rfl, ?_⟩) ?_
                rotate_left
                · intro w; go_simp; with_reducible rfl
                refine wpAny_take (i := 5) (v := ?_) rfl (by kernel_rfl) (by kernel_rfl) (by kernel_rfl) (fun _ _ _ h => h) (Or.inl ⟨by rfl, ?_⟩) ?_
                rotate_left
                · intro w; go_simp; with_reducible rfl
                refine wpAny_take (i := 6) (v := ?_) rfl (by kernel_rfl) (by kernel_rfl) (by kernel_rfl) (fun _ _ _ h => h) (Or.inl ⟨by rfl, ?_⟩) ?_
                rotate_left
                · intro w; go_simp; with_reducible rfl
                go_simp
                refine wpAny_done (by kernel_rfl) ?_ _
                go_wp2_with fail
                go_roundw
                case rel => exact ⟨p + wd, by rw [HUP.out], HSD⟩
                case measure => rw [HPD.out, HPA.out]; omega
            · have hM := HT2.out
              have hnx : ∀ ty, (Instr.next (.pointer (some ⟨w10.heap.size, 0, none⟩)) true ty).run Tryd.prog wr = .ok (.tuple #[.bool false]) wr := fun ty => Lib.run_next_end_at wr _ s p ty HS.out.it hlt
              rw [if_pos (by omega)] at hu
              subst hu
              have HKB := Lib.hid (HKA.out.below HS.out.bel)
              have HKX := Lib.hid (HKB.out.box.get 0 rfl)
              clear HS HKA
              go_wp2_with (go_at_call 18; (with_reducible refine (HGT.out _).mono ?_); rintro v wA ⟨⟨ga', gc', rfl, hE⟩, hb⟩; obtain ⟨g', o', rfl, -⟩ := hE.some_ hpt2; have HKC := Lib.hid (HKB.out.below hb); have HE := Lib.hid hE; have q0 := (HKX.out.below hb).cell; have q1 := (HKX.out.below hb).free; clear hb hE)
              have HKD := Lib.hid (HKC.out.put HE.out hpt2)
              go_roundw
              case rel => exact ⟨k + 1, T, by omega, (by (try rw [HZK.out]); rfl), rfl, Lib.hid (HNXT.out _ _ _ _ HKD.out)⟩
              case measure =>
                try rw [HZK.out]
                simp [intOf]
                omega
        · have dk : decide (k < Fr) = false := decide_eq_false hlk
          have dk2 : decide ((k : Int) < (Fr : Int)) = false := decide_eq_false (by omega)
          have hx : (pathL s.data.toList)[2 + fstD ((pathL s.data.toList).drop 2)]? = none := List.getElem?_eq_none (by omega)
          have hoe := fun C => once_end hd hx C
          have hfe := for_end hd hx (pathL s.data.toList)[0] (List.getElem?_eq_getElem (by omega))
          have hon := fun W d c K (h : DiO D w d [c] (0, 0, 0) K W) => h.on HD.out HC.out s hs ⟨Nat.zero_le _, Nat.zero_le _, Nat.zero_le _⟩
          have hsay : sayD (([] : List UInt8), 1) = .tuple #[.string ⟨#[]⟩, .bool false] := rfl
          simp only [hoe] at hon
          rw [hsay] at hon
          have HON := Lib.hid hon
          have hfo' := fun W hb => HD.out.for_ W (pathL s.data.toList)[0].1 (pathL s.data.toList)[0].2.1 s (HC.out.below hb) hs
          rw [hfe] at hfo'
          have HRR := Lib.hid (fun e he => made_one (e.1, e.2.1) (hrr e he))
          have HNE := Lib.hid (show ∀ (c : Cl) W, madeD [c] = 0 → Below w.heap.size w W → Calls Tryd.prog 8 #[.agg #[.string c.1, .int .i64 c.2], .slice none 0 0] W fun v w' => (∃ d F, v = .returned (.tuple #[ptrD d, .int .i64 0]) ∧ D w' d [c] (0, 0, 0) F ∧ (∀ b, F b → W.heap.size ≤ b)) ∧ Below W.heap.size W w' from fun c W hme hb => (HD.out.new W c.1 c.2 none 0 0 [] (HC.out.below hb) rfl (by decide) (fun k hk => by simp at hk) (fun _ => rfl)).mono (by
            rintro e w' ⟨⟨-, h0⟩ | ⟨h1, -⟩, h2⟩
            · exact ⟨h0, h2⟩
            · exact absurd hme h1))
          have HH0 := Lib.hid (fun W (h : OnK w (pathL s.data.toList) pb g o gc W) => h.call 0 (by omega))
          generalize (pathL s.data.toList)[0] = z at *
          have HFO := Lib.hid hfo'
          obtain ⟨zb, zn, zm⟩ := z
          simp only at HH0 HFO
          have hl0 : 0 < (pathL s.data.toList).length := by omega
          have HL10 := Lib.hid hl10
          clear hd hs hfr hr hrr hl2 hl10 hoo hfo hx hoe hfe hon hsay hfo'
          generalize pathL s.data.toList = L at *
          have x0 := HK.out.box.cell 0 rfl
          go_wp2_with fail
          go_loopw [135] (fun iv wx => ∃ i : Nat, i ≤ L.length ∧ iv = .int .i64 i ∧ Hid (OnK w L pb g o gc wx)) (fun iv _ => L.length - (intOf iv).toNat)
          case atStart => exact ⟨0, Nat.zero_le _, rfl, HK⟩
          case round =>
            obtain ⟨i, hi, rfl, HJ⟩ := hrel
            clear HK x0
            have HZI := Lib.hid (show wrap64 ((i : Int) + 1) = (i : Int) + 1 from IntWalk.wrap64_in _ (by have := HL10.out; omega))
            have x0 := HJ.out.box.cell 0 rfl
            by_cases hlt : i < L.length
            · have dk : decide (i < L.length) = true := decide_eq_true hlt
              have dk2 : decide ((i : Int) < (L.length : Int)) = true := decide_eq_true (by omega)
              obtain ⟨y0, y1, -⟩ := HJ.out.call i hlt
              have hme := HRR.out L[i] (List.getElem_mem hlt)
              generalize L[i] = y at *
              obtain ⟨yb, yn, ym⟩ := y
              simp only at y0 y1 hme
              have HN1 := Lib.hid (HNE.out (yb, yn) wr hme HJ.out.bel)
              simp only at HN1
              clear hme
              go_wp2_with (first
                | (go_at_call 8; (with_reducible refine HN1.out.mono ?_); rintro v w7 ⟨⟨d, F, rfl, hd, hf⟩, hb⟩; have HO7 := Lib.hid (HJ.out.made hd hf hb); have HK7 := Lib.hid (HJ.out.below hb); clear hd hf hb x0 y0 y1)
                | (go_at_call 10; (with_reducible refine (HON.out _ _ _ _ HO7.out).mono ?_); rintro v w9 ⟨rfl, ho, hso⟩; have HK9 := Lib.hid (HK7.out.kept hso ho.bel); clear ho hso))
              go_roundw
              case rel => exact ⟨i + 1, by omega, (by (try rw [HZI.out]); rfl), HK9⟩
              case measure =>
                try rw [HZI.out]
                simp [intOf]
                omega
            · have dk : decide (i < L.length) = false := decide_eq_false hlt
              have dk2 : decide ((i : Int) < (L.length : Int)) = false := decide_eq_false (by omega)
              obtain ⟨y0, y1, -⟩ := HH0.out _ HJ.out
              simp only [Nat.zero_mul, Nat.add_zero] at y0 y1
              go_wp2_with (go_at_call 13; (with_reducible refine (HFO.out _ HJ.out.bel).mono ?_); rintro v w8 ⟨rfl, hb⟩; have HB8 := Lib.hid (HJ.out.bel.trans (hb.mono HJ.out.bel.size)); clear hb)
              exact bodyPost_ret (v := .bool true) (by simp [results, Tryd.results4, go_sem]) rfl ⟨rfl, HB8.out⟩
theorem dionce_any {D : DiP} (hD : DiC D) (s : ByteArray) (w : World) (hC : CodesOk w) : Calls Tryd.prog 4 #[.string s] w fun e w' => e = .returned (.bool true) ∧ Below w.heap.size w w' := by
  by_cases h : 1000 < s.size
  · exact dionce_no hD s w hC (Or.inl h)
  · cases hd : decB s.data.toList with
    | false => exact dionce_no hD s w hC (Or.inr hd)
    | true => exact dionce_yes hD s w hC (by omega) hd
end Go.Proofs.YtikabflmgckdnaaDoor
