/-
Walk of the statement KissCuts.
-/
import Derived.Test.YtcnljojbkjfebaaKissAwake
import Derived.Test.YtcnljojbkjfebaaKissSame
namespace Go.Proofs.Ytcnljojbkjfebaa
open Go.RowKit
theorem OwnB.block {w w' : World} {B : Nat} {v : Value} {l : List UInt8} (h : OwnB w B v l) (hg : ∀ g, v.ownBlock = some g → w'.heap[g]? = w.heap[g]?) : OwnB w' B v l := by
  refine ⟨h.1, ?_⟩
  rcases h.2 with h0 | ⟨g, cap, cur, hv, hb, hc, rest⟩
  · exact Or.inl h0
  · exact Or.inr ⟨g, cap, cur, hv, hb, by rw [hg g (by rw [hv]; rfl)]; exact hc, rest⟩
/-- a deframer while another one takes bytes -/
theorem DC.wrote {w w' : World} {b b' : Nat} {at_ most bad : Int} {v u u' : Value} {held : List UInt8} (h : DC w b at_ most bad v held) (hw : Wrote w w' b' u u') (hb : b ≠ b') (hv : ∀ g, v.ownBlock = some g → g ≠ b' ∧ u.ownBlock ≠ some g) (hu : u.ownBlock ≠ some b) : DC w' b at_ most bad v held :=
  ⟨h.1.same (hw.block b h.1.lt hb (fun e => hu e.symm)), h.2.block (fun g hg => hw.block g (h.2.ge hg).2 (hv g hg).1 (fun e => (hv g hg).2 e.symm))⟩
theorem DC.below {w w' : World} {b : Nat} {at_ most bad : Int} {v : Value} {held : List UInt8} (h : DC w b at_ most bad v held) (hb : Below w.heap.size w w') : DC w' b at_ most bad v held :=
  ⟨h.1.same (hb.block b h.1.lt), h.2.block (fun g hg => hb.block g (h.2.ge hg).2)⟩
theorem below_drewN {B : Nat} {a w : World} (h : Below B a w) (n : Nat) : Below B a (w.drewN n) := ⟨h.os, h.tape, h.output, h.size, h.block⟩
theorem Wrote.nil_below {w w' : World} {b B : Nat} {a : Option Addr} {n c : Nat} {v' : Value} (h : Wrote w w' b (.slice a n c) v') (ha : a = none) (hb : B ≤ b) (hB : B ≤ w.heap.size) : Below B w w' := by
  subst ha
  exact h.below hB hb (fun g h => by cases h)
/-- a byte more -/
theorem fed_next (most : Nat) (st : St) (s : ByteArray) (k : Nat) (h : k < s.size) :
    fedD most st (s.data.toList.take (k + 1)) = ((fedD most (fedD most st (s.data.toList.take k)).1 (s.extract k (k + 1)).data.toList).1, (fedD most st (s.data.toList.take k)).2 ++ (fedD most (fedD most st (s.data.toList.take k)).1 (s.extract k (k + 1)).data.toList).2) := by
  have hl : k < s.data.toList.length := by simpa using h
  have e1 : s.data.toList.take (k + 1) = s.data.toList.take k ++ [s.data.toList[k]] := List.take_succ_eq_append_getElem hl
  have e2 : (s.extract k (k + 1)).data.toList = [s.data.toList[k]] := by
    rw [Lib.extract_data, List.drop_eq_getElem_cons hl, show k + 1 - k = 1 from by omega]; rfl
  rw [e1, e2, fedD_append]
/-- frames and three deframers that stay -/
def Bag (x y z : Value) (F : List Fr) (b1 b2 b3 most : Nat) (st : St) (va vb vc : Value) (w : World) : Prop :=
  Frs w x F ∧ Frs w y F ∧ Frs w z F ∧ DC w b1 st.1 most st.2.1 va st.2.2 ∧ DC w b2 st.1 most st.2.1 vb st.2.2 ∧ DC w b3 st.1 most st.2.1 vc st.2.2
theorem Bag.below {x y z : Value} {F : List Fr} {b1 b2 b3 most : Nat} {st : St} {va vb vc : Value} {w w' : World} (h : Bag x y z F b1 b2 b3 most st va vb vc w) (hb : Below w.heap.size w w') : Bag x y z F b1 b2 b3 most st va vb vc w' :=
  ⟨h.1.below hb, h.2.1.below hb, h.2.2.1.below hb, h.2.2.2.1.below hb, h.2.2.2.2.1.below hb, h.2.2.2.2.2.below hb⟩
theorem Bag.drewN {x y z : Value} {F : List Fr} {b1 b2 b3 most : Nat} {st : St} {va vb vc : Value} {w : World} (h : Bag x y z F b1 b2 b3 most st va vb vc w) (n : Nat) : Bag x y z F b1 b2 b3 most st va vb vc (w.drewN n) := h
set_option maxHeartbeats 2000000 in
set_option maxRecDepth 100000 in
theorem cuts_core (v : Value) (n : Int) (L : List UInt8) (w : World) (hfl : L.length ≤ 3000)
    (hlong : ∀ w1, Below w.heap.size w w1 → Calls Try.prog 11 #[v] w1 fun e w' => e = .returned (.bool false) ∧ w1 = w')
    (hjoin : ∀ w1, Below w.heap.size w w1 → Calls Try.prog 21 #[v] w1 fun e w' => e = .returned (.string ⟨L.toArray⟩) ∧ w1 = w')
    (hfeed : ∀ b w1, Below w.heap.size w w1 → w.heap.size ≤ b → DC w1 b 0 (capD n) 0 (.slice none 0 0) [] → Calls Try.prog 17 #[.pointer (some ⟨b, 0, none⟩), v] w1 fun e w' => WalkTo w1 b (capD n) (.slice none 0 0) (fedD (capD n) (0, 0, []) L) e w') :
    Calls Try.prog 6 #[.int .i64 n, v] w fun e w' => e = .returned (.bool true) ∧ Below w.heap.size w w' := by
  obtain ⟨i0, hi0, hz0, hz1, hz2⟩ := info_parts infoF
  have H1 := Lib.hid hlong
  have H2 := Lib.hid hjoin
  have H3 := Lib.hid hfeed
  have hcd := capD_bd n
  have HN := Lib.hid (fun W => cnew_any n W)
  have hi : InvD (capD n) (0, 0, []) := by simp [InvD]
  have HI := Lib.hid hi
  generalize capD n = most at *
  obtain ⟨J, hJ⟩ : ∃ J : ByteArray, J = ⟨L.toArray⟩ := ⟨_, rfl⟩
  have hJl : J.data.toList = L := by rw [hJ]
  have hJs : J.size ≤ 3000 := by have : J.data.toList.length = J.size := by simp
                                 rw [hJl] at this; omega
  have HJ := Lib.hid hJl
  have HJ2 := Lib.hid hJ
  clear hlong hjoin hfeed hfl hi hJ hJl
  rw [← HJ2.out] at H2
  go_enter Try.func6, Try.ntmps6
  go_wp2_with fail
  refine (awake_any _).mono ?_
  rintro e w1 ⟨rfl, hb1⟩
  have HB := Lib.hid hb1
  clear hb1
  go_wp2_with (first
    | (go_at_call 11; refine (H1.out _ HB.out).mono ?_; rintro e w2 ⟨rfl, rfl⟩)
    | (go_at_call 21; refine (H2.out _ HB.out).mono ?_; rintro e w2 ⟨rfl, rfl⟩))
  refine (HN.out _).mono ?_
  rintro e w2 ⟨rfl, hD1, hB1, hz1'⟩
  have HD1 := Lib.hid hD1
  have HZ1 := Lib.hid hz1'
  have HB1 := Lib.hid hB1
  clear hD1 hz1' hB1
  go_wp2_with fail
  refine (HN.out _).mono ?_
  rintro e w3 ⟨rfl, hD2, hB2, hz2'⟩
  have HD2 := Lib.hid hD2
  have HZ2 := Lib.hid hz2'
  have HB2 := Lib.hid hB2
  clear hD2 hz2' hB2
  go_wp2_with fail
  refine (HN.out _).mono ?_
  rintro e w4 ⟨rfl, hD3, hB3, hz3'⟩
  have HD3 := Lib.hid hD3
  have HZ3 := Lib.hid hz3'
  have HB3 := Lib.hid hB3
  clear hD3 hz3' hB3
  have K1 := Lib.hid ((HD1.out.below HB2.out).below HB3.out)
  have K2 := Lib.hid (HD2.out.below HB3.out)
  have s0 := HB.out.size
  have HBW := Lib.hid (((HB.out.trans (HB1.out.mono s0)).trans (HB2.out.mono (Nat.le_trans s0 HB1.out.size))).trans (HB3.out.mono (Nat.le_trans s0 (Nat.le_trans HB1.out.size HB2.out.size))))
  obtain ⟨b1, hb1⟩ : ∃ b1, b1 = w1.heap.size := ⟨_, rfl⟩
  obtain ⟨b2, hb2⟩ : ∃ b2, b2 = w2.heap.size := ⟨_, rfl⟩
  obtain ⟨b3, hb3⟩ : ∃ b3, b3 = w3.heap.size := ⟨_, rfl⟩
  rw [← hb1] at HD1 HZ1 K1 s0 ⊢
  rw [← hb2] at HD2 HZ2 K2 ⊢
  rw [← hb3] at HD3 HZ3 ⊢
  have HE := Lib.hid (show b2 = b1 + 1 ∧ b3 = b1 + 2 ∧ w4.heap.size = b1 + 3 by have := HZ1.out; have := HZ2.out; have := HZ3.out; omega)
  clear hb1 hb2 hb3 HZ1 HZ2 HZ3 HB1 HB2 HB3 HD1 HD2 HB
  go_wp2_with fail
  refine (H3.out _ _ HBW.out s0 K1.out).mono ?_
  rintro e w5 ⟨va, x, rfl, hDa, hWa, hFa⟩
  have hK2 := K2.out.wrote hWa (by have := HE.out; omega) (fun g h => by cases h) (fun h => by cases h)
  have hK3 := HD3.out.wrote hWa (by have := HE.out; omega) (fun g h => by cases h) (fun h => by cases h)
  have HDa := Lib.hid hDa
  have HWa := Lib.hid hWa
  have HFa := Lib.hid hFa
  have HK2 := Lib.hid hK2
  have HK3 := Lib.hid hK3
  clear hDa hWa hFa hK2 hK3 K1 K2 HD3
  go_wp2_with fail
  refine (feed_one b2 most (0, 0, []) _ J _ _ w5 rfl (by omega) HI.out (by simp) (by omega) HK2.out).mono ?_
  rintro e w6 ⟨vb, y, rfl, hDb, hWb, hFb⟩
  rw [HJ.out] at hDb hFb
  have HWab := Lib.hid (HWa.out.nil_below rfl (B := w4.heap.size - 3) (by have := HE.out; omega) (by omega))
  have hDa := HDa.out.wrote hWb (by have := HE.out; omega) (fun g h => ⟨by
    have := HE.out
    rcases HWa.out.own with e | ⟨g', e, h2⟩
    · rw [h] at e; cases e
    · rw [h] at e; have := Option.some.inj e; omega, fun h => by cases h⟩) (fun h => by cases h)
  have hK3 := HK3.out.wrote hWb (by have := HE.out; omega) (fun g h => by cases h) (fun h => by cases h)
  have hFa := HFa.out.wrote (by have := HE.out; omega) hWb (fun g h => by cases h)
  have HDb := Lib.hid hDb
  have HFb := Lib.hid hFb
  have HDa6 := Lib.hid hDa
  have HFa6 := Lib.hid hFa
  have HK36 := Lib.hid hK3
  have HWbb := Lib.hid (HWab.out.trans (hWb.nil_below rfl (B := w4.heap.size - 3) (by have := HE.out; omega) (by have := HWa.out.size; omega)))
  have HVa := Lib.hid HWa.out.own
  have HVb := Lib.hid hWb.own
  have hs5 := HWa.out.size
  have hs6 := hWb.size
  clear hDb hFb hDa hFa hK3 hWb HDa HFa HWa HK2 HK3 HWab
  go_wp2_with fail
  go_loopw [11, 12] (fun z i wx => ∃ k : Nat, k ≤ J.size ∧ i = .int .i64 k ∧ Hid (FMem w6 b3 most (.slice none 0 0) (fedD most (0, 0, []) (J.data.toList.take k)) z wx)) (fun _ i _ => J.size - (intOf i).toNat)
  case atStart => exact ⟨0, by omega, rfl, _, HK36.out, Wrote.refl _ _ _, OwnF.nil _ _ _⟩
  case round =>
    obtain ⟨k, hk, rfl, HR⟩ := hrel
    obtain ⟨vk, hDk, hWk, hFk⟩ := HR.out
    have hinv := fedD_inv most (0, 0, []) (J.data.toList.take k) HI.out
    have hkl : (J.data.toList.take k).length ≤ k := List.length_take_le _ _
    by_cases hlt : k < J.size
    · have hnx := fed_next most (0, 0, []) J k hlt
      obtain ⟨q, hq⟩ : ∃ q, q = fedD most (0, 0, []) (J.data.toList.take k) := ⟨_, rfl⟩
      rw [← hq] at hDk hFk hnx hinv
      have hq1 := hinv.2.1
      simp only at hq1
      have hq2 := hinv.2.2
      obtain ⟨c1, hc1⟩ : ∃ c1, c1 = J.extract k (k + 1) := ⟨_, rfl⟩
      have hcs : c1.size ≤ 1 := by rw [hc1]; simp; omega
      have hcl : c1.data.toList.length = c1.size := by simp
      have hG := (fedD_inv most q.1 c1.data.toList hinv.1).2.2
      rw [← hc1] at hnx
      have hX := feed_one b3 most q.1 vk c1 wr.heap.size 9 wr rfl (by omega) hinv.1 (by omega) (by omega) hDk
      obtain ⟨q2, hq2'⟩ : ∃ q2, q2 = fedD most q.1 c1.data.toList := ⟨_, rfl⟩
      rw [← hq2'] at hX hnx hG
      have HW := Lib.hid hX
      have HNX := Lib.hid hnx
      have HC1 := Lib.hid hc1
      rw [hc1] at HW
      have HDk := Lib.hid hDk
      have HWk := Lib.hid hWk
      have HFk := Lib.hid hFk
      have hg2 : q2.2.length ≤ 1 := by omega
      have hg1 : q.2.length ≤ 3000 := by omega
      have hb3s : b3 < w6.heap.size := by have := HE.out; omega
      clear hnx hq hX hq2' hc1 hinv hDk hWk hFk HR hkl hq1 hq2 hcs hcl hG
      go_wp2_with fail
      refine (HW.out).mono ?_
      rintro e w7 ⟨v1, tv2, rfl, hD1, hW1, hF1⟩
      have HF2 := Lib.hid (HFk.out.wrote hb3s hW1 (fun g hg => own_apart HDk.out.2 HFk.out (by decide) hg))
      have HW2 := Lib.hid (HWk.out.trans hW1)
      have HD2 := Lib.hid hD1
      have hz := HW2.out.size
      clear hD1 hW1 HDk HWk HFk HW
      rcases hF1.cases with ⟨h2, h3⟩ | ⟨g, cap2, h2⟩
      · subst h2
        have H3' := Lib.hid h3
        clear hF1 h3
        go_wp2_with (first
          | (at_builtin; refine wpList_append_own_none rfl (.tmp 38) (.tmp 46) 45 rfl w6.heap.size 23 i0 3 Try.underlying45 hi0 _ _ _ rfl HF2.out rfl ?_))
        go_roundw
        case rel =>
          refine ⟨k + 1, by omega, by go_num, v1, ?_⟩
          rw [HNX.out, H3'.out, List.append_nil]
          exact ⟨HD2.out, HW2.out, HF2.out⟩
        case measure => simp [intOf]; omega
      · subst h2
        have HCL := Lib.hid (World.ownsRow.cells hF1 (g := g) rfl)
        clear hF1
        go_wp2_with (first
          | (at_builtin; refine wpList_append_own _ rfl (.tmp 38) (.tmp 46) 45 rfl w6.heap.size 23 i0 _ 3 32 Try.underlying45 hi0 hz0 hz1 hz2 rfl (by decide) _ _ _ rfl HF2.out ⟨g, 0, none⟩ q2.2.length cap2 (frsV q2.2) rfl (frsV_length _) HCL.out (frsV_one _) (by unfold maxLen; omega) (by omega) hz ?_; intro v' w8 hown1 hgrow1 _; have HX := Lib.hid (told_more hb3s HD2.out HW2.out HF2.out hown1 hgrow1); clear hown1 hgrow1))
        go_roundw
        case rel =>
          refine ⟨k + 1, by omega, by go_num, v1, ?_⟩
          rw [HNX.out]
          exact HX.out
        case measure => simp [intOf]; omega
    · obtain rfl : k = J.size := by omega
      have hTl : J.data.toList.length = J.size := by simp
      rw [List.take_of_length_le (by omega), HJ.out] at hDk hFk
      have hown : ∀ (v : Value) (s : Nat), (v.ownBlock = (Value.slice none 0 0).ownBlock ∨ ∃ k, v.ownBlock = some k ∧ s ≤ k) → w4.heap.size ≤ s → ∀ g, v.ownBlock = some g → g ≠ b3 ∧ (Value.slice none 0 0).ownBlock ≠ some b3 := by
        intro v s h hs g hg
        refine ⟨?_, fun h => by cases h⟩
        have := HE.out
        rcases h with e | ⟨g', e, h2⟩
        · rw [hg] at e; cases e
        · rw [hg] at e; have := Option.some.inj e; omega
      have hG : Bag x y _ (fedD most (0, 0, []) L).2 b1 b2 b3 most (fedD most (0, 0, []) L).1 va vb vk wr :=
        ⟨(HFa6.out.wrote (by have := HE.out; omega) hWk (fun g h => by cases h)).frs, (HFb.out.wrote (by have := HE.out; omega) hWk (fun g h => by cases h)).frs, hFk.frs,
          HDa6.out.wrote hWk (by have := HE.out; omega) (fun g h => ⟨(hown va _ HVa.out (Nat.le_refl _) g h).1, fun h => by cases h⟩) (fun h => by cases h),
          HDb.out.wrote hWk (by have := HE.out; omega) (fun g h => ⟨(hown vb _ HVb.out hs5 g h).1, fun h => by cases h⟩) (fun h => by cases h), hDk⟩
      have hFl := (fedD_inv most (0, 0, []) L HI.out).2.2
      have hLl : L.length = J.size := by rw [← HJ.out]; simp
      have hFb : (fedD most (0, 0, []) L).2.length ≤ 1000000 := by omega
      have HBB := Lib.hid ((HBW.out.mono (Nat.le_refl _)).trans ((HWbb.out.trans (hWk.nil_below rfl (by have := HE.out; omega) (by omega))).mono (by have := HE.out; omega)))
      have HG := Lib.hid hG
      clear hG hown hDk hFk hWk HR hFl hLl hinv hkl hTl HFa6 HFb HDa6 HDb HVa HVb HK36 HWbb
      generalize (fedD most (0, 0, []) L).2 = F at *
      generalize (fedD most (0, 0, []) L).1 = st at *
      go_wp2_with fail
      refine (plain_any _ F _ hFb HG.out.1).mono ?_
      rintro e w8 ⟨p1, rfl, hp1, hb8⟩
      have HG8 := Lib.hid (HG.out.below hb8)
      have HB8 := Lib.hid (HBB.out.trans (hb8.mono HBB.out.size))
      have HP1 := Lib.hid hp1.frs
      clear hb8 hp1 HG HBB
      go_wp2_with fail
      refine (plain_any _ F _ hFb HG8.out.2.1).mono ?_
      rintro e w9 ⟨p2, rfl, hp2, hb9⟩
      have HG9 := Lib.hid (HG8.out.below hb9)
      have HB9 := Lib.hid (HB8.out.trans (hb9.mono HB8.out.size))
      have HP19 := Lib.hid (HP1.out.below hb9)
      have HP2 := Lib.hid hp2.frs
      clear hb9 hp2 HG8 HB8 HP1
      go_wp2_with fail
      refine (same_yes _ _ F _ hFb HP19.out HP2.out).mono ?_
      rintro e w10 ⟨rfl, n1, rfl⟩
      have HG10 := Lib.hid (HG9.out.drewN n1)
      have HB10 := Lib.hid (below_drewN HB9.out n1)
      clear HG9 HB9 HP19 HP2
      go_wp2_with fail
      refine (plain_any _ F _ hFb HG10.out.1).mono ?_
      rintro e w11 ⟨p3, rfl, hp3, hb11⟩
      have HG11 := Lib.hid (HG10.out.below hb11)
      have HB11 := Lib.hid (HB10.out.trans (hb11.mono HB10.out.size))
      have HP3 := Lib.hid hp3.frs
      clear hb11 hp3 HG10 HB10
      go_wp2_with fail
      refine (plain_any _ F _ hFb HG11.out.2.2.1).mono ?_
      rintro e w12 ⟨p4, rfl, hp4, hb12⟩
      have HG12 := Lib.hid (HG11.out.below hb12)
      have HB12 := Lib.hid (HB11.out.trans (hb12.mono HB11.out.size))
      have HP312 := Lib.hid (HP3.out.below hb12)
      have HP4 := Lib.hid hp4.frs
      clear hb12 hp4 HG11 HB11 HP3
      go_wp2_with fail
      refine (same_yes _ _ F _ hFb HP312.out HP4.out).mono ?_
      rintro e w13 ⟨rfl, n2, rfl⟩
      have HG13 := Lib.hid (HG12.out.drewN n2)
      have HB13 := Lib.hid (below_drewN HB12.out n2)
      clear HG12 HB12 HP312 HP4
      have A1 := Lib.hid (cbad_any b1 _ _ _ _ _ HG13.out.2.2.2.1.1)
      have C1 := Lib.hid (cheld_any b1 _ _ _ _ _ _ HG13.out.2.2.2.1)
      have A2 := Lib.hid (cbad_any b2 _ _ _ _ _ HG13.out.2.2.2.2.1.1)
      have C2 := Lib.hid (cheld_any b2 _ _ _ _ _ _ HG13.out.2.2.2.2.1)
      have A3 := Lib.hid (cbad_any b3 _ _ _ _ _ HG13.out.2.2.2.2.2.1)
      have C3 := Lib.hid (cheld_any b3 _ _ _ _ _ _ HG13.out.2.2.2.2.2)
      clear HG13
      go_wp2_with (first
        | (go_at_call 19; ((with_reducible refine (A1.out).mono ?_); rintro e w' ⟨rfl, rfl⟩))
        | (go_at_call 20; ((with_reducible refine (C1.out).mono ?_); rintro e w' ⟨rfl, rfl⟩))
        | (go_at_call 19; ((with_reducible refine (A2.out).mono ?_); rintro e w' ⟨rfl, rfl⟩))
        | (go_at_call 20; ((with_reducible refine (C2.out).mono ?_); rintro e w' ⟨rfl, rfl⟩))
        | (go_at_call 19; ((with_reducible refine (A3.out).mono ?_); rintro e w' ⟨rfl, rfl⟩))
        | (go_at_call 20; ((with_reducible refine (C3.out).mono ?_); rintro e w' ⟨rfl, rfl⟩)))
      go_ret
      exact ⟨rfl, HB13.out⟩
end Go.Proofs.Ytcnljojbkjfebaa
