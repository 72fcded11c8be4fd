/-
Walk of the statement KissThrough.
-/
import Derived.Test.YtcnljojbkjfebaaKissCutsW
import Derived.Test.YtcnljojbkjfebaaKissThru
import Derived.Deep.RegionWith
namespace Go.Proofs.Ytcnljojbkjfebaa
open Go.RowKit
theorem OwnF.below {T : TypeId} {w w' : World} {B : Nat} {v : Value} {F : List Fr} (h : OwnF T w B v F) (hb : Below w.heap.size w w') : OwnF T w' B v F := by
  refine ⟨h.1, ?_⟩
  rcases h.2 with h0 | ⟨g, cap, cur, hv, hbg, hg, rest⟩
  · exact Or.inl h0
  · exact Or.inr ⟨g, cap, cur, hv, hbg, by rw [hb.block g (h.ge (by rw [hv]; rfl)).2]; exact hg, rest⟩
/-- behind an append of a frame that was laid in one block -/
theorem want_after {w0 wr w1 : World} {T : TypeId} {tv tv' : Value} {F : List Fr} {f : Fr} {news : List Value} {o : Obj} (h : OwnF T wr w0.heap.size tv F) (hb : Below w0.heap.size w0 wr)
    (hown1 : w1.ownsRow w0.heap.size T 3 tv' (F.length + 1) (frsV F ++ news)) (hn : frsV [f] = news) (hg : (wr.alloc o).grownBy w1 tv.ownBlock) : OwnF T w1 w0.heap.size tv' (F ++ [f]) ∧ Below w0.heap.size w0 w1 := by
  refine ⟨?_, (hb.alloc hb.size o).grown hg (by have := hb.size; simp; omega) (fun k hk => (h.ge hk).1)⟩
  unfold OwnF
  rw [List.length_append, frsV_append, hn]
  exact hown1
/-- Feed of two texts, whose slice was just laid -/
theorem feed_two (b most : Nat) (st : St) (v : Value) (s1 s2 : ByteArray) (n : Nat) (T : TypeId) (w : World) (hn : n = w.heap.size) (hm : most ≤ 4096) (hi : InvD most st) (hbad : st.2.1 ≤ 100000) (hs : s1.size + s2.size ≤ 50000) (hD : DC w b st.1 most st.2.1 v st.2.2) :
    Calls Try.prog 17 #[.pointer (some ⟨b, 0, none⟩), .slice (some ⟨n, 0, none⟩) 2 2] (w.alloc (.cells #[.string s1, .string s2] T)) fun e w' => WalkTo w b most v (fedD most st (s1.data.toList ++ s2.data.toList)) e w' := by
  subst hn
  have hb := hD.1.lt
  have h := feed_some b most st v w.heap.size 0 2 [s1, s2] (w.alloc (.cells #[.string s1, .string s2] T)) (by simp) hm hi hbad (by simpa [flat] using hs) (by simp) (by omega)
    (fun e => by have := (hD.2.ge e).2; omega) (hD.alloc _) (fun j hj => by
      have hj2 : j < 2 := by simpa using hj
      rw [Nat.zero_add, World.cell?_alloc_new]
      match j, hj2 with
      | 0, _ => rfl
      | 1, _ => rfl)
  rw [show flat [s1, s2] = s1.data.toList ++ s2.data.toList from by simp [flat]] at h
  exact h.mono fun e w' hw => hw.alloc
/-- a text in two -/
theorem two_parts (s : ByteArray) (c : Int) (h0 : 0 ≤ c) (h1 : c ≤ s.size) : ∃ P1 P2 : ByteArray, P1.data.toList ++ P2.data.toList = s.data.toList ∧ P1.size + P2.size = s.size ∧
    (∀ W, (Instr.slice 9 (.string s) none (some (.int .i64 c)) none).run Try.prog W = .ok (.string P1) W) ∧ (∀ W, (Instr.slice 9 (.string s) (some (.int .i64 c)) none none).run Try.prog W = .ok (.string P2) W) := by
  refine ⟨s.extract 0 c.toNat, s.extract c.toNat s.size, ?_, by simp; omega, fun W => ?_, fun W => ?_⟩
  · rw [Lib.extract_to_end, Lib.extract_data, List.drop_zero, Nat.sub_zero, List.take_append_drop]
  · exact run_slice_string_h (w := W) 9 s Try.underlying9 .i64 c h0 h1
  · exact run_slice_string_l (w := W) 9 s Try.underlying9 .i64 c h0 h1
/-- what stays behind Feed -/
def Thr (w0 : World) (b q : Nat) (x wv vc : Value) (F : List Fr) (w : World) : Prop := DC w b q 300 0 vc [] ∧ Frs w x F ∧ Frs w wv F ∧ Below w0.heap.size w0 w
theorem Thr.below {w0 w w' : World} {b q : Nat} {x wv vc : Value} {F : List Fr} (h : Thr w0 b q x wv vc F w) (hb : Below w.heap.size w w') : Thr w0 b q x wv vc F w' :=
  ⟨h.1.below hb, h.2.1.below hb, h.2.2.1.below hb, h.2.2.2.trans (hb.mono h.2.2.2.size)⟩
theorem Thr.drewN {w0 w : World} {b q : Nat} {x wv vc : Value} {F : List Fr} (h : Thr w0 b q x wv vc F w) (n : Nat) : Thr w0 b q x wv vc F (w.drewN n) := ⟨h.1, h.2.1, h.2.2.1, below_drewN h.2.2.2 n⟩
theorem thr_3 {w0 w1 wr w2 w3 : World} {b q : Nat} {x wv vc : Value} {F : List Fr} (hO : OwnF 23 wr w1.heap.size wv F) (hBW : Below w0.heap.size w0 wr) (hb : b = wr.heap.size) (hB2 : Below wr.heap.size wr w2) (hz : w2.heap.size = b + 1) (_ : w1.heap.size ≤ wr.heap.size)
    (hD : DC w3 b q 300 0 vc []) (hW : Wrote w2.drew w3 b (.slice none 0 0) vc) (hF : OwnF 23 w3 w2.drew.heap.size x F) : Thr w0 b q x wv vc F w3 := by
  have hW' : Wrote w2 w3 b (.slice none 0 0) vc := ⟨hW.os, hW.tape, hW.output, hW.size, hW.block, hW.own⟩
  have h23 : Below wr.heap.size w2 w3 := hW'.nil_below rfl (by omega) (by omega)
  exact ⟨hD, hF.frs, (hO.below (hB2.trans h23)).frs, hBW.trans ((hB2.trans h23).mono hBW.size)⟩
set_option maxHeartbeats 4000000 in
set_option maxRecDepth 100000 in
theorem thr_core (ra : Option Addr) (cap : Nat) (R : List Raw) (A : ByteArray) (cut : Int) (w : World) (hR : R.length ≤ 20) (hA : A.size ≤ 300) (hs : ∀ r ∈ R, r.s.size ≤ 9223372036854775807)
    (hc : ∀ k (h : k < R.length), ∃ lb off, ra = some ⟨lb, off, none⟩ ∧ ∀ w1, Below w.heap.size w w1 → w1.cell? ⟨lb, off + k * 3, none⟩ = some (.int .i64 R[k].p) ∧ w1.cell? ⟨lb, off + k * 3 + 1, none⟩ = some (.int .i64 R[k].c) ∧ w1.cell? ⟨lb, off + k * 3 + 2, none⟩ = some (.string R[k].s)) :
    Calls Try.prog 5 #[.slice ra R.length cap, .string A, .int .i64 cut] w fun e w' => e = .returned (.bool true) ∧ Below w.heap.size w w' := by
  obtain ⟨i0, hi0, hz0, hz1, hz2⟩ := info_parts infoF
  have HC := Lib.hid hc
  have HS := Lib.hid hs
  clear hc hs
  go_enter Try.func5, Try.ntmps5
  go_wp2_with (first
    | (go_at_call 8; refine (awake_any _).mono ?_; rintro e w1 ⟨rfl, hb1⟩; have HB := Lib.hid hb1; clear hb1))
  go_loopw [7, 8, 29] (fun sv tv i wx => ∃ k : Nat, k ≤ R.length ∧ i = .int .i64 k ∧ sv = .string ⟨(fbs (oks (R.take k))).toArray⟩ ∧ Hid (OwnF 23 wx w1.heap.size tv (oks (R.take k)) ∧ Below w1.heap.size w1 wx ∧ (fbs (oks (R.take k))).length ≤ 404 * k ∧ ∀ f ∈ oks (R.take k), f.2.length ≤ 200)) (fun _ _ i _ => R.length - (intOf i).toNat)
  case atStart => exact ⟨0, by omega, rfl, rfl, OwnF.nil _ _ _, Below.refl _ _, by simp [oks, fbs], by simp [oks]⟩
  case round =>
    obtain ⟨k, hk, rfl, rfl, HR⟩ := hrel
    by_cases hlt : k < R.length
    · obtain ⟨lb, off, hra, hcell⟩ := HC.out k hlt
      subst hra
      obtain ⟨c0, c1, c2⟩ := hcell wr (HB.out.trans (HR.out.2.1.mono HB.out.size))
      have hsz := HS.out R[k] (List.getElem_mem hlt)
      have ht : R.take (k + 1) = R.take k ++ [R[k]] := List.take_succ_eq_append_getElem hlt
      obtain ⟨r, hr⟩ : ∃ r, r = R[k] := ⟨_, rfl⟩
      rw [← hr] at c0 c1 c2 hsz ht
      have hsn := oks_snoc (R.take k) r
      rw [← ht] at hsn
      have hol := oks_len (R.take k)
      have hol2 : (R.take k).length ≤ k := List.length_take_le _ _
      obtain ⟨F, hF⟩ : ∃ F, F = oks (R.take k) := ⟨_, rfl⟩
      rw [← hF] at HR hsn hol ⊢
      have HSN := Lib.hid hsn
      have HFE := Lib.hid hF
      have hFl : F.length ≤ 20 := by omega
      obtain ⟨p, c, s⟩ := r
      simp only at c0 c1 c2 hsz
      have hfl := HR.out.2.2.1
      obtain ⟨S, hS⟩ : ∃ S : ByteArray, S = ⟨(fbs F).toArray⟩ := ⟨_, rfl⟩
      have hSl : S.size ≤ 8080 := by rw [hS]; show (fbs F).toArray.size ≤ 8080; simp; omega
      rw [← hS]
      have HSS := Lib.hid hS
      have bx := fun i => World.cell?_alloc_new wr #[Value.int .i64 p, .int .i64 c, .string s] 23 i
      have b0 := bx 0
      have b1 := bx 1
      have b2 := bx 2
      simp only [List.getElem?_toArray, List.getElem?_cons_zero, List.getElem?_cons_succ] at b0 b1 b2
      have HX0 := Lib.hid b0
      have HX1 := Lib.hid b1
      have HX2 := Lib.hid b2
      clear hcell ht hr hsn hF hol hol2 hfl hS bx b0 b1 b2
      by_cases h200 : 200 < s.size
      · go_wp2
        go_ret
        exact ⟨rfl, HB.out.trans ((HR.out.2.1.alloc HR.out.2.1.size _).mono HB.out.size)⟩
      by_cases hok : 0 ≤ p ∧ p ≤ 15 ∧ 0 ≤ c ∧ c ≤ 15
      · obtain ⟨P, rfl⟩ : ∃ P : Nat, p = P := ⟨p.toNat, by omega⟩
        obtain ⟨C, rfl⟩ : ∃ C : Nat, c = C := ⟨c.toNat, by omega⟩
        have hP : P ≤ 15 := by omega
        have hC : C ≤ 15 := by omega
        have HE := Lib.hid (fun W => enc_ok P C s W hP hC (by omega))
        have hfbl := fb_len ((⟨P, C, s⟩ : Raw).fr)
        have hsl : ((⟨P, C, s⟩ : Raw).fr).2.length = s.size := by simp [Raw.fr]
        have HFV := Lib.hid (raw_frV P C s hP hC)
        have hokb : (⟨P, C, s⟩ : Raw).ok = true := by simp [Raw.ok]; omega
        have hsn2 := HSN.out
        rw [hokb, if_pos rfl] at hsn2
        rw [raw_fb P C s] at HE
        have HSL := Lib.hid hsl
        obtain ⟨f, hf⟩ : ∃ f, f = (⟨P, C, s⟩ : Raw).fr := ⟨_, rfl⟩
        rw [← hf] at HE hfbl hsl HFV hsn2 HSL
        have HSN2 := Lib.hid hsn2
        obtain ⟨T, hT⟩ : ∃ T : ByteArray, T = ⟨(fb f).toArray⟩ := ⟨_, rfl⟩
        rw [← hT] at HE
        have hTs : T.size ≤ 404 := by rw [hT]; show (fb f).toArray.size ≤ 404; simp; omega
        have HT := Lib.hid hT
        have HTl := Lib.hid (show (fb f).length ≤ 404 by omega)
        clear hok hokb hfbl hsl hsn2 hf hT HSN
        go_wp2_with (first
          | (go_at_call 9; refine (HE.out _).mono ?_; rintro e w2 ⟨rfl, hb2⟩; have HB2 := Lib.hid hb2; clear hb2; have k0 := (HB2.out.cell (p := ⟨wr.heap.size, 0, none⟩) (by simp)).trans HX0.out; have k1 := (HB2.out.cell (p := ⟨wr.heap.size, 1, none⟩) (by simp)).trans HX1.out; have k2 := (HB2.out.cell (p := ⟨wr.heap.size, 2, none⟩) (by simp)).trans HX2.out; have HO2 := Lib.hid (OwnF.below (w := wr.alloc (.cells #[.int .i64 P, .int .i64 C, .string s] 23)) (World.ownsRow.alloc HR.out.1 _) HB2.out); have HBW := Lib.hid ((HR.out.2.1.alloc HR.out.2.1.size _).trans (HB2.out.mono (by have := HR.out.2.1.size; simp; omega))))
          | (at_builtin; refine wpList_append_own _ rfl (.tmp 47) (.tmp 49) 45 rfl w1.heap.size 23 i0 _ 3 32 Try.underlying45 hi0 hz0 hz1 hz2 rfl (by decide) _ _ _ rfl (World.ownsRow.alloc HO2.out _) ⟨w2.heap.size, 0, none⟩ 1 1 [.int .i64 (P : Int), .int .i64 (C : Int), .string s] rfl rfl (cells_new' _ _ rfl #[.int .i64 (P : Int), .int .i64 (C : Int), .string s] _) (by rw [← HFV.out]; exact frsV_one _) (by unfold maxLen; omega) (by omega) (by have := HBW.out.size; simp; omega) ?_; intro v' w3 hown1 hgrow1 _; have HX := Lib.hid (want_after HO2.out HBW.out hown1 HFV.out hgrow1); clear hown1 hgrow1))
        go_roundw
        case rel =>
          refine ⟨k + 1, by omega, by go_num, ?_, ?_⟩
          · rw [HSN2.out, HSS.out, HT.out]
            exact val_string (bytes_ext' (by simp [fbs]))
          · refine ⟨by rw [HSN2.out]; exact HX.out.1, HX.out.2, ?_, ?_⟩
            · rw [HSN2.out]
              have h1 := HR.out.2.2.1
              have h2 := HTl.out
              simp only [fbs, List.flatMap_append, List.length_append, List.flatMap_cons, List.flatMap_nil, List.append_nil] at h1 ⊢
              omega
            · rw [HSN2.out]
              intro g hg
              rcases List.mem_append.1 hg with h | h
              · exact HR.out.2.2.2 g h
              · have := HSL.out
                obtain rfl := List.mem_singleton.1 h
                omega
        case measure => simp [intOf]; omega
      · have HE := Lib.hid (fun W => enc_no p c s W (by omega))
        have hokb : (⟨p, c, s⟩ : Raw).ok = false := by simp [Raw.ok]; omega
        have hsn2 := HSN.out
        rw [hokb] at hsn2
        have HSN2 := Lib.hid hsn2
        clear hok hokb hsn2 HSN
        go_wp2_with (first
          | (go_at_call 9; refine (HE.out _).mono ?_; rintro e w2 ⟨rfl, hb2⟩; have HB2 := Lib.hid hb2; clear hb2; have HO2 := Lib.hid (OwnF.below (w := wr.alloc (.cells #[.int .i64 p, .int .i64 c, .string s] 23)) (World.ownsRow.alloc HR.out.1 _) HB2.out); have HBW := Lib.hid ((HR.out.2.1.alloc HR.out.2.1.size _).trans (HB2.out.mono (by have := HR.out.2.1.size; simp; omega)))))
        go_roundw
        case rel =>
          have e1 : oks (R.take (k + 1)) = F := by rw [HSN2.out]; simp
          refine ⟨k + 1, by omega, by go_num, by rw [e1, HSS.out], ?_⟩
          rw [e1]
          exact ⟨HO2.out, HBW.out, by have := HR.out.2.2.1; omega, HR.out.2.2.2⟩
        case measure => simp [intOf]; omega
    · obtain rfl : k = R.length := by omega
      rw [List.take_length] at HR ⊢
      have hfl := HR.out.2.2.1
      have hol := oks_len R
      obtain ⟨F, hF⟩ : ∃ F, F = oks R := ⟨_, rfl⟩
      rw [← hF] at HR hfl hol ⊢
      obtain ⟨S, hS⟩ : ∃ S : ByteArray, S = ⟨(fbs F).toArray⟩ := ⟨_, rfl⟩
      have hSl : S.size ≤ 8080 := by rw [hS]; show (fbs F).toArray.size ≤ 8080; simp; omega
      rw [← hS]
      have HSS := Lib.hid hS
      have hFl : F.length ≤ 20 := by omega
      clear hfl hol hF hS
      have HO := Lib.hid HR.out.1
      have HBW := Lib.hid (HB.out.trans (HR.out.2.1.mono HB.out.size))
      have HS1 := Lib.hid HR.out.2.1.size
      have HFD := Lib.hid HR.out.2.2.2
      clear HR
      go_wp2
      go_loop [13] (fun i => ∃ k : Nat, k ≤ A.size ∧ i = .int .i64 k ∧ Hid (∀ j (h : j < A.size), j < k → A[j] ≠ 192)) (fun i => A.size - (intOf i).toNat)
      case atStart => exact ⟨0, by omega, rfl, fun j _ h => by omega⟩
      case round =>
        obtain ⟨k, hk, rfl, HJ⟩ := hrel
        by_cases hlt2 : k < A.size
        · by_cases e1 : A[k] = 192
          · have t1 : (((A[k].toNat : Nat) : Int) == 192) = true := by rw [e1]; rfl
            clear e1
            go_wp2
            go_ret
            exact ⟨rfl, HBW.out⟩
          · have n1 := u8_ne (n := 192) (by omega) e1
            have t1 : (((A[k].toNat : Nat) : Int) == 192) = false := by rw [beq_eq_false_iff_ne]; omega
            have E1 := Lib.hid e1
            clear e1 n1
            go_wp2
            go_round
            case rel =>
              refine ⟨k + 1, by omega, by go_num, fun j h hj => ?_⟩
              by_cases h2 : j < k
              · exact HJ.out j h h2
              · obtain rfl : j = k := by omega
                exact E1.out
            case measure => simp [intOf]; omega
        · obtain rfl : k = A.size := by omega
          have hA2 : ∀ c ∈ A.data.toList, c ≠ 192 := fun c hc => by
            obtain ⟨j, hj, rfl⟩ := List.getElem_of_mem hc
            have hj2 : j < A.size := by simpa using hj
            exact HJ.out j hj2 hj2
          have HTH := Lib.hid (fed_through 300 A.data.toList F hA2 (fun f hf => by have := HFD.out f hf; omega))
          have HNW := Lib.hid (fun W => cnew_any 300 W)
          rw [show capD 300 = 300 from rfl] at HNW
          clear HJ hA2 HFD
          obtain ⟨ALL, hall⟩ : ∃ ALL, ALL = A ++ S := ⟨_, rfl⟩
          have hcat : ∀ W, (Op.stringOp .add A S).run Try.prog W = .ok (.string ALL) W := fun W => by rw [hall]; exact run_string_add_sum W _ _ (show A.size + S.size ≤ 9223372036854775807 by omega)
          have hasz : ALL.size ≤ 8380 := by rw [hall, ByteArray.size_append]; omega
          have HAL := Lib.hid (show ALL.data.toList = A.data.toList ++ fbs F by rw [hall, HSS.out]; simp)
          have HFL := Lib.hid (show F.length ≤ 1000000 by omega)
          have HWS := HS1
          clear hall
          by_cases hc1 : cut < 0
          · have hc0 : 0 ≤ (0 : Int) := by omega
            have hc9 : (0 : Int) ≤ ALL.size := by omega
            obtain ⟨P1, P2, hpl, hps, hsA, hsB⟩ := two_parts ALL 0 hc0 hc9
            have HPL := Lib.hid hpl
            have HPS := Lib.hid hps
            clear hpl hps
            go_wp2_with (first
              | (go_at_call 12; refine (HNW.out _).mono ?_; rintro e w2 ⟨rfl, hD, hB2, hz2⟩; have HD := Lib.hid hD; have HB2 := Lib.hid hB2; have HZ2 := Lib.hid hz2; clear hD hB2 hz2))
            obtain ⟨b1, hb1⟩ : ∃ b1, b1 = wr.heap.size := ⟨_, rfl⟩
            rw [← hb1] at HD HZ2 ⊢
            have HB1 := Lib.hid hb1
            clear hb1
            have HFE := Lib.hid (feed_two b1 300 (0, 0, []) _ P1 P2 w2.heap.size 9 w2.drew rfl (by omega) (by simp [InvD]) (by simp) (by rw [HPS.out]; omega) (show DC w2.drew b1 _ _ _ _ _ from HD.out))
            rw [HPL.out, HAL.out] at HFE
            obtain ⟨q, hq, hth⟩ := HTH.out
            rw [hth] at HFE
            clear hth
            refine wp_region_any (by kernel_rfl) ?_
            try (change wpAny _ _ _ _ _ _ _ (World.drew _))
            refine wpAny_take (i := 0) (v := ?_) rfl (by kernel_rfl) (by kernel_rfl) (by kernel_rfl) (fun _ _ _ h => h) (Or.inl ⟨by rfl, ?_⟩) ?_
            rotate_left
            · intro w; go_simp; with_reducible rfl
            refine wpAny_take (i := 1) (v := ?_) rfl (by kernel_rfl) (by kernel_rfl) (by kernel_rfl) (fun _ _ _ h => h) (Or.inl ⟨by rfl, ?_⟩) ?_
            rotate_left
            · intro w; go_simp; with_reducible rfl
            refine wpAny_take (i := 2) (v := ?_) rfl (by kernel_rfl) (by kernel_rfl) (by kernel_rfl) (fun _ _ _ h => h) (Or.inl ⟨by rfl, ?_⟩) ?_
            rotate_left
            · intro w; go_simp; with_reducible rfl
            refine wpAny_take (i := 3) (v := ?_) rfl (by kernel_rfl) (by kernel_rfl) (by kernel_rfl) (fun _ _ _ h => h) (Or.inl ⟨by rfl, ?_⟩) ?_
            rotate_left
            · intro w; go_simp; with_reducible rfl
            refine wpAny_take (i := 4) (v := ?_) rfl (by kernel_rfl) (by kernel_rfl) (by kernel_rfl) (fun _ _ _ h => h) (Or.inl ⟨by rfl, ?_⟩) ?_
            rotate_left
            · intro w; go_simp; with_reducible rfl
            refine wpAny_take (i := 5) (v := ?_) rfl (by kernel_rfl) (by kernel_rfl) (by kernel_rfl) (fun _ _ _ h => h) (Or.inl ⟨by rfl, ?_⟩) ?_
            rotate_left
            · intro w; go_simp; with_reducible rfl
            refine wpAny_take (i := 6) (v := ?_) rfl (by kernel_rfl) (by kernel_rfl) (by kernel_rfl) (fun _ _ _ h => h) (Or.inl ⟨by rfl, ?_⟩) ?_
            rotate_left
            · intro w; go_simp; with_reducible rfl
            refine wpAny_ready (rs := [7]) (by kernel_rfl) (by simp) ?_
            refine AllReady.cons rfl (fun K hK => ?_) AllReady.nil
            go_simp
            refine hK _ _ ?_
            clear hK K
            refine wpAny_ready (rs := [8]) (by kernel_rfl) (by simp) ?_
            refine AllReady.cons rfl (fun K hK => ?_) AllReady.nil
            go_simp
            go_wp2_with ((go_at_call 17; refine (HFE.out).mono ?_; rintro e w3 ⟨vc, x, rfl, hD3, hW3, hF3⟩; have HT3 := Lib.hid (thr_3 HO.out HBW.out HB1.out HB2.out HZ2.out HWS.out hD3 hW3 hF3); clear hD3 hW3 hF3))
            refine wpAny_ready (rs := [9]) (by kernel_rfl) (by simp) ?_
            refine AllReady.cons rfl (fun K hK => ?_) AllReady.nil
            go_simp
            refine hK _ _ ?_
            clear hK K
            refine wpAny_done (by kernel_rfl) ?_ _
            clear hsA hsB
            go_wp2_with fail
            refine (plain_any _ F _ HFL.out HT3.out.2.1).mono ?_
            rintro e w4 ⟨p1, rfl, hp1, hb4⟩
            have HT4 := Lib.hid (HT3.out.below hb4)
            have HP1 := Lib.hid hp1.frs
            clear hp1 hb4 HT3
            go_wp2_with fail
            refine (plain_any _ F _ HFL.out HT4.out.2.2.1).mono ?_
            rintro e w5 ⟨p2, rfl, hp2, hb5⟩
            have HT5 := Lib.hid (HT4.out.below hb5)
            have HP15 := Lib.hid (HP1.out.below hb5)
            have HP2 := Lib.hid hp2.frs
            clear hp2 hb5 HT4 HP1
            go_wp2_with fail
            refine (same_yes _ _ F _ HFL.out HP15.out HP2.out).mono ?_
            rintro e w6 ⟨rfl, n6, rfl⟩
            have HT6 := Lib.hid (HT5.out.drewN n6)
            clear HT5 HP15 HP2
            have A1 := Lib.hid (cbad_any b1 _ _ _ _ _ HT6.out.1.1)
            have A2 := Lib.hid (cheld_any b1 _ _ _ _ _ _ HT6.out.1)
            go_wp2_with (first
              | (go_at_call 19; ((with_reducible refine (A1.out).mono ?_); rintro e w' ⟨rfl, rfl⟩))
              | (go_at_call 20; ((with_reducible refine (A2.out).mono ?_); rintro e w' ⟨rfl, rfl⟩)))
            go_ret
            exact ⟨rfl, HT6.out.2.2.2⟩
          by_cases hc2 : (ALL.size : Int) < cut
          · have hc0 : 0 ≤ (0 : Int) := by omega
            have hc9 : (0 : Int) ≤ ALL.size := by omega
            obtain ⟨P1, P2, hpl, hps, hsA, hsB⟩ := two_parts ALL 0 hc0 hc9
            have HPL := Lib.hid hpl
            have HPS := Lib.hid hps
            clear hpl hps
            go_wp2_with (first
              | (go_at_call 12; refine (HNW.out _).mono ?_; rintro e w2 ⟨rfl, hD, hB2, hz2⟩; have HD := Lib.hid hD; have HB2 := Lib.hid hB2; have HZ2 := Lib.hid hz2; clear hD hB2 hz2))
            obtain ⟨b1, hb1⟩ : ∃ b1, b1 = wr.heap.size := ⟨_, rfl⟩
            rw [← hb1] at HD HZ2 ⊢
            have HB1 := Lib.hid hb1
            clear hb1
            have HFE := Lib.hid (feed_two b1 300 (0, 0, []) _ P1 P2 w2.heap.size 9 w2.drew rfl (by omega) (by simp [InvD]) (by simp) (by rw [HPS.out]; omega) (show DC w2.drew b1 _ _ _ _ _ from HD.out))
            rw [HPL.out, HAL.out] at HFE
            obtain ⟨q, hq, hth⟩ := HTH.out
            rw [hth] at HFE
            clear hth
            refine wp_region_any (by kernel_rfl) ?_
            try (change wpAny _ _ _ _ _ _ _ (World.drew _))
            refine wpAny_take (i := 0) (v := ?_) rfl (by kernel_rfl) (by kernel_rfl) (by kernel_rfl) (fun _ _ _ h => h) (Or.inl ⟨by rfl, ?_⟩) ?_
            rotate_left
            · intro w; go_simp; with_reducible rfl
            refine wpAny_take (i := 1) (v := ?_) rfl (by kernel_rfl) (by kernel_rfl) (by kernel_rfl) (fun _ _ _ h => h) (Or.inl ⟨by rfl, ?_⟩) ?_
            rotate_left
            · intro w; go_simp; with_reducible rfl
            refine wpAny_take (i := 2) (v := ?_) rfl (by kernel_rfl) (by kernel_rfl) (by kernel_rfl) (fun _ _ _ h => h) (Or.inl ⟨by rfl, ?_⟩) ?_
            rotate_left
            · intro w; go_simp; with_reducible rfl
            refine wpAny_take (i := 3) (v := ?_) rfl (by kernel_rfl) (by kernel_rfl) (by kernel_rfl) (fun _ _ _ h => h) (Or.inl ⟨by rfl, ?_⟩) ?_
            rotate_left
            · intro w; go_simp; with_reducible rfl
            refine wpAny_take (i := 4) (v := ?_) rfl (by kernel_rfl) (by kernel_rfl) (by kernel_rfl) (fun _ _ _ h => h) (Or.inl ⟨by rfl, ?_⟩) ?_
            rotate_left
            · intro w; go_simp; with_reducible rfl
            refine wpAny_take (i := 5) (v := ?_) rfl (by kernel_rfl) (by kernel_rfl) (by kernel_rfl) (fun _ _ _ h => h) (Or.inl ⟨by rfl, ?_⟩) ?_
            rotate_left
            · intro w; go_simp; with_reducible rfl
            refine wpAny_take (i := 6) (v := ?_) rfl (by kernel_rfl) (by kernel_rfl) (by kernel_rfl) (fun _ _ _ h => h) (Or.inl ⟨by rfl, ?_⟩) ?_
            rotate_left
            · intro w; go_simp; with_reducible rfl
            refine wpAny_ready (rs := [7]) (by kernel_rfl) (by simp) ?_
            refine AllReady.cons rfl (fun K hK => ?_) AllReady.nil
            go_simp
            refine hK _ _ ?_
            clear hK K
            refine wpAny_ready (rs := [8]) (by kernel_rfl) (by simp) ?_
            refine AllReady.cons rfl (fun K hK => ?_) AllReady.nil
            go_simp
            go_wp2_with ((go_at_call 17; refine (HFE.out).mono ?_; rintro e w3 ⟨vc, x, rfl, hD3, hW3, hF3⟩; have HT3 := Lib.hid (thr_3 HO.out HBW.out HB1.out HB2.out HZ2.out HWS.out hD3 hW3 hF3); clear hD3 hW3 hF3))
            refine wpAny_ready (rs := [9]) (by kernel_rfl) (by simp) ?_
            refine AllReady.cons rfl (fun K hK => ?_) AllReady.nil
            go_simp
            refine hK _ _ ?_
            clear hK K
            refine wpAny_done (by kernel_rfl) ?_ _
            clear hsA hsB
            go_wp2_with fail
            refine (plain_any _ F _ HFL.out HT3.out.2.1).mono ?_
            rintro e w4 ⟨p1, rfl, hp1, hb4⟩
            have HT4 := Lib.hid (HT3.out.below hb4)
            have HP1 := Lib.hid hp1.frs
            clear hp1 hb4 HT3
            go_wp2_with fail
            refine (plain_any _ F _ HFL.out HT4.out.2.2.1).mono ?_
            rintro e w5 ⟨p2, rfl, hp2, hb5⟩
            have HT5 := Lib.hid (HT4.out.below hb5)
            have HP15 := Lib.hid (HP1.out.below hb5)
            have HP2 := Lib.hid hp2.frs
            clear hp2 hb5 HT4 HP1
            go_wp2_with fail
            refine (same_yes _ _ F _ HFL.out HP15.out HP2.out).mono ?_
            rintro e w6 ⟨rfl, n6, rfl⟩
            have HT6 := Lib.hid (HT5.out.drewN n6)
            clear HT5 HP15 HP2
            have A1 := Lib.hid (cbad_any b1 _ _ _ _ _ HT6.out.1.1)
            have A2 := Lib.hid (cheld_any b1 _ _ _ _ _ _ HT6.out.1)
            go_wp2_with (first
              | (go_at_call 19; ((with_reducible refine (A1.out).mono ?_); rintro e w' ⟨rfl, rfl⟩))
              | (go_at_call 20; ((with_reducible refine (A2.out).mono ?_); rintro e w' ⟨rfl, rfl⟩)))
            go_ret
            exact ⟨rfl, HT6.out.2.2.2⟩
          · have hc0 : 0 ≤ (cut : Int) := by omega
            have hc9 : (cut : Int) ≤ ALL.size := by omega
            obtain ⟨P1, P2, hpl, hps, hsA, hsB⟩ := two_parts ALL cut hc0 hc9
            have HPL := Lib.hid hpl
            have HPS := Lib.hid hps
            clear hpl hps
            go_wp2_with (first
              | (go_at_call 12; refine (HNW.out _).mono ?_; rintro e w2 ⟨rfl, hD, hB2, hz2⟩; have HD := Lib.hid hD; have HB2 := Lib.hid hB2; have HZ2 := Lib.hid hz2; clear hD hB2 hz2))
            obtain ⟨b1, hb1⟩ : ∃ b1, b1 = wr.heap.size := ⟨_, rfl⟩
            rw [← hb1] at HD HZ2 ⊢
            have HB1 := Lib.hid hb1
            clear hb1
            have HFE := Lib.hid (feed_two b1 300 (0, 0, []) _ P1 P2 w2.heap.size 9 w2.drew rfl (by omega) (by simp [InvD]) (by simp) (by rw [HPS.out]; omega) (show DC w2.drew b1 _ _ _ _ _ from HD.out))
            rw [HPL.out, HAL.out] at HFE
            obtain ⟨q, hq, hth⟩ := HTH.out
            rw [hth] at HFE
            clear hth
            refine wp_region_any (by kernel_rfl) ?_
            try (change wpAny _ _ _ _ _ _ _ (World.drew _))
            refine wpAny_take (i := 0) (v := ?_) rfl (by kernel_rfl) (by kernel_rfl) (by kernel_rfl) (fun _ _ _ h => h) (Or.inl ⟨by rfl, ?_⟩) ?_
            rotate_left
            · intro w; go_simp; with_reducible rfl
            refine wpAny_take (i := 1) (v := ?_) rfl (by kernel_rfl) (by kernel_rfl) (by kernel_rfl) (fun _ _ _ h => h) (Or.inl ⟨by rfl, ?_⟩) ?_
            rotate_left
            · intro w; go_simp; with_reducible rfl
            refine wpAny_take (i := 2) (v := ?_) rfl (by kernel_rfl) (by kernel_rfl) (by kernel_rfl) (fun _ _ _ h => h) (Or.inl ⟨by rfl, ?_⟩) ?_
            rotate_left
            · intro w; go_simp; with_reducible rfl
            refine wpAny_take (i := 3) (v := ?_) rfl (by kernel_rfl) (by kernel_rfl) (by kernel_rfl) (fun _ _ _ h => h) (Or.inl ⟨by rfl, ?_⟩) ?_
            rotate_left
            · intro w; go_simp; with_reducible rfl
            refine wpAny_take (i := 4) (v := ?_) rfl (by kernel_rfl) (by kernel_rfl) (by kernel_rfl) (fun _ _ _ h => h) (Or.inl ⟨by rfl, ?_⟩) ?_
            rotate_left
            · intro w; go_simp; with_reducible rfl
            refine wpAny_take (i := 5) (v := ?_) rfl (by kernel_rfl) (by kernel_rfl) (by kernel_rfl) (fun _ _ _ h => h) (Or.inl ⟨by rfl, ?_⟩) ?_
            rotate_left
            · intro w; go_simp; with_reducible rfl
            refine wpAny_take (i := 6) (v := ?_) rfl (by kernel_rfl) (by kernel_rfl) (by kernel_rfl) (fun _ _ _ h => h) (Or.inl ⟨by rfl, ?_⟩) ?_
            rotate_left
            · intro w; go_simp; with_reducible rfl
            refine wpAny_ready (rs := [7]) (by kernel_rfl) (by simp) ?_
            refine AllReady.cons rfl (fun K hK => ?_) AllReady.nil
            go_simp
            refine hK _ _ ?_
            clear hK K
            refine wpAny_ready (rs := [8]) (by kernel_rfl) (by simp) ?_
            refine AllReady.cons rfl (fun K hK => ?_) AllReady.nil
            go_simp
            go_wp2_with ((go_at_call 17; refine (HFE.out).mono ?_; rintro e w3 ⟨vc, x, rfl, hD3, hW3, hF3⟩; have HT3 := Lib.hid (thr_3 HO.out HBW.out HB1.out HB2.out HZ2.out HWS.out hD3 hW3 hF3); clear hD3 hW3 hF3))
            refine wpAny_ready (rs := [9]) (by kernel_rfl) (by simp) ?_
            refine AllReady.cons rfl (fun K hK => ?_) AllReady.nil
            go_simp
            refine hK _ _ ?_
            clear hK K
            refine wpAny_done (by kernel_rfl) ?_ _
            clear hsA hsB
            go_wp2_with fail
            refine (plain_any _ F _ HFL.out HT3.out.2.1).mono ?_
            rintro e w4 ⟨p1, rfl, hp1, hb4⟩
            have HT4 := Lib.hid (HT3.out.below hb4)
            have HP1 := Lib.hid hp1.frs
            clear hp1 hb4 HT3
            go_wp2_with fail
            refine (plain_any _ F _ HFL.out HT4.out.2.2.1).mono ?_
            rintro e w5 ⟨p2, rfl, hp2, hb5⟩
            have HT5 := Lib.hid (HT4.out.below hb5)
            have HP15 := Lib.hid (HP1.out.below hb5)
            have HP2 := Lib.hid hp2.frs
            clear hp2 hb5 HT4 HP1
            go_wp2_with fail
            refine (same_yes _ _ F _ HFL.out HP15.out HP2.out).mono ?_
            rintro e w6 ⟨rfl, n6, rfl⟩
            have HT6 := Lib.hid (HT5.out.drewN n6)
            clear HT5 HP15 HP2
            have A1 := Lib.hid (cbad_any b1 _ _ _ _ _ HT6.out.1.1)
            have A2 := Lib.hid (cheld_any b1 _ _ _ _ _ _ HT6.out.1)
            go_wp2_with (first
              | (go_at_call 19; ((with_reducible refine (A1.out).mono ?_); rintro e w' ⟨rfl, rfl⟩))
              | (go_at_call 20; ((with_reducible refine (A2.out).mono ?_); rintro e w' ⟨rfl, rfl⟩)))
            go_ret
            exact ⟨rfl, HT6.out.2.2.2⟩
end Go.Proofs.Ytcnljojbkjfebaa
