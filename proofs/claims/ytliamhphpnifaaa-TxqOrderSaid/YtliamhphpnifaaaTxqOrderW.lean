/-
The walk of TxqOrder.
-/
import Derived.Test.YtliamhphpnifaaaTxqOrdT
namespace Go.Proofs.Ytliamhphpnifaaa
open Go.RowKit
set_option maxRecDepth 20000
/-- in the loop over the ops -/
def OrSt (Q : QuP) (w : World) (q m4 m5 nm : Nat) (W : World) : Prop := ∃ S v P A, OInv Nm16 S P A ∧ QuO Q w q S (OrdK m4 m5 v) W ∧ OrdAt W w.heap.size m4 m5 v P A ∧ ∀ k, k < 3 → (P k).length ≤ nm
def nameB (k m : Nat) : ByteArray := ⟨#[byteI (k : Int), byteI ((m : Int) + 1), byteI (((m : Int) + 1) / 256)]⟩
theorem name_conv (W : World) (g k m : Nat) (hg : g = W.heap.size) (hk : k < 3) (hm : m ≤ 200) : (convert 49 9 (.slice (some ⟨g, 0, none⟩) 3 3)).run Try.prog (W.alloc (.cells #[.int .u8 (k : Int), .int .u8 ((m : Int) + 1), .int .u8 (((m : Int) + 1) / 256)] 5)) = .ok (.string (nameB k m)) (W.alloc (.cells #[.int .u8 (k : Int), .int .u8 ((m : Int) + 1), .int .u8 (((m : Int) + 1) / 256)] 5)) :=
  BytesAt.conv (cap := 3) (BytesAt.made W g [byteI (k : Int), byteI ((m : Int) + 1), byteI (((m : Int) + 1) / 256)] [.int .u8 (k : Int), .int .u8 ((m : Int) + 1), .int .u8 (((m : Int) + 1) / 256)] 5 (by simp [bytesV, ← byteI_val (k : Int) (by omega) (by omega), ← byteI_val ((m : Int) + 1) (by omega) (by omega), ← byteI_val (((m : Int) + 1) / 256) (by omega) (by omega)]) hg)
theorem name_nm (k m : Nat) : Nm16 k (nameB k m) := ⟨rfl, by simp [nameB, byteI]⟩
theorem OrSt.below {Q : QuP} (hC : QuC Q) {w W W' : World} {q m4 m5 nm : Nat} (h : OrSt Q w q m4 m5 nm W) (hb : Below W.heap.size W W') : OrSt Q w q m4 m5 nm W' := by
  obtain ⟨S, v, P, A, h1, h2, h3, h4⟩ := h
  exact ⟨S, v, P, A, h1, h2.below hC hb, h3.below hb, h4⟩
/-- the frame behind what an op does -/
def otFr (g o n c q m4 m5 ob i nm : Nat) (uu : Nat → Value) : Act := { tmps := #[.slice (some ⟨g, o, none⟩) n c, undef, uu 2, ptrQ q, .pointer (some ⟨m4, 0, none⟩), .pointer (some ⟨m5, 0, none⟩), .int .i64 (nm : Int), undef, .pointer (some ⟨ob, 0, none⟩), uu 9, undef, uu 11, uu 12, uu 13, .bool true, .bool false, .slice (some ⟨g, o, none⟩) n c, .bool false, ptrQ q, .slice (some ⟨g, o, none⟩) n c, .int .i64 (n : Int), .int .i64 (i : Int), uu 22, uu 23, uu 24, uu 25, uu 26, uu 27, uu 28, uu 29, uu 30, uu 31, uu 32, uu 33, uu 34, uu 35, uu 36, uu 37, uu 38, uu 39, uu 40, uu 41, uu 42, uu 43, uu 44, uu 45, uu 46, uu 47, uu 48, uu 49, uu 50, uu 51, uu 52, uu 53, uu 54, uu 55, uu 56, uu 57, uu 58, uu 59, uu 60, uu 61, uu 62, uu 63, uu 64, uu 65, uu 66, uu 67, uu 68, uu 69, uu 70, uu 71, uu 72, uu 73, uu 74, uu 75, uu 76, uu 77, uu 78, uu 79, uu 80, uu 81, uu 82, uu 83, uu 84, uu 85, uu 86, uu 87, uu 88, uu 89, uu 90, uu 91, uu 92, uu 93, uu 94, uu 95, uu 96, uu 97, uu 98, uu 99, uu 100, uu 101, uu 102, uu 103, uu 104, uu 105, uu 106, uu 107, uu 108, uu 109, uu 110, uu 111, uu 112, uu 113, uu 114, uu 115, uu 116, uu 117, uu 118, uu 119, uu 120, uu 121, uu 122, uu 123, uu 124, uu 125, uu 126, uu 127, uu 128, uu 129, uu 130, uu 131, uu 132, uu 133, uu 134, uu 135], defers := [] }
theorem ot_way {KT : Act → World → Prop} {P : Nat → World → Prop} {g o n c q m4 m5 ob i : Nat} {N : Nat → Prop} (H : ∀ (uu : Nat → Value) (nm : Nat) (W : World), N nm → P nm W → KT (otFr g o n c q m4 m5 ob i nm uu) W) (a : Act) (nm : Nat) (W : World) (hN : N nm) (hP : P nm W) (ha : a = otFr g o n c q m4 m5 ob i nm (fun k => a.tmps.getD k undef)) : KT a W := by
  rw [ha]
  exact H _ _ _ hN hP
set_option maxHeartbeats 4000000 in
theorem txqorder_any {Q : QuP} (hC : QuC Q) (a : Option Addr) (n c : Nat) (Ops : List Op16) (w : World) (hn : Ops.length = n) (hA : AtL encO w a Ops) : Calls Try.prog 4 #[.slice a n c] w fun e w' => e = .returned (.bool true) ∧ Below w.heap.size w w' := by
  have HC := Lib.hid hC
  have HAW := Lib.hid (fun W => cawake16 hC W)
  have HGR := Lib.hid (fun (W : World) (hb : Below w.heap.size w W) => great_any a n c Ops W hn (hA.below hb))
  have HNW := Lib.hid (fun W => hC.new W)
  cases hg : greatB Ops with
  | true =>
    rw [hg] at HGR
    clear hC hg hn hA
    go_enter Try.func4, Try.ntmps4
    go_wp2_with (first
      | (go_at_call 6; (with_reducible refine (HAW.out _).mono ?_); rintro e w1 ⟨rfl, hb⟩; have HB1 := Lib.hid hb; clear hb)
      | (go_at_call 7; (with_reducible refine (HGR.out _ HB1.out).mono ?_); rintro e w2 ⟨rfl, hb⟩; have HB2 := Lib.hid (HB1.out.trans (hb.mono HB1.out.size)); clear hb))
    exact bodyPost_ret (v := .bool true) (by simp [results, Try.results4, go_sem]) rfl ⟨rfl, HB2.out⟩
  | false =>
    rw [hg] at HGR
    have hno := great_no hg
    have hl : n ≤ 150 := by rw [← hn]; exact hno.1
    have HSZ := Lib.hid hno.2
    have HN := Lib.hid hn
    have HA := Lib.hid hA
    clear hC hg hn hA hno
    go_enter Try.func4, Try.ntmps4
    go_wp2_with (first
      | (go_at_call 6; (with_reducible refine (HAW.out _).mono ?_); rintro e w1 ⟨rfl, hb⟩; have HB1 := Lib.hid hb; clear hb)
      | (go_at_call 7; (with_reducible refine (HGR.out _ HB1.out).mono ?_); rintro e w2 ⟨rfl, hb⟩; have HB2 := Lib.hid (HB1.out.trans (hb.mono HB1.out.size)); clear hb)
      | (go_at_call 8; (with_reducible refine (HNW.out _).mono ?_); rintro e w3 ⟨q, F, rfl, h1, h2, h3⟩; have HQ3 := Lib.hid (And.intro h1 (And.intro h2 h3)); clear h1 h2 h3))
    have HP0 := Lib.hid (show OrSt Q w q w3.heap.size (w3.heap.size + 1) 0 ((w3.alloc (.cells #[.slice none 0 0, .slice none 0 0, .slice none 0 0] 46)).alloc (.cells #[.int .i64 0, .int .i64 0, .int .i64 0] 47)) from by
      have hs := HB2.out.size
      have h0 : QuO Q w q [] (fun _ => False) w3 := ⟨F, HQ3.out.1, fun b hf => Nat.le_trans hs (HQ3.out.2.1 b hf), HB2.out.trans (HQ3.out.2.2.mono hs), fun b hk => hk.elim⟩
      have h1 := (h0.alloc HC.out (.cells #[.slice none 0 0, .slice none 0 0, .slice none 0 0] 46)).alloc HC.out (.cells #[.int .i64 0, .int .i64 0, .int .i64 0] 47)
      refine ⟨[], fun _ => .slice none 0 0, fun _ => [], fun _ => 0, OInv.start _, ?_, ⟨(RowAt.new w3 w3.heap.size rfl [.slice none 0 0, .slice none 0 0, .slice none 0 0] _).alloc _, RowAt.new _ (w3.heap.size + 1) (by simp) [.int .i64 0, .int .i64 0, .int .i64 0] _, fun _ _ => OwnL.nil _ _ _ _, fun _ _ _ _ _ g e => (by cases e), fun _ _ g e => (by cases e), by omega⟩, fun _ _ => Nat.le_refl _⟩
      obtain ⟨F1, k1, k2, k3, k4⟩ := h1
      refine ⟨F1, k1, k2, k3, fun b hk => k4 b ?_⟩
      rcases hk with rfl | rfl | ⟨_, _, e⟩
      · exact Or.inl (Or.inr rfl)
      · exact Or.inr (by simp)
      · cases e)
    have HGE := Lib.hid (show w.heap.size ≤ w3.heap.size ∧ w.heap.size ≤ w3.heap.size + 1 from by
      have h1 := HB2.out.size
      have h2 := HQ3.out.2.2.size
      omega)
    generalize hm5 : w3.heap.size + 1 = m5 at *
    generalize w3.heap.size = m4 at *
    generalize (w3.alloc (.cells #[.slice none 0 0, .slice none 0 0, .slice none 0 0] 46)).alloc (.cells #[.int .i64 0, .int .i64 0, .int .i64 0] 47) = w4 at *
    clear HAW HGR HNW HB1 HQ3 hm5
    go_loopw [6, 21] (fun nv iv wx => ∃ i nm : Nat, i ≤ n ∧ nm ≤ i ∧ iv = .int .i64 i ∧ nv = .int .i64 nm ∧ Hid (OrSt Q w q m4 m5 nm wx)) (fun _ iv _ => n - (intOf iv).toNat)
    case atStart => exact ⟨0, 0, Nat.zero_le _, Nat.le_refl _, rfl, rfl, HP0⟩
    case round =>
      obtain ⟨i, nm, hi, hnm, rfl, rfl, HK⟩ := hrel
      clear HP0
      by_cases hlt : i < n
      · have dk : decide (i < n) = true := decide_eq_true hlt
        have hL : i < Ops.length := by rw [HN.out]; exact hlt
        obtain ⟨S, v, P, A, hinv, hq, ho, hpl⟩ := HK.out
        have HPL := Lib.hid hpl
        obtain ⟨g, o, rfl, -⟩ := HA.out.some_ (by omega)
        have hbel : Below w.heap.size w wr := hq.bel
        obtain ⟨e0, e1, e2, e3, e4⟩ := (HA.out.below hbel).op i hL
        generalize Ops[i] = x at *
        obtain ⟨x0, x1, x2, x3, x4⟩ := x
        simp only at e0 e1 e2 e3 e4
        have HQ := Lib.hid (hq.alloc HC.out (.cells #[.int .i64 x0, .int .i64 x1, .int .i64 x2, .int .i64 x3, .string x4] 32))
        have HO := Lib.hid (ho.below ((Below.refl wr.heap.size wr).alloc (Nat.le_refl _) (.cells #[.int .i64 x0, .int .i64 x1, .int .i64 x2, .int .i64 x3, .string x4] 32)))
        have HR := Lib.hid (RowAt.new wr wr.heap.size rfl [.int .i64 x0, .int .i64 x1, .int .i64 x2, .int .i64 x3, .string x4] 32)
        have HI := Lib.hid hinv
        have HM4 := Lib.hid (show m4 < wr.heap.size from ho.row4.lt)
        have HOB := Lib.hid (fun k hk g (e : (v k).ownBlock = some g) => ((ho.own k hk).ge e).2)
        clear hq ho hinv HK hbel hpl
        have r0 := HR.out.cell 0 rfl
        have r1 := HR.out.cell 1 rfl
        have r2 := HR.out.cell 2 rfl
        go_upto_region 12 with fail
        rename_i KT hKT K0 hK0
        have HTAIL : ∀ (uu : Nat → Value) (nm' : Nat) (W : World), nm' ≤ i + 1 → OrSt Q w q m4 m5 nm' W → KT (otFr g o n c q m4 m5 wr.heap.size i nm' uu) W := by
          intro uu nm' W hnm' hst
          refine hKT _ _ ?_
          unfold otFr
          have HST := Lib.hid hst
          obtain ⟨S', v', P', A', h1, h2, h3, -⟩ := hst
          have HLN := Lib.hid (h2.len HC.out)
          obtain ⟨F', k1, -⟩ := h2
          have h16 := (HC.out.inv k1).many
          have d16 : decide ((16 : Int) < (S'.length : Int)) = false := decide_eq_false (by omega)
          have HZI := Lib.hid (show wrap64 ((i : Int) + 1) = (i : Int) + 1 from IntWalk.wrap64_in _ (by omega))
          clear h1 h3 k1 h16 hKT HQ HO HR HI r0 r1 r2
          go_wp2_with (first
            | (go_at_call 17; (with_reducible refine HLN.out.mono ?_); rintro e wL ⟨rfl, -, hb⟩; have HE := Lib.hid (HST.out.below HC.out hb); clear hb))
          go_roundw
          case rel => exact ⟨i + 1, nm', by omega, hnm', (by (try rw [HZI.out]); rfl), rfl, HE⟩
          case measure =>
            try rw [HZI.out]
            simp [intOf]
            omega
        clear hKT
        have HWAY := Lib.hid HTAIL
        clear HTAIL
        by_cases hput : x0 = 0 ∧ 0 ≤ x1 ∧ x1 ≤ 2
        · obtain ⟨k1, rfl⟩ : ∃ k1 : Nat, x1 = (k1 : Int) := ⟨x1.toNat, by omega⟩
          have hk1 : k1 < 3 := by omega
          have d0 : (x0 == 0) = true := by simpa using hput.1
          have d1 : decide (0 ≤ (k1 : Int)) = true := decide_eq_true hput.2.1
          have d2 : decide ((k1 : Int) ≤ 2) = true := decide_eq_true hput.2.2
          clear hput
          have HZN := Lib.hid (show wrap64 ((nm : Int) + 1) = (nm : Int) + 1 from IntWalk.wrap64_in _ (by omega))
          have hcv := name_conv (wr.alloc (.cells #[.int .i64 x0, .int .i64 (k1 : Int), .int .i64 x2, .int .i64 x3, .string x4] 32)) (wr.heap.size + 1) k1 nm (by simp) hk1 (by omega)
          have HNM := Lib.hid (name_nm k1 nm)
          have HNS := Lib.hid (show (nameB k1 nm).size = 3 from rfl)
          have HQ2 := Lib.hid (HQ.out.alloc HC.out (.cells #[.int .u8 (k1 : Int), .int .u8 ((nm : Int) + 1), .int .u8 (((nm : Int) + 1) / 256)] 5))
          generalize nameB k1 nm = f at *
          have HP := Lib.hid (HQ2.out.put HC.out (k1 : Int) 0 f (by have := HNS.out; omega))
          have HO2 := Lib.hid (HO.out.below ((Below.refl _ _).alloc (Nat.le_refl _) (.cells #[.int .u8 (k1 : Int), .int .u8 ((nm : Int) + 1), .int .u8 (((nm : Int) + 1) / 256)] 5)))
          have HR2 := Lib.hid (HR.out.alloc (.cells #[.int .u8 (k1 : Int), .int .u8 ((nm : Int) + 1), .int .u8 (((nm : Int) + 1) / 256)] 5))
          by_cases hz : putErr (k1 : Int) f.size S = 0
          · have dz : (putErr (k1 : Int) f.size S == 0) = true := by simpa using hz
            have HZ := Lib.hid hz
            clear hz
            go_upto_region 16 with (first
              | (go_at_call 9; (with_reducible refine HP.out.mono ?_); rintro e wP ⟨rfl, hq, hs⟩; have HQ3 := Lib.hid hq; have HO3 := Lib.hid (HO2.out.same ⟨hs.1, fun b hk => hs.2 b (Or.inl (Or.inl hk))⟩); have HR3 := Lib.hid (HR2.out.block (hs.2 _ (Or.inl (Or.inr rfl))) hs.1); clear hq hs))
            have HQX := Lib.hid ((HQ3.out.below HC.out (Below.refl _ _).drew).alloc HC.out (.cells #[.string f] 9))
            have HOX := Lib.hid ((HO3.out.below (Below.refl _ _).drew).below ((Below.refl _ _).alloc (Nat.le_refl _) (.cells #[.string f] 9)))
            have HRX := Lib.hid (HR3.out.drew.alloc (.cells #[.string f] 9))
            have hplk := HPL.out k1 hk1
            have hsz := HQX.out.bel.size
            obtain ⟨v', wA, hr, hown, hgr, hwh⟩ := run_append_one encS 9 37 37 Try.underlying37 infoS16 rfl (by decide) (wP.drew.alloc (.cells #[.string f] 9)) w.heap.size (v k1) (P k1) (HOX.out.own k1 hk1) wP.heap.size 1 f (AtL.made encS 9 wP.drew wP.heap.size f [.string f] rfl rfl) (by omega) hsz
            have HFIN := Lib.hid (HOX.out.put k1 hk1 v' f hown hgr hwh)
            have hqA := HQX.out.grown HC.out hgr (fun g e => ⟨Or.inl (Or.inl (Or.inl (Or.inr (Or.inr ⟨k1, hk1, e⟩)))), ((HOX.out.own k1 hk1).ge e).1⟩) hwh (fun g e => (hown.ge e).2)
            have HQA := Lib.hid ((hqA.set HC.out m4 k1 v' (Or.inl (Or.inl (Or.inl (Or.inl (Or.inl rfl))))) HGE.out.1).less (K' := OrdK m4 m5 (oneV v k1 v')) fun b hk => by
              rcases hk with rfl | rfl | ⟨d, hd, e⟩
              · exact Or.inl (Or.inl (Or.inl (Or.inl (Or.inl rfl))))
              · exact Or.inl (Or.inl (Or.inl (Or.inl (Or.inr (Or.inl rfl)))))
              · unfold oneV at e
                split at e
                · exact Or.inr e
                · exact Or.inl (Or.inl (Or.inl (Or.inl (Or.inr (Or.inr ⟨d, hd, e⟩))))))
            have HR4A := Lib.hid (HOX.out.row4.block (hgr.block m4 HOX.out.row4.lt fun e => (HOX.out.off k1 hk1 m4 e.symm).1 rfl) hgr.size)
            have HPN := Lib.hid (show ∀ k, k < 3 → (onePut P k1 f k).length ≤ nm + 1 from fun k hk => by
              have := HPL.out k hk
              unfold onePut
              split
              · rw [List.length_append]
                simp only [List.length_singleton]
                omega
              · omega)
            have HIN := Lib.hid (HI.out.put k1 hk1 0 f HNM.out HZ.out)
            clear hqA
            obtain ⟨av, cv, hv', -⟩ := hown.see
            rw [List.length_append, List.length_singleton] at hv'
            subst hv'
            have hobk : (v k1).ownBlock ≠ some wr.heap.size := fun e => by
              have := HOB.out k1 hk1 _ e
              omega
            have HRA := Lib.hid (HRX.out.block (hgr.block _ (HRX.out.lt) (fun e => hobk e.symm)) hgr.size)
            have HR16 := Lib.hid hr
            clear hr hown hgr hwh hobk hsz hplk
            have HB := Lib.hid HR3.out.drew
            have hc4 : ∀ W, RowAt W m4 [v 0, v 1, v 2] → KeepAt W m4 k1 (v k1) := fun W h => by
              rcases lt_three hk1 with rfl | rfl | rfl
              · exact h.get 0 rfl
              · exact h.get 1 rfl
              · exact h.get 2 rfl
            have HC4 := Lib.hid hc4
            clear hc4
            refine wp_region_held (S := fun W' => RowAt W' wr.heap.size [.int .i64 x0, .int .i64 (k1 : Int), .int .i64 x2, .int .i64 x3, .string x4]) (by kernel_rfl) ?_
            change wpAnyH _ _ _ _ _ _ _ _ wP.drew
            refine wpAnyH_take (i := 0) (v := ?_) rfl (by kernel_rfl) (by kernel_rfl) (by kernel_rfl) (fun _ _ _ h => h) (Or.inl ⟨by rfl, ?_⟩) HB.out ?_
            rotate_left
            · intro w' hw'
              go_simp
              with_reducible rfl
            go_simp
            refine wpAnyH_take (i := 2) (v := ?_) rfl (by kernel_rfl) (by kernel_rfl) (by kernel_rfl) (fun _ _ _ h => h) (Or.inl ⟨by rfl, ?_⟩) HB.out ?_
            rotate_left
            · intro w' hw'
              go_simp
              with_reducible rfl
            go_simp
            refine wpAnyH_take (i := 6) (v := ?_) rfl (by kernel_rfl) (by kernel_rfl) (by kernel_rfl) (fun _ _ _ h => h) (Or.inl ⟨by rfl, ?_⟩) HB.out ?_
            rotate_left
            · intro w' hw'
              go_simp
              with_reducible rfl
            go_simp
            refine wpAnyH_take (i := 1) (v := ?_) rfl (by kernel_rfl) (by kernel_rfl) (by kernel_rfl) (fun _ _ _ h => h) (Or.inl ⟨by rfl, ?_⟩) HB.out ?_
            rotate_left
            · intro w' hw'
              have xx := hw'.cell 1 rfl
              go_simp
              with_reducible rfl
            go_simp
            refine wpAnyH_take (i := 3) (v := ?_) rfl (by kernel_rfl) (by kernel_rfl) (by kernel_rfl) (fun _ _ _ h => h) (Or.inl ⟨by rfl, ?_⟩) HB.out ?_
            rotate_left
            · intro w' hw'
              have xx := hw'.cell 1 rfl
              go_simp
              with_reducible rfl
            go_simp
            refine wpAnyH_take (i := 4) (v := ?_) rfl (by kernel_rfl) (by kernel_rfl) (by kernel_rfl) (fun _ _ _ h => h) (Or.inl ⟨by rfl, ?_⟩) HB.out ?_
            rotate_left
            · intro w' hw'
              have xx : (k1 : Int) < 3 := by omega
              go_simp
              with_reducible rfl
            go_simp
            refine wpAnyH_ready (rs := [5, 7]) (by kernel_rfl) (by simp) ?_
            refine AllReadyH.cons rfl (fun K hK => ?_) (AllReadyH.cons rfl (fun K hK => ?_) AllReadyH.nil)
            · have xx := (HC4.out _ (HO3.out.row4.drew)).cell
              go_simp
              clear xx
              refine hK.out _ _ HB.out (fun _ => ?_)
              clear hK K
              refine wpAnyH_ready (rs := [7]) (by kernel_rfl) (by simp) ?_
              refine AllReadyH.cons rfl (fun K hK => ?_) AllReadyH.nil
              go_simp
              replace HB := Lib.hid HRX.out
              refine hK.out _ _ HB.out (fun _ => ?_)
              clear hK K
              refine wpAnyH_ready (rs := [8]) (by kernel_rfl) (by simp) ?_
              refine AllReadyH.cons rfl (fun K hK => ?_) AllReadyH.nil
              rw [if_pos (by kernel_rfl)]
              refine wp_append_run (.tmp 62) (.tmp 64) rfl rfl rfl HR16.out ?_
              replace HB := Lib.hid HRA.out
              go_simp
              refine hK.out _ _ HB.out (fun _ => ?_)
              clear hK K
              refine wpAnyH_take (i := 9) (v := ?_) rfl (by kernel_rfl) (by kernel_rfl) (by kernel_rfl) (fun _ _ _ h => h) (Or.inl ⟨by rfl, ?_⟩) HB.out ?_
              rotate_left
              · intro w' hw'
                have xx : (k1 : Int) < 3 := by omega
                go_simp
                with_reducible rfl
              go_simp
              have xx := (HC4.out _ HR4A.out).cell
              have xy := (HC4.out _ HR4A.out).free
              refine wpAnyH_ready (rs := [10]) (by kernel_rfl) (by simp) ?_
              refine AllReadyH.cons rfl (fun K hK => ?_) AllReadyH.nil
              go_simp
              clear xx xy
              replace HB := Lib.hid (HRA.out.other (p := k1) (.slice av ((P k1).length + 1) cv) (show m4 ≠ wr.heap.size from by have := HM4.out; omega))
              refine hK.out _ _ HB.out (fun _ => ?_)
              clear hK K
              refine wpAnyH_done (by kernel_rfl) ?_ _
              go_wp2_with fail
              exact ot_way HWAY.out _ (nm + 1) _ (by omega) ⟨_, _, _, _, HIN.out, HQA.out, HFIN.out, HPN.out⟩ (by kernel_rfl)
            · go_simp
              replace HB := Lib.hid HRX.out
              refine hK.out _ _ HB.out (fun _ => ?_)
              clear hK K
              have xx : (wP.alloc (.cells #[.string f] 9)).drew.cell? ⟨m4, k1, none⟩ = some (v k1) := (HC4.out _ HOX.out.row4).cell
              refine wpAnyH_ready (rs := [5]) (by kernel_rfl) (by simp) ?_
              refine AllReadyH.cons rfl (fun K hK => ?_) AllReadyH.nil
              go_simp
              clear xx
              refine hK.out _ _ HB.out (fun _ => ?_)
              clear hK K
              refine wpAnyH_ready (rs := [8]) (by kernel_rfl) (by simp) ?_
              refine AllReadyH.cons rfl (fun K hK => ?_) AllReadyH.nil
              rw [if_pos (by kernel_rfl)]
              refine wp_append_run (.tmp 62) (.tmp 64) rfl rfl rfl HR16.out ?_
              replace HB := Lib.hid HRA.out
              go_simp
              refine hK.out _ _ HB.out (fun _ => ?_)
              clear hK K
              refine wpAnyH_take (i := 9) (v := ?_) rfl (by kernel_rfl) (by kernel_rfl) (by kernel_rfl) (fun _ _ _ h => h) (Or.inl ⟨by rfl, ?_⟩) HB.out ?_
              rotate_left
              · intro w' hw'
                have xx : (k1 : Int) < 3 := by omega
                go_simp
                with_reducible rfl
              go_simp
              have xx := (HC4.out _ HR4A.out).cell
              have xy := (HC4.out _ HR4A.out).free
              refine wpAnyH_ready (rs := [10]) (by kernel_rfl) (by simp) ?_
              refine AllReadyH.cons rfl (fun K hK => ?_) AllReadyH.nil
              go_simp
              clear xx xy
              replace HB := Lib.hid (HRA.out.other (p := k1) (.slice av ((P k1).length + 1) cv) (show m4 ≠ wr.heap.size from by have := HM4.out; omega))
              refine hK.out _ _ HB.out (fun _ => ?_)
              clear hK K
              refine wpAnyH_done (by kernel_rfl) ?_ _
              go_wp2_with fail
              exact ot_way HWAY.out _ (nm + 1) _ (by omega) ⟨_, _, _, _, HIN.out, HQA.out, HFIN.out, HPN.out⟩ (by kernel_rfl)
          · have dz : (putErr (k1 : Int) f.size S == 0) = false := by simpa using hz
            have hsame : sortE (putE (k1 : Int) 0 f S) = S := by
              obtain ⟨F', k1', -⟩ := HQ.out
              have hiv := HC.out.inv k1'
              rw [put_not hz]
              exact sort_fix S hiv.ok hiv.by_
            rw [hsame] at HP
            clear hz hsame
            go_wp2_with (first
              | (go_at_call 9; (with_reducible refine HP.out.mono ?_); rintro e wP ⟨rfl, hq, hs⟩; have HQ3 := Lib.hid hq; have HO3 := Lib.hid (HO2.out.same ⟨hs.1, fun b hk => hs.2 b (Or.inl (Or.inl hk))⟩); clear hq hs))
            exact ot_way HWAY.out _ (nm + 1) _ (by omega) ⟨S, v, P, A, HI.out, HQ3.out.less fun b hb => Or.inl (Or.inl hb), HO3.out, fun k hk => Nat.le_succ_of_le (HPL.out k hk)⟩ (by kernel_rfl)
        · by_cases h1 : x0 = 1
          · have d0 : (x0 == 0) = false := by simp [h1]
            have d1 : (x0 == 1) = true := by simpa using h1
            clear h1 hput
            have HTK := Lib.hid (HQ.out.take2 HC.out x1 x2)
            have hT := takeN_le x1 x2 S 0 0
            have hiv : SOk S := by
              obtain ⟨F', k1', -⟩ := HQ.out
              exact HC.out.inv k1'
            generalize takeN x1 x2 0 0 S = T at *
            have HSB := Lib.hid (fun j => hiv.by_.sublist (List.drop_sublist j S))
            have hN : (frs (S.take T)).length = T := by rw [List.length_map, List.length_take]; omega
            have hT16 : T ≤ 16 := Nat.le_trans hT hiv.many
            rw [hN] at HTK
            have HT := Lib.hid hT
            have HNT := Lib.hid hN
            have hm5 := HO.out.row5.lt
            have HM5 := Lib.hid hm5
            clear hT hiv hN hm5
            go_wp2_with (first
              | (go_at_call 12; (with_reducible refine HTK.out.mono ?_); rintro e wT ⟨ta, tc, rfl, hA5, hq5, hs5, hge5⟩; have HJ0 := Lib.hid (show JAt Q w q m4 m5 v P ta S T 0 A wT from ⟨HI.out, HO.out.same ⟨hs5.1, fun b hk => hs5.2 b (Or.inl hk)⟩, hq5.less fun b hk => hk.imp Or.inl id, hA5, fun p e k => by have := hge5 p e; have := HM5.out; omega⟩); clear hA5 hq5 hs5 hge5))
            go_loopw [78] (fun jv wx => ∃ (j : Nat) (A' : Nat → Nat), j ≤ T ∧ jv = .int .i64 j ∧ Hid (JAt Q w q m4 m5 v P ta S T j A' wx)) (fun jv _ => T - (intOf jv).toNat)
            case atStart => exact ⟨0, A, Nat.zero_le _, rfl, HJ0⟩
            case round =>
              obtain ⟨j, A', hj, rfl, HJ⟩ := hrel
              clear HJ0 HTK
              by_cases hlj : j < T
              · have dj : decide (j < T) = true := decide_eq_true hlj
                have HZJ := Lib.hid (show wrap64 ((j : Int) + 1) = (j : Int) + 1 from IntWalk.wrap64_in _ (by omega))
                have hLj : j < S.length := by have := HT.out; omega
                have hLt : j < (frs (S.take T)).length := by rw [HNT.out]; exact hlj
                obtain ⟨gt, ot, rfl, -⟩ := HJ.out.tx.some_ (by omega)
                have y0 := HJ.out.tx.txt j hLt
                have hfe : (frs (S.take T))[j] = S[j].fr := by simp [frs]
                rw [hfe] at y0
                have hdr : S.drop j = S[j] :: S.drop (j + 1) := List.drop_eq_getElem_cons hLj
                have hinv := HJ.out.inv
                rw [hdr] at hinv
                have hby := HSB.out j
                rw [hdr] at hby
                obtain ⟨cc, hcc, -, hnm', ⟨hac, hae⟩, hgo, hlow⟩ := hinv.go hby
                generalize S[j].fr = f at *
                have hsz3 := hnm'.1
                have hix := fun W => name_byte cc hcc f hnm'.2 W
                obtain ⟨k5, k4⟩ := row5c HJ.out.ord cc hcc
                have z5 := k5.cell
                have z5f := k5.free
                have z4 := k4.cell
                have hvo := HJ.out.ord.own cc hcc
                obtain ⟨vg, vc, hv, -, -, hvA⟩ := hvo.some_ (by omega)
                have z6 := hvA.txt (A' cc) hac
                rw [hae] at z6
                rw [hv] at z4
                simp only [Nat.zero_add] at z6
                have hup := fun W (hb : Below wr.heap.size wr W) => And.intro (row5c (HJ.out.below HC.out hb).ord cc hcc).1 ((HJ.out.below HC.out hb).up HC.out HGE.out.2 cc hcc hgo)
                have hac16 : (P cc).length ≤ nm := HPL.out cc hcc
                have HLOW := Lib.hid hlow
                have hmx := HJ.out.ord.row5.lt
                have HNA := Lib.hid (show ∀ k, k < cc → oneUp A' cc k = (P k).length from hlow)
                obtain ⟨ac, hac2⟩ : ∃ ac, ac = A' cc := ⟨_, rfl⟩
                obtain ⟨pc, hpc2⟩ : ∃ pc, pc = (P cc).length := ⟨_, rfl⟩
                rw [← hac2] at z5 z6 hup hac
                rw [← hpc2] at z4 hac hac16
                have eac : ((ac + 1 : Nat) : Int) = (ac : Int) + 1 := by omega
                simp only [eac] at hup
                clear eac
                have HUP := Lib.hid hup
                have HZA := Lib.hid (show wrap64 ((ac : Int) + 1) = (ac : Int) + 1 from IntWalk.wrap64_in _ (by omega))
                have hcc3 : (cc : Int) < 3 := by omega
                have d5 : decide ((2 : Int) < (cc : Int)) = false := decide_eq_false (by omega)
                have d6 : decide (pc ≤ ac) = false := decide_eq_false (by omega)
                have hw8 : IntKind.i64.wrap (cc : Int) = (cc : Int) := IntWalk.i64_in _ (by omega)
                clear hup hinv hdr hby hgo hlow hnm' hvo hvA hv hfe hae k5 k4 hLt hLj hac2 hpc2 HLOW
                go_upto_region 24 with (fail)
                go_quiet (fail)
                have hbn := belowN (Below.refl wr.heap.size wr) nq
                obtain ⟨hk5, hj5⟩ := HUP.out _ hbn
                have HJ5 := Lib.hid hj5
                have z7 := hk5.cell
                have z7f := hk5.free
                clear z5 z5f z4 z6 hk5 hj5 hbn y0 HUP HJ hix
                generalize wr.drewN nq = w5 at *
                go_wp2_with fail
                go_loopw [13] (fun kv wx => ∃ k : Nat, k ≤ cc ∧ kv = .int .i64 k ∧ Hid (JAt Q w q m4 m5 v P (some ⟨gt, ot, none⟩) S T (j + 1) (oneUp A' cc) wx)) (fun kv _ => cc - (intOf kv).toNat)
                case atStart => exact ⟨0, Nat.zero_le _, rfl, HJ5⟩
                case round =>
                  obtain ⟨k, hk, rfl, HK⟩ := hrel
                  clear HJ5 z7 z7f
                  by_cases hlk : k < cc
                  · have dk2 : decide (k < cc) = true := decide_eq_true hlk
                    have HZK := Lib.hid (show wrap64 ((k : Int) + 1) = (k : Int) + 1 from IntWalk.wrap64_in _ (by omega))
                    obtain ⟨k5, k4⟩ := row5c HK.out.ord k (by omega)
                    have z5 := k5.cell
                    have z4 := k4.cell
                    rw [HNA.out k hlk] at z5
                    obtain ⟨va, vc2, hv, -⟩ := (HK.out.ord.own k (by omega)).see
                    rw [hv] at z4
                    have hk3 : (k : Int) < 3 := by omega
                    clear hv k5 k4
                    generalize (P k).length = pk at *
                    go_upto_region 30 with (fail)
                    go_quiet (fail)
                    have HK2 := Lib.hid (HK.out.below HC.out (belowN (Below.refl wr.heap.size wr) nq))
                    clear z5 z4 HK
                    generalize wr.drewN nq = w6 at *
                    go_wp2_with fail
                    go_roundw
                    case rel => exact ⟨k + 1, by omega, (by (try rw [HZK.out]); rfl), HK2⟩
                    case measure =>
                      try rw [HZK.out]
                      simp [intOf]
                      omega
                  · have dk2 : decide (k < cc) = false := decide_eq_false hlk
                    go_wp2_with fail
                    go_roundw
                    case rel => exact ⟨j + 1, _, by omega, (by (try rw [HZJ.out]); rfl), HK⟩
                    case measure =>
                      try rw [HZJ.out]
                      simp [intOf]
                      omega
              · have dj : decide (j < T) = false := decide_eq_false hlj
                have e : j = T := by omega
                subst e
                have HFIN := Lib.hid (show OrSt Q w q m4 m5 nm wr from ⟨S.drop j, v, P, A', HJ.out.inv, HJ.out.qu.less fun b hb => Or.inl hb, HJ.out.ord, HPL.out⟩)
                clear HJ
                go_wp2_with fail
                exact ot_way HWAY.out _ nm _ (by omega) HFIN.out (by kernel_rfl)
          · have d1 : (x0 == 1) = false := by simpa using h1
            clear h1
            have HFIN := Lib.hid (show OrSt Q w q m4 m5 nm (wr.alloc (.cells #[.int .i64 x0, .int .i64 x1, .int .i64 x2, .int .i64 x3, .string x4] 32)) from ⟨S, v, P, A, HI.out, HQ.out.less fun b hb => Or.inl hb, HO.out, HPL.out⟩)
            by_cases z0 : x0 = 0
            · have d0 : (x0 == 0) = true := by simpa using z0
              by_cases z1 : 0 ≤ x1
              · have e1 : decide (0 ≤ x1) = true := decide_eq_true z1
                have e2 : decide (x1 ≤ 2) = false := decide_eq_false (fun h => hput ⟨z0, z1, h⟩)
                clear z0 z1 hput
                go_wp2_with fail
                exact ot_way HWAY.out _ nm _ (by omega) HFIN.out (by kernel_rfl)
              · have e1 : decide (0 ≤ x1) = false := decide_eq_false z1
                clear z0 z1 hput
                go_wp2_with fail
                exact ot_way HWAY.out _ nm _ (by omega) HFIN.out (by kernel_rfl)
            · have d0 : (x0 == 0) = false := by simpa using z0
              clear z0 hput
              go_wp2_with fail
              exact ot_way HWAY.out _ nm _ (by omega) HFIN.out (by kernel_rfl)
      · have dk : decide (i < n) = false := decide_eq_false hlt
        obtain ⟨S, v, P, A, hinv, hq, ho, -⟩ := HK.out
        have HE := Lib.hid hq.bel
        clear hq ho hinv HK
        go_wp2_with fail
        exact bodyPost_ret (v := .bool true) (by simp [results, Try.results4, go_sem]) rfl ⟨rfl, HE.out⟩
end Go.Proofs.Ytliamhphpnifaaa
