/-
great; the walk of BufNone.
-/
import Derived.Test.YtchjljmcgjlkiaaBufAwake
import Derived.Test.YtchjljmcgjlkiaaBufOpens
namespace Go.Proofs.Ytchjljmcgjlkiaa
open Go.RowKit
set_option maxRecDepth 20000
/-- more than is played? -/
def greatB19 (L : List Op19) : Bool := decide (150 < L.length) || L.any fun o => decide (1000 < o.text.size)
set_option maxHeartbeats 1000000 in
theorem great_any19 (a : Option Addr) (n c : Nat) (L : List Op19) (w : World) (hn : L.length = n) (hA : AtL encO19 w a L) : Calls Try.prog 7 #[.slice a n c] w fun e w' => e = .returned (.bool (greatB19 L)) ∧ Below w.heap.size w w' := by
  unfold greatB19
  rw [hn]
  by_cases h1 : 150 < n
  · have d1 : decide (150 < n) = true := decide_eq_true h1
    have d2 : decide ((150 : Int) < (n : Int)) = true := decide_eq_true (by omega)
    rw [d1, Bool.true_or]
    clear hn hA h1
    go_enter Try.func7, Try.ntmps7
    go_wp2_with fail
    exact bodyPost_ret (v := .bool true) (by simp [results, Try.results7, go_sem]) rfl ⟨rfl, Below.refl _ _⟩
  · have d1 : decide (150 < n) = false := decide_eq_false h1
    have d2 : decide ((150 : Int) < (n : Int)) = false := decide_eq_false (by omega)
    rw [d1, Bool.false_or]
    have HN := Lib.hid hn
    have HA := Lib.hid hA
    have hl : n ≤ 150 := by omega
    obtain ⟨G, hG⟩ : ∃ G, G = L.any fun o => decide (1000 < o.text.size) := ⟨_, rfl⟩
    rw [← hG]
    have HGQ := Lib.hid hG
    clear hn hA h1 hG
    go_enter Try.func7, Try.ntmps7
    go_wp2_with fail
    go_loopw [10] (fun v wx => ∃ i : Nat, i ≤ n ∧ v = .int .i64 i ∧ Hid ((∀ o ∈ L.take i, o.text.size ≤ 1000) ∧ Below w.heap.size w wx)) (fun v _ => n - (intOf v).toNat)
    case atStart => exact ⟨0, Nat.zero_le _, rfl, Lib.hid ⟨fun o ho => by simp at ho, Below.refl _ _⟩⟩
    case round =>
      obtain ⟨i, hi, rfl, HK⟩ := hrel
      have HZ2 := Lib.hid (show wrap64 ((i : Int) + 1) = (i : Int) + 1 from IntWalk.wrap64_in _ (by omega))
      by_cases hlt : i < n
      · have hL : i < L.length := by rw [HN.out]; exact hlt
        obtain ⟨g, o, rfl, -⟩ := HA.out.some_ (by omega)
        obtain ⟨e0, e1, e2⟩ := (HA.out.below HK.out.2).op19 i hL
        have HIN := Lib.hid (List.getElem_mem hL)
        have HTK := Lib.hid (show L.take (i + 1) = L.take i ++ [L[i]] from List.take_succ_eq_append_getElem hL)
        generalize L[i] = x at *
        obtain ⟨x0, x1, x2⟩ := x
        simp only at e0 e1 e2
        have HB := Lib.hid (HK.out.2.alloc HK.out.2.size (.cells #[.int .i64 x0, .int .i64 x1, .string x2] 32))
        have r2 := (RowAt.new wr wr.heap.size rfl [.int .i64 x0, .int .i64 x1, .string x2] 32).cell 2 rfl
        by_cases hq : 1000 < x2.size
        · have dq : decide ((1000 : Int) < (x2.size : Int)) = true := decide_eq_true (by omega)
          have HE := Lib.hid (show (L.any fun o => decide (1000 < o.text.size)) = true from by
            rw [List.any_eq_true]
            exact ⟨_, HIN.out, decide_eq_true hq⟩)
          clear hq
          obtain rfl : G = true := HGQ.out.trans HE.out
          go_wp2_with fail
          exact bodyPost_ret (v := .bool true) (by simp [results, Try.results7, go_sem]) rfl ⟨rfl, HB.out⟩
        · have dq : decide ((1000 : Int) < (x2.size : Int)) = false := decide_eq_false (by omega)
          have HE := Lib.hid (show ∀ o ∈ L.take (i + 1), o.text.size ≤ 1000 from fun o ho => by
            rw [HTK.out, List.mem_append, List.mem_singleton] at ho
            rcases ho with ho | rfl
            · exact HK.out.1 o ho
            · show x2.size ≤ 1000
              omega)
          clear hq
          go_wp2_with fail
          go_roundw
          case rel => exact ⟨i + 1, by omega, by (try rw [HZ2.out]); rfl, Lib.hid ⟨HE.out, HB.out⟩⟩
          case measure =>
            try rw [HZ2.out]
            simp [intOf]
            omega
      · have e : L.take i = L := List.take_of_length_le (by have := HN.out; omega)
        have HE := Lib.hid (show (L.any fun o => decide (1000 < o.text.size)) = false from by
          rw [List.any_eq_false]
          intro o ho
          have := HK.out.1 o (by rw [e]; exact ho)
          simp
          omega)
        obtain rfl : G = false := HGQ.out.trans HE.out
        clear e
        go_wp2_with fail
        exact bodyPost_ret (v := .bool false) (by simp [results, Try.results7, go_sem]) rfl ⟨rfl, HK.out.2⟩
theorem great_no19 {L : List Op19} (h : greatB19 L = false) : L.length ≤ 150 ∧ ∀ o ∈ L, o.text.size ≤ 1000 := by
  unfold greatB19 at h
  rw [Bool.or_eq_false_iff, decide_eq_false_iff_not, List.any_eq_false] at h
  exact ⟨by omega, fun o ho => by have := h.2 o ho; simp at this; omega⟩
set_option maxHeartbeats 4000000 in
theorem bufnone_any {B : BoP} (hC : BoC B) (o : Op19) (w : World) : Calls Try.prog 5 #[.agg #[.int .i64 o.k, .int .i64 o.pid, .string o.text]] w fun e w' => e = .returned (.bool true) ∧ Below w.heap.size w w' := by
  have HAW := Lib.hid (fun W => cawake19 hC W)
  have HB0 := Lib.hid ((Below.refl w.heap.size w).alloc (Nat.le_refl _) (.cells (opV19 o).toArray 32))
  have HR := Lib.hid (RowAt.new w w.heap.size rfl (opV19 o) 32)
  have HGR := Lib.hid (fun (W : World) g (h : AtL encO19 W (some ⟨g, 0, none⟩) [o]) => great_any19 (some ⟨g, 0, none⟩) 1 1 [o] W rfl h)
  cases hg : greatB19 [o] with
  | true =>
    rw [hg] at HGR
    clear hC hg
    obtain ⟨o0, o1, o2⟩ := o
    simp only [opV19] at HR HB0
    go_enter Try.func5, Try.ntmps5
    go_wp2_with (first
      | (go_at_call 6; (with_reducible refine (HAW.out _).mono ?_); rintro e w1 ⟨rfl, hb⟩; have HB1 := Lib.hid (HB0.out.trans (hb.mono HB0.out.size)); have HR1 := Lib.hid (HR.out.below hb); clear hb; have x0 := HR1.out.cell 0 rfl; have x1 := HR1.out.cell 1 rfl; have x2 := HR1.out.cell 2 rfl)
      | (go_at_call 7; (refine (HGR.out _ _ (AtL.made encO19 32 w1 w1.heap.size ⟨o0, o1, o2⟩ _ rfl rfl)).mono ?_); rintro e w2 ⟨rfl, hb⟩; have HB2 := Lib.hid (HB1.out.trans (((Below.refl _ w1).alloc (Nat.le_refl _) _).trans (hb.mono (by simp)) |>.mono HB1.out.size)); clear hb))
    exact bodyPost_ret (v := .bool true) (by simp [results, Try.results5, go_sem]) rfl ⟨rfl, HB2.out⟩
  | false =>
    rw [hg] at HGR
    have hfs := (great_no19 hg).2 o (by simp)
    have HP := Lib.hid (fun W => hC.put0 W o.pid o.text hfs)
    have HN := Lib.hid (fun W => hC.next0 W)
    have HL := Lib.hid (fun W => hC.len0 W)
    have HF := Lib.hid (fun W => hC.left0 W)
    have HT := Lib.hid (fun W => hC.total0 W)
    have HE := Lib.hid (fun W => hC.reset0 W)
    simp only [pcV, zeroP] at HN
    clear hC hg hfs
    obtain ⟨o0, o1, o2⟩ := o
    simp only [opV19] at HR HB0 HP
    go_enter Try.func5, Try.ntmps5
    go_upto_region 7 with (first
      | (go_at_call 6; (with_reducible refine (HAW.out _).mono ?_); rintro e w1 ⟨rfl, hb⟩; have HB1 := Lib.hid (HB0.out.trans (hb.mono HB0.out.size)); have HR1 := Lib.hid (HR.out.below hb); clear hb; have x0 := HR1.out.cell 0 rfl; have x1 := HR1.out.cell 1 rfl; have x2 := HR1.out.cell 2 rfl)
      | (go_at_call 7; (refine (HGR.out _ _ (AtL.made encO19 32 w1 w1.heap.size ⟨o0, o1, o2⟩ _ rfl rfl)).mono ?_); rintro e w2 ⟨rfl, hb⟩; have hb2 := ((Below.refl _ w1).alloc (Nat.le_refl _) _).trans (hb.mono (by simp)); have HB2 := Lib.hid (HB1.out.trans (hb2.mono HB1.out.size)); have HR2 := Lib.hid (HR1.out.below hb2); clear hb hb2 x0 x1 x2)
      | (go_at_call 12; (with_reducible refine (HN.out _).mono ?_); rintro e w3 ⟨rfl, hb⟩; have HB3 := Lib.hid ((HB2.out.trans (hb.mono HB2.out.size)).alloc (HB2.out.trans (hb.mono HB2.out.size)).size (.cells #[.int .i64 0, .string ⟨#[]⟩] 36)); have HR3 := Lib.hid ((HR2.out.below hb).alloc (.cells #[.int .i64 0, .string ⟨#[]⟩] 36)); have HQ3 := Lib.hid (RowAt.new w3 w3.heap.size rfl [.int .i64 0, .string ⟨#[]⟩] 36); clear hb; have y0 := HQ3.out.cell 0 rfl; have y1 := HQ3.out.cell 1 rfl))
    clear y0 y1 HR2
    generalize w3.alloc (.cells #[.int .i64 0, .string ⟨#[]⟩] 36) = w4 at *
    have z1 := HR3.out.cell 1 rfl
    have z2 := HR3.out.cell 2 rfl
    go_wp2_with (first
      | (go_at_call 10; (with_reducible refine (HP.out _).mono ?_); rintro e w5 ⟨rfl, hb⟩; have HB5 := Lib.hid (HB3.out.trans (hb.mono HB3.out.size)); have y0 := (HQ3.out.below hb).cell 0 rfl; have y1 := (HQ3.out.below hb).cell 1 rfl; clear hb)
      | (go_at_call 16; (with_reducible refine (HL.out _).mono ?_); rintro e w6 ⟨rfl, hb⟩; have HB6 := Lib.hid (HB5.out.trans (hb.mono HB5.out.size)); clear hb)
      | (go_at_call 17; (with_reducible refine (HF.out _).mono ?_); rintro e w7 ⟨rfl, hb⟩; have HB7 := Lib.hid (HB6.out.trans (hb.mono HB6.out.size)); clear hb)
      | (go_at_call 18; (with_reducible refine (HT.out _).mono ?_); rintro e w8 ⟨rfl, hb⟩; have HB8 := Lib.hid (HB7.out.trans (hb.mono HB7.out.size)); clear hb)
      | (go_at_call 14; (with_reducible refine (HE.out _).mono ?_); rintro e w9 ⟨rfl, hb⟩; have HB9 := Lib.hid (HB8.out.trans (hb.mono HB8.out.size)); clear hb))
    exact bodyPost_ret (v := .bool true) (by simp [results, Try.results5, go_sem]) rfl ⟨rfl, HB9.out⟩
end Go.Proofs.Ytchjljmcgjlkiaa
