/-
great; the walk of TxqNone.
-/
import Derived.Test.YtliamhphpnifaaaTxqAwake
import Derived.Test.YtliamhphpnifaaaTxqOpens
namespace Go.Proofs.Ytliamhphpnifaaa
open Go.RowKit
set_option maxRecDepth 20000
theorem AtL.op {w : World} {g o : Nat} {L : List Op16} (h : AtL encO w (some ⟨g, o, none⟩) L) (i : Nat) (hi : i < L.length) :
    w.cell? ⟨g, o + i * 5, none⟩ = some (.int .i64 L[i].k) ∧ w.cell? ⟨g, o + i * 5 + 1, none⟩ = some (.int .i64 L[i].n) ∧ w.cell? ⟨g, o + i * 5 + 2, none⟩ = some (.int .i64 L[i].m) ∧ w.cell? ⟨g, o + i * 5 + 3, none⟩ = some (.int .i64 L[i].key) ∧ w.cell? ⟨g, o + i * 5 + 4, none⟩ = some (.string L[i].fr) := by
  have h0 := h.get i hi 0 (u := .int .i64 L[i].k) rfl
  have h1 := h.get i hi 1 (u := .int .i64 L[i].n) rfl
  have h2 := h.get i hi 2 (u := .int .i64 L[i].m) rfl
  have h3 := h.get i hi 3 (u := .int .i64 L[i].key) rfl
  have h4 := h.get i hi 4 (u := .string L[i].fr) rfl
  simp only [Nat.add_zero] at h0 h1 h2 h3 h4
  exact ⟨h0, h1, h2, h3, h4⟩
abbrev opV (o : Op16) : List Value := [.int .i64 o.k, .int .i64 o.n, .int .i64 o.m, .int .i64 o.key, .string o.fr]
/-- more than is played? -/
def greatB (L : List Op16) : Bool := decide (150 < L.length) || L.any fun o => decide (1000 < o.fr.size)
set_option maxHeartbeats 1000000 in
theorem great_any (a : Option Addr) (n c : Nat) (L : List Op16) (w : World) (hn : L.length = n) (hA : AtL encO w a L) : Calls Try.prog 7 #[.slice a n c] w fun e w' => e = .returned (.bool (greatB L)) ∧ Below w.heap.size w w' := by
  unfold greatB
  rw [hn]
  by_cases h1 : 150 < n
  · have d1 : decide (150 < n) = true := decide_eq_true h1
    have d2 : decide ((150 : Int) < (n : Int)) = true := decide_eq_true (by omega)
    rw [d1, Bool.true_or]
    clear hn hA h1
    go_enter Try.func7, Try.ntmps7
    go_wp2_with fail
    exact bodyPost_ret (v := .bool true) (by simp [results, Try.results7, go_sem]) rfl ⟨rfl, Below.refl _ _⟩
  · have d1 : decide (150 < n) = false := decide_eq_false h1
    have d2 : decide ((150 : Int) < (n : Int)) = false := decide_eq_false (by omega)
    rw [d1, Bool.false_or]
    have HN := Lib.hid hn
    have HA := Lib.hid hA
    have hl : n ≤ 150 := by omega
    obtain ⟨G, hG⟩ : ∃ G, G = L.any fun o => decide (1000 < o.fr.size) := ⟨_, rfl⟩
    rw [← hG]
    have HGQ := Lib.hid hG
    clear hn hA h1 hG
    go_enter Try.func7, Try.ntmps7
    go_wp2_with fail
    go_loopw [10] (fun v wx => ∃ i : Nat, i ≤ n ∧ v = .int .i64 i ∧ Hid ((∀ o ∈ L.take i, o.fr.size ≤ 1000) ∧ Below w.heap.size w wx)) (fun v _ => n - (intOf v).toNat)
    case atStart => exact ⟨0, Nat.zero_le _, rfl, Lib.hid ⟨fun o ho => by simp at ho, Below.refl _ _⟩⟩
    case round =>
      obtain ⟨i, hi, rfl, HK⟩ := hrel
      have HZ2 := Lib.hid (show wrap64 ((i : Int) + 1) = (i : Int) + 1 from IntWalk.wrap64_in _ (by omega))
      by_cases hlt : i < n
      · have hL : i < L.length := by rw [HN.out]; exact hlt
        obtain ⟨g, o, rfl, -⟩ := HA.out.some_ (by omega)
        obtain ⟨e0, e1, e2, e3, e4⟩ := (HA.out.below HK.out.2).op i hL
        have HIN := Lib.hid (List.getElem_mem hL)
        have HTK := Lib.hid (show L.take (i + 1) = L.take i ++ [L[i]] from List.take_succ_eq_append_getElem hL)
        generalize L[i] = x at *
        obtain ⟨x0, x1, x2, x3, x4⟩ := x
        simp only at e0 e1 e2 e3 e4
        have HB := Lib.hid (HK.out.2.alloc HK.out.2.size (.cells #[.int .i64 x0, .int .i64 x1, .int .i64 x2, .int .i64 x3, .string x4] 32))
        have r4 := (RowAt.new wr wr.heap.size rfl [.int .i64 x0, .int .i64 x1, .int .i64 x2, .int .i64 x3, .string x4] 32).cell 4 rfl
        by_cases hq : 1000 < x4.size
        · have dq : decide ((1000 : Int) < (x4.size : Int)) = true := decide_eq_true (by omega)
          have HE := Lib.hid (show (L.any fun o => decide (1000 < o.fr.size)) = true from by
            rw [List.any_eq_true]
            exact ⟨_, HIN.out, decide_eq_true hq⟩)
          clear hq
          obtain rfl : G = true := HGQ.out.trans HE.out
          go_wp2_with fail
          exact bodyPost_ret (v := .bool true) (by simp [results, Try.results7, go_sem]) rfl ⟨rfl, HB.out⟩
        · have dq : decide ((1000 : Int) < (x4.size : Int)) = false := decide_eq_false (by omega)
          have HE := Lib.hid (show ∀ o ∈ L.take (i + 1), o.fr.size ≤ 1000 from fun o ho => by
            rw [HTK.out, List.mem_append, List.mem_singleton] at ho
            rcases ho with ho | rfl
            · exact HK.out.1 o ho
            · show x4.size ≤ 1000
              omega)
          clear hq
          go_wp2_with fail
          go_roundw
          case rel => exact ⟨i + 1, by omega, by (try rw [HZ2.out]); rfl, Lib.hid ⟨HE.out, HB.out⟩⟩
          case measure =>
            try rw [HZ2.out]
            simp [intOf]
            omega
      · have e : L.take i = L := List.take_of_length_le (by have := HN.out; omega)
        have HE := Lib.hid (show (L.any fun o => decide (1000 < o.fr.size)) = false from by
          rw [List.any_eq_false]
          intro o ho
          have := HK.out.1 o (by rw [e]; exact ho)
          simp
          omega)
        obtain rfl : G = false := HGQ.out.trans HE.out
        clear e
        go_wp2_with fail
        exact bodyPost_ret (v := .bool false) (by simp [results, Try.results7, go_sem]) rfl ⟨rfl, HK.out.2⟩
theorem great_no {L : List Op16} (h : greatB L = false) : L.length ≤ 150 ∧ ∀ o ∈ L, o.fr.size ≤ 1000 := by
  unfold greatB at h
  rw [Bool.or_eq_false_iff, decide_eq_false_iff_not, List.any_eq_false] at h
  exact ⟨by omega, fun o ho => by have := h.2 o ho; simp at this; omega⟩
set_option maxHeartbeats 4000000 in
theorem txqnone_any {Q : QuP} (hC : QuC Q) (o : Op16) (w : World) : Calls Try.prog 5 #[.agg #[.int .i64 o.k, .int .i64 o.n, .int .i64 o.m, .int .i64 o.key, .string o.fr]] w fun e w' => e = .returned (.bool true) ∧ Below w.heap.size w w' := by
  have HAW := Lib.hid (fun W => cawake16 hC W)
  have HB0 := Lib.hid ((Below.refl w.heap.size w).alloc (Nat.le_refl _) (.cells (opV o).toArray 32))
  have HR := Lib.hid (RowAt.new w w.heap.size rfl (opV o) 32)
  have HGR := Lib.hid (fun (W : World) g (h : AtL encO W (some ⟨g, 0, none⟩) [o]) => great_any (some ⟨g, 0, none⟩) 1 1 [o] W rfl h)
  cases hg : greatB [o] with
  | true =>
    rw [hg] at HGR
    clear hC hg
    obtain ⟨o0, o1, o2, o3, o4⟩ := o
    simp only [opV] at HR HB0
    go_enter Try.func5, Try.ntmps5
    go_wp2_with (first
      | (go_at_call 6; (with_reducible refine (HAW.out _).mono ?_); rintro e w1 ⟨rfl, hb⟩; have HB1 := Lib.hid (HB0.out.trans (hb.mono HB0.out.size)); have HR1 := Lib.hid (HR.out.below hb); clear hb; have x0 := HR1.out.cell 0 rfl; have x1 := HR1.out.cell 1 rfl; have x2 := HR1.out.cell 2 rfl; have x3 := HR1.out.cell 3 rfl; have x4 := HR1.out.cell 4 rfl)
      | (go_at_call 7; (refine (HGR.out _ _ (AtL.made encO 32 w1 w1.heap.size ⟨o0, o1, o2, o3, o4⟩ _ rfl rfl)).mono ?_); rintro e w2 ⟨rfl, hb⟩; have HB2 := Lib.hid (HB1.out.trans (((Below.refl _ w1).alloc (Nat.le_refl _) _).trans (hb.mono (by simp)) |>.mono HB1.out.size)); clear hb))
    exact bodyPost_ret (v := .bool true) (by simp [results, Try.results5, go_sem]) rfl ⟨rfl, HB2.out⟩
  | false =>
    rw [hg] at HGR
    have hfs := (great_no hg).2 o (by simp)
    have HP := Lib.hid (fun W => hC.put0 W o.n o.key o.fr hfs)
    have HT := Lib.hid (fun W => hC.take0 W o.n o.m)
    have HD := Lib.hid (fun (W : World) g (h : AtL encI W (some ⟨g, 0, none⟩) [o.key]) => hC.drop0 W (some ⟨g, 0, none⟩) 1 1 [o.key] rfl (by omega) h)
    have HCN := Lib.hid (fun W => hC.count0 W o.key)
    have HL := Lib.hid (fun W => hC.len0 W)
    have HRM := Lib.hid (fun W => hC.room0 W o.n)
    have HAL := Lib.hid (fun W => hC.all0 W)
    clear hC hg hfs
    obtain ⟨o0, o1, o2, o3, o4⟩ := o
    simp only [opV] at HR HB0 HP HT HD HCN HRM
    go_enter Try.func5, Try.ntmps5
    go_wp2_with (first
      | (go_at_call 6; (with_reducible refine (HAW.out _).mono ?_); rintro e w1 ⟨rfl, hb⟩; have HB1 := Lib.hid (HB0.out.trans (hb.mono HB0.out.size)); have HR1 := Lib.hid (HR.out.below hb); clear hb; have x0 := HR1.out.cell 0 rfl; have x1 := HR1.out.cell 1 rfl; have x2 := HR1.out.cell 2 rfl; have x3 := HR1.out.cell 3 rfl; have x4 := HR1.out.cell 4 rfl)
      | (go_at_call 7; (refine (HGR.out _ _ (AtL.made encO 32 w1 w1.heap.size ⟨o0, o1, o2, o3, o4⟩ _ rfl rfl)).mono ?_); rintro e w2 ⟨rfl, hb⟩; have hb2 := ((Below.refl _ w1).alloc (Nat.le_refl _) _).trans (hb.mono (by simp)); have HB2 := Lib.hid (HB1.out.trans (hb2.mono HB1.out.size)); have HR2 := Lib.hid (HR1.out.below hb2); clear hb hb2 x0 x1 x2 x3 x4; have x1 := HR2.out.cell 1 rfl; have x3 := HR2.out.cell 3 rfl; have x4 := HR2.out.cell 4 rfl)
      | (go_at_call 9; (with_reducible refine (HP.out _).mono ?_); rintro e w3 ⟨rfl, hb⟩; have HB3 := Lib.hid (HB2.out.trans (hb.mono HB2.out.size)); have HR3 := Lib.hid (HR2.out.below hb); clear hb x1 x3 x4; have x1 := HR3.out.cell 1 rfl; have x2 := HR3.out.cell 2 rfl)
      | (go_at_call 12; (with_reducible refine (HT.out _).mono ?_); rintro e w4 ⟨ta, tc, rfl, hb⟩; have HB4 := Lib.hid (HB3.out.trans (hb.mono HB3.out.size)); have HR4 := Lib.hid (HR3.out.below hb); clear hb x1 x2; have x3 := HR4.out.cell 3 rfl)
      | (go_at_call 15; (refine (HD.out _ _ (AtL.made encI 3 w4 w4.heap.size o3 _ rfl rfl)).mono ?_); rintro e w5 ⟨rfl, hb⟩; have hb2 := ((Below.refl _ w4).alloc (Nat.le_refl _) _).trans (hb.mono (by simp)); have HB5 := Lib.hid (HB4.out.trans (hb2.mono HB4.out.size)); have HR5 := Lib.hid (HR4.out.below hb2); clear hb hb2 x3; have x3 := HR5.out.cell 3 rfl)
      | (go_at_call 18; (with_reducible refine (HCN.out _).mono ?_); rintro e w6 ⟨rfl, hb⟩; have HB6 := Lib.hid (HB5.out.trans (hb.mono HB5.out.size)); have HR6 := Lib.hid (HR5.out.below hb); clear hb x3)
      | (go_at_call 17; (with_reducible refine (HL.out _).mono ?_); rintro e w7 ⟨rfl, hb⟩; have HB7 := Lib.hid (HB6.out.trans (hb.mono HB6.out.size)); have HR7 := Lib.hid (HR6.out.below hb); clear hb; have x1 := HR7.out.cell 1 rfl)
      | (go_at_call 22; (with_reducible refine (HRM.out _).mono ?_); rintro e w8 ⟨rfl, hb⟩; have HB8 := Lib.hid (HB7.out.trans (hb.mono HB7.out.size)); clear hb x1)
      | (go_at_call 20; (with_reducible refine (HAL.out _).mono ?_); rintro e w9 ⟨ua, uc, rfl, hb⟩; have HB9 := Lib.hid (HB8.out.trans (hb.mono HB8.out.size)); clear hb))
    exact bodyPost_ret (v := .bool true) (by simp [results, Try.results5, go_sem]) rfl ⟨rfl, HB9.out⟩
end Go.Proofs.Ytliamhphpnifaaa
