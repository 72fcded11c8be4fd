/-
Walk of the statement SegMissing.
-/
import Derived.Test.YtaelhickopeocaaSegThroughW
namespace Go.Proofs.Ytaelhickopeocaa
open Go.RowKit
set_option maxRecDepth 20000
/-- a piece taken in any state -/
theorem take_at (m : Nat) (s : Gs) (P : Int) (I : ByteArray) (hok : GOk s) (hz : I.size ≤ 2000) (s' : Gs) (P' : Int) (I' : ByteArray) (ok : Bool) (E' : Int) (hr : takeD s ⟨P, I⟩ = (s', ⟨P', I'⟩, ok, E')) (W : World) (h : RowAt W m (csV s)) :
    Calls Try.prog 14 #[.pointer (some ⟨m, 0, none⟩), .agg #[.int .i64 P, .string I]] W fun e w' =>
      e = .returned (.tuple #[.agg #[.int .i64 P', .string I'], .bool ok, .int .i64 E']) ∧ RowAt w' m (csV s') ∧ Turn (fun x => x = m) W w' := by
  have := ctake_any m s ⟨P, I⟩ W h hok hz
  rw [hr] at this
  exact this
theorem miss_nums (a : Int) (N : Nat) (hN : 2 ≤ N) (hN2 : N ≤ 1000) : ∃ K : Nat, K < N ∧ a % (N : Int) = (K : Int) ∧ wrap64 (K : Int) = (K : Int) := by
  have := Int.emod_nonneg a (b := (N : Int)) (by omega)
  have := Int.emod_lt_of_pos a (b := (N : Int)) (by omega)
  refine ⟨(a % (N : Int)).toNat, by omega, by omega, IntWalk.wrap64_in _ (by omega)⟩
set_option maxHeartbeats 2000000 in
theorem segmissing_two (text : ByteArray) (a : Int) (twice : Bool) (w : World) (h0 : 0 ≤ a ∧ a ≤ 255) (hE : (splitD 240 text 16).2 = 0) (hl : 2 ≤ (splitD 240 text 16).1.length) : Calls Try.prog 6 #[.string text, .int .u8 a, .bool twice] w fun e w' => e = .returned (.bool true) ∧ Below w.heap.size w w' := by
  obtain ⟨ha0, ha1⟩ := h0
  have HAW := Lib.hid (fun W => segawake_any W)
  have HC := Lib.hid (fun W => csplit_any 240 16 text W)
  have HTH := Lib.hid (through 240 text 16 hE)
  have hfit := split_fit hE
  have HSM := Lib.hid (show ∀ p ∈ (splitD 240 text 16).1, p.info.size ≤ 2000 from fun p hp => by have := split_small 240 text 16 p hp; omega)
  obtain ⟨⟨L, E⟩, hLE⟩ : ∃ r, splitD 240 text 16 = r := ⟨_, rfl⟩
  have HL1 := Lib.hid (show L = (splitD 240 text 16).1 from by rw [hLE])
  have HE1 := Lib.hid hE
  rw [hLE] at hE HTH HSM hfit HC hl
  simp only at hE HTH HSM hfit HC hl
  subst hE
  have HL2 := Lib.hid hl
  obtain ⟨N, hN⟩ : ∃ N, L.length = N := ⟨_, rfl⟩
  have hN2 : 2 ≤ N := by omega
  have hNb : N ≤ 1000 := by omega
  have HN := Lib.hid hN
  obtain ⟨K, hKN, HK1, HK2⟩ : ∃ K : Nat, K < N ∧ Hid (a % (N : Int) = (K : Int)) ∧ Hid (wrap64 (K : Int) = (K : Int)) := by
    obtain ⟨K, hk, hk1, hk2⟩ := miss_nums a N hN2 hNb
    exact ⟨K, hk, Lib.hid hk1, Lib.hid hk2⟩
  have HKL := Lib.hid (show K < L.length from by omega)
  have dN : decide ((N : Int) < 2) = false := decide_eq_false (by omega)
  clear hLE hN hfit hl
  go_enter Try.func6, Try.ntmps6
  go_upto_region 6 with (first | (go_at_call 7; (with_reducible refine (HAW.out _).mono ?_); rintro e w1 ⟨rfl, hb⟩; have HB1 := Lib.hid hb; clear hb) | (go_at_call 8; (with_reducible refine (HC.out _).mono ?_); rintro e w2 ⟨⟨v1, rfl, ho⟩, hb⟩; have HB2 := Lib.hid (HB1.out.trans (hb.mono HB1.out.size)); obtain ⟨g, c1, hv, hbg, hgl, hA⟩ := ho.some_ HTH.out.1; rw [HN.out] at hv; subst hv; have HA2 := Lib.hid hA; clear hb ho hA))
  have hk1 := HK1.out
  have hk2 := HK2.out
  clear dN
  go_upto_region 8 with (go_at_call 12; (with_reducible refine (cnew_any _).mono ?_); rintro e w3 ⟨rfl, rfl⟩)
  have HA3 := Lib.hid (HA2.out.alloc (.cells #[.int .i64 0, .int .i64 0, .string ⟨#[]⟩] 58))
  have HB3 := Lib.hid (HB2.out.alloc HB2.out.size (.cells #[.int .i64 0, .int .i64 0, .string ⟨#[]⟩] 58))
  have HM3 := Lib.hid (show RowAt _ w2.heap.size (csV zeroG) from RowAt.new w2 w2.heap.size rfl [.int .i64 0, .int .i64 0, .string ⟨#[]⟩] 58)
  have hgm : ¬ (g = w2.heap.size) := by omega
  have hwm := HB2.out.size
  clear HA2 HB2 HAW HC HB1 hgl hbg hk1 hk2 HK1 HK2
  generalize (w2.alloc (.cells #[.int .i64 0, .int .i64 0, .string ⟨#[]⟩] 58)) = w3 at *
  generalize w2.heap.size = m at *
  go_wp2_with fail
  -- the loops
  go_loopw [46] (fun v wx => ∃ i : Nat, i ≤ N ∧ v = .int .i64 i ∧ ∃ s : Gs, Hid ((GOk s ∧ MissAt L K twice i s) ∧ RowAt wx m (csV s) ∧ AtL encP wx (some ⟨g, 0, none⟩) L ∧ Below w.heap.size w wx)) (fun v _ => N - (intOf v).toNat)
  case atStart => exact ⟨0, by omega, rfl, zeroG, Lib.hid ⟨⟨GOk.zero, miss_start L K twice⟩, HM3.out, HA3.out, HB3.out⟩⟩
  case round =>
    obtain ⟨i, hi, rfl, s, HK⟩ := hrel
    clear HA3 HB3 HM3
    by_cases hlt : i < N
    · have hL : i < L.length := by rw [HN.out]; exact hlt
      have ⟨x0, x1⟩ := pc_at HK.out.2.2.1 i hL
      rw [Nat.zero_add] at x0 x1
      have hsz := HSM.out L[i] (List.getElem_mem hL)
      have hskip := fun (ht : twice = false) (hik : i = K) => miss_skip HL1.out HE1.out HL2.out K i HKL.out s (ht ▸ HK.out.1.2) hik
      have hstep := fun (hne : i ≠ K) => miss_step HL1.out HE1.out HL2.out K i twice HKL.out hL s HK.out.1.2 hne
      have htwice := fun (ht : twice = true) (hik : i = K) => miss_twice HL1.out HE1.out HL2.out K i HKL.out hL s (ht ▸ HK.out.1.2) hik
      have hg1 := take_ok s L[i] HK.out.1.1
      have hg2 := take_ok _ L[i] hg1
      generalize L[i] = q at *
      obtain ⟨P, I⟩ := q
      simp only at x0 x1 hsz
      have HGK := Lib.hid HK.out.1.1
      have hmr := (HK.out.2.1.get 0 rfl).lt
      have hpm : ¬ (wr.heap.size = m) := by omega
      have HA2 := Lib.hid (HK.out.2.2.1.alloc (.cells #[.int .i64 P, .string I] 33))
      have HM2 := Lib.hid (HK.out.2.1.alloc (.cells #[.int .i64 P, .string I] 33))
      have HB2 := Lib.hid (HK.out.2.2.2.alloc HK.out.2.2.2.size (.cells #[.int .i64 P, .string I] 33))
      clear HK hmr
      have zN := (last_num i N hNb).1
      by_cases hik : i = K
      · have dik : ((i : Int) == (K : Int)) = true := by rw [hik]; exact beq_self_eq_true _
        cases twice with
        | false =>
          have hms := hskip rfl hik
          clear hskip hstep htwice hg1 hg2 hsz hpm zN hik
          have HMS := Lib.hid hms
          clear hms
          go_wp2_with fail
          go_roundw
          case rel => exact ⟨i + 1, hlt, by go_num, _, Lib.hid ⟨⟨HGK.out, HMS.out⟩, HM2.out, HA2.out, HB2.out⟩⟩
          case measure => simp [intOf]; omega
        | true =>
          have hms := htwice rfl hik
          rw [HN.out] at hms
          obtain ⟨⟨s1, ⟨P', I'⟩, ok, E'⟩, hr1⟩ : ∃ r, takeD s ⟨P, I⟩ = r := ⟨_, rfl⟩
          rw [hr1] at hms hg1 hg2
          simp only at hms hg1 hg2
          obtain ⟨⟨s2, ⟨P2, I2⟩, again, E2⟩, hr2⟩ : ∃ r, takeD s1 ⟨P, I⟩ = r := ⟨_, rfl⟩
          rw [hr2] at hms hg2
          simp only at hms hg2
          have HMS := Lib.hid hms.2
          have HG2 := Lib.hid hg2
          have hend : (0 < K ∧ K + 1 < N ∧ ok = false ∧ again = false) ∨ K = 0 ∨ (0 < K ∧ K + 1 = N) := by
            by_cases hm : 0 < K ∧ K + 1 < N
            · exact Or.inl ⟨hm.1, hm.2, hms.1 hm⟩
            · omega
          have HT1 := Lib.hid (fun W h => take_at m s P I HGK.out hsz s1 P' I' ok E' hr1 W h)
          have HT2 := Lib.hid (fun W h => take_at m s1 P I hg1 hsz s2 P2 I2 again E2 hr2 W h)
          clear hskip hstep htwice hsz hms hg1 hg2 hr1 hr2 hik HGK
          rcases hend with ⟨e0, e1, rfl, rfl⟩ | e0 | ⟨e0, e1⟩
          · have dp0 : decide (0 < K) = true := decide_eq_true (by omega)
            have dp1 : decide ((K : Int) < (N : Int) - 1) = true := decide_eq_true (by omega)
            clear e0 e1
            go_upto_region 11 with (fail)
            clear x0 x1
            have HX2 := Lib.hid (RowAt.new wr wr.heap.size rfl [.int .i64 P, .string I] 33)
            have x0 := HX2.out.cell 0 rfl
            have x1 := HX2.out.cell 1 rfl
            generalize (wr.alloc (.cells #[.int .i64 P, .string I] 33)) = wp at *
            generalize wr.heap.size = np at *
            go_upto_region 13 with (go_at_call 14; (with_reducible refine (HT1.out _ HM2.out).mono ?_); rintro e w4 ⟨rfl, hg, ht⟩; have HM3 := Lib.hid hg; have HA3 := Lib.hid (HA2.out.turn ht (fun p hp => by cases hp; exact hgm)); have HX3 := Lib.hid (HX2.out.turn ht hpm); have HB3 := Lib.hid (HB2.out.trans (ht.below (B := w.heap.size) HB2.out.size (fun k hk => by rw [hk]; exact hwm))); clear hg ht HM2 HA2 HB2 HX2; have x0 := HX3.out.cell 0 rfl; have x1 := HX3.out.cell 1 rfl)
            have HA4 := Lib.hid (HA3.out.alloc (.cells #[.int .i64 P', .string I'] 33)); have HM4 := Lib.hid (HM3.out.alloc (.cells #[.int .i64 P', .string I'] 33)); have HX4 := Lib.hid (HX3.out.alloc (.cells #[.int .i64 P', .string I'] 33)); have HB4 := Lib.hid (HB3.out.alloc HB3.out.size (.cells #[.int .i64 P', .string I'] 33)); clear HA3 HM3 HX3 HB3 x0 x1; have x0 := HX4.out.cell 0 rfl; have x1 := HX4.out.cell 1 rfl
            generalize (w4.alloc (.cells #[.int .i64 P', .string I'] 33)) = w5 at *
            go_upto_region 15 with (go_at_call 14; (with_reducible refine (HT2.out _ HM4.out).mono ?_); rintro e w6 ⟨rfl, hg, ht⟩; have HM5 := Lib.hid hg; have HA5 := Lib.hid (HA4.out.turn ht (fun p hp => by cases hp; exact hgm)); have HX5 := Lib.hid (HX4.out.turn ht hpm); have HB5 := Lib.hid (HB4.out.trans (ht.below (B := w.heap.size) HB4.out.size (fun k hk => by rw [hk]; exact hwm))); clear hg ht HM4 HA4 HB4 HX4; have x0 := HX5.out.cell 0 rfl; have x1 := HX5.out.cell 1 rfl)
            have HA6 := Lib.hid (HA5.out.alloc (.cells #[.int .i64 P2, .string I2] 33)); have HM6 := Lib.hid (HM5.out.alloc (.cells #[.int .i64 P2, .string I2] 33)); have HX6 := Lib.hid (HX5.out.alloc (.cells #[.int .i64 P2, .string I2] 33)); have HB6 := Lib.hid (HB5.out.alloc HB5.out.size (.cells #[.int .i64 P2, .string I2] 33)); clear HA5 HM5 HX5 HB5 x0 x1; have x0 := HX6.out.cell 0 rfl; have x1 := HX6.out.cell 1 rfl
            generalize (w6.alloc (.cells #[.int .i64 P2, .string I2] 33)) = w7 at *
            clear dik
            go_wp2_with fail
            go_roundw
            case rel => exact ⟨i + 1, hlt, by go_num, _, Lib.hid ⟨⟨HG2.out, HMS.out⟩, HM6.out, HA6.out, HB6.out⟩⟩
            case measure => simp [intOf]; omega
          · have dp0 : decide (0 < K) = false := decide_eq_false (by omega)
            clear e0
            cases ok with
            | false =>
              go_upto_region 11 with (fail)
              clear x0 x1
              have HX2 := Lib.hid (RowAt.new wr wr.heap.size rfl [.int .i64 P, .string I] 33)
              have x0 := HX2.out.cell 0 rfl
              have x1 := HX2.out.cell 1 rfl
              generalize (wr.alloc (.cells #[.int .i64 P, .string I] 33)) = wp at *
              generalize wr.heap.size = np at *
              go_upto_region 13 with (go_at_call 14; (with_reducible refine (HT1.out _ HM2.out).mono ?_); rintro e w4 ⟨rfl, hg, ht⟩; have HM3 := Lib.hid hg; have HA3 := Lib.hid (HA2.out.turn ht (fun p hp => by cases hp; exact hgm)); have HX3 := Lib.hid (HX2.out.turn ht hpm); have HB3 := Lib.hid (HB2.out.trans (ht.below (B := w.heap.size) HB2.out.size (fun k hk => by rw [hk]; exact hwm))); clear hg ht HM2 HA2 HB2 HX2; have x0 := HX3.out.cell 0 rfl; have x1 := HX3.out.cell 1 rfl)
              have HA4 := Lib.hid (HA3.out.alloc (.cells #[.int .i64 P', .string I'] 33)); have HM4 := Lib.hid (HM3.out.alloc (.cells #[.int .i64 P', .string I'] 33)); have HX4 := Lib.hid (HX3.out.alloc (.cells #[.int .i64 P', .string I'] 33)); have HB4 := Lib.hid (HB3.out.alloc HB3.out.size (.cells #[.int .i64 P', .string I'] 33)); clear HA3 HM3 HX3 HB3 x0 x1; have x0 := HX4.out.cell 0 rfl; have x1 := HX4.out.cell 1 rfl
              generalize (w4.alloc (.cells #[.int .i64 P', .string I'] 33)) = w5 at *
              go_upto_region 15 with (go_at_call 14; (with_reducible refine (HT2.out _ HM4.out).mono ?_); rintro e w6 ⟨rfl, hg, ht⟩; have HM5 := Lib.hid hg; have HA5 := Lib.hid (HA4.out.turn ht (fun p hp => by cases hp; exact hgm)); have HX5 := Lib.hid (HX4.out.turn ht hpm); have HB5 := Lib.hid (HB4.out.trans (ht.below (B := w.heap.size) HB4.out.size (fun k hk => by rw [hk]; exact hwm))); clear hg ht HM4 HA4 HB4 HX4; have x0 := HX5.out.cell 0 rfl; have x1 := HX5.out.cell 1 rfl)
              have HA6 := Lib.hid (HA5.out.alloc (.cells #[.int .i64 P2, .string I2] 33)); have HM6 := Lib.hid (HM5.out.alloc (.cells #[.int .i64 P2, .string I2] 33)); have HX6 := Lib.hid (HX5.out.alloc (.cells #[.int .i64 P2, .string I2] 33)); have HB6 := Lib.hid (HB5.out.alloc HB5.out.size (.cells #[.int .i64 P2, .string I2] 33)); clear HA5 HM5 HX5 HB5 x0 x1; have x0 := HX6.out.cell 0 rfl; have x1 := HX6.out.cell 1 rfl
              generalize (w6.alloc (.cells #[.int .i64 P2, .string I2] 33)) = w7 at *
              clear dik
              go_wp2_with fail
              go_roundw
              case rel => exact ⟨i + 1, hlt, by go_num, _, Lib.hid ⟨⟨HG2.out, HMS.out⟩, HM6.out, HA6.out, HB6.out⟩⟩
              case measure => simp [intOf]; omega
            | true =>
              go_upto_region 11 with (fail)
              clear x0 x1
              have HX2 := Lib.hid (RowAt.new wr wr.heap.size rfl [.int .i64 P, .string I] 33)
              have x0 := HX2.out.cell 0 rfl
              have x1 := HX2.out.cell 1 rfl
              generalize (wr.alloc (.cells #[.int .i64 P, .string I] 33)) = wp at *
              generalize wr.heap.size = np at *
              go_upto_region 13 with (go_at_call 14; (with_reducible refine (HT1.out _ HM2.out).mono ?_); rintro e w4 ⟨rfl, hg, ht⟩; have HM3 := Lib.hid hg; have HA3 := Lib.hid (HA2.out.turn ht (fun p hp => by cases hp; exact hgm)); have HX3 := Lib.hid (HX2.out.turn ht hpm); have HB3 := Lib.hid (HB2.out.trans (ht.below (B := w.heap.size) HB2.out.size (fun k hk => by rw [hk]; exact hwm))); clear hg ht HM2 HA2 HB2 HX2; have x0 := HX3.out.cell 0 rfl; have x1 := HX3.out.cell 1 rfl)
              have HA4 := Lib.hid (HA3.out.alloc (.cells #[.int .i64 P', .string I'] 33)); have HM4 := Lib.hid (HM3.out.alloc (.cells #[.int .i64 P', .string I'] 33)); have HX4 := Lib.hid (HX3.out.alloc (.cells #[.int .i64 P', .string I'] 33)); have HB4 := Lib.hid (HB3.out.alloc HB3.out.size (.cells #[.int .i64 P', .string I'] 33)); clear HA3 HM3 HX3 HB3 x0 x1; have x0 := HX4.out.cell 0 rfl; have x1 := HX4.out.cell 1 rfl
              generalize (w4.alloc (.cells #[.int .i64 P', .string I'] 33)) = w5 at *
              go_upto_region 15 with (go_at_call 14; (with_reducible refine (HT2.out _ HM4.out).mono ?_); rintro e w6 ⟨rfl, hg, ht⟩; have HM5 := Lib.hid hg; have HA5 := Lib.hid (HA4.out.turn ht (fun p hp => by cases hp; exact hgm)); have HX5 := Lib.hid (HX4.out.turn ht hpm); have HB5 := Lib.hid (HB4.out.trans (ht.below (B := w.heap.size) HB4.out.size (fun k hk => by rw [hk]; exact hwm))); clear hg ht HM4 HA4 HB4 HX4; have x0 := HX5.out.cell 0 rfl; have x1 := HX5.out.cell 1 rfl)
              have HA6 := Lib.hid (HA5.out.alloc (.cells #[.int .i64 P2, .string I2] 33)); have HM6 := Lib.hid (HM5.out.alloc (.cells #[.int .i64 P2, .string I2] 33)); have HX6 := Lib.hid (HX5.out.alloc (.cells #[.int .i64 P2, .string I2] 33)); have HB6 := Lib.hid (HB5.out.alloc HB5.out.size (.cells #[.int .i64 P2, .string I2] 33)); clear HA5 HM5 HX5 HB5 x0 x1; have x0 := HX6.out.cell 0 rfl; have x1 := HX6.out.cell 1 rfl
              generalize (w6.alloc (.cells #[.int .i64 P2, .string I2] 33)) = w7 at *
              clear dik
              go_wp2_with fail
              go_roundw
              case rel => exact ⟨i + 1, hlt, by go_num, _, Lib.hid ⟨⟨HG2.out, HMS.out⟩, HM6.out, HA6.out, HB6.out⟩⟩
              case measure => simp [intOf]; omega
          · have dp0 : decide (0 < K) = true := decide_eq_true (by omega)
            have dp1 : decide ((K : Int) < (N : Int) - 1) = false := decide_eq_false (by omega)
            clear e0 e1
            cases ok with
            | false =>
              go_upto_region 11 with (fail)
              clear x0 x1
              have HX2 := Lib.hid (RowAt.new wr wr.heap.size rfl [.int .i64 P, .string I] 33)
              have x0 := HX2.out.cell 0 rfl
              have x1 := HX2.out.cell 1 rfl
              generalize (wr.alloc (.cells #[.int .i64 P, .string I] 33)) = wp at *
              generalize wr.heap.size = np at *
              go_upto_region 13 with (go_at_call 14; (with_reducible refine (HT1.out _ HM2.out).mono ?_); rintro e w4 ⟨rfl, hg, ht⟩; have HM3 := Lib.hid hg; have HA3 := Lib.hid (HA2.out.turn ht (fun p hp => by cases hp; exact hgm)); have HX3 := Lib.hid (HX2.out.turn ht hpm); have HB3 := Lib.hid (HB2.out.trans (ht.below (B := w.heap.size) HB2.out.size (fun k hk => by rw [hk]; exact hwm))); clear hg ht HM2 HA2 HB2 HX2; have x0 := HX3.out.cell 0 rfl; have x1 := HX3.out.cell 1 rfl)
              have HA4 := Lib.hid (HA3.out.alloc (.cells #[.int .i64 P', .string I'] 33)); have HM4 := Lib.hid (HM3.out.alloc (.cells #[.int .i64 P', .string I'] 33)); have HX4 := Lib.hid (HX3.out.alloc (.cells #[.int .i64 P', .string I'] 33)); have HB4 := Lib.hid (HB3.out.alloc HB3.out.size (.cells #[.int .i64 P', .string I'] 33)); clear HA3 HM3 HX3 HB3 x0 x1; have x0 := HX4.out.cell 0 rfl; have x1 := HX4.out.cell 1 rfl
              generalize (w4.alloc (.cells #[.int .i64 P', .string I'] 33)) = w5 at *
              go_upto_region 15 with (go_at_call 14; (with_reducible refine (HT2.out _ HM4.out).mono ?_); rintro e w6 ⟨rfl, hg, ht⟩; have HM5 := Lib.hid hg; have HA5 := Lib.hid (HA4.out.turn ht (fun p hp => by cases hp; exact hgm)); have HX5 := Lib.hid (HX4.out.turn ht hpm); have HB5 := Lib.hid (HB4.out.trans (ht.below (B := w.heap.size) HB4.out.size (fun k hk => by rw [hk]; exact hwm))); clear hg ht HM4 HA4 HB4 HX4; have x0 := HX5.out.cell 0 rfl; have x1 := HX5.out.cell 1 rfl)
              have HA6 := Lib.hid (HA5.out.alloc (.cells #[.int .i64 P2, .string I2] 33)); have HM6 := Lib.hid (HM5.out.alloc (.cells #[.int .i64 P2, .string I2] 33)); have HX6 := Lib.hid (HX5.out.alloc (.cells #[.int .i64 P2, .string I2] 33)); have HB6 := Lib.hid (HB5.out.alloc HB5.out.size (.cells #[.int .i64 P2, .string I2] 33)); clear HA5 HM5 HX5 HB5 x0 x1; have x0 := HX6.out.cell 0 rfl; have x1 := HX6.out.cell 1 rfl
              generalize (w6.alloc (.cells #[.int .i64 P2, .string I2] 33)) = w7 at *
              clear dik
              go_wp2_with fail
              go_roundw
              case rel => exact ⟨i + 1, hlt, by go_num, _, Lib.hid ⟨⟨HG2.out, HMS.out⟩, HM6.out, HA6.out, HB6.out⟩⟩
              case measure => simp [intOf]; omega
            | true =>
              go_upto_region 11 with (fail)
              clear x0 x1
              have HX2 := Lib.hid (RowAt.new wr wr.heap.size rfl [.int .i64 P, .string I] 33)
              have x0 := HX2.out.cell 0 rfl
              have x1 := HX2.out.cell 1 rfl
              generalize (wr.alloc (.cells #[.int .i64 P, .string I] 33)) = wp at *
              generalize wr.heap.size = np at *
              go_upto_region 13 with (go_at_call 14; (with_reducible refine (HT1.out _ HM2.out).mono ?_); rintro e w4 ⟨rfl, hg, ht⟩; have HM3 := Lib.hid hg; have HA3 := Lib.hid (HA2.out.turn ht (fun p hp => by cases hp; exact hgm)); have HX3 := Lib.hid (HX2.out.turn ht hpm); have HB3 := Lib.hid (HB2.out.trans (ht.below (B := w.heap.size) HB2.out.size (fun k hk => by rw [hk]; exact hwm))); clear hg ht HM2 HA2 HB2 HX2; have x0 := HX3.out.cell 0 rfl; have x1 := HX3.out.cell 1 rfl)
              have HA4 := Lib.hid (HA3.out.alloc (.cells #[.int .i64 P', .string I'] 33)); have HM4 := Lib.hid (HM3.out.alloc (.cells #[.int .i64 P', .string I'] 33)); have HX4 := Lib.hid (HX3.out.alloc (.cells #[.int .i64 P', .string I'] 33)); have HB4 := Lib.hid (HB3.out.alloc HB3.out.size (.cells #[.int .i64 P', .string I'] 33)); clear HA3 HM3 HX3 HB3 x0 x1; have x0 := HX4.out.cell 0 rfl; have x1 := HX4.out.cell 1 rfl
              generalize (w4.alloc (.cells #[.int .i64 P', .string I'] 33)) = w5 at *
              go_upto_region 15 with (go_at_call 14; (with_reducible refine (HT2.out _ HM4.out).mono ?_); rintro e w6 ⟨rfl, hg, ht⟩; have HM5 := Lib.hid hg; have HA5 := Lib.hid (HA4.out.turn ht (fun p hp => by cases hp; exact hgm)); have HX5 := Lib.hid (HX4.out.turn ht hpm); have HB5 := Lib.hid (HB4.out.trans (ht.below (B := w.heap.size) HB4.out.size (fun k hk => by rw [hk]; exact hwm))); clear hg ht HM4 HA4 HB4 HX4; have x0 := HX5.out.cell 0 rfl; have x1 := HX5.out.cell 1 rfl)
              have HA6 := Lib.hid (HA5.out.alloc (.cells #[.int .i64 P2, .string I2] 33)); have HM6 := Lib.hid (HM5.out.alloc (.cells #[.int .i64 P2, .string I2] 33)); have HX6 := Lib.hid (HX5.out.alloc (.cells #[.int .i64 P2, .string I2] 33)); have HB6 := Lib.hid (HB5.out.alloc HB5.out.size (.cells #[.int .i64 P2, .string I2] 33)); clear HA5 HM5 HX5 HB5 x0 x1; have x0 := HX6.out.cell 0 rfl; have x1 := HX6.out.cell 1 rfl
              generalize (w6.alloc (.cells #[.int .i64 P2, .string I2] 33)) = w7 at *
              clear dik
              go_wp2_with fail
              go_roundw
              case rel => exact ⟨i + 1, hlt, by go_num, _, Lib.hid ⟨⟨HG2.out, HMS.out⟩, HM6.out, HA6.out, HB6.out⟩⟩
              case measure => simp [intOf]; omega
      · have dik : ((i : Int) == (K : Int)) = false := by rw [beq_eq_false_iff_ne]; omega
        have hms := hstep hik
        rw [HN.out] at hms
        obtain ⟨⟨s1, ⟨P', I'⟩, ok, E'⟩, hr1⟩ : ∃ r, takeD s ⟨P, I⟩ = r := ⟨_, rfl⟩
        rw [hr1] at hms hg1
        simp only at hms hg1
        have HMS := Lib.hid hms.2
        have HG1 := Lib.hid hg1
        have hok := hms.1
        have HT1 := Lib.hid (fun W h => take_at m s P I HGK.out hsz s1 P' I' ok E' hr1 W h)
        clear hskip hstep htwice hsz hms hg1 hg2 hr1 hik HGK
        cases ok with
        | false =>
          clear hok
          go_upto_region 11 with (fail)
          clear x0 x1
          have HX2 := Lib.hid (RowAt.new wr wr.heap.size rfl [.int .i64 P, .string I] 33)
          have x0 := HX2.out.cell 0 rfl
          have x1 := HX2.out.cell 1 rfl
          generalize (wr.alloc (.cells #[.int .i64 P, .string I] 33)) = wp at *
          generalize wr.heap.size = np at *
          go_upto_region 13 with (go_at_call 14; (with_reducible refine (HT1.out _ HM2.out).mono ?_); rintro e w4 ⟨rfl, hg, ht⟩; have HM3 := Lib.hid hg; have HA3 := Lib.hid (HA2.out.turn ht (fun p hp => by cases hp; exact hgm)); have HX3 := Lib.hid (HX2.out.turn ht hpm); have HB3 := Lib.hid (HB2.out.trans (ht.below (B := w.heap.size) HB2.out.size (fun k hk => by rw [hk]; exact hwm))); clear hg ht HM2 HA2 HB2 HX2; have x0 := HX3.out.cell 0 rfl; have x1 := HX3.out.cell 1 rfl)
          have HA4 := Lib.hid (HA3.out.alloc (.cells #[.int .i64 P', .string I'] 33)); have HM4 := Lib.hid (HM3.out.alloc (.cells #[.int .i64 P', .string I'] 33)); have HX4 := Lib.hid (HX3.out.alloc (.cells #[.int .i64 P', .string I'] 33)); have HB4 := Lib.hid (HB3.out.alloc HB3.out.size (.cells #[.int .i64 P', .string I'] 33)); clear HA3 HM3 HX3 HB3 x0 x1; have x0 := HX4.out.cell 0 rfl; have x1 := HX4.out.cell 1 rfl
          generalize (w4.alloc (.cells #[.int .i64 P', .string I'] 33)) = w5 at *
          go_wp2_with fail
          go_roundw
          case rel => exact ⟨i + 1, hlt, by go_num, _, Lib.hid ⟨⟨HG1.out, HMS.out⟩, HM4.out, HA4.out, HB4.out⟩⟩
          case measure => simp [intOf]; omega
        | true =>
          have hno : ¬ (twice = false ∨ (0 < K ∧ K + 1 < N)) := fun h => by have := hok h; cases this
          have htw : twice = true := by cases twice with | false => exact absurd (Or.inl rfl) hno | true => rfl
          have hend : K = 0 ∨ (0 < K ∧ K + 1 = N) := by
            have : ¬ (0 < K ∧ K + 1 < N) := fun h => hno (Or.inr h)
            omega
          subst htw
          clear hok hno
          rcases hend with e0 | ⟨e0, e1⟩
          · have dp0 : decide (0 < K) = false := decide_eq_false (by omega)
            clear e0
            go_upto_region 11 with (fail)
            clear x0 x1
            have HX2 := Lib.hid (RowAt.new wr wr.heap.size rfl [.int .i64 P, .string I] 33)
            have x0 := HX2.out.cell 0 rfl
            have x1 := HX2.out.cell 1 rfl
            generalize (wr.alloc (.cells #[.int .i64 P, .string I] 33)) = wp at *
            generalize wr.heap.size = np at *
            go_upto_region 13 with (go_at_call 14; (with_reducible refine (HT1.out _ HM2.out).mono ?_); rintro e w4 ⟨rfl, hg, ht⟩; have HM3 := Lib.hid hg; have HA3 := Lib.hid (HA2.out.turn ht (fun p hp => by cases hp; exact hgm)); have HX3 := Lib.hid (HX2.out.turn ht hpm); have HB3 := Lib.hid (HB2.out.trans (ht.below (B := w.heap.size) HB2.out.size (fun k hk => by rw [hk]; exact hwm))); clear hg ht HM2 HA2 HB2 HX2; have x0 := HX3.out.cell 0 rfl; have x1 := HX3.out.cell 1 rfl)
            have HA4 := Lib.hid (HA3.out.alloc (.cells #[.int .i64 P', .string I'] 33)); have HM4 := Lib.hid (HM3.out.alloc (.cells #[.int .i64 P', .string I'] 33)); have HX4 := Lib.hid (HX3.out.alloc (.cells #[.int .i64 P', .string I'] 33)); have HB4 := Lib.hid (HB3.out.alloc HB3.out.size (.cells #[.int .i64 P', .string I'] 33)); clear HA3 HM3 HX3 HB3 x0 x1; have x0 := HX4.out.cell 0 rfl; have x1 := HX4.out.cell 1 rfl
            generalize (w4.alloc (.cells #[.int .i64 P', .string I'] 33)) = w5 at *
            go_wp2_with fail
            go_roundw
            case rel => exact ⟨i + 1, hlt, by go_num, _, Lib.hid ⟨⟨HG1.out, HMS.out⟩, HM4.out, HA4.out, HB4.out⟩⟩
            case measure => simp [intOf]; omega
          · have dp0 : decide (0 < K) = true := decide_eq_true (by omega)
            have dp1 : decide ((K : Int) < (N : Int) - 1) = false := decide_eq_false (by omega)
            clear e0 e1
            go_upto_region 11 with (fail)
            clear x0 x1
            have HX2 := Lib.hid (RowAt.new wr wr.heap.size rfl [.int .i64 P, .string I] 33)
            have x0 := HX2.out.cell 0 rfl
            have x1 := HX2.out.cell 1 rfl
            generalize (wr.alloc (.cells #[.int .i64 P, .string I] 33)) = wp at *
            generalize wr.heap.size = np at *
            go_upto_region 13 with (go_at_call 14; (with_reducible refine (HT1.out _ HM2.out).mono ?_); rintro e w4 ⟨rfl, hg, ht⟩; have HM3 := Lib.hid hg; have HA3 := Lib.hid (HA2.out.turn ht (fun p hp => by cases hp; exact hgm)); have HX3 := Lib.hid (HX2.out.turn ht hpm); have HB3 := Lib.hid (HB2.out.trans (ht.below (B := w.heap.size) HB2.out.size (fun k hk => by rw [hk]; exact hwm))); clear hg ht HM2 HA2 HB2 HX2; have x0 := HX3.out.cell 0 rfl; have x1 := HX3.out.cell 1 rfl)
            have HA4 := Lib.hid (HA3.out.alloc (.cells #[.int .i64 P', .string I'] 33)); have HM4 := Lib.hid (HM3.out.alloc (.cells #[.int .i64 P', .string I'] 33)); have HX4 := Lib.hid (HX3.out.alloc (.cells #[.int .i64 P', .string I'] 33)); have HB4 := Lib.hid (HB3.out.alloc HB3.out.size (.cells #[.int .i64 P', .string I'] 33)); clear HA3 HM3 HX3 HB3 x0 x1; have x0 := HX4.out.cell 0 rfl; have x1 := HX4.out.cell 1 rfl
            generalize (w4.alloc (.cells #[.int .i64 P', .string I'] 33)) = w5 at *
            go_wp2_with fail
            go_roundw
            case rel => exact ⟨i + 1, hlt, by go_num, _, Lib.hid ⟨⟨HG1.out, HMS.out⟩, HM4.out, HA4.out, HB4.out⟩⟩
            case measure => simp [intOf]; omega
    · have HF := Lib.hid HK.out
      clear HK hi
      go_wp2_with fail
      have HGS := Lib.hid HF.out.1.1
      have HM4 := Lib.hid (show RowAt wr m (csV (stG s L 0)) from by rw [stG_zero]; exact HF.out.2.1)
      have HA4 := Lib.hid HF.out.2.2.1
      have HB4 := Lib.hid HF.out.2.2.2
      clear HF HL1 HE1 HL2 HKL
      go_loopw [106] (fun v wx => ∃ k : Nat, k ≤ N ∧ v = .int .i64 k ∧ Hid (AtL encP wx (some ⟨g, 0, none⟩) L) ∧ Hid (RowAt wx m (csV (stG s L k))) ∧ Hid (Below w.heap.size w wx)) (fun v _ => N - (intOf v).toNat)
      case atStart => exact ⟨0, by omega, rfl, HA4, HM4, HB4⟩
      case round =>
        obtain ⟨k, hk, rfl, HA, HM, HB⟩ := hrel
        clear HA4 HM4 HB4
        by_cases hlt2 : k < N
        · have hL : k < L.length := by rw [HN.out]; exact hlt2
          have ⟨x0, x1⟩ := pc_at HA.out k hL
          rw [Nat.zero_add] at x0 x1
          have hthk := HTH.out.2 s k hL
          obtain ⟨zN, hlast⟩ := last_num k N hNb
          rcases hlast with ⟨hl1, dl⟩ | ⟨hl1, dl⟩
          · rw [if_pos (by rw [HN.out]; exact hl1)] at hthk
            clear hl1
            have HTK := Lib.hid (fun W h => take_step m s L k hL HGS.out (HSM.out L[k] (List.getElem_mem hL)) _ hthk W h)
            generalize L[k].pid = P at *
            generalize L[k].info = I at *
            have HA2 := Lib.hid (HA.out.alloc (.cells #[.int .i64 P, .string I] 33))
            have HM2 := Lib.hid (HM.out.alloc (.cells #[.int .i64 P, .string I] 33))
            have HB2 := Lib.hid (HB.out.alloc HB.out.size (.cells #[.int .i64 P, .string I] 33))
            have hmr := (HM.out.get 0 rfl).lt
            have hpm : ¬ (wr.heap.size = m) := by omega
            clear hthk HA HM HB hmr
            go_upto_region 23 with (fail)
            clear x0 x1
            have hp := RowAt.new wr wr.heap.size rfl [.int .i64 P, .string I] 33
            have x0 := hp.cell 0 rfl
            have x1 := hp.cell 1 rfl
            clear hp
            generalize (wr.alloc (.cells #[.int .i64 P, .string I] 33)) = wp at *
            generalize wr.heap.size = np at *
            go_wp2_with (go_at_call 14; (with_reducible refine (HTK.out _ HM2.out).mono ?_); rintro e w6 ⟨rfl, hg, ht⟩; have HM6 := Lib.hid hg; have HA6 := Lib.hid (HA2.out.turn ht (fun p hp => by cases hp; exact hgm)); have HB6 := Lib.hid (HB2.out.trans (ht.below (B := w.heap.size) HB2.out.size (fun k hk => by rw [hk]; exact hwm))); clear hg ht x0 x1)
            go_roundw
            case rel => exact ⟨k + 1, hlt2, by go_num, Lib.hid (HA6.out.alloc _), Lib.hid (HM6.out.alloc _), Lib.hid (HB6.out.alloc HB6.out.size _)⟩
            case measure => simp [intOf]; omega
          · rw [if_neg (by rw [HN.out]; exact hl1)] at hthk
            clear hl1
            have HTK := Lib.hid (fun W h => take_step m s L k hL HGS.out (HSM.out L[k] (List.getElem_mem hL)) _ hthk W h)
            generalize L[k].pid = P at *
            generalize L[k].info = I at *
            have HA2 := Lib.hid (HA.out.alloc (.cells #[.int .i64 P, .string I] 33))
            have HM2 := Lib.hid (HM.out.alloc (.cells #[.int .i64 P, .string I] 33))
            have HB2 := Lib.hid (HB.out.alloc HB.out.size (.cells #[.int .i64 P, .string I] 33))
            have hmr := (HM.out.get 0 rfl).lt
            have hpm : ¬ (wr.heap.size = m) := by omega
            clear hthk HA HM HB hmr
            go_upto_region 23 with (fail)
            clear x0 x1
            have hp := RowAt.new wr wr.heap.size rfl [.int .i64 P, .string I] 33
            have x0 := hp.cell 0 rfl
            have x1 := hp.cell 1 rfl
            clear hp
            generalize (wr.alloc (.cells #[.int .i64 P, .string I] 33)) = wp at *
            generalize wr.heap.size = np at *
            go_wp2_with (go_at_call 14; (with_reducible refine (HTK.out _ HM2.out).mono ?_); rintro e w6 ⟨rfl, hg, ht⟩; have HM6 := Lib.hid hg; have HA6 := Lib.hid (HA2.out.turn ht (fun p hp => by cases hp; exact hgm)); have HB6 := Lib.hid (HB2.out.trans (ht.below (B := w.heap.size) HB2.out.size (fun k hk => by rw [hk]; exact hwm))); clear hg ht x0 x1)
            go_roundw
            case rel => exact ⟨k + 1, hlt2, by go_num, Lib.hid (HA6.out.alloc _), Lib.hid (HM6.out.alloc _), Lib.hid (HB6.out.alloc HB6.out.size _)⟩
            case measure => simp [intOf]; omega
        · go_wp2_with fail
          exact bodyPost_ret (v := .bool true) (by simp [results, Try.results6, go_sem]) rfl ⟨rfl, HB.out⟩
theorem segmissing_few (text : ByteArray) (a : Int) (twice : Bool) (w : World) (hE : ¬ ((splitD 240 text 16).2 = 0 ∧ 2 ≤ (splitD 240 text 16).1.length)) : Calls Try.prog 6 #[.string text, .int .u8 a, .bool twice] w fun e w' => e = .returned (.bool true) ∧ Below w.heap.size w w' := by
  have HAW := Lib.hid (fun W => segawake_any W)
  have HC := Lib.hid (fun W => csplit_any 240 16 text W)
  obtain ⟨⟨L, E⟩, hLE⟩ : ∃ r, splitD 240 text 16 = r := ⟨_, rfl⟩
  rw [hLE] at hE HC
  simp only at hE HC
  obtain ⟨N, hN⟩ : ∃ N, L.length = N := ⟨_, rfl⟩
  have HN := Lib.hid hN
  rw [hN] at hE
  clear hLE hN
  by_cases h0 : E = 0
  · subst h0
    have dN : decide ((N : Int) < 2) = true := decide_eq_true (by omega)
    clear hE
    go_enter Try.func6, Try.ntmps6
    go_wp2_with (first | (go_at_call 7; (with_reducible refine (HAW.out _).mono ?_); rintro e w1 ⟨rfl, hb⟩; have HB1 := Lib.hid hb; clear hb) | (go_at_call 8; (with_reducible refine (HC.out _).mono ?_); rintro e w2 ⟨⟨v1, rfl, ho⟩, hb⟩; have HB2 := Lib.hid (HB1.out.trans (hb.mono HB1.out.size)); obtain ⟨a1, c1, hv, -⟩ := ho.see; rw [HN.out] at hv; subst hv; clear hb ho))
    exact bodyPost_ret (v := .bool true) (by simp [results, Try.results6, go_sem]) rfl ⟨rfl, HB2.out⟩
  · have dE : (E != 0) = true := by simpa using h0
    clear hE h0
    go_enter Try.func6, Try.ntmps6
    go_wp2_with (first | (go_at_call 7; (with_reducible refine (HAW.out _).mono ?_); rintro e w1 ⟨rfl, hb⟩; have HB1 := Lib.hid hb; clear hb) | (go_at_call 8; (with_reducible refine (HC.out _).mono ?_); rintro e w2 ⟨⟨v1, rfl, ho⟩, hb⟩; have HB2 := Lib.hid (HB1.out.trans (hb.mono HB1.out.size)); obtain ⟨a1, c1, hv, -⟩ := ho.see; rw [HN.out] at hv; subst hv; clear hb ho))
    exact bodyPost_ret (v := .bool true) (by simp [results, Try.results6, go_sem]) rfl ⟨rfl, HB2.out⟩
theorem segmissing_any (text : ByteArray) (a : Int) (twice : Bool) (w : World) (h0 : 0 ≤ a ∧ a ≤ 255) : Calls Try.prog 6 #[.string text, .int .u8 a, .bool twice] w fun e w' => e = .returned (.bool true) ∧ Below w.heap.size w w' := by
  by_cases hE : (splitD 240 text 16).2 = 0 ∧ 2 ≤ (splitD 240 text 16).1.length
  · exact segmissing_two text a twice w h0 hE.1 hE.2
  · exact segmissing_few text a twice w hE
end Go.Proofs.Ytaelhickopeocaa
