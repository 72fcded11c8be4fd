/-
The walk of AirCrowd, over a landed air that keeps its contracts.
-/
import Derived.Test.YtgfipndilngfbaaAirAwake
namespace Go.Proofs.Ytgfipndilngfbaa
open Go.RowKit
set_option maxRecDepth 20000
/-- who of the first k sends -/
def whoB (who : Nat) (i : Nat) : Bool := decide (who / 2 ^ (i - 1) % 2 = 1)
def someB (who k : Nat) (i : Nat) : Bool := decide (1 ≤ i ∧ i ≤ k) && whoB who i
theorem someB_next (who k i : Nat) : someB who (k + 1) i = ((decide (i = k + 1) && whoB who (k + 1)) || someB who k i) := by
  unfold someB
  by_cases h : i = k + 1
  · subst h
    rw [decide_eq_true (show 1 ≤ k + 1 ∧ k + 1 ≤ k + 1 by omega), decide_eq_false (show ¬ (1 ≤ k + 1 ∧ k + 1 ≤ k) by omega), decide_eq_true rfl]
    simp
  · rw [decide_eq_false h, Bool.false_and, Bool.false_or]
    congr 1
    rw [decide_eq_decide]
    omega
theorem sendN_next (k who : Nat) : sendN (k + 1) (someB who (k + 1)) = sendN k (someB who k) + if whoB who (k + 1) then 1 else 0 := by
  unfold sendN
  rw [List.range_succ, List.countP_append, List.countP_cons, List.countP_nil]
  congr 1
  · apply List.countP_congr
    intro j hj
    rw [List.mem_range] at hj
    rw [someB_next, decide_eq_false (show ¬ j + 1 = k + 1 by omega)]
    simp
  · rw [someB_next, decide_eq_true rfl]
    have : someB who k (k + 1) = false := by
      unfold someB
      rw [decide_eq_false (by omega)]
      rfl
    rw [this]
    cases whoB who (k + 1) <;> rfl
/-- the walk's word for a bit -/
theorem bit_at (who k : Nat) (hk : k < 16) (hw : who < 65536) : (bits BinOp.and IntKind.u16 ((who : Int) / 2 ^ min (IntKind.u64.wrap (wrap64 (k : Int))).toNat 16) 1 == 1) = whoB who (k + 1) := by
  have e1 : wrap64 (k : Int) = k := IntWalk.wrap64_in _ (by omega)
  have e2 : IntKind.u64.wrap (k : Int) = k := by
    show (k : Int) % 18446744073709551616 = k
    omega
  rw [e1, e2, Int.toNat_natCast, Nat.min_eq_left (by omega)]
  have e3 : (who : Int) / 2 ^ k = ((who / 2 ^ k : Nat) : Int) := by
    rw [Int.natCast_ediv, Int.natCast_pow]
    rfl
  have e4 : who / 2 ^ k < 65536 := Nat.lt_of_le_of_lt (Nat.div_le_self _ _) hw
  rw [e3, show (1 : Int) = ((1 : Nat) : Int) from rfl, u16_and_nat _ _ e4 (by omega), Nat.and_one_is_mod]
  unfold whoB
  rw [Nat.add_sub_cancel]
  by_cases h : who / 2 ^ k % 2 = 1
  · rw [h, decide_eq_true rfl]
    rfl
  · rw [decide_eq_false h, beq_eq_false_iff_ne]
    omega
theorem wrap_succ (x : Nat) (h : x < 1000) : wrap64 ((x : Int) + 1) = ((x + 1 : Nat) : Int) := by rw [IntWalk.wrap64_in _ (by omega)]; omega
theorem wrap_add1 (x y : Nat) (h : x + y < 1000) : wrap64 ((x : Int) + (y : Int) + 1) = ((x + (y + 1) : Nat) : Int) := by rw [IntWalk.wrap64_in _ (by omega)]; omega
theorem wrap_pred (k : Nat) (h : 1 ≤ k ∧ k < 1000) : wrap64 ((k : Int) - 1) = ((k - 1 : Nat) : Int) := by rw [IntWalk.wrap64_in _ (by omega)]; omega
/-- behind t ticks -/
def crowdAt (N : Nat) (P : Nat → Bool) (f : ByteArray) (t : Nat) : Ai := if t < longN f then crowdS N P (fun _ => f) t else Ai.quiet
def cameAt (N : Nat) (P : Nat → Bool) (f : ByteArray) (t : Nat) : Nat := if t < longN f then 0 else (crowdT N P (fun _ => f)).length
theorem crowdT_bytes (N : Nat) (P : Nat → Bool) (f : ByteArray) : ∀ g ∈ crowdT N P (fun _ => f), g.bytes = f := by
  intro g hg
  unfold crowdT at hg
  obtain ⟨k, _, hk⟩ := List.mem_flatMap.1 hg
  split at hk
  · obtain ⟨j, _, rfl⟩ := List.mem_map.1 hk
    rfl
  · simp at hk
theorem crowd_tick (N : Nat) (P : Nat → Bool) (f : ByteArray) (t : Nat) (ht : t < longN f) : ∃ X, tickS (fullH N) N (crowdAt N P f t) = crowdAt N P f (t + 1) ∧ toldS (fullH N) N (crowdAt N P f t) = X ∧ (∀ g ∈ X, g.bytes = f) ∧ cameAt N P f (t + 1) = cameAt N P f t + X.length := by
  unfold crowdAt cameAt
  rw [if_pos ht, if_pos ht]
  by_cases h : t + 1 < longN f
  · obtain ⟨h1, h2⟩ := crowd_step N P (fun _ => f) (longN f) t (fun _ _ => rfl) h
    rw [if_pos h, if_pos h]
    exact ⟨[], h1, h2, fun g hg => by simp at hg, rfl⟩
  · obtain ⟨h1, h2⟩ := crowd_last N P (fun _ => f) (longN f) t (fun _ _ => rfl) (by omega)
    rw [if_neg h, if_neg h]
    exact ⟨_, h1, h2, crowdT_bytes N P f, by omega⟩
/-- how many come -/
theorem crowd_came (N : Nat) (who : Nat) (f : ByteArray) : (crowdT N (someB who N) (fun _ => f)).length = if sendN N (someB who N) = 1 then N - 1 else 0 := by
  by_cases h : sendN N (someB who N) = 1
  · rw [if_pos h]
    have h1 : 0 < sendN N (someB who N) := by omega
    obtain ⟨s, hs, hp⟩ := List.countP_pos_iff.1 h1
    have hs' := List.mem_range.1 hs
    have hu : ∀ k, someB who N k = true ↔ k = s + 1 := by
      intro k
      constructor
      · intro hk
        have hk2 : 1 ≤ k ∧ k ≤ N := by
          unfold someB at hk
          rw [Bool.and_eq_true, decide_eq_true_eq] at hk
          exact hk.1
        have := one_of_count (List.range N) (fun k => someB who N (k + 1)) (by unfold sendN at h; omega) List.nodup_range (k - 1) s (by rw [List.mem_range]; omega) hs (by rw [show k - 1 + 1 = k by omega]; exact hk) hp
        omega
      · rintro rfl
        exact hp
    rw [crowd_single N s _ _ hs' hu, List.length_map, count_others N s hs']
  · rw [if_neg h, crowd_many N _ _ h]
    rfl
set_option maxHeartbeats 4000000 in
theorem crowd_any {A : AirP} (hC : AirC A) (n who : Nat) (frame : ByteArray) (hn : n < 256) (hw : who < 65536) (w : World) :
    Calls Try.prog 4 #[.int .u8 n, .int .u16 who, .string frame] w fun e w' => e = .returned (.bool true) ∧ Below w.heap.size w w' := by
  have HAW := Lib.hid (fun W => cawake15 hC W)
  obtain ⟨r, hr⟩ : ∃ r, n % 15 = r := ⟨_, rfl⟩
  have e1 : IntKind.i64.wrap (n : Int) = n := i64_near _ (by omega) (by omega)
  have e2 : (n : Int).tmod 15 = r := by rw [← hr]; exact (Int.ofNat_tmod n 15).symm
  obtain ⟨N, hN⟩ : ∃ N, N = 2 + r := ⟨_, rfl⟩
  have e3 : wrap64 (2 + (r : Int)) = N := by rw [IntWalk.wrap64_in _ (by omega)]; omega
  have HN := Lib.hid (show 2 ≤ N ∧ N ≤ 16 by omega)
  have HF := Lib.hid (fun W => fresh_any hC N N rfl (by omega) W)
  have HC := Lib.hid hC
  by_cases hz : 333 < frame.size
  · have dz : decide ((333 : Int) < (frame.size : Int)) = true := decide_eq_true (by omega)
    clear hr hN hw hn
    go_enter Try.func4, Try.ntmps4
    go_wp2_with (go_at_call 5; (with_reducible refine (HAW.out _).mono ?_); rintro e w1 ⟨rfl, hb⟩; have HB1 := Lib.hid hb; clear hb)
    exact bodyPost_ret (v := .bool true) (by simp [results, Try.results4, go_sem]) rfl ⟨rfl, HB1.out⟩
  · have dz : decide ((333 : Int) < (frame.size : Int)) = false := decide_eq_false (by omega)
    have HFS := Lib.hid (show frame.size ≤ 333 by omega)
    have HWH := Lib.hid hw
    clear hr hN hn hz
    go_enter Try.func4, Try.ntmps4
    go_upto_region 11 with (first
      | (go_at_call 5; (with_reducible refine (HAW.out _).mono ?_); rintro e w1 ⟨rfl, hb⟩; have HB1 := Lib.hid hb; clear hb HAW)
      | (go_at_call 7; (with_reducible refine (HF.out _).mono ?_); rintro e w2 ⟨a, p, q, rfl, hI⟩; have HI1 := Lib.hid hI; clear hI HF))
    have H0 := Lib.hid (show AirO A w1 a N (fullH N) (crowdS N (someB who 0) (fun _ => frame) 0) w2 from by
      rw [crowd_none N (someB who 0) (fun _ => frame) (fun i => by unfold someB; rw [decide_eq_false (by omega)]; rfl)]
      exact HI1.out)
    clear HI1 e1 e2 e3 dz
    go_loopw [11, 12] (fun sv v wx => ∃ k : Nat, k ≤ N ∧ v = .int .i64 ((k : Int) + 1) ∧ sv = .int .i64 ((sendN k (someB who k) : Nat) : Int) ∧ Hid (AirO A w1 a N (fullH N) (crowdS N (someB who k) (fun _ => frame) 0) wx)) (fun _ v _ => N + 1 - (intOf v).toNat)
    case atStart => exact ⟨0, Nat.zero_le _, rfl, rfl, H0⟩
    case round =>
      obtain ⟨k, hk, rfl, rfl, HK⟩ := hrel
      clear H0
      by_cases hlt : k < N
      · have dk : decide ((k : Int) + 1 ≤ (N : Int)) = true := decide_eq_true (by omega)
        have z1 : wrap64 ((k : Int) + 1 - 1) = k := by rw [show (k : Int) + 1 - 1 = k by omega]; exact IntWalk.wrap64_in _ (by have := HN.out; omega)
        have hbit := bit_at who k (by have := HN.out; omega) hw
        have HZ := Lib.hid (show wrap64 ((k : Int) + 1 + 1) = (k : Int) + 1 + 1 from IntWalk.wrap64_in _ (by have := HN.out; omega))
        have hsn := sendN_next k who
        have hsc : sendN k (someB who k) ≤ k := by
          unfold sendN
          exact Nat.le_trans List.countP_le_length (by simp)
        cases hb : whoB who (k + 1)
        · rw [hb] at hbit hsn
          have HS := Lib.hid (show AirO A w1 a N (fullH N) (crowdS N (someB who (k + 1)) (fun _ => frame) 0) wr from by
            have : someB who (k + 1) = someB who k := by
              funext i
              rw [someB_next, hb]
              simp
            rw [this]
            exact HK.out)
          have HSN := Lib.hid hsn
          clear hb hsn hsc HK
          go_wp2
          go_roundw
          case rel => exact ⟨k + 1, by omega, by rw [HZ.out]; exact congrArg (Value.int .i64) (by omega), by rw [HSN.out]; rfl, HS⟩
          case measure =>
            rw [HZ.out]
            simp [intOf]
            omega
        · rw [hb] at hbit hsn
          have HSE := Lib.hid (fun v (hv : SeeL encS (wr.alloc (.cells #[.string frame] 9)) v [frame]) => show Calls Try.prog 8 #[ptrV a, .int .i64 ((k : Int) + 1), .int .i64 0, .int .i64 0, v] (wr.alloc (.cells #[.string frame] 9)) _ from
            (HK.out.below HC.out ((Below.refl _ wr).alloc (Nat.le_refl _) (.cells #[.string frame] 9))).send HC.out (k + 1) 0 0 v [frame] (by omega) (by decide) (by decide) (by simp) (by have := HFS.out; simp; exact this) hv (by
              unfold crowdS someB
              rw [decide_eq_false (by omega)]
              rfl))
          rw [crowd_put N (someB who k) (someB who (k + 1)) (fun _ => frame) (k + 1) frame rfl (fun i => by rw [someB_next, hb, Bool.and_true])] at HSE
          have HSN := Lib.hid hsn
          have z2 : wrap64 ((sendN k (someB who k) : Nat) + 1 : Int) = ((sendN k (someB who k) + 1 : Nat) : Int) := by rw [IntWalk.wrap64_in _ (by have := HN.out; omega)]; omega
          clear hb hsn hsc HK
          go_wp2_with (go_at_call 8; (with_reducible refine (HSE.out _ (see_one _ _ rfl _)).mono ?_); rintro e w3 ⟨rfl, hI⟩; have HS := Lib.hid hI; clear hI HSE)
          go_roundw
          case rel => exact ⟨k + 1, by omega, by rw [HZ.out]; exact congrArg (Value.int .i64) (by omega), by rw [HSN.out]; exact congrArg (Value.int .i64) (by simp), HS⟩
          case measure =>
            rw [HZ.out]
            simp [intOf]
            omega
      · obtain rfl : k = N := by omega
        have dk : decide ((k : Int) + 1 ≤ (k : Int)) = false := decide_eq_false (by omega)
        have hlo : 0 < longN frame := Nat.succ_pos _
        have hl10 : longN frame ≤ 9 := by have := HFS.out; unfold longN; omega
        have HL := Lib.hid (fun W => HC.out.long W frame (by have := HFS.out; omega))
        obtain ⟨P, hP⟩ : ∃ P, P = someB who k := ⟨_, rfl⟩
        have H0 := Lib.hid (show AirO A w1 a k (fullH k) (crowdAt k P frame 0) wr from by
          unfold crowdAt
          rw [if_pos hlo, hP]
          exact HK.out)
        have HCN := Lib.hid (show cameAt k P frame (longN frame) = if sendN k P = 1 then k - 1 else 0 from by
          unfold cameAt
          rw [if_neg (by omega), hP]
          exact crowd_came k who frame)
        have HC0 := Lib.hid (show cameAt k P frame 0 = 0 from by
          unfold cameAt
          rw [if_pos hlo])
        have HTK := Lib.hid (fun t ht => crowd_tick k P frame t ht)
        have HQT := Lib.hid (show crowdAt k P frame (longN frame) = Ai.quiet from by
          unfold crowdAt
          rw [if_neg (by omega)])
        have hsn : sendN k (someB who k) = sendN k P := by rw [hP]
        rw [hsn]
        have hsl : sendN k P ≤ k := by
          unfold sendN
          exact Nat.le_trans List.countP_le_length (by simp)
        generalize sendN k P = sn at *
        have hcl : ∀ t, cameAt k P frame t ≤ 16 := fun t => by
          by_cases h : t < longN frame
          · unfold cameAt
            rw [if_pos h]
            omega
          · have e : cameAt k P frame t = cameAt k P frame (longN frame) := by
              unfold cameAt
              rw [if_neg h, if_neg (by omega)]
            rw [e, HCN.out]
            have := HN.out
            split <;> omega
        have HCL := Lib.hid hcl
        clear hP hsn hcl HK hlo
        generalize longN frame = m at *
        go_upto_region 19 with fail
        go_loopw [13, 14] (fun cv v wx => ∃ t : Nat, t ≤ m ∧ v = .int .i64 (t : Int) ∧ cv = .int .i64 ((cameAt k P frame t : Nat) : Int) ∧ Hid (AirO A w1 a k (fullH k) (crowdAt k P frame t) wx)) (fun _ v _ => m - (intOf v).toNat)
        case atStart => exact ⟨0, Nat.zero_le _, rfl, by rw [HC0.out]; rfl, H0⟩
        case round =>
          obtain ⟨t, ht, rfl, rfl, HK⟩ := hrel
          clear H0
          by_cases hlt : t < m
          · have dt : decide ((t : Int) < (m : Int)) = true := decide_eq_true (by omega)
            obtain ⟨X, x1, x2, x3, x4⟩ := HTK.out t hlt
            have HT := Lib.hid (HK.out.tick HC.out)
            rw [x1, x2] at HT
            have HX := Lib.hid x3
            have HX4 := Lib.hid x4
            have hc1 := HCL.out (t + 1)
            have HSZ := Lib.hid (show cameAt k P frame t + X.length ≤ 16 by omega)
            clear x1 x2 x3 x4 HK hc1
            generalize cameAt k P frame t = c0 at *
            go_upto_region 22 with (first
              | (go_at_call 6; (with_reducible refine (HL.out _).mono ?_); rintro e w3 ⟨rfl, rfl⟩)
              | (go_at_call 12; (with_reducible refine HT.out.mono ?_); rintro e w4 ⟨v, rfl, hI, hv⟩; obtain ⟨ad, cp, rfl, hA⟩ := hv; have HI4 := Lib.hid (And.intro hI hA); clear hI HT hA))
            have HJ0 := Lib.hid (show AirO A w1 a k (fullH k) (crowdAt k P frame (t + 1)) w4 ∧ AtL encG w4 ad X from HI4.out)
            clear HI4
            have HXL := Lib.hid (rfl : X.length = X.length)
            obtain ⟨XL, hXL⟩ : ∃ XL, XL = X.length := ⟨_, rfl⟩
            rw [← hXL] at HSZ HX4 ⊢
            have HXX := Lib.hid hXL
            clear hXL HXL
            go_loopw [13, 64] (fun cv v wx => ∃ j : Nat, j ≤ XL ∧ v = .int .i64 (j : Int) ∧ cv = .int .i64 ((c0 + j : Nat) : Int) ∧ Hid (AirO A w1 a k (fullH k) (crowdAt k P frame (t + 1)) wx ∧ AtL encG wx ad X)) (fun _ v _ => XL - (intOf v).toNat)
            case atStart => exact ⟨0, Nat.zero_le _, rfl, rfl, HJ0⟩
            case round =>
              obtain ⟨j, hj, rfl, rfl, HK⟩ := hrel
              clear HJ0
              by_cases hlj : j < XL
              · have dj : decide ((j : Int) < (XL : Int)) = true := decide_eq_true (by omega)
                have hjX : j < X.length := by rw [← HXX.out]; exact hlj
                obtain ⟨g, o, rfl, -⟩ := HK.out.2.some_ (by omega)
                have b0 := HK.out.2.get j hjX 0 rfl
                have b1 := HK.out.2.get j hjX 1 rfl
                have b2 := HK.out.2.get j hjX 2 rfl
                have b3 := HK.out.2.get j hjX 3 rfl
                have e4 : encG.n = 4 := rfl
                rw [e4] at b0 b1 b2 b3
                have hby := HX.out X[j] (List.getElem_mem hjX)
                rw [hby] at b2
                simp only [Nat.add_zero] at b0
                generalize X[j] = gg at *
                obtain ⟨gf, gt, gb⟩ := gg
                simp only at b0 b1 hby
                clear hby
                have hjn : j < 1000 ∧ c0 + j < 1000 := by have := HSZ.out; omega
                have HW1 := Lib.hid (wrap_succ j hjn.1)
                have HW2 := Lib.hid (wrap_add1 c0 j hjn.2)
                clear hjn
                have HN1 := Lib.hid (And.intro (HK.out.1.below HC.out ((Below.refl _ wr).alloc (Nat.le_refl _) (.cells #[.int .i64 (gf : Int), .int .i64 (gt : Int), .string frame, .bool false] 37))) (HK.out.2.alloc (.cells #[.int .i64 (gf : Int), .int .i64 (gt : Int), .string frame, .bool false] 37)))
                clear HK
                go_wp2
                rw [HW1.out, HW2.out]
                clear HW1 HW2
                refine ⟨⟨j + 1, hlj, rfl, rfl, HN1⟩, ?_⟩
                show XL - (((j + 1 : Nat) : Int)).toNat < XL - ((j : Nat) : Int).toNat
                rw [Int.toNat_natCast, Int.toNat_natCast]
                clear b0 b1 b2 b3 dj dt dk
                omega
              · obtain rfl : j = XL := by omega
                have dj : decide ((j : Int) < (j : Int)) = false := decide_eq_false (by omega)
                have HR := Lib.hid HK.out.1
                clear HK
                go_wp2
                refine ⟨⟨t + 1, hlt, rfl, by rw [HX4.out], HR⟩, ?_⟩
                show m - (((t + 1 : Nat) : Int)).toNat < m - ((t : Nat) : Int).toNat
                rw [Int.toNat_natCast, Int.toNat_natCast]
                clear dj dt dk
                omega
          · obtain rfl : t = m := by omega
            have dt : decide ((t : Int) < (t : Int)) = false := decide_eq_false (by omega)
            rw [HQT.out] at HK
            have HQ := Lib.hid (HK.out.quiet HC.out)
            rw [show quietB k Ai.quiet = true from by unfold quietB Ai.quiet; rw [List.any_eq_false.2 (fun _ _ => by simp)]; rfl] at HQ
            have hcn := HCN.out
            have hk1 : 1 ≤ k ∧ k < 1000 := by have := HN.out; omega
            have hw3 := wrap_pred k hk1
            clear hk1
            clear HK HQT HTK
            generalize cameAt k P frame t = c0 at *
            by_cases h1 : sn = 1
            · subst h1
              rw [if_pos rfl] at hcn
              subst hcn
              go_wp2_with (first
                | (go_at_call 6; (with_reducible refine (HL.out _).mono ?_); rintro e w3 ⟨rfl, rfl⟩)
                | (go_at_call 13; (with_reducible refine HQ.out.mono ?_); rintro e w4 ⟨rfl, hI⟩; have HE := Lib.hid (HB1.out.trans (hI.bel.mono HB1.out.size)); clear hI HQ))
              exact bodyPost_ret (v := .bool true) (by simp [results, Try.results4, go_sem]) rfl ⟨rfl, HE.out⟩
            · rw [if_neg h1] at hcn
              subst hcn
              have d1 : ((sn : Int) == 1) = false := by rw [beq_eq_false_iff_ne]; omega
              go_wp2_with (first
                | (go_at_call 6; (with_reducible refine (HL.out _).mono ?_); rintro e w3 ⟨rfl, rfl⟩)
                | (go_at_call 13; (with_reducible refine HQ.out.mono ?_); rintro e w4 ⟨rfl, hI⟩; have HE := Lib.hid (HB1.out.trans (hI.bel.mono HB1.out.size)); clear hI HQ))
              exact bodyPost_ret (v := .bool true) (by simp [results, Try.results4, go_sem]) rfl ⟨rfl, HE.out⟩
end Go.Proofs.Ytgfipndilngfbaa
