/-
Walk of the statement SegSplits.
-/
import Derived.Test.YtaelhickopeocaaSegAwake
import Derived.Test.YtaelhickopeocaaSegRCut
import Derived.Test.YtaelhickopeocaaSegSame
namespace Go.Proofs.Ytaelhickopeocaa
open Go.RowKit
set_option maxRecDepth 20000
theorem split_len (pid : Int) (text : ByteArray) (n1 : Int) : (splitD pid text n1).1.length ≤ 1000 := by
  unfold splitD
  split
  · simp
  · split
    · simp
    · split
      · simp
      · rename_i h1 h2 h3
        have := chunk_count (n1.toNat - 1) (by omega) _ (byteI pid :: text.data.toList) (Nat.le_refl _)
        rw [List.length_cons, size_list] at this
        show (heads true _).length ≤ 1000
        rw [heads_length]
        omega
set_option maxHeartbeats 1000000 in
theorem segsplits_any (pid n1 : Int) (text : ByteArray) (w : World) : Calls Try.prog 3 #[.int .i64 pid, .string text, .int .i64 n1] w fun e w' => e = .returned (.bool true) ∧ Below w.heap.size w w' := by
  have HAW := Lib.hid (fun W => segawake_any W)
  by_cases hz : 2000 < text.size
  · have dz : decide ((2000 : Int) < (text.size : Int)) = true := decide_eq_true (by omega)
    go_enter Try.func3, Try.ntmps3
    go_wp2_with (go_at_call 7; (with_reducible refine (HAW.out _).mono ?_); rintro e w1 ⟨rfl, hb⟩; have HB1 := Lib.hid hb; clear hb)
    exact bodyPost_ret (v := .bool true) (by simp [results, Try.results3, go_sem]) rfl ⟨rfl, HB1.out⟩
  · have dz : decide ((2000 : Int) < (text.size : Int)) = false := decide_eq_false (by omega)
    have HC := Lib.hid (fun W => csplit_any pid n1 text W)
    have HR := Lib.hid (fun W => rsplit_any pid n1 text W)
    have HSM := Lib.hid (split_small pid text n1)
    have hln := split_len pid text n1
    obtain ⟨⟨L, E⟩, hLE⟩ : ∃ r, splitD pid text n1 = r := ⟨_, rfl⟩
    rw [hLE] at HC HR HSM hln
    simp only at HC HR HSM hln
    clear hLE hz
    have HLN := Lib.hid hln
    obtain ⟨N, hN⟩ : ∃ N, L.length = N := ⟨_, rfl⟩
    have HN := Lib.hid hN
    have hNb : N ≤ 1000 := by omega
    clear hln hN
    go_enter Try.func3, Try.ntmps3
    go_upto_region 7 with (first | (go_at_call 7; (with_reducible refine (HAW.out _).mono ?_); rintro e w1 ⟨rfl, hb⟩; have HB1 := Lib.hid hb; clear hb) | (go_at_call 8; (with_reducible refine (HC.out _).mono ?_); rintro e w2 ⟨⟨v1, rfl, ho⟩, hb⟩; have HO1 := Lib.hid ho; have HB2 := Lib.hid (HB1.out.trans (hb.mono HB1.out.size)); clear hb ho) | (go_at_call 9; (with_reducible refine (HR.out _).mono ?_); rintro e w3 ⟨⟨v2, rfl, ho⟩, hb⟩; have HV2 := Lib.hid ho.see; have HV1 := Lib.hid (HO1.out.see.below hb); have HB3 := Lib.hid (HB2.out.trans (hb.mono HB2.out.size)); clear hb ho))
    clear HB1 HB2 HO1 HC HR HAW
    obtain ⟨a1, k1, hv1, -⟩ := HV1.out
    rw [HN.out] at hv1
    subst hv1
    go_wp2_with (first | (go_at_call 11; (with_reducible refine (segplain_any _ L _ HV1.out HLN.out).mono ?_); rintro e w4 ⟨⟨u, rfl, ho⟩, hb⟩; have HVU := Lib.hid ho.see; have HV3 := Lib.hid (HV2.out.below hb); have HV4 := Lib.hid (HV1.out.below hb); have HB4 := Lib.hid (HB3.out.trans (hb.mono HB3.out.size)); clear hb ho) | (go_at_call 10; (with_reducible refine (rsame_yes u v2 L _ HVU.out HV3.out HLN.out).mono ?_); rintro e w5 ⟨rfl, hb⟩; have HV5 := Lib.hid (HV4.out.below hb); have HB5 := Lib.hid (HB4.out.trans (hb.mono HB4.out.size)); clear hb))
    go_loopw [44] (fun i wx => ∃ k : Nat, k ≤ N ∧ i = .int .i64 k ∧ Hid (AtL encP wx a1 L) ∧ Hid (Below w.heap.size w wx)) (fun i _ => N - (intOf i).toNat)
    case atStart => exact ⟨0, by omega, rfl, Lib.hid (by obtain ⟨a, c, hv, hA⟩ := HV5.out; rw [HN.out] at hv; cases hv; exact hA), HB5⟩
    case round =>
      obtain ⟨k, hk, rfl, HA, HB⟩ := hrel
      by_cases hlt : k < N
      · have hL : k < L.length := by rw [HN.out]; exact hlt
        obtain ⟨g, o, rfl, hg⟩ := HA.out.some_ (by omega)
        have ⟨x0, x1⟩ := pc_at HA.out k hL
        have hsm := HSM.out L[k] (List.getElem_mem hL)
        have dsm : decide (n1 < (L[k].info.size : Int)) = false := decide_eq_false (by omega)
        generalize L[k].pid = P at *
        generalize L[k].info = I at *
        clear hL hsm
        have HA2 := Lib.hid (HA.out.alloc (.cells #[.int .i64 P, .string I] 33))
        have HB2 := Lib.hid (HB.out.alloc HB.out.size (.cells #[.int .i64 P, .string I] 33))
        go_wp2_with fail
        go_roundw
        case rel => exact ⟨k + 1, by omega, by go_num, HA2, HB2⟩
        case measure => simp [intOf]; omega
      · go_wp2_with fail
        exact bodyPost_ret (v := .bool true) (by simp [results, Try.results3, go_sem]) rfl ⟨rfl, HB.out⟩
end Go.Proofs.Ytaelhickopeocaa
