/-
The walk of AirLong, over a landed air that keeps its contracts.
-/
import Derived.Test.YtgfipndilngfbaaAirAwake
import Derived.Test.YtgfipndilngfbaaAirLongP
namespace Go.Proofs.Ytgfipndilngfbaa
open Go.RowKit
set_option maxRecDepth 20000
theorem sumL_take (L : List ByteArray) (k : Nat) (h : k < L.length) : sumL (L.take (k + 1)) = sumL (L.take k) + longN L[k] := by
  unfold sumL
  rw [List.take_succ_eq_append_getElem h, List.map_append, List.sum_append]
  simp
theorem long_le (f : ByteArray) (h : f.size ≤ 333) : longN f ≤ 9 := by
  unfold longN
  omega
theorem sumL_le : ∀ (L : List ByteArray), (∀ f ∈ L, f.size ≤ 333) → sumL L ≤ 9 * L.length
  | [], _ => Nat.zero_le _
  | f :: r, h => by
    have h1 := long_le f (h f List.mem_cons_self)
    have h2 := sumL_le r (fun g hg => h g (List.mem_cons_of_mem _ hg))
    rw [sumL_cons, List.length_cons]
    omega
/-- the cells of the two that came -/
theorem got_cells {W : World} {g o : Nat} {f : ByteArray} (h : AtL encG W (some ⟨g, o, none⟩) [⟨2, 1, f⟩, ⟨2, 3, f⟩]) :
    W.cell? ⟨g, o + 1, none⟩ = some (.int .i64 1) ∧ W.cell? ⟨g, o + 2, none⟩ = some (.string f) ∧ W.cell? ⟨g, o + 4 + 1, none⟩ = some (.int .i64 3) ∧ W.cell? ⟨g, o + 4 + 2, none⟩ = some (.string f) :=
  ⟨h.get 0 (by simp) 1 rfl, h.get 0 (by simp) 2 rfl, h.get 1 (by simp) 1 rfl, h.get 1 (by simp) 2 rfl⟩
theorem text_cell {W : World} {g o : Nat} {L : List ByteArray} (h : AtL encS W (some ⟨g, o, none⟩) L) (i : Nat) (hi : i < L.length) (f : ByteArray) (hf : f = L[i]) : W.cell? ⟨g, o + i, none⟩ = some (.string f) := by
  have c0 := h.get i hi 0 (u := .string L[i]) rfl
  have en : encS.n = 1 := rfl
  rw [en] at c0
  simp only [Nat.mul_one, Nat.add_zero] at c0
  rw [hf]
  exact c0
theorem wrap_of (x : Int) (n : Nat) (h : x = n) (hn : n < 1000) : wrap64 x = (n : Int) := by
  subst h
  exact IntWalk.wrap64_in _ (by omega)
set_option maxHeartbeats 4000000 in
theorem long_any {A : AirP} (hC : AirC A) (lead tail : Nat) (a0 : Option Addr) (len cap : Nat) (L : List ByteArray) (hlen : L.length = len) (h0 : lead < 256) (h1 : tail < 256) (w : World) (hA : AtL encS w a0 L) :
    Calls Try.prog 3 #[.int .u8 lead, .int .u8 tail, .slice a0 len cap] w fun e w' => e = .returned (.bool true) ∧ Below w.heap.size w w' := by
  have HAW := Lib.hid (fun W => cawake15 hC W)
  have HC := Lib.hid hC
  have HF := Lib.hid (fun W => fresh_any hC 3 3 rfl (by decide) W)
  have e1 : IntKind.i64.wrap (lead : Int) = lead := i64_near _ (by omega) (by omega)
  have e2 : IntKind.i64.wrap (tail : Int) = tail := i64_near _ (by omega) (by omega)
  have HNUM := Lib.hid (And.intro h0 h1)
  have HLEN := Lib.hid hlen
  have HAL := Lib.hid hA
  by_cases g1 : len < 1
  · have d1 : decide ((len : Int) < 1) = true := decide_eq_true (by omega)
    clear h0 h1 hlen hA hC
    go_enter Try.func3, Try.ntmps3
    go_wp2_with (go_at_call 5; (with_reducible refine (HAW.out _).mono ?_); rintro e wa ⟨rfl, hb⟩; have HB1 := Lib.hid hb; clear hb HAW)
    exact bodyPost_ret (v := .bool true) (by simp [results, Try.results3, go_sem]) rfl ⟨rfl, HB1.out⟩
  · have d1 : decide ((len : Int) < 1) = false := decide_eq_false (by omega)
    by_cases g2 : 7 < len
    · have d2 : decide ((7 : Int) < (len : Int)) = true := decide_eq_true (by omega)
      clear h0 h1 hlen hA hC
      go_enter Try.func3, Try.ntmps3
      go_wp2_with (go_at_call 5; (with_reducible refine (HAW.out _).mono ?_); rintro e wa ⟨rfl, hb⟩; have HB1 := Lib.hid hb; clear hb HAW)
      exact bodyPost_ret (v := .bool true) (by simp [results, Try.results3, go_sem]) rfl ⟨rfl, HB1.out⟩
    · have d2 : decide ((7 : Int) < (len : Int)) = false := decide_eq_false (by omega)
      have HLN := Lib.hid (show 1 ≤ len ∧ len ≤ 7 by omega)
      have z1 : wrap64 ((lead : Int) + (tail : Int)) = ((lead + tail : Nat) : Int) := by rw [IntWalk.wrap64_in _ (by omega)]; omega
      clear h0 h1 hlen hA hC g1 g2
      go_enter Try.func3, Try.ntmps3
      go_upto_region 7 with (go_at_call 5; (with_reducible refine (HAW.out _).mono ?_); rintro e wa ⟨rfl, hb⟩; have HB1 := Lib.hid hb; clear hb HAW)
      have HA1 := Lib.hid (HAL.out.below HB1.out)
      have HZ1 := Lib.hid z1
      clear HAL e1 e2 z1
      go_loopw [7, 34] (fun nv v wx => ∃ k : Nat, k ≤ len ∧ v = .int .i64 (k : Int) ∧ nv = .int .i64 ((lead + tail + sumL (L.take k) : Nat) : Int) ∧ wa = wx ∧ Hid (∀ f ∈ L.take k, f.size ≤ 333)) (fun _ v _ => len - (intOf v).toNat)
      case atStart => exact ⟨0, Nat.zero_le _, rfl, by rw [HZ1.out]; rfl, rfl, Lib.hid (fun f hf => by simp at hf)⟩
      case round =>
        obtain ⟨k, hk, rfl, rfl, rfl, HK⟩ := hrel
        by_cases hlt : k < len
        · have dk : decide ((k : Int) < (len : Int)) = true := decide_eq_true (by omega)
          have hkL : k < L.length := by have := HLEN.out; omega
          obtain ⟨fb, fo, rfl, -⟩ := HA1.out.some_ (by omega)
          have c0 := HA1.out.get k hkL 0 (u := .string L[k]) rfl
          have en : encS.n = 1 := rfl
          rw [en] at c0
          simp only [Nat.mul_one, Nat.add_zero] at c0
          have HST := Lib.hid (sumL_take L k hkL)
          have HTK := Lib.hid (List.take_succ_eq_append_getElem hkL)
          obtain ⟨f, hf⟩ : ∃ f, f = L[k] := ⟨_, rfl⟩
          rw [← hf] at c0 HST HTK
          clear hf en
          by_cases hz : 333 < f.size
          · have dz : decide ((333 : Int) < (f.size : Int)) = true := decide_eq_true (by omega)
            clear hz
            go_wp2
            exact bodyPost_ret (v := .bool true) (by simp [results, Try.results3, go_sem]) rfl ⟨rfl, HB1.out⟩
          · have dz : decide ((333 : Int) < (f.size : Int)) = false := decide_eq_false (by omega)
            have HL := Lib.hid (fun W => HC.out.long W f (by omega))
            have HFS := Lib.hid (show f.size ≤ 333 by omega)
            have HSM := Lib.hid (show lead + tail + sumL (L.take k) + longN f < 1000 by
              have q1 := sumL_le (L.take k) HK.out
              have q2 : (L.take k).length ≤ 7 := by rw [List.length_take]; have := HLN.out; omega
              have q3 := long_le f (by omega)
              have := HNUM.out
              omega)
            clear hz
            go_wp2_with (go_at_call 6; (with_reducible refine (HL.out _).mono ?_); rintro e w3 ⟨rfl, rfl⟩)
            have HW1 := Lib.hid (wrap_of ((k : Int) + 1) (k + 1) rfl (by have := HLN.out; omega))
            have HW2 := Lib.hid (wrap_of ((lead : Int) + (tail : Int) + (sumL (L.take k) : Nat) + (longN f : Nat)) (lead + tail + sumL (L.take (k + 1))) (by rw [HST.out]; omega) (by rw [HST.out]; have := HSM.out; omega))
            rw [HW1.out, HW2.out]
            refine ⟨⟨k + 1, hlt, rfl, rfl, trivial, Lib.hid (fun g hg => ?_)⟩, ?_⟩
            · rw [HTK.out] at hg
              rcases List.mem_append.1 hg with hg | hg
              · exact HK.out g hg
              · rw [List.mem_singleton.1 hg]
                exact HFS.out
            · show len - ((k + 1 : Nat) : Int).toNat < len - ((k : Nat) : Int).toNat
              rw [Int.toNat_natCast, Int.toNat_natCast]
              clear dk dz d1 d2 c0
              omega
        · obtain rfl : k = len := by omega
          have dk : decide ((k : Int) < (k : Int)) = false := decide_eq_false (by omega)
          have htl : L.take k = L := by rw [List.take_of_length_le (by have := HLEN.out; omega)]
          rw [htl] at HK ⊢
          have HSZ := HK
          clear HK htl HZ1
          obtain ⟨n, hn⟩ : ∃ n, n = lead + tail + sumL L := ⟨_, rfl⟩
          have HN := Lib.hid hn
          rw [← hn]
          have HNB := Lib.hid (show n < 600 by
            have q1 := sumL_le L HSZ.out
            have := HLEN.out
            have := HLN.out
            have := HNUM.out
            omega)
          have HS := Lib.hid (fun a W (h : AirO A wa a 3 (fullH 3) Ai.quiet W) => show Calls Try.prog 8 #[ptrV a, .int .i64 2, .int .i64 (lead : Int), .int .i64 (tail : Int), .slice a0 k cap] W _ from
            h.send HC.out 2 lead tail (.slice a0 k cap) L (by decide) (by have := HNUM.out; omega) (by have := HNUM.out; omega) (by have := HLEN.out; have := HLN.out; omega) HSZ.out ⟨a0, cap, by rw [HLEN.out], (HA1.out.below h.bel)⟩ rfl)
          have e1 : IntKind.i64.wrap (lead : Int) = lead := i64_near _ (by have := HNUM.out; omega) (by have := HNUM.out; omega)
          have e2 : IntKind.i64.wrap (tail : Int) = tail := i64_near _ (by have := HNUM.out; omega) (by have := HNUM.out; omega)
          have HST := Lib.hid (LongAt.start lead tail L (by have := HLEN.out; have := HLN.out; omega))
          rw [← hn] at HST
          clear hn
          go_upto_region 19 with (first
            | (go_at_call 7; (with_reducible refine (HF.out _).mono ?_); rintro e w2 ⟨a, p, q, rfl, hI⟩; have HI1 := Lib.hid hI; clear hI HF)
            | (go_at_call 8; (with_reducible refine (HS.out _ _ HI1.out).mono ?_); rintro e w3 ⟨rfl, hI⟩; have HI2 := Lib.hid hI; clear hI HS))
          have H0 := Lib.hid (show ∃ S, LongAt tail n L 0 lead 0 S ∧ AirO A wa a 3 (fullH 3) S w3 from ⟨_, HST.out, HI2.out⟩)
          clear HI2 HST e1 e2 HI1
          generalize Ai.put Ai.quiet 2 ⟨lead, tail, L, 0, noneC⟩ = S0 at *
          go_loopw [13, 14, 15] (fun kv av v wx => ∃ i at_ t : Nat, t ≤ n ∧ at_ < 1000 ∧ i ≤ k ∧ v = .int .i64 ((t : Int) + 1) ∧ kv = .int .i64 (i : Int) ∧ av = .int .i64 (at_ : Int) ∧ Hid (∃ S, LongAt tail n L i at_ t S ∧ AirO A wa a 3 (fullH 3) S wx)) (fun _ _ v _ => n + 1 - (intOf v).toNat)
          case atStart => exact ⟨0, lead, 0, Nat.zero_le _, by have := HNUM.out; omega, Nat.zero_le _, rfl, rfl, rfl, H0⟩
          case round =>
            obtain ⟨i, at_, t, ht, hat, hik, rfl, rfl, rfl, HK⟩ := hrel
            clear H0
            by_cases hlt : t < n
            · have dt : decide ((t : Int) + 1 ≤ (n : Int)) = true := decide_eq_true (by omega)
              obtain ⟨S, HLA, HO⟩ := HK.out
              obtain ⟨b, hS, hbl⟩ := HLA.amid hlt
              have HON := Lib.hid (fun W (h : AirO A wa a 3 (fullH 3) S W) => show Calls Try.prog 9 #[ptrV a, .int .i64 2] W _ from h.on HC.out 2 (by decide))
              have HLE := Lib.hid (fun W (h : AirO A wa a 3 (fullH 3) S W) => show Calls Try.prog 10 #[ptrV a, .int .i64 2] W _ from h.left HC.out 2 (by decide))
              have HHE := Lib.hid (fun W (h : AirO A wa a 3 (fullH 3) S W) => show Calls Try.prog 11 #[ptrV a, .int .i64 1] W _ from h.hears HC.out 1 (by decide))
              have HBU := Lib.hid (fun W v (h : AirO A wa a 3 (fullH 3) S W) (hv : SeeL encS W v [⟨#[120]⟩]) => show Calls Try.prog 8 #[ptrV a, .int .i64 2, .int .i64 0, .int .i64 0, v] W _ from
                h.busy HC.out 2 0 0 v _ (by decide) (by decide) (by decide) (by decide) (by simp; decide) hv (by rw [hS, solo_two]; rfl))
              have HTI := Lib.hid (fun W (h : AirO A wa a 3 (fullH 3) S W) => h.tick HC.out)
              have hs2 : (S 2).isSome = true := by rw [hS, solo_two]; rfl
              obtain ⟨d, hd⟩ : ∃ d, d = n - (t + 1) := ⟨_, rfl⟩
              have hl2 : ((leftOf (S 2) : Nat) : Int) = (d : Int) + 1 := by
                rw [hS, solo_two]
                show ((b.left : Nat) : Int) = _
                rw [hbl]
                omega
              have hh1 : hearsO (fullH 3) 3 S 1 0 = true := by rw [hS]; exact solo_heard b
              rw [hs2] at HON
              rw [hl2] at HLE
              rw [hh1] at HHE
              have w1 : wrap64 ((n : Int) - ((t : Int) + 1)) = (d : Int) := wrap_of _ d (by omega) (by have := HNB.out; omega)
              have w2 : wrap64 ((d : Int) + 1) = (d : Int) + 1 := wrap_of _ (d + 1) rfl (by have := HNB.out; omega)
              have HNX := Lib.hid (HLA.next hlt)
              have HOX := Lib.hid HO
              have HBL := Lib.hid (fun W W' (h : AirO A wa a 3 (fullH 3) S W) (hb : Below W.heap.size W W') => h.below HC.out hb)
              clear HK HO HLA hS hbl hs2 hl2 hh1 hd
              go_upto_region 23 with (first
                | (go_at_call 9; (with_reducible refine (HON.out _ HOX.out).mono ?_); rintro e w4 ⟨rfl, hI⟩; have HO1 := Lib.hid hI; clear hI HON HOX)
                | (go_at_call 10; (with_reducible refine (HLE.out _ HO1.out).mono ?_); rintro e w5 ⟨rfl, hI⟩; have HO2 := Lib.hid hI; clear hI HLE HO1)
                | (go_at_call 11; (with_reducible refine (HHE.out _ HO2.out).mono ?_); rintro e w6 ⟨rfl, hI⟩; have HO3 := Lib.hid hI; clear hI HHE HO2)
                | (go_at_call 8; (with_reducible refine (HBU.out _ _ (HBL.out _ _ HO3.out ((Below.refl _ _).alloc (Nat.le_refl _) _)) (see_one _ _ rfl _)).mono ?_); rintro e w7 ⟨rfl, hI⟩; have HO4 := Lib.hid hI; clear hI HBU HO3))
              clear w1 w2
              go_upto_region 24 with (go_at_call 12; (with_reducible refine (HTI.out _ HO4.out).mono ?_); rintro e w8 ⟨v, rfl, hI, hv⟩; have HO5 := Lib.hid (And.intro hI hv); clear hI hv HTI HO4)
              have HW1 := Lib.hid (wrap_of ((t : Int) + 1 + 1) (t + 2) (by omega) (by have := HNB.out; omega))
              have HLT := Lib.hid hlt
              have HA8 := Lib.hid (HA1.out.below HO5.out.1.bel)
              rcases HNX.out with ⟨hkL, hte, htold, hnext⟩ | ⟨hne, htold, hnext⟩
              · have hik' : i < k := by have := HLEN.out; omega
                have di : decide ((i : Int) < (k : Int)) = true := decide_eq_true (by omega)
                obtain ⟨hO, hG⟩ := HO5.out
                rw [htold] at hG
                obtain ⟨ad, cp, rfl, hA⟩ := hG
                obtain ⟨g, o, rfl, -⟩ := hA.some_ (by simp)
                obtain ⟨fb, fo, rfl, -⟩ := HA8.out.some_ (by omega)
                have c0 := HA8.out.get i hkL 0 (u := .string L[i]) rfl
                have en : encS.n = 1 := rfl
                rw [en] at c0
                simp only [Nat.mul_one, Nat.add_zero] at c0
                have HL := Lib.hid (HC.out.long w8 L[i] (by have := HSZ.out L[i] (List.getElem_mem hkL); omega))
                have w3 : wrap64 ((at_ : Int) + ((longN L[i] : Nat) : Int)) = (t : Int) + 1 := wrap_of _ (t + 1) (by omega) (by have := HNB.out; omega)
                have HK2 := Lib.hid (show ∃ S', LongAt tail n L (i + 1) (t + 1) (t + 1) S' ∧ AirO A wa a 3 (fullH 3) S' w8 from ⟨_, hnext, hO⟩)
                have HG := Lib.hid hA
                have HFR := Lib.hid HA8.out
                obtain ⟨f, hf⟩ : ∃ f, f = L[i] := ⟨_, rfl⟩
                have HFI := Lib.hid hf
                rw [← hf] at c0 HL HG w3
                clear htold hnext hO hA HO5 hte hf en HNX HBL hlt
                go_upto_region 25 with (go_at_call 6; (with_reducible refine HL.out.mono ?_); rintro e w9 ⟨rfl, rfl⟩)
                clear c0
                refine wp_region_held (S := fun W' => Below w9.heap.size w9 W') (by kernel_rfl) ?_
                change wpAnyH _ _ _ _ _ _ _ _ w9.drew
                have HB := Lib.hid ((Below.refl w9.heap.size w9).drew)
                refine wpAnyH_take (i := 0) (v := ?_) rfl (by kernel_rfl) (by kernel_rfl) (by kernel_rfl) (fun _ _ _ h => h) (Or.inl ⟨by rfl, ?_⟩) HB.out ?_
                rotate_left
                · intro w' hw'
                  obtain ⟨q1, q2, q3, q4⟩ := got_cells (HG.out.below hw') ; have q5 := text_cell (HFR.out.below hw') i hkL f HFI.out
                  go_simp
                  with_reducible rfl
                go_simp
                refine wpAnyH_take (i := 1) (v := ?_) rfl (by kernel_rfl) (by kernel_rfl) (by kernel_rfl) (fun _ _ _ h => h) (Or.inl ⟨by rfl, ?_⟩) HB.out ?_
                rotate_left
                · intro w' hw'
                  obtain ⟨q1, q2, q3, q4⟩ := got_cells (HG.out.below hw') ; have q5 := text_cell (HFR.out.below hw') i hkL f HFI.out
                  go_simp
                  with_reducible rfl
                go_simp
                refine wpAnyH_take (i := 2) (v := ?_) rfl (by kernel_rfl) (by kernel_rfl) (by kernel_rfl) (fun _ _ _ h => h) (Or.inl ⟨by rfl, ?_⟩) HB.out ?_
                rotate_left
                · intro w' hw'
                  obtain ⟨q1, q2, q3, q4⟩ := got_cells (HG.out.below hw') ; have q5 := text_cell (HFR.out.below hw') i hkL f HFI.out
                  go_simp
                  with_reducible rfl
                go_simp
                refine wpAnyH_take (i := 3) (v := ?_) rfl (by kernel_rfl) (by kernel_rfl) (by kernel_rfl) (fun _ _ _ h => h) (Or.inl ⟨by rfl, ?_⟩) HB.out ?_
                rotate_left
                · intro w' hw'
                  obtain ⟨q1, q2, q3, q4⟩ := got_cells (HG.out.below hw') ; have q5 := text_cell (HFR.out.below hw') i hkL f HFI.out
                  go_simp
                  with_reducible rfl
                go_simp
                refine wpAnyH_take (i := 4) (v := ?_) rfl (by kernel_rfl) (by kernel_rfl) (by kernel_rfl) (fun _ _ _ h => h) (Or.inl ⟨by rfl, ?_⟩) HB.out ?_
                rotate_left
                · intro w' hw'
                  obtain ⟨q1, q2, q3, q4⟩ := got_cells (HG.out.below hw') ; have q5 := text_cell (HFR.out.below hw') i hkL f HFI.out
                  go_simp
                  with_reducible rfl
                go_simp
                refine wpAnyH_take (i := 5) (v := ?_) rfl (by kernel_rfl) (by kernel_rfl) (by kernel_rfl) (fun _ _ _ h => h) (Or.inl ⟨by rfl, ?_⟩) HB.out ?_
                rotate_left
                · intro w' hw'
                  obtain ⟨q1, q2, q3, q4⟩ := got_cells (HG.out.below hw') ; have q5 := text_cell (HFR.out.below hw') i hkL f HFI.out
                  go_simp
                  with_reducible rfl
                go_simp
                refine wpAnyH_take (i := 6) (v := ?_) rfl (by kernel_rfl) (by kernel_rfl) (by kernel_rfl) (fun _ _ _ h => h) (Or.inl ⟨by rfl, ?_⟩) HB.out ?_
                rotate_left
                · intro w' hw'
                  obtain ⟨q1, q2, q3, q4⟩ := got_cells (HG.out.below hw') ; have q5 := text_cell (HFR.out.below hw') i hkL f HFI.out
                  go_simp
                  with_reducible rfl
                go_simp
                refine wpAnyH_take (i := 7) (v := ?_) rfl (by kernel_rfl) (by kernel_rfl) (by kernel_rfl) (fun _ _ _ h => h) (Or.inl ⟨by rfl, ?_⟩) HB.out ?_
                rotate_left
                · intro w' hw'
                  obtain ⟨q1, q2, q3, q4⟩ := got_cells (HG.out.below hw') ; have q5 := text_cell (HFR.out.below hw') i hkL f HFI.out
                  go_simp
                  with_reducible rfl
                go_simp
                refine wpAnyH_take (i := 8) (v := ?_) rfl (by kernel_rfl) (by kernel_rfl) (by kernel_rfl) (fun _ _ _ h => h) (Or.inl ⟨by rfl, ?_⟩) HB.out ?_
                rotate_left
                · intro w' hw'
                  obtain ⟨q1, q2, q3, q4⟩ := got_cells (HG.out.below hw') ; have q5 := text_cell (HFR.out.below hw') i hkL f HFI.out
                  go_simp
                  with_reducible rfl
                go_simp
                refine wpAnyH_take (i := 9) (v := ?_) rfl (by kernel_rfl) (by kernel_rfl) (by kernel_rfl) (fun _ _ _ h => h) (Or.inl ⟨by rfl, ?_⟩) HB.out ?_
                rotate_left
                · intro w' hw'
                  obtain ⟨q1, q2, q3, q4⟩ := got_cells (HG.out.below hw') ; have q5 := text_cell (HFR.out.below hw') i hkL f HFI.out
                  go_simp
                  with_reducible rfl
                go_simp
                refine wpAnyH_take (i := 10) (v := ?_) rfl (by kernel_rfl) (by kernel_rfl) (by kernel_rfl) (fun _ _ _ h => h) (Or.inl ⟨by rfl, ?_⟩) HB.out ?_
                rotate_left
                · intro w' hw'
                  obtain ⟨q1, q2, q3, q4⟩ := got_cells (HG.out.below hw') ; have q5 := text_cell (HFR.out.below hw') i hkL f HFI.out
                  go_simp
                  with_reducible rfl
                go_simp
                refine wpAnyH_take (i := 11) (v := ?_) rfl (by kernel_rfl) (by kernel_rfl) (by kernel_rfl) (fun _ _ _ h => h) (Or.inl ⟨by rfl, ?_⟩) HB.out ?_
                rotate_left
                · intro w' hw'
                  obtain ⟨q1, q2, q3, q4⟩ := got_cells (HG.out.below hw') ; have q5 := text_cell (HFR.out.below hw') i hkL f HFI.out
                  go_simp
                  with_reducible rfl
                go_simp
                refine wpAnyH_take (i := 12) (v := ?_) rfl (by kernel_rfl) (by kernel_rfl) (by kernel_rfl) (fun _ _ _ h => h) (Or.inl ⟨by rfl, ?_⟩) HB.out ?_
                rotate_left
                · intro w' hw'
                  obtain ⟨q1, q2, q3, q4⟩ := got_cells (HG.out.below hw') ; have q5 := text_cell (HFR.out.below hw') i hkL f HFI.out
                  go_simp
                  with_reducible rfl
                go_simp
                refine wpAnyH_take (i := 13) (v := ?_) rfl (by kernel_rfl) (by kernel_rfl) (by kernel_rfl) (fun _ _ _ h => h) (Or.inl ⟨by rfl, ?_⟩) HB.out ?_
                rotate_left
                · intro w' hw'
                  obtain ⟨q1, q2, q3, q4⟩ := got_cells (HG.out.below hw') ; have q5 := text_cell (HFR.out.below hw') i hkL f HFI.out
                  go_simp
                  with_reducible rfl
                go_simp
                refine wpAnyH_take (i := 14) (v := ?_) rfl (by kernel_rfl) (by kernel_rfl) (by kernel_rfl) (fun _ _ _ h => h) (Or.inl ⟨by rfl, ?_⟩) HB.out ?_
                rotate_left
                · intro w' hw'
                  obtain ⟨q1, q2, q3, q4⟩ := got_cells (HG.out.below hw') ; have q5 := text_cell (HFR.out.below hw') i hkL f HFI.out
                  go_simp
                  with_reducible rfl
                go_simp
                refine wpAnyH_take (i := 15) (v := ?_) rfl (by kernel_rfl) (by kernel_rfl) (by kernel_rfl) (fun _ _ _ h => h) (Or.inl ⟨by rfl, ?_⟩) HB.out ?_
                rotate_left
                · intro w' hw'
                  obtain ⟨q1, q2, q3, q4⟩ := got_cells (HG.out.below hw') ; have q5 := text_cell (HFR.out.below hw') i hkL f HFI.out
                  go_simp
                  with_reducible rfl
                go_simp
                refine wpAnyH_take (i := 16) (v := ?_) rfl (by kernel_rfl) (by kernel_rfl) (by kernel_rfl) (fun _ _ _ h => h) (Or.inl ⟨by rfl, ?_⟩) HB.out ?_
                rotate_left
                · intro w' hw'
                  obtain ⟨q1, q2, q3, q4⟩ := got_cells (HG.out.below hw') ; have q5 := text_cell (HFR.out.below hw') i hkL f HFI.out
                  go_simp
                  with_reducible rfl
                go_simp
                refine wpAnyH_take (i := 17) (v := ?_) rfl (by kernel_rfl) (by kernel_rfl) (by kernel_rfl) (fun _ _ _ h => h) (Or.inl ⟨by rfl, ?_⟩) HB.out ?_
                rotate_left
                · intro w' hw'
                  obtain ⟨q1, q2, q3, q4⟩ := got_cells (HG.out.below hw') ; have q5 := text_cell (HFR.out.below hw') i hkL f HFI.out
                  go_simp
                  with_reducible rfl
                go_simp
                refine wpAnyH_take (i := 18) (v := ?_) rfl (by kernel_rfl) (by kernel_rfl) (by kernel_rfl) (fun _ _ _ h => h) (Or.inl ⟨by rfl, ?_⟩) HB.out ?_
                rotate_left
                · intro w' hw'
                  obtain ⟨q1, q2, q3, q4⟩ := got_cells (HG.out.below hw') ; have q5 := text_cell (HFR.out.below hw') i hkL f HFI.out
                  go_simp
                  with_reducible rfl
                go_simp
                refine wpAnyH_take (i := 19) (v := ?_) rfl (by kernel_rfl) (by kernel_rfl) (by kernel_rfl) (fun _ _ _ h => h) (Or.inl ⟨by rfl, ?_⟩) HB.out ?_
                rotate_left
                · intro w' hw'
                  obtain ⟨q1, q2, q3, q4⟩ := got_cells (HG.out.below hw') ; have q5 := text_cell (HFR.out.below hw') i hkL f HFI.out
                  go_simp
                  with_reducible rfl
                go_simp
                refine wpAnyH_take (i := 20) (v := ?_) rfl (by kernel_rfl) (by kernel_rfl) (by kernel_rfl) (fun _ _ _ h => h) (Or.inl ⟨by rfl, ?_⟩) HB.out ?_
                rotate_left
                · intro w' hw'
                  obtain ⟨q1, q2, q3, q4⟩ := got_cells (HG.out.below hw') ; have q5 := text_cell (HFR.out.below hw') i hkL f HFI.out
                  go_simp
                  with_reducible rfl
                go_simp
                refine wpAnyH_take (i := 21) (v := ?_) rfl (by kernel_rfl) (by kernel_rfl) (by kernel_rfl) (fun _ _ _ h => h) (Or.inl ⟨by rfl, ?_⟩) HB.out ?_
                rotate_left
                · intro w' hw'
                  obtain ⟨q1, q2, q3, q4⟩ := got_cells (HG.out.below hw') ; have q5 := text_cell (HFR.out.below hw') i hkL f HFI.out
                  go_simp
                  with_reducible rfl
                go_simp
                refine wpAnyH_take (i := 22) (v := ?_) rfl (by kernel_rfl) (by kernel_rfl) (by kernel_rfl) (fun _ _ _ h => h) (Or.inl ⟨by rfl, ?_⟩) HB.out ?_
                rotate_left
                · intro w' hw'
                  obtain ⟨q1, q2, q3, q4⟩ := got_cells (HG.out.below hw') ; have q5 := text_cell (HFR.out.below hw') i hkL f HFI.out
                  go_simp
                  with_reducible rfl
                go_simp
                refine wpAnyH_take (i := 23) (v := ?_) rfl (by kernel_rfl) (by kernel_rfl) (by kernel_rfl) (fun _ _ _ h => h) (Or.inl ⟨by rfl, ?_⟩) HB.out ?_
                rotate_left
                · intro w' hw'
                  obtain ⟨q1, q2, q3, q4⟩ := got_cells (HG.out.below hw') ; have q5 := text_cell (HFR.out.below hw') i hkL f HFI.out
                  go_simp
                  with_reducible rfl
                go_simp
                refine wpAnyH_take (i := 24) (v := ?_) rfl (by kernel_rfl) (by kernel_rfl) (by kernel_rfl) (fun _ _ _ h => h) (Or.inl ⟨by rfl, ?_⟩) HB.out ?_
                rotate_left
                · intro w' hw'
                  obtain ⟨q1, q2, q3, q4⟩ := got_cells (HG.out.below hw') ; have q5 := text_cell (HFR.out.below hw') i hkL f HFI.out
                  go_simp
                  with_reducible rfl
                go_simp
                refine wpAnyH_take (i := 25) (v := ?_) rfl (by kernel_rfl) (by kernel_rfl) (by kernel_rfl) (fun _ _ _ h => h) (Or.inl ⟨by rfl, ?_⟩) HB.out ?_
                rotate_left
                · intro w' hw'
                  obtain ⟨q1, q2, q3, q4⟩ := got_cells (HG.out.below hw') ; have q5 := text_cell (HFR.out.below hw') i hkL f HFI.out
                  go_simp
                  with_reducible rfl
                go_simp
                refine wpAnyH_take (i := 26) (v := ?_) rfl (by kernel_rfl) (by kernel_rfl) (by kernel_rfl) (fun _ _ _ h => h) (Or.inl ⟨by rfl, ?_⟩) HB.out ?_
                rotate_left
                · intro w' hw'
                  obtain ⟨q1, q2, q3, q4⟩ := got_cells (HG.out.below hw') ; have q5 := text_cell (HFR.out.below hw') i hkL f HFI.out
                  go_simp
                  with_reducible rfl
                go_simp
                refine wpAnyH_take (i := 27) (v := ?_) rfl (by kernel_rfl) (by kernel_rfl) (by kernel_rfl) (fun _ _ _ h => h) (Or.inl ⟨by rfl, ?_⟩) HB.out ?_
                rotate_left
                · intro w' hw'
                  obtain ⟨q1, q2, q3, q4⟩ := got_cells (HG.out.below hw') ; have q5 := text_cell (HFR.out.below hw') i hkL f HFI.out
                  go_simp
                  with_reducible rfl
                go_simp
                refine wpAnyH_take (i := 28) (v := ?_) rfl (by kernel_rfl) (by kernel_rfl) (by kernel_rfl) (fun _ _ _ h => h) (Or.inl ⟨by rfl, ?_⟩) HB.out ?_
                rotate_left
                · intro w' hw'
                  obtain ⟨q1, q2, q3, q4⟩ := got_cells (HG.out.below hw') ; have q5 := text_cell (HFR.out.below hw') i hkL f HFI.out
                  go_simp
                  with_reducible rfl
                go_simp
                refine wpAnyH_take (i := 29) (v := ?_) rfl (by kernel_rfl) (by kernel_rfl) (by kernel_rfl) (fun _ _ _ h => h) (Or.inl ⟨by rfl, ?_⟩) HB.out ?_
                rotate_left
                · intro w' hw'
                  obtain ⟨q1, q2, q3, q4⟩ := got_cells (HG.out.below hw') ; have q5 := text_cell (HFR.out.below hw') i hkL f HFI.out
                  go_simp
                  with_reducible rfl
                go_simp
                refine wpAnyH_take (i := 30) (v := ?_) rfl (by kernel_rfl) (by kernel_rfl) (by kernel_rfl) (fun _ _ _ h => h) (Or.inl ⟨by rfl, ?_⟩) HB.out ?_
                rotate_left
                · intro w' hw'
                  obtain ⟨q1, q2, q3, q4⟩ := got_cells (HG.out.below hw') ; have q5 := text_cell (HFR.out.below hw') i hkL f HFI.out
                  go_simp
                  with_reducible rfl
                go_simp
                refine wpAnyH_take (i := 31) (v := ?_) rfl (by kernel_rfl) (by kernel_rfl) (by kernel_rfl) (fun _ _ _ h => h) (Or.inl ⟨by rfl, ?_⟩) HB.out ?_
                rotate_left
                · intro w' hw'
                  obtain ⟨q1, q2, q3, q4⟩ := got_cells (HG.out.below hw') ; have q5 := text_cell (HFR.out.below hw') i hkL f HFI.out
                  go_simp
                  with_reducible rfl
                go_simp
                refine wpAnyH_take (i := 32) (v := ?_) rfl (by kernel_rfl) (by kernel_rfl) (by kernel_rfl) (fun _ _ _ h => h) (Or.inl ⟨by rfl, ?_⟩) HB.out ?_
                rotate_left
                · intro w' hw'
                  obtain ⟨q1, q2, q3, q4⟩ := got_cells (HG.out.below hw') ; have q5 := text_cell (HFR.out.below hw') i hkL f HFI.out
                  go_simp
                  with_reducible rfl
                go_simp
                refine wpAnyH_take (i := 33) (v := ?_) rfl (by kernel_rfl) (by kernel_rfl) (by kernel_rfl) (fun _ _ _ h => h) (Or.inl ⟨by rfl, ?_⟩) HB.out ?_
                rotate_left
                · intro w' hw'
                  obtain ⟨q1, q2, q3, q4⟩ := got_cells (HG.out.below hw') ; have q5 := text_cell (HFR.out.below hw') i hkL f HFI.out
                  go_simp
                  with_reducible rfl
                go_simp
                refine wpAnyH_take (i := 34) (v := ?_) rfl (by kernel_rfl) (by kernel_rfl) (by kernel_rfl) (fun _ _ _ h => h) (Or.inl ⟨by rfl, ?_⟩) HB.out ?_
                rotate_left
                · intro w' hw'
                  obtain ⟨q1, q2, q3, q4⟩ := got_cells (HG.out.below hw') ; have q5 := text_cell (HFR.out.below hw') i hkL f HFI.out
                  go_simp
                  with_reducible rfl
                go_simp
                refine wpAnyH_take (i := 35) (v := ?_) rfl (by kernel_rfl) (by kernel_rfl) (by kernel_rfl) (fun _ _ _ h => h) (Or.inl ⟨by rfl, ?_⟩) HB.out ?_
                rotate_left
                · intro w' hw'
                  obtain ⟨q1, q2, q3, q4⟩ := got_cells (HG.out.below hw') ; have q5 := text_cell (HFR.out.below hw') i hkL f HFI.out
                  go_simp
                  with_reducible rfl
                go_simp
                refine wpAnyH_take (i := 36) (v := ?_) rfl (by kernel_rfl) (by kernel_rfl) (by kernel_rfl) (fun _ _ _ h => h) (Or.inl ⟨by rfl, ?_⟩) HB.out ?_
                rotate_left
                · intro w' hw'
                  obtain ⟨q1, q2, q3, q4⟩ := got_cells (HG.out.below hw') ; have q5 := text_cell (HFR.out.below hw') i hkL f HFI.out
                  go_simp
                  with_reducible rfl
                go_simp
                refine wpAnyH_take (i := 37) (v := ?_) rfl (by kernel_rfl) (by kernel_rfl) (by kernel_rfl) (fun _ _ _ h => h) (Or.inl ⟨by rfl, ?_⟩) HB.out ?_
                rotate_left
                · intro w' hw'
                  obtain ⟨q1, q2, q3, q4⟩ := got_cells (HG.out.below hw') ; have q5 := text_cell (HFR.out.below hw') i hkL f HFI.out
                  go_simp
                  with_reducible rfl
                go_simp
                refine wpAnyH_take (i := 38) (v := ?_) rfl (by kernel_rfl) (by kernel_rfl) (by kernel_rfl) (fun _ _ _ h => h) (Or.inl ⟨by rfl, ?_⟩) HB.out ?_
                rotate_left
                · intro w' hw'
                  obtain ⟨q1, q2, q3, q4⟩ := got_cells (HG.out.below hw') ; have q5 := text_cell (HFR.out.below hw') i hkL f HFI.out
                  go_simp
                  with_reducible rfl
                go_simp
                refine wpAnyH_done (by kernel_rfl) ?_ _
                have HK3 := Lib.hid (show ∃ S', LongAt tail n L (i + 1) (t + 1) (t + 1) S' ∧ AirO A wa a 3 (fullH 3) S' w9.drew from by
                  obtain ⟨S', q1, q2⟩ := HK2.out
                  exact ⟨S', q1, q2.below HC.out HB.out⟩)
                clear HK2 HG HFR HB
                go_wp2
                have HW2 := Lib.hid (wrap_of ((i : Int) + 1) (i + 1) rfl (by have := HLN.out; omega))
                rw [HW1.out, HW2.out]
                refine ⟨⟨i + 1, t + 1, t + 1, HLT.out, by have := HNB.out; have := HLT.out; omega, hik', congrArg (Value.int .i64) (by omega), rfl, rfl, HK3⟩, ?_⟩
                show n + 1 - ((t + 2 : Nat) : Int).toNat < n + 1 - (((t + 1 : Nat)) : Int).toNat
                rw [Int.toNat_natCast, Int.toNat_natCast]
                have := HLT.out
                clear w3 di dt dk d1 d2
                omega
              · obtain ⟨hO, hG⟩ := HO5.out
                rw [htold] at hG
                obtain ⟨ad, cp, rfl, -⟩ := hG
                have HK2 := Lib.hid (show ∃ S', LongAt tail n L i at_ (t + 1) S' ∧ AirO A wa a 3 (fullH 3) S' w8 from ⟨_, hnext, hO⟩)
                clear htold hnext hO HO5 HNX HBL hlt
                by_cases hik' : i < k
                · have di : decide ((i : Int) < (k : Int)) = true := decide_eq_true (by omega)
                  have hkL : i < L.length := by have := HLEN.out; omega
                  obtain ⟨fb, fo, rfl, -⟩ := HA8.out.some_ (by omega)
                  have c0 := text_cell HA8.out i hkL L[i] rfl
                  have HL := Lib.hid (HC.out.long w8 L[i] (by have := HSZ.out L[i] (List.getElem_mem hkL); omega))
                  have hlb := long_le L[i] (HSZ.out L[i] (List.getElem_mem hkL))
                  have w3 : wrap64 ((at_ : Int) + ((longN L[i] : Nat) : Int)) = ((at_ + longN L[i] : Nat) : Int) := by
                    rw [IntWalk.wrap64_in _ (by omega)]
                    omega
                  have hne' : (((t : Int) + 1) == ((at_ + longN L[i] : Nat) : Int)) = false := by
                    rw [beq_eq_false_iff_ne]
                    have := hne hkL
                    omega
                  clear hne hlb
                  generalize L[i] = f at *
                  generalize longN f = lg at *
                  generalize at_ + lg = al at *
                  go_wp2_with (go_at_call 6; (with_reducible refine HL.out.mono ?_); rintro e w9 ⟨rfl, rfl⟩)
                  clear w3 hne' c0
                  rw [HW1.out]
                  refine ⟨⟨i, at_, t + 1, HLT.out, hat, hik, congrArg (Value.int .i64) (by omega), rfl, rfl, HK2⟩, ?_⟩
                  show n + 1 - ((t + 2 : Nat) : Int).toNat < n + 1 - (((t + 1 : Nat)) : Int).toNat
                  rw [Int.toNat_natCast, Int.toNat_natCast]
                  have := HLT.out
                  clear di dt dk d1 d2
                  omega
                · have di : decide ((i : Int) < (k : Int)) = false := decide_eq_false (by omega)
                  clear hne
                  go_wp2
                  rw [HW1.out]
                  refine ⟨⟨i, at_, t + 1, HLT.out, hat, hik, congrArg (Value.int .i64) (by omega), rfl, rfl, HK2⟩, ?_⟩
                  show n + 1 - ((t + 2 : Nat) : Int).toNat < n + 1 - (((t + 1 : Nat)) : Int).toNat
                  rw [Int.toNat_natCast, Int.toNat_natCast]
                  have := HLT.out
                  clear di dt dk d1 d2
                  omega
            · obtain rfl : t = n := by omega
              have dt : decide ((t : Int) + 1 ≤ (t : Int)) = false := decide_eq_false (by omega)
              obtain ⟨S, HLA, HO⟩ := HK.out
              obtain ⟨hS, hkk⟩ := HLA.over
              obtain rfl : i = k := by rw [hkk]; exact HLEN.out
              rw [hS] at HO
              have HQ := Lib.hid (HO.quiet HC.out)
              rw [show quietB 3 Ai.quiet = true from rfl] at HQ
              have HHE := Lib.hid (fun W (h : AirO A wa a 3 (fullH 3) Ai.quiet W) => show Calls Try.prog 11 #[ptrV a, .int .i64 1] W _ from h.hears HC.out 1 (by decide))
              rw [quiet_hears] at HHE
              clear HK HLA HO hS hkk
              go_wp2_with (first
                | (go_at_call 13; (with_reducible refine HQ.out.mono ?_); rintro e w4 ⟨rfl, hI⟩; have HO1 := Lib.hid hI; clear hI HQ)
                | (go_at_call 11; (with_reducible refine (HHE.out _ HO1.out).mono ?_); rintro e w5 ⟨rfl, hI⟩; have HE := Lib.hid (HB1.out.trans (hI.bel.mono HB1.out.size)); clear hI HHE))
              exact bodyPost_ret (v := .bool true) (by simp [results, Try.results3, go_sem]) rfl ⟨rfl, HE.out⟩
end Go.Proofs.Ytgfipndilngfbaa
