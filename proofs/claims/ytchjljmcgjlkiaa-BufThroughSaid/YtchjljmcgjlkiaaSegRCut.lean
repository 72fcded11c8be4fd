/-
The document's Split, of a message of several pieces (written by tools/gen10/gen_rcut.py).
-/
import Derived.Test.YtchjljmcgjlkiaaSegRSplit
namespace Go.Proofs.Ytchjljmcgjlkiaa
open Go.RowKit
set_option maxRecDepth 20000
theorem rcut_wraps (N j : Nat) (K : Int) (hj : j < N) (hN : N ≤ 41) (hK : K = ((N - 1 - j : Nat) : Int) + if j = 0 then 128 else 0) :
    IntKind.i64.wrap ((N : Int) - 1) = (N : Int) - 1 ∧ IntKind.i64.wrap ((N : Int) - 1 - (j : Int)) = ((N - 1 - j : Nat) : Int) ∧ IntKind.i64.wrap (((N - 1 - j : Nat) : Int) + if j = 0 then 128 else 0) = K ∧ IntKind.u8.wrap K = K ∧ K % 256 = K := by
  have hb : 0 ≤ K ∧ K ≤ 255 := by rw [hK]; split <;> omega
  refine ⟨i64_small _ (by omega) (by omega), (i64_small _ (by omega) (by omega)).trans (by omega), ?_, (IntKind.wrap_u8 _).trans (by omega), by omega⟩
  rw [← hK]
  exact i64_small _ (by omega) (by omega)
set_option maxHeartbeats 4000000 in
theorem rsplit_more (pid n1 : Int) (text : ByteArray) (w : World) (h : ¬ (pid < 0 ∨ 255 < pid ∨ n1 < 16 ∨ 256 < n1)) (hz : ¬ 600 < text.size) (hpick : n1 < (text.size : Int)) : Calls Try.prog 24 #[.int .i64 pid, .string text, .int .i64 n1] w (RSplitTo w (splitD pid text n1)) := by
  have h5' : ¬ ((text.size : Int) ≤ n1 ∧ pid ≠ 8) := by omega
  have HE := Lib.hid (show splitD pid text n1 = (heads true (chunk (n1.toNat - 1) (byteI pid :: text.data.toList)), 0) from by unfold splitD; rw [if_neg h, if_neg hz, if_neg h5'])
  unfold RSplitTo
  have h1 : ¬ pid < 0 := by omega
  have h2 : ¬ 255 < pid := by omega
  have h3 : ¬ n1 < 16 := by omega
  have h4 : ¬ 256 < n1 := by omega
  have z1 : IntKind.i64.wrap (n1 - 1) = n1 - 1 := IntWalk.i64_in _ (by omega)
  have z2 : IntKind.i64.wrap (n1 - 2) = n1 - 2 := IntWalk.i64_in _ (by omega)
  have z3 : IntKind.u8.wrap pid = pid := (IntKind.wrap_u8 _).trans (by omega)
  have HO0 := Lib.hid (OwnL.lit encS 9 w w.heap.size [] [] rfl (Nat.le_refl _) (by simp) 0 rfl)
  have HB0 := Lib.hid ((Below.refl _ w).alloc (Nat.le_refl _) (.cells #[] 9))
  obtain ⟨m, hm⟩ : ∃ m, m = n1.toNat - 1 := ⟨_, rfl⟩
  rw [← hm] at HE
  have HM := Lib.hid (show 15 ≤ m ∧ (m : Int) = n1 - 1 ∧ n1 ≤ 256 from by omega)
  have HZ := Lib.hid (show text.size ≤ 600 from by omega)
  have HT1 := Lib.hid (fun W => text1 W pid (by omega) (by omega))
  have d6 : decide ((text.size : Int) ≤ n1) = false := decide_eq_false (by omega)
  clear h hm hpick h5'
  go_enter Try.func24, Try.ntmps24
  go_wp2_with fail
  go_loopw [1, 8, 9, 10, 11] (fun s v i r x wx => ∃ (D : List (List UInt8)) (b : ByteArray) (tv : Value), i = .int .i64 D.length ∧ s = .string b ∧ tv = v ∧ Hid (CutAt m pid text w D b tv wx)) (fun s _ i _ _ _ => strLen s + (1 - (intOf i).toNat))
  case atStart => exact ⟨[], text, _, rfl, rfl, rfl, Lib.hid ⟨⟨HZ.out, by simp, fun _ => rfl, fun h => absurd rfl h⟩, HO0.out, HB0.out⟩⟩
  case round =>
    obtain ⟨D, b, tv, rfl, rfl, rfl, HK⟩ := hrel
    clear HO0 HB0
    have HC := Lib.hid HK.out.1
    have HO := Lib.hid HK.out.2.1
    have HB := Lib.hid HK.out.2.2
    clear HK
    by_cases hD : D = []
    · subst hD
      obtain rfl : b = text := HC.out.2.2.1 rfl
      simp only [List.map_nil] at HO
      by_cases hsh : (b.size : Int) < n1 - 2
      · obtain ⟨hcx, hcy⟩ := cut_at b (b.size : Int) (by omega) (by omega)
        obtain ⟨r, hr⟩ : ∃ r, r = ((b.size : Int)).toNat := ⟨_, rfl⟩
        rw [← hr] at hcx hcy
        have HR := Lib.hid (cut_first (pid := pid) (text := b) (m := m) (by have := HM.out.1; omega) r HZ.out (by have := HM.out.2.1; right; omega))
        have hle : r ≤ b.size := by omega
        have hCE : ⟨#[byteI pid]⟩ ++ bt (b.data.toList.take r) = bt (byteI pid :: b.data.toList.take r) := bytes_ext' (by simp [bt])
        have ha := fun (W : World) => run_string_add_sum (P := Try.prog) (w := W) ⟨#[byteI pid]⟩ (bt (b.data.toList.take r)) (by rw [bt_size]; have := HC.out.1; show 1 + _ ≤ _; simp; omega)
        rw [hCE] at ha
        have hYs : (bt (b.data.toList.drop r)).size = b.size - r := by rw [bt_size]; simp
        generalize hcc : (byteI pid :: b.data.toList.take r : List UInt8) = c at *
        generalize hyy : bt (b.data.toList.drop r) = Y at *
        obtain ⟨C, hC⟩ : ∃ C, C = bt c := ⟨_, rfl⟩
        rw [← hC] at ha
        have HCE := Lib.hid hC
        generalize bt (b.data.toList.take r) = X at *
        have HRR := Lib.hid hr
        clear hCE hC hcc hyy hr
        have ht1 := HT1.out wr
        go_upto_region 16 with (fail)
        clear ht1
        have HO1 := Lib.hid (HO.out.alloc (.cells #[.int .u8 pid] 5))
        have HB1 := Lib.hid (HB.out.alloc HB.out.size (.cells #[.int .u8 pid] 5))
        clear HO HB
        generalize wr.alloc (.cells #[.int .u8 pid] 5) = w2 at *
        have HO2 := Lib.hid (HO1.out.alloc (.cells #[.string C] 9))
        have HB2 := Lib.hid (HB1.out.alloc HB1.out.size (.cells #[.string C] 9))
        have HM2 := Lib.hid (AtL.made encS 9 w2 w2.heap.size C [.string C] rfl rfl)
        go_wp2_with (at_builtin; go_loud (refine wpList_append_one encS 9 86 Try.underlying86 infoS rfl (by decide) _ rfl (.tmp 70) (.tmp 76) rfl w.heap.size tv ([] : List ByteArray) rfl HO2.out w2.heap.size 1 rfl C HM2.out (by simp) (by have := HB2.out.size; exact this) ?_; intro v' w2 hown hgr hwh; have HB3 := Lib.hid (HO2.out.appended HB2.out (Nat.le_refl _) HB2.out.size hgr); have HO3 := Lib.hid hown; clear hown hgr hwh))
        go_roundw
        case rel => exact ⟨[c], Y, _, rfl, rfl, rfl, Lib.hid ⟨HR.out, by have := HO3.out; rw [HCE.out] at this; exact this, HB3.out⟩⟩
        case measure => simp [intOf, strLen, hYs]; omega
      · obtain ⟨hcx, hcy⟩ := cut_at b (n1 - 2) (by omega) (by omega)
        obtain ⟨r, hr⟩ : ∃ r, r = ((n1 - 2)).toNat := ⟨_, rfl⟩
        rw [← hr] at hcx hcy
        have HR := Lib.hid (cut_first (pid := pid) (text := b) (m := m) (by have := HM.out.1; omega) r HZ.out (by have := HM.out.2.1; left; omega))
        have hle : r ≤ b.size := by omega
        have hCE : ⟨#[byteI pid]⟩ ++ bt (b.data.toList.take r) = bt (byteI pid :: b.data.toList.take r) := bytes_ext' (by simp [bt])
        have ha := fun (W : World) => run_string_add_sum (P := Try.prog) (w := W) ⟨#[byteI pid]⟩ (bt (b.data.toList.take r)) (by rw [bt_size]; have := HC.out.1; show 1 + _ ≤ _; simp; omega)
        rw [hCE] at ha
        have hYs : (bt (b.data.toList.drop r)).size = b.size - r := by rw [bt_size]; simp
        generalize hcc : (byteI pid :: b.data.toList.take r : List UInt8) = c at *
        generalize hyy : bt (b.data.toList.drop r) = Y at *
        obtain ⟨C, hC⟩ : ∃ C, C = bt c := ⟨_, rfl⟩
        rw [← hC] at ha
        have HCE := Lib.hid hC
        generalize bt (b.data.toList.take r) = X at *
        have HRR := Lib.hid hr
        clear hCE hC hcc hyy hr
        have ht1 := HT1.out wr
        go_upto_region 16 with (fail)
        clear ht1
        have HO1 := Lib.hid (HO.out.alloc (.cells #[.int .u8 pid] 5))
        have HB1 := Lib.hid (HB.out.alloc HB.out.size (.cells #[.int .u8 pid] 5))
        clear HO HB
        generalize wr.alloc (.cells #[.int .u8 pid] 5) = w2 at *
        have HO2 := Lib.hid (HO1.out.alloc (.cells #[.string C] 9))
        have HB2 := Lib.hid (HB1.out.alloc HB1.out.size (.cells #[.string C] 9))
        have HM2 := Lib.hid (AtL.made encS 9 w2 w2.heap.size C [.string C] rfl rfl)
        go_wp2_with (at_builtin; go_loud (refine wpList_append_one encS 9 86 Try.underlying86 infoS rfl (by decide) _ rfl (.tmp 70) (.tmp 76) rfl w.heap.size tv ([] : List ByteArray) rfl HO2.out w2.heap.size 1 rfl C HM2.out (by simp) (by have := HB2.out.size; exact this) ?_; intro v' w2 hown hgr hwh; have HB3 := Lib.hid (HO2.out.appended HB2.out (Nat.le_refl _) HB2.out.size hgr); have HO3 := Lib.hid hown; clear hown hgr hwh))
        go_roundw
        case rel => exact ⟨[c], Y, _, rfl, rfl, rfl, Lib.hid ⟨HR.out, by have := HO3.out; rw [HCE.out] at this; exact this, HB3.out⟩⟩
        case measure => simp [intOf, strLen, hYs]; omega
    · have hd0 : ((D.length : Int) == 0) = false := by
        rw [beq_eq_false_iff_ne]
        have := List.length_pos_iff.2 hD
        omega
      by_cases hb0 : b.size = 0
      · have hbl : b.data.toList = [] := List.length_eq_zero_iff.1 (by rw [size_list, hb0])
        have hDD := HC.out.2.2.2 hD
        rw [hbl, chunk_nil, List.append_nil] at hDD
        have hDlen := HC.out.2.1
        have hDp : 0 < D.length := List.length_pos_iff.2 hD
        obtain ⟨g, cp, htv, hgw, hgl, hA⟩ := HO.out.some_ (by simpa using hDp)
        rw [List.length_map] at htv
        subst htv
        obtain ⟨N, hN⟩ : ∃ N, D.length = N := ⟨_, rfl⟩
        have hNb : 0 < N ∧ N ≤ 601 := by omega
        have d9 : ((N : Int) == 0) = false := by rw [beq_eq_false_iff_ne]; omega
        rw [hN]
        have HA := Lib.hid hA
        have HDD := Lib.hid hDD
        have HN := Lib.hid hN
        have HE2 := Lib.hid (show splitD pid text n1 = (heads true D, 0) from by rw [hDD]; exact HE.out)
        have HP0 := Lib.hid (OwnL.lit encP 39 wr w.heap.size [] [] rfl HB.out.size (by simp) 0 rfl)
        have HAL := Lib.hid (HA.out.alloc (.cells #[] 39))
        have HB1 := Lib.hid (HB.out.alloc HB.out.size (.cells #[] 39))
        have hg1 : g < (wr.alloc (.cells #[] 39)).heap.size := by simp; omega
        have hwsz := Lib.hid HB.out.size
        have hgl2 := Lib.hid hgl
        clear hA hDD HC HO HB HA hbl hDlen HE hd0 hD hDp hgl hN
        have hN41 : N ≤ 41 := by
          have := chunk_count m HM.out.1 _ (byteI pid :: text.data.toList) (Nat.le_refl _)
          rw [← HDD.out, List.length_cons, size_list, HN.out] at this
          have := HZ.out
          omega
        have HCZ := Lib.hid (show ∀ c ∈ D, c.length ≤ m ∧ c ≠ [] from by rw [HDD.out]; exact chunk_small m (by have := HM.out.1; omega) _ _ (Nat.le_refl _))
        have HMB := Lib.hid (show m ≤ 255 from by have := HM.out; omega)
        clear z1 z2 z3 d6 HM HZ HT1 hz HDD
        go_wp2_with fail
        have hwg : w.heap.size ≤ wr.heap.size := hwsz.out
        have HNE := Lib.hid (show (Value.slice (some ⟨wr.heap.size, 0, none⟩) 0 0).ownBlock ≠ some g from fun e => by have h : wr.heap.size = g := Option.some.inj e; have := hgl2.out; omega)
        clear hb0
        generalize (wr.alloc (.cells #[] 39)) = w0 at *
        generalize wr.heap.size = n0 at *
        go_loopw [12, 13, 14] (fun o i _ wx => ∃ (j : Nat) (ov : Value), j ≤ N ∧ i = .int .i64 j ∧ ov = o ∧ Hid (OwnL encP 39 wx w.heap.size ov ((heads true D).take j) ∧ AtL encS wx (some ⟨g, 0, none⟩) (D.map bt) ∧ ov.ownBlock ≠ some g ∧ Below w.heap.size w wx ∧ g < wx.heap.size)) (fun _ i _ _ => N - (intOf i).toNat)
        case atStart => exact ⟨0, _, Nat.zero_le _, rfl, rfl, Lib.hid ⟨HP0.out, HAL.out, HNE.out, HB1.out, hg1⟩⟩
        case round =>
          obtain ⟨j, ov, hj, rfl, rfl, HK⟩ := hrel
          clear HP0 HAL HNE HB1 hg1
          by_cases hlt : j < N
          · have hjD : j < D.length := by rw [HN.out]; exact hlt
            have hj2 : j < (D.map bt).length := by rw [List.length_map]; exact hjD
            have hcell := fun (W : World) (h : AtL encS W (some ⟨g, 0, none⟩) (D.map bt)) => h.get j hj2 0 (u := .string (bt D[j])) (by simp [encS])
            have HCE := Lib.hid hcell
            have hcs := HCZ.out D[j] (List.getElem_mem hjD)
            have hmb := HMB.out
            obtain ⟨KK, hK0⟩ : ∃ KK, KK = ((N - 1 - j : Nat) : Int) + if j = 0 then 128 else 0 := ⟨_, rfl⟩
            have hKb : 0 ≤ KK ∧ KK ≤ 255 := by rw [hK0]; split <;> omega
            obtain ⟨S, hS0⟩ : ∃ S, S = bt (byteI KK :: D[j]) := ⟨_, rfl⟩
            have HHD := Lib.hid (show (heads true D).take (j + 1) = (heads true D).take j ++ [⟨8, S⟩] from by
              have hjh : j < (heads true D).length := by rw [heads_length]; exact hjD
              rw [List.take_succ_eq_append_getElem hjh, heads_get true D j hjD, hS0, hK0, HN.out]
              simp [bt])
            have HTL := Lib.hid (show ((heads true D).take j).length ≤ 100000 from by rw [List.length_take, heads_length]; omega)
            have ha := fun (W : World) => run_string_add_sum (P := Try.prog) (w := W) (bt [byteI KK]) (bt D[j]) (by rw [bt_size, bt_size]; simp only [List.length_cons, List.length_nil]; omega)
            rw [show bt [byteI KK] ++ bt D[j] = S from by rw [hS0]; exact bytes_ext' (by simp [bt])] at ha
            have HHA := Lib.hid ha
            clear ha hS0 hcell
            generalize bt D[j] = X at *
            have HBY := Lib.hid (byteI_val KK hKb.1 hKb.2)
            have HW := Lib.hid (rcut_wraps N j KK hlt hN41 hK0)
            clear hcs hKb
            obtain ⟨q1, q2, q3, q4, q5⟩ := HW.out
            by_cases hz : j = 0
            · have dj : ((j : Int) == 0) = true := by rw [hz]; rfl
              rw [if_pos hz] at q3
              clear hK0 hz
              go_upto_region 27 with (fail)
              clear q1 q2 q3 dj
              refine wp_region_upto 12 1 (fun W W' => Below W.heap.size W W') (fun W => AtL encS W (some ⟨g, 0, none⟩) (D.map bt) ∧ OwnL encP 39 W w.heap.size ov ((heads true D).take j) ∧ Below w.heap.size w W ∧ g < W.heap.size)
                (fun j' v W => factsOf [.is ov, .is (.int .i64 KK), .is (.int .u8 KK), .row [byteI KK], .is (.string (bt [byteI KK])), .is (.slice (some ⟨g, 0, none⟩) N cp), .is (.int .i64 j), .is (.pointer (some ⟨g, j, none⟩)), .is (.string X), .is (.string S), .is (.agg #[.int .i64 8, .string S]), .any] j' v W ∧ (j' = 11 → ∃ b, v = .slice (some ⟨b, 0, none⟩) 1 1 ∧ AtL encP W (some ⟨b, 0, none⟩) [⟨8, S⟩]))
                (by kernel_rfl) rfl (by kernel_rfl) (by kernel_rfl) (fun j' v W W' hb h => ⟨facts_stay _ j' v W W' hb h.1, fun e => by obtain ⟨b, hv, hB⟩ := h.2 e; exact ⟨b, hv, hB.below hb⟩⟩)
                (fun W W' hb h => ⟨h.1.below hb, h.2.1.below hb, h.2.2.1.trans (hb.mono h.2.2.1.size), Nat.lt_of_lt_of_le h.2.2.2 hb.size⟩) (fun i => [u97, u98, u99, u100, u101, u102, u103, u104, u105, u106, u107, u108].getD i undef) (by kernel_rfl) ⟨HK.out.2.1.drew, HK.out.1.drew, HK.out.2.2.2.1.drew, HK.out.2.2.2.2⟩ ?F1x1 ?hF1x1 ?hstep1x1 ?hend1x1
              case hF1x1 =>
                intro u
                simp only [List.take, fillAct]
                go_simp
                rfl
              case hstep1x1 =>
                clear HK
                refine FSteps.cons ?_ ?_
                · intro u W hS hd K hK
                  clear hd
                  simp only [upd, reduceIte, Nat.reduceEqDiff] at hK
                  go_simp
                  exact hK.out _ _ (Below.refl _ _) ⟨rfl, (fun e => absurd e (by decide))⟩
                refine FSteps.cons ?_ ?_
                · intro u W hS hd K hK
                  clear hd
                  simp only [upd, reduceIte, Nat.reduceEqDiff] at hK
                  go_simp
                  exact hK.out _ _ (Below.refl _ _) ⟨rfl, (fun e => absurd e (by decide))⟩
                refine FSteps.cons ?_ ?_
                · intro u W hS hd K hK
                  have h1 : u 1 = _ := (hd 1 rfl).1
                  clear hd
                  simp only [upd, h1, reduceIte, Nat.reduceEqDiff] at hK
                  go_simp
                  exact hK.out _ _ (Below.refl _ _) ⟨rfl, (fun e => absurd e (by decide))⟩
                refine FSteps.cons ?_ ?_
                · intro u W hS hd K hK
                  have h2 : u 2 = _ := (hd 2 rfl).1
                  clear hd
                  simp only [upd, h2, reduceIte, Nat.reduceEqDiff] at hK
                  go_simp
                  exact hK.out _ _ ((Below.refl _ _).alloc (Nat.le_refl _) _) ⟨⟨_, rfl, BytesAt.made _ _ [byteI KK] [.int .u8 KK] _ (by simp [bytesV, ← HBY.out]) rfl⟩, (fun e => absurd e (by decide))⟩
                refine FSteps.cons ?_ ?_
                · intro u W hS hd K hK
                  obtain ⟨g3, h3, b3⟩ : ∃ g, u 3 = .slice (some ⟨g, 0, none⟩) _ _ ∧ BytesAt W g _ := (hd 3 rfl).1
                  clear hd
                  simp only [upd, h3, reduceIte, Nat.reduceEqDiff] at hK
                  have hcv : (convert 76 9 (.slice (some ⟨g3, 0, none⟩) 1 1)).run Try.prog W = .ok (.string (bt [byteI KK])) W := b3.conv (cap := 1)
                  go_simp
                  exact hK.out _ _ (Below.refl _ _) ⟨rfl, (fun e => absurd e (by decide))⟩
                refine FSteps.cons ?_ ?_
                · intro u W hS hd K hK
                  clear hd
                  simp only [upd, reduceIte, Nat.reduceEqDiff] at hK
                  go_simp
                  exact hK.out _ _ (Below.refl _ _) ⟨rfl, (fun e => absurd e (by decide))⟩
                refine FSteps.cons ?_ ?_
                · intro u W hS hd K hK
                  clear hd
                  simp only [upd, reduceIte, Nat.reduceEqDiff] at hK
                  go_simp
                  exact hK.out _ _ (Below.refl _ _) ⟨rfl, (fun e => absurd e (by decide))⟩
                refine FSteps.cons ?_ ?_
                · intro u W hS hd K hK
                  have h5 : u 5 = _ := (hd 5 rfl).1
                  have h6 : u 6 = _ := (hd 6 rfl).1
                  clear hd
                  simp only [upd, h5, h6, reduceIte, Nat.reduceEqDiff] at hK
                  go_simp
                  exact hK.out _ _ (Below.refl _ _) ⟨rfl, (fun e => absurd e (by decide))⟩
                refine FSteps.cons ?_ ?_
                · intro u W hS hd K hK
                  have h7 : u 7 = _ := (hd 7 rfl).1
                  clear hd
                  simp only [upd, h7, reduceIte, Nat.reduceEqDiff] at hK
                  have c0 := HCE.out W hS.1
                  simp only [encS, Nat.mul_one, Nat.zero_add, Nat.add_zero] at c0
                  go_simp
                  exact hK.out _ _ (Below.refl _ _) ⟨rfl, (fun e => absurd e (by decide))⟩
                refine FSteps.cons ?_ ?_
                · intro u W hS hd K hK
                  have h4 : u 4 = _ := (hd 4 rfl).1
                  have h8 : u 8 = _ := (hd 8 rfl).1
                  clear hd
                  simp only [upd, h4, h8, reduceIte, Nat.reduceEqDiff] at hK
                  have ha := HHA.out W
                  go_simp
                  exact hK.out _ _ (Below.refl _ _) ⟨rfl, (fun e => absurd e (by decide))⟩
                refine FSteps.cons ?_ ?_
                · intro u W hS hd K hK
                  have h9 : u 9 = _ := (hd 9 rfl).1
                  clear hd
                  simp only [upd, h9, reduceIte, Nat.reduceEqDiff] at hK
                  go_simp
                  exact hK.out _ _ (Below.refl _ _) ⟨rfl, (fun e => absurd e (by decide))⟩
                refine FSteps.cons ?_ ?_
                · intro u W hS hd K hK
                  have h10 : u 10 = _ := (hd 10 rfl).1
                  clear hd
                  simp only [upd, h10, reduceIte, Nat.reduceEqDiff] at hK
                  go_simp
                  exact hK.out _ _ ((Below.refl _ _).alloc (Nat.le_refl _) _) ⟨trivial, fun _ => ⟨_, rfl, AtL.made encP 39 _ _ ⟨8, S⟩ _ rfl rfl⟩⟩
                exact trivial
              case hend1x1 =>
                intro u w6 hS hd
                have h0 : u 0 = _ := (hd 0 rfl).1
                obtain ⟨b7, h7, B7⟩ := (hd 11 rfl).2 rfl
                clear hd
                refine wpAny_ready (rs := [12]) (by kernel_rfl) (by simp) ?_
                refine AllReady.cons rfl (fun K2 hK => ?_) AllReady.nil
                rw [if_pos (by kernel_rfl)]
                obtain ⟨v', w7, hr, hown, hgr, hov⟩ := run_append_one encP 39 59 59 Try.underlying59 infoP rfl (by decide) w6 w.heap.size ov ((heads true D).take j) hS.2.1 b7 1 ⟨8, S⟩ B7 HTL.out hS.2.2.1.size
                simp only [h0, h7]
                refine wp_append_run (.tmp 97) (.tmp 108) rfl rfl rfl hr ?_
                have hne := HK.out.2.2.1
                have HR8 := Lib.hid (show OwnL encP 39 w7 w.heap.size v' ((heads true D).take (j + 1)) ∧ AtL encS w7 (some ⟨g, 0, none⟩) (D.map bt) ∧ v'.ownBlock ≠ some g ∧ Below w.heap.size w w7 ∧ g < w7.heap.size from by
                  refine ⟨by rw [HHD.out]; exact hown, hS.1.grown hgr hne hS.2.2.2, ?_, hS.2.2.1.grown hgr hS.2.2.1.size (fun k e => (hS.2.1.ge e).1), Nat.lt_of_lt_of_le hS.2.2.2 hgr.size⟩
                  rcases hov with e | e
                  · rw [e]; exact hne
                  · rw [e]
                    intro q
                    have := Option.some.inj q
                    have := hS.2.2.2
                    omega)
                clear hS hr hown hgr hov hne HK B7
                refine hK _ _ ?_
                clear hK K2
                refine wpAny_ready (rs := [13]) (by kernel_rfl) (by simp) ?_
                refine AllReady.cons rfl (fun K hK => ?_) AllReady.nil
                go_simp
                refine hK _ _ ?_
                clear hK K
                refine wpAny_done (by kernel_rfl) ?_ _
                go_wp2_with fail
                go_roundw
                case rel => exact ⟨j + 1, _, hlt, by go_num, rfl, HR8⟩
                case measure => simp [intOf]; omega
            · have dj : ((j : Int) == 0) = false := by rw [beq_eq_false_iff_ne]; omega
              have e : ((N - 1 - j : Nat) : Int) = KK := by rw [hK0, if_neg hz, Int.add_zero]
              rw [e] at q2
              clear hK0 hz e
              go_upto_region 27 with (fail)
              clear q1 q2 q3 dj
              refine wp_region_upto 12 1 (fun W W' => Below W.heap.size W W') (fun W => AtL encS W (some ⟨g, 0, none⟩) (D.map bt) ∧ OwnL encP 39 W w.heap.size ov ((heads true D).take j) ∧ Below w.heap.size w W ∧ g < W.heap.size)
                (fun j' v W => factsOf [.is ov, .is (.int .i64 KK), .is (.int .u8 KK), .row [byteI KK], .is (.string (bt [byteI KK])), .is (.slice (some ⟨g, 0, none⟩) N cp), .is (.int .i64 j), .is (.pointer (some ⟨g, j, none⟩)), .is (.string X), .is (.string S), .is (.agg #[.int .i64 8, .string S]), .any] j' v W ∧ (j' = 11 → ∃ b, v = .slice (some ⟨b, 0, none⟩) 1 1 ∧ AtL encP W (some ⟨b, 0, none⟩) [⟨8, S⟩]))
                (by kernel_rfl) rfl (by kernel_rfl) (by kernel_rfl) (fun j' v W W' hb h => ⟨facts_stay _ j' v W W' hb h.1, fun e => by obtain ⟨b, hv, hB⟩ := h.2 e; exact ⟨b, hv, hB.below hb⟩⟩)
                (fun W W' hb h => ⟨h.1.below hb, h.2.1.below hb, h.2.2.1.trans (hb.mono h.2.2.1.size), Nat.lt_of_lt_of_le h.2.2.2 hb.size⟩) (fun i => [u97, u98, u99, u100, u101, u102, u103, u104, u105, u106, u107, u108].getD i undef) (by kernel_rfl) ⟨HK.out.2.1.drew, HK.out.1.drew, HK.out.2.2.2.1.drew, HK.out.2.2.2.2⟩ ?F1x2 ?hF1x2 ?hstep1x2 ?hend1x2
              case hF1x2 =>
                intro u
                simp only [List.take, fillAct]
                go_simp
                rfl
              case hstep1x2 =>
                clear HK
                refine FSteps.cons ?_ ?_
                · intro u W hS hd K hK
                  clear hd
                  simp only [upd, reduceIte, Nat.reduceEqDiff] at hK
                  go_simp
                  exact hK.out _ _ (Below.refl _ _) ⟨rfl, (fun e => absurd e (by decide))⟩
                refine FSteps.cons ?_ ?_
                · intro u W hS hd K hK
                  clear hd
                  simp only [upd, reduceIte, Nat.reduceEqDiff] at hK
                  go_simp
                  exact hK.out _ _ (Below.refl _ _) ⟨rfl, (fun e => absurd e (by decide))⟩
                refine FSteps.cons ?_ ?_
                · intro u W hS hd K hK
                  have h1 : u 1 = _ := (hd 1 rfl).1
                  clear hd
                  simp only [upd, h1, reduceIte, Nat.reduceEqDiff] at hK
                  go_simp
                  exact hK.out _ _ (Below.refl _ _) ⟨rfl, (fun e => absurd e (by decide))⟩
                refine FSteps.cons ?_ ?_
                · intro u W hS hd K hK
                  have h2 : u 2 = _ := (hd 2 rfl).1
                  clear hd
                  simp only [upd, h2, reduceIte, Nat.reduceEqDiff] at hK
                  go_simp
                  exact hK.out _ _ ((Below.refl _ _).alloc (Nat.le_refl _) _) ⟨⟨_, rfl, BytesAt.made _ _ [byteI KK] [.int .u8 KK] _ (by simp [bytesV, ← HBY.out]) rfl⟩, (fun e => absurd e (by decide))⟩
                refine FSteps.cons ?_ ?_
                · intro u W hS hd K hK
                  obtain ⟨g3, h3, b3⟩ : ∃ g, u 3 = .slice (some ⟨g, 0, none⟩) _ _ ∧ BytesAt W g _ := (hd 3 rfl).1
                  clear hd
                  simp only [upd, h3, reduceIte, Nat.reduceEqDiff] at hK
                  have hcv : (convert 76 9 (.slice (some ⟨g3, 0, none⟩) 1 1)).run Try.prog W = .ok (.string (bt [byteI KK])) W := b3.conv (cap := 1)
                  go_simp
                  exact hK.out _ _ (Below.refl _ _) ⟨rfl, (fun e => absurd e (by decide))⟩
                refine FSteps.cons ?_ ?_
                · intro u W hS hd K hK
                  clear hd
                  simp only [upd, reduceIte, Nat.reduceEqDiff] at hK
                  go_simp
                  exact hK.out _ _ (Below.refl _ _) ⟨rfl, (fun e => absurd e (by decide))⟩
                refine FSteps.cons ?_ ?_
                · intro u W hS hd K hK
                  clear hd
                  simp only [upd, reduceIte, Nat.reduceEqDiff] at hK
                  go_simp
                  exact hK.out _ _ (Below.refl _ _) ⟨rfl, (fun e => absurd e (by decide))⟩
                refine FSteps.cons ?_ ?_
                · intro u W hS hd K hK
                  have h5 : u 5 = _ := (hd 5 rfl).1
                  have h6 : u 6 = _ := (hd 6 rfl).1
                  clear hd
                  simp only [upd, h5, h6, reduceIte, Nat.reduceEqDiff] at hK
                  go_simp
                  exact hK.out _ _ (Below.refl _ _) ⟨rfl, (fun e => absurd e (by decide))⟩
                refine FSteps.cons ?_ ?_
                · intro u W hS hd K hK
                  have h7 : u 7 = _ := (hd 7 rfl).1
                  clear hd
                  simp only [upd, h7, reduceIte, Nat.reduceEqDiff] at hK
                  have c0 := HCE.out W hS.1
                  simp only [encS, Nat.mul_one, Nat.zero_add, Nat.add_zero] at c0
                  go_simp
                  exact hK.out _ _ (Below.refl _ _) ⟨rfl, (fun e => absurd e (by decide))⟩
                refine FSteps.cons ?_ ?_
                · intro u W hS hd K hK
                  have h4 : u 4 = _ := (hd 4 rfl).1
                  have h8 : u 8 = _ := (hd 8 rfl).1
                  clear hd
                  simp only [upd, h4, h8, reduceIte, Nat.reduceEqDiff] at hK
                  have ha := HHA.out W
                  go_simp
                  exact hK.out _ _ (Below.refl _ _) ⟨rfl, (fun e => absurd e (by decide))⟩
                refine FSteps.cons ?_ ?_
                · intro u W hS hd K hK
                  have h9 : u 9 = _ := (hd 9 rfl).1
                  clear hd
                  simp only [upd, h9, reduceIte, Nat.reduceEqDiff] at hK
                  go_simp
                  exact hK.out _ _ (Below.refl _ _) ⟨rfl, (fun e => absurd e (by decide))⟩
                refine FSteps.cons ?_ ?_
                · intro u W hS hd K hK
                  have h10 : u 10 = _ := (hd 10 rfl).1
                  clear hd
                  simp only [upd, h10, reduceIte, Nat.reduceEqDiff] at hK
                  go_simp
                  exact hK.out _ _ ((Below.refl _ _).alloc (Nat.le_refl _) _) ⟨trivial, fun _ => ⟨_, rfl, AtL.made encP 39 _ _ ⟨8, S⟩ _ rfl rfl⟩⟩
                exact trivial
              case hend1x2 =>
                intro u w6 hS hd
                have h0 : u 0 = _ := (hd 0 rfl).1
                obtain ⟨b7, h7, B7⟩ := (hd 11 rfl).2 rfl
                clear hd
                refine wpAny_ready (rs := [12]) (by kernel_rfl) (by simp) ?_
                refine AllReady.cons rfl (fun K2 hK => ?_) AllReady.nil
                rw [if_pos (by kernel_rfl)]
                obtain ⟨v', w7, hr, hown, hgr, hov⟩ := run_append_one encP 39 59 59 Try.underlying59 infoP rfl (by decide) w6 w.heap.size ov ((heads true D).take j) hS.2.1 b7 1 ⟨8, S⟩ B7 HTL.out hS.2.2.1.size
                simp only [h0, h7]
                refine wp_append_run (.tmp 97) (.tmp 108) rfl rfl rfl hr ?_
                have hne := HK.out.2.2.1
                have HR8 := Lib.hid (show OwnL encP 39 w7 w.heap.size v' ((heads true D).take (j + 1)) ∧ AtL encS w7 (some ⟨g, 0, none⟩) (D.map bt) ∧ v'.ownBlock ≠ some g ∧ Below w.heap.size w w7 ∧ g < w7.heap.size from by
                  refine ⟨by rw [HHD.out]; exact hown, hS.1.grown hgr hne hS.2.2.2, ?_, hS.2.2.1.grown hgr hS.2.2.1.size (fun k e => (hS.2.1.ge e).1), Nat.lt_of_lt_of_le hS.2.2.2 hgr.size⟩
                  rcases hov with e | e
                  · rw [e]; exact hne
                  · rw [e]
                    intro q
                    have := Option.some.inj q
                    have := hS.2.2.2
                    omega)
                clear hS hr hown hgr hov hne HK B7
                refine hK _ _ ?_
                clear hK K2
                refine wpAny_ready (rs := [13]) (by kernel_rfl) (by simp) ?_
                refine AllReady.cons rfl (fun K hK => ?_) AllReady.nil
                go_simp
                refine hK _ _ ?_
                clear hK K
                refine wpAny_done (by kernel_rfl) ?_ _
                go_wp2_with fail
                go_roundw
                case rel => exact ⟨j + 1, _, hlt, by go_num, rfl, HR8⟩
                case measure => simp [intOf]; omega
          · have HF := Lib.hid HK.out
            clear HK
            go_wp2_with fail
            have hfull : (heads true D).take j = heads true D := List.take_of_length_le (by rw [heads_length, HN.out]; omega)
            have hO := HF.out.1
            rw [hfull] at hO
            exact bodyPost_ret (v := .tuple #[ov, .int .i64 0]) (by simp [results, Try.results24, go_sem]) rfl ⟨⟨ov, by rw [HE2.out], by rw [HE2.out]; exact hO⟩, HF.out.2.2.2.1⟩
      · by_cases hsh : (b.size : Int) < n1 - 1
        · obtain ⟨hcx, hcy⟩ := cut_at b (b.size : Int) (by omega) (by omega)
          obtain ⟨r, hr⟩ : ∃ r, r = ((b.size : Int)).toNat := ⟨_, rfl⟩
          rw [← hr] at hcx hcy
          have HR := Lib.hid (cut_more (pid := pid) (text := text) (m := m) (by have := HM.out.1; omega) r (by omega) (by have := HM.out.2.1; right; omega) HC.out hD)
          have hle : r ≤ b.size := by omega
          have hpos : 0 < r := by have := HM.out.1; have := HM.out.2.1; omega
          have hCE : ⟨#[]⟩ ++ bt (b.data.toList.take r) = bt (b.data.toList.take r) := bytes_ext' (by simp [bt])
          have ha := fun (W : World) => run_string_add_sum (P := Try.prog) (w := W) ⟨#[]⟩ (bt (b.data.toList.take r)) (by rw [bt_size]; have := HC.out.1; show 0 + _ ≤ _; simp; omega)
          rw [hCE] at ha
          have hYs : (bt (b.data.toList.drop r)).size = b.size - r := by rw [bt_size]; simp
          obtain ⟨C, hC⟩ : ∃ C, C = bt (b.data.toList.take r) := ⟨_, rfl⟩
          rw [← hC] at ha hcx
          generalize hcc : (b.data.toList.take r : List UInt8) = c at *
          generalize hyy : bt (b.data.toList.drop r) = Y at *
          have HCE := Lib.hid hC
          have HRR := Lib.hid hr
          clear hCE hC hcc hyy hr
          have HO1 := HO
          have HB1 := HB
          clear HO HB
          have HO2 := Lib.hid (HO1.out.alloc (.cells #[.string C] 9))
          have HB2 := Lib.hid (HB1.out.alloc HB1.out.size (.cells #[.string C] 9))
          have HM2 := Lib.hid (AtL.made encS 9 wr wr.heap.size C [.string C] rfl rfl)
          have hDn : D.length ≤ 1000 := by have := HC.out.2.1; omega
          have hDl : (D.map bt).length ≤ 1000 := by simpa using hDn
          have zD : IntKind.i64.wrap ((D.length : Int) + 1) = (D.length : Int) + 1 := i64_small _ (by omega) (by omega)
          have hDp : 0 < D.length := List.length_pos_iff.2 hD
          go_wp2_with (at_builtin; go_loud (refine wpList_append_one encS 9 86 Try.underlying86 infoS rfl (by decide) _ rfl (.tmp 70) (.tmp 76) rfl w.heap.size tv (D.map bt) rfl HO2.out wr.heap.size 1 rfl C HM2.out (by omega) (by have := HB2.out.size; exact this) ?_; intro v' w2 hown hgr hwh; have HB3 := Lib.hid (HO2.out.appended HB2.out (Nat.le_refl _) HB2.out.size hgr); have HO3 := Lib.hid hown; clear hown hgr hwh))
          go_roundw
          case rel => exact ⟨D ++ [c], Y, _, by rw [List.length_append]; rfl, rfl, rfl, Lib.hid ⟨HR.out, by have := HO3.out; rw [HCE.out] at this; rw [List.map_append]; exact this, HB3.out⟩⟩
          case measure =>
            clear HO3 HB3
            simp only [intOf, strLen, hYs]
            omega
        · obtain ⟨hcx, hcy⟩ := cut_at b (n1 - 1) (by omega) (by omega)
          obtain ⟨r, hr⟩ : ∃ r, r = ((n1 - 1)).toNat := ⟨_, rfl⟩
          rw [← hr] at hcx hcy
          have HR := Lib.hid (cut_more (pid := pid) (text := text) (m := m) (by have := HM.out.1; omega) r (by omega) (by have := HM.out.2.1; left; omega) HC.out hD)
          have hle : r ≤ b.size := by omega
          have hpos : 0 < r := by have := HM.out.1; have := HM.out.2.1; omega
          have hCE : ⟨#[]⟩ ++ bt (b.data.toList.take r) = bt (b.data.toList.take r) := bytes_ext' (by simp [bt])
          have ha := fun (W : World) => run_string_add_sum (P := Try.prog) (w := W) ⟨#[]⟩ (bt (b.data.toList.take r)) (by rw [bt_size]; have := HC.out.1; show 0 + _ ≤ _; simp; omega)
          rw [hCE] at ha
          have hYs : (bt (b.data.toList.drop r)).size = b.size - r := by rw [bt_size]; simp
          obtain ⟨C, hC⟩ : ∃ C, C = bt (b.data.toList.take r) := ⟨_, rfl⟩
          rw [← hC] at ha hcx
          generalize hcc : (b.data.toList.take r : List UInt8) = c at *
          generalize hyy : bt (b.data.toList.drop r) = Y at *
          have HCE := Lib.hid hC
          have HRR := Lib.hid hr
          clear hCE hC hcc hyy hr
          have HO1 := HO
          have HB1 := HB
          clear HO HB
          have HO2 := Lib.hid (HO1.out.alloc (.cells #[.string C] 9))
          have HB2 := Lib.hid (HB1.out.alloc HB1.out.size (.cells #[.string C] 9))
          have HM2 := Lib.hid (AtL.made encS 9 wr wr.heap.size C [.string C] rfl rfl)
          have hDn : D.length ≤ 1000 := by have := HC.out.2.1; omega
          have hDl : (D.map bt).length ≤ 1000 := by simpa using hDn
          have zD : IntKind.i64.wrap ((D.length : Int) + 1) = (D.length : Int) + 1 := i64_small _ (by omega) (by omega)
          have hDp : 0 < D.length := List.length_pos_iff.2 hD
          go_wp2_with (at_builtin; go_loud (refine wpList_append_one encS 9 86 Try.underlying86 infoS rfl (by decide) _ rfl (.tmp 70) (.tmp 76) rfl w.heap.size tv (D.map bt) rfl HO2.out wr.heap.size 1 rfl C HM2.out (by omega) (by have := HB2.out.size; exact this) ?_; intro v' w2 hown hgr hwh; have HB3 := Lib.hid (HO2.out.appended HB2.out (Nat.le_refl _) HB2.out.size hgr); have HO3 := Lib.hid hown; clear hown hgr hwh))
          go_roundw
          case rel => exact ⟨D ++ [c], Y, _, by rw [List.length_append]; rfl, rfl, rfl, Lib.hid ⟨HR.out, by have := HO3.out; rw [HCE.out] at this; rw [List.map_append]; exact this, HB3.out⟩⟩
          case measure =>
            clear HO3 HB3
            simp only [intOf, strLen, hYs]
            omega
set_option maxHeartbeats 4000000 in
theorem rsplit_eight (pid n1 : Int) (text : ByteArray) (w : World) (h : ¬ (pid < 0 ∨ 255 < pid ∨ n1 < 16 ∨ 256 < n1)) (hz : ¬ 600 < text.size) (hpick : (text.size : Int) ≤ n1 ∧ pid = 8) : Calls Try.prog 24 #[.int .i64 pid, .string text, .int .i64 n1] w (RSplitTo w (splitD pid text n1)) := by
  have h5' : ¬ ((text.size : Int) ≤ n1 ∧ pid ≠ 8) := by omega
  have HE := Lib.hid (show splitD pid text n1 = (heads true (chunk (n1.toNat - 1) (byteI pid :: text.data.toList)), 0) from by unfold splitD; rw [if_neg h, if_neg hz, if_neg h5'])
  unfold RSplitTo
  have h1 : ¬ pid < 0 := by omega
  have h2 : ¬ 255 < pid := by omega
  have h3 : ¬ n1 < 16 := by omega
  have h4 : ¬ 256 < n1 := by omega
  have z1 : IntKind.i64.wrap (n1 - 1) = n1 - 1 := IntWalk.i64_in _ (by omega)
  have z2 : IntKind.i64.wrap (n1 - 2) = n1 - 2 := IntWalk.i64_in _ (by omega)
  have z3 : IntKind.u8.wrap pid = pid := (IntKind.wrap_u8 _).trans (by omega)
  have HO0 := Lib.hid (OwnL.lit encS 9 w w.heap.size [] [] rfl (Nat.le_refl _) (by simp) 0 rfl)
  have HB0 := Lib.hid ((Below.refl _ w).alloc (Nat.le_refl _) (.cells #[] 9))
  obtain ⟨m, hm⟩ : ∃ m, m = n1.toNat - 1 := ⟨_, rfl⟩
  rw [← hm] at HE
  have HM := Lib.hid (show 15 ≤ m ∧ (m : Int) = n1 - 1 ∧ n1 ≤ 256 from by omega)
  have HZ := Lib.hid (show text.size ≤ 600 from by omega)
  have HT1 := Lib.hid (fun W => text1 W pid (by omega) (by omega))
  have d6 : decide ((text.size : Int) ≤ n1) = true := decide_eq_true hpick.1
  have d8 : (pid != 8) = false := by rw [hpick.2]; rfl
  clear h hm hpick h5'
  go_enter Try.func24, Try.ntmps24
  go_wp2_with fail
  go_loopw [1, 8, 9, 10, 11] (fun s v i r x wx => ∃ (D : List (List UInt8)) (b : ByteArray) (tv : Value), i = .int .i64 D.length ∧ s = .string b ∧ tv = v ∧ Hid (CutAt m pid text w D b tv wx)) (fun s _ i _ _ _ => strLen s + (1 - (intOf i).toNat))
  case atStart => exact ⟨[], text, _, rfl, rfl, rfl, Lib.hid ⟨⟨HZ.out, by simp, fun _ => rfl, fun h => absurd rfl h⟩, HO0.out, HB0.out⟩⟩
  case round =>
    obtain ⟨D, b, tv, rfl, rfl, rfl, HK⟩ := hrel
    clear HO0 HB0
    have HC := Lib.hid HK.out.1
    have HO := Lib.hid HK.out.2.1
    have HB := Lib.hid HK.out.2.2
    clear HK
    by_cases hD : D = []
    · subst hD
      obtain rfl : b = text := HC.out.2.2.1 rfl
      simp only [List.map_nil] at HO
      by_cases hsh : (b.size : Int) < n1 - 2
      · obtain ⟨hcx, hcy⟩ := cut_at b (b.size : Int) (by omega) (by omega)
        obtain ⟨r, hr⟩ : ∃ r, r = ((b.size : Int)).toNat := ⟨_, rfl⟩
        rw [← hr] at hcx hcy
        have HR := Lib.hid (cut_first (pid := pid) (text := b) (m := m) (by have := HM.out.1; omega) r HZ.out (by have := HM.out.2.1; right; omega))
        have hle : r ≤ b.size := by omega
        have hCE : ⟨#[byteI pid]⟩ ++ bt (b.data.toList.take r) = bt (byteI pid :: b.data.toList.take r) := bytes_ext' (by simp [bt])
        have ha := fun (W : World) => run_string_add_sum (P := Try.prog) (w := W) ⟨#[byteI pid]⟩ (bt (b.data.toList.take r)) (by rw [bt_size]; have := HC.out.1; show 1 + _ ≤ _; simp; omega)
        rw [hCE] at ha
        have hYs : (bt (b.data.toList.drop r)).size = b.size - r := by rw [bt_size]; simp
        generalize hcc : (byteI pid :: b.data.toList.take r : List UInt8) = c at *
        generalize hyy : bt (b.data.toList.drop r) = Y at *
        obtain ⟨C, hC⟩ : ∃ C, C = bt c := ⟨_, rfl⟩
        rw [← hC] at ha
        have HCE := Lib.hid hC
        generalize bt (b.data.toList.take r) = X at *
        have HRR := Lib.hid hr
        clear hCE hC hcc hyy hr
        have ht1 := HT1.out wr
        go_upto_region 16 with (fail)
        clear ht1
        have HO1 := Lib.hid (HO.out.alloc (.cells #[.int .u8 pid] 5))
        have HB1 := Lib.hid (HB.out.alloc HB.out.size (.cells #[.int .u8 pid] 5))
        clear HO HB
        generalize wr.alloc (.cells #[.int .u8 pid] 5) = w2 at *
        have HO2 := Lib.hid (HO1.out.alloc (.cells #[.string C] 9))
        have HB2 := Lib.hid (HB1.out.alloc HB1.out.size (.cells #[.string C] 9))
        have HM2 := Lib.hid (AtL.made encS 9 w2 w2.heap.size C [.string C] rfl rfl)
        go_wp2_with (at_builtin; go_loud (refine wpList_append_one encS 9 86 Try.underlying86 infoS rfl (by decide) _ rfl (.tmp 70) (.tmp 76) rfl w.heap.size tv ([] : List ByteArray) rfl HO2.out w2.heap.size 1 rfl C HM2.out (by simp) (by have := HB2.out.size; exact this) ?_; intro v' w2 hown hgr hwh; have HB3 := Lib.hid (HO2.out.appended HB2.out (Nat.le_refl _) HB2.out.size hgr); have HO3 := Lib.hid hown; clear hown hgr hwh))
        go_roundw
        case rel => exact ⟨[c], Y, _, rfl, rfl, rfl, Lib.hid ⟨HR.out, by have := HO3.out; rw [HCE.out] at this; exact this, HB3.out⟩⟩
        case measure => simp [intOf, strLen, hYs]; omega
      · obtain ⟨hcx, hcy⟩ := cut_at b (n1 - 2) (by omega) (by omega)
        obtain ⟨r, hr⟩ : ∃ r, r = ((n1 - 2)).toNat := ⟨_, rfl⟩
        rw [← hr] at hcx hcy
        have HR := Lib.hid (cut_first (pid := pid) (text := b) (m := m) (by have := HM.out.1; omega) r HZ.out (by have := HM.out.2.1; left; omega))
        have hle : r ≤ b.size := by omega
        have hCE : ⟨#[byteI pid]⟩ ++ bt (b.data.toList.take r) = bt (byteI pid :: b.data.toList.take r) := bytes_ext' (by simp [bt])
        have ha := fun (W : World) => run_string_add_sum (P := Try.prog) (w := W) ⟨#[byteI pid]⟩ (bt (b.data.toList.take r)) (by rw [bt_size]; have := HC.out.1; show 1 + _ ≤ _; simp; omega)
        rw [hCE] at ha
        have hYs : (bt (b.data.toList.drop r)).size = b.size - r := by rw [bt_size]; simp
        generalize hcc : (byteI pid :: b.data.toList.take r : List UInt8) = c at *
        generalize hyy : bt (b.data.toList.drop r) = Y at *
        obtain ⟨C, hC⟩ : ∃ C, C = bt c := ⟨_, rfl⟩
        rw [← hC] at ha
        have HCE := Lib.hid hC
        generalize bt (b.data.toList.take r) = X at *
        have HRR := Lib.hid hr
        clear hCE hC hcc hyy hr
        have ht1 := HT1.out wr
        go_upto_region 16 with (fail)
        clear ht1
        have HO1 := Lib.hid (HO.out.alloc (.cells #[.int .u8 pid] 5))
        have HB1 := Lib.hid (HB.out.alloc HB.out.size (.cells #[.int .u8 pid] 5))
        clear HO HB
        generalize wr.alloc (.cells #[.int .u8 pid] 5) = w2 at *
        have HO2 := Lib.hid (HO1.out.alloc (.cells #[.string C] 9))
        have HB2 := Lib.hid (HB1.out.alloc HB1.out.size (.cells #[.string C] 9))
        have HM2 := Lib.hid (AtL.made encS 9 w2 w2.heap.size C [.string C] rfl rfl)
        go_wp2_with (at_builtin; go_loud (refine wpList_append_one encS 9 86 Try.underlying86 infoS rfl (by decide) _ rfl (.tmp 70) (.tmp 76) rfl w.heap.size tv ([] : List ByteArray) rfl HO2.out w2.heap.size 1 rfl C HM2.out (by simp) (by have := HB2.out.size; exact this) ?_; intro v' w2 hown hgr hwh; have HB3 := Lib.hid (HO2.out.appended HB2.out (Nat.le_refl _) HB2.out.size hgr); have HO3 := Lib.hid hown; clear hown hgr hwh))
        go_roundw
        case rel => exact ⟨[c], Y, _, rfl, rfl, rfl, Lib.hid ⟨HR.out, by have := HO3.out; rw [HCE.out] at this; exact this, HB3.out⟩⟩
        case measure => simp [intOf, strLen, hYs]; omega
    · have hd0 : ((D.length : Int) == 0) = false := by
        rw [beq_eq_false_iff_ne]
        have := List.length_pos_iff.2 hD
        omega
      by_cases hb0 : b.size = 0
      · have hbl : b.data.toList = [] := List.length_eq_zero_iff.1 (by rw [size_list, hb0])
        have hDD := HC.out.2.2.2 hD
        rw [hbl, chunk_nil, List.append_nil] at hDD
        have hDlen := HC.out.2.1
        have hDp : 0 < D.length := List.length_pos_iff.2 hD
        obtain ⟨g, cp, htv, hgw, hgl, hA⟩ := HO.out.some_ (by simpa using hDp)
        rw [List.length_map] at htv
        subst htv
        obtain ⟨N, hN⟩ : ∃ N, D.length = N := ⟨_, rfl⟩
        have hNb : 0 < N ∧ N ≤ 601 := by omega
        have d9 : ((N : Int) == 0) = false := by rw [beq_eq_false_iff_ne]; omega
        rw [hN]
        have HA := Lib.hid hA
        have HDD := Lib.hid hDD
        have HN := Lib.hid hN
        have HE2 := Lib.hid (show splitD pid text n1 = (heads true D, 0) from by rw [hDD]; exact HE.out)
        have HP0 := Lib.hid (OwnL.lit encP 39 wr w.heap.size [] [] rfl HB.out.size (by simp) 0 rfl)
        have HAL := Lib.hid (HA.out.alloc (.cells #[] 39))
        have HB1 := Lib.hid (HB.out.alloc HB.out.size (.cells #[] 39))
        have hg1 : g < (wr.alloc (.cells #[] 39)).heap.size := by simp; omega
        have hwsz := Lib.hid HB.out.size
        have hgl2 := Lib.hid hgl
        clear hA hDD HC HO HB HA hbl hDlen HE hd0 hD hDp hgl hN
        have hN41 : N ≤ 41 := by
          have := chunk_count m HM.out.1 _ (byteI pid :: text.data.toList) (Nat.le_refl _)
          rw [← HDD.out, List.length_cons, size_list, HN.out] at this
          have := HZ.out
          omega
        have HCZ := Lib.hid (show ∀ c ∈ D, c.length ≤ m ∧ c ≠ [] from by rw [HDD.out]; exact chunk_small m (by have := HM.out.1; omega) _ _ (Nat.le_refl _))
        have HMB := Lib.hid (show m ≤ 255 from by have := HM.out; omega)
        clear z1 z2 z3 d6 HM HZ HT1 hz HDD
        go_wp2_with fail
        have hwg : w.heap.size ≤ wr.heap.size := hwsz.out
        have HNE := Lib.hid (show (Value.slice (some ⟨wr.heap.size, 0, none⟩) 0 0).ownBlock ≠ some g from fun e => by have h : wr.heap.size = g := Option.some.inj e; have := hgl2.out; omega)
        clear hb0
        generalize (wr.alloc (.cells #[] 39)) = w0 at *
        generalize wr.heap.size = n0 at *
        go_loopw [12, 13, 14] (fun o i _ wx => ∃ (j : Nat) (ov : Value), j ≤ N ∧ i = .int .i64 j ∧ ov = o ∧ Hid (OwnL encP 39 wx w.heap.size ov ((heads true D).take j) ∧ AtL encS wx (some ⟨g, 0, none⟩) (D.map bt) ∧ ov.ownBlock ≠ some g ∧ Below w.heap.size w wx ∧ g < wx.heap.size)) (fun _ i _ _ => N - (intOf i).toNat)
        case atStart => exact ⟨0, _, Nat.zero_le _, rfl, rfl, Lib.hid ⟨HP0.out, HAL.out, HNE.out, HB1.out, hg1⟩⟩
        case round =>
          obtain ⟨j, ov, hj, rfl, rfl, HK⟩ := hrel
          clear HP0 HAL HNE HB1 hg1
          by_cases hlt : j < N
          · have hjD : j < D.length := by rw [HN.out]; exact hlt
            have hj2 : j < (D.map bt).length := by rw [List.length_map]; exact hjD
            have hcell := fun (W : World) (h : AtL encS W (some ⟨g, 0, none⟩) (D.map bt)) => h.get j hj2 0 (u := .string (bt D[j])) (by simp [encS])
            have HCE := Lib.hid hcell
            have hcs := HCZ.out D[j] (List.getElem_mem hjD)
            have hmb := HMB.out
            obtain ⟨KK, hK0⟩ : ∃ KK, KK = ((N - 1 - j : Nat) : Int) + if j = 0 then 128 else 0 := ⟨_, rfl⟩
            have hKb : 0 ≤ KK ∧ KK ≤ 255 := by rw [hK0]; split <;> omega
            obtain ⟨S, hS0⟩ : ∃ S, S = bt (byteI KK :: D[j]) := ⟨_, rfl⟩
            have HHD := Lib.hid (show (heads true D).take (j + 1) = (heads true D).take j ++ [⟨8, S⟩] from by
              have hjh : j < (heads true D).length := by rw [heads_length]; exact hjD
              rw [List.take_succ_eq_append_getElem hjh, heads_get true D j hjD, hS0, hK0, HN.out]
              simp [bt])
            have HTL := Lib.hid (show ((heads true D).take j).length ≤ 100000 from by rw [List.length_take, heads_length]; omega)
            have ha := fun (W : World) => run_string_add_sum (P := Try.prog) (w := W) (bt [byteI KK]) (bt D[j]) (by rw [bt_size, bt_size]; simp only [List.length_cons, List.length_nil]; omega)
            rw [show bt [byteI KK] ++ bt D[j] = S from by rw [hS0]; exact bytes_ext' (by simp [bt])] at ha
            have HHA := Lib.hid ha
            clear ha hS0 hcell
            generalize bt D[j] = X at *
            have HBY := Lib.hid (byteI_val KK hKb.1 hKb.2)
            have HW := Lib.hid (rcut_wraps N j KK hlt hN41 hK0)
            clear hcs hKb
            obtain ⟨q1, q2, q3, q4, q5⟩ := HW.out
            by_cases hz : j = 0
            · have dj : ((j : Int) == 0) = true := by rw [hz]; rfl
              rw [if_pos hz] at q3
              clear hK0 hz
              go_upto_region 27 with (fail)
              clear q1 q2 q3 dj
              refine wp_region_upto 12 1 (fun W W' => Below W.heap.size W W') (fun W => AtL encS W (some ⟨g, 0, none⟩) (D.map bt) ∧ OwnL encP 39 W w.heap.size ov ((heads true D).take j) ∧ Below w.heap.size w W ∧ g < W.heap.size)
                (fun j' v W => factsOf [.is ov, .is (.int .i64 KK), .is (.int .u8 KK), .row [byteI KK], .is (.string (bt [byteI KK])), .is (.slice (some ⟨g, 0, none⟩) N cp), .is (.int .i64 j), .is (.pointer (some ⟨g, j, none⟩)), .is (.string X), .is (.string S), .is (.agg #[.int .i64 8, .string S]), .any] j' v W ∧ (j' = 11 → ∃ b, v = .slice (some ⟨b, 0, none⟩) 1 1 ∧ AtL encP W (some ⟨b, 0, none⟩) [⟨8, S⟩]))
                (by kernel_rfl) rfl (by kernel_rfl) (by kernel_rfl) (fun j' v W W' hb h => ⟨facts_stay _ j' v W W' hb h.1, fun e => by obtain ⟨b, hv, hB⟩ := h.2 e; exact ⟨b, hv, hB.below hb⟩⟩)
                (fun W W' hb h => ⟨h.1.below hb, h.2.1.below hb, h.2.2.1.trans (hb.mono h.2.2.1.size), Nat.lt_of_lt_of_le h.2.2.2 hb.size⟩) (fun i => [u97, u98, u99, u100, u101, u102, u103, u104, u105, u106, u107, u108].getD i undef) (by kernel_rfl) ⟨HK.out.2.1.drew, HK.out.1.drew, HK.out.2.2.2.1.drew, HK.out.2.2.2.2⟩ ?F1x1 ?hF1x1 ?hstep1x1 ?hend1x1
              case hF1x1 =>
                intro u
                simp only [List.take, fillAct]
                go_simp
                rfl
              case hstep1x1 =>
                clear HK
                refine FSteps.cons ?_ ?_
                · intro u W hS hd K hK
                  clear hd
                  simp only [upd, reduceIte, Nat.reduceEqDiff] at hK
                  go_simp
                  exact hK.out _ _ (Below.refl _ _) ⟨rfl, (fun e => absurd e (by decide))⟩
                refine FSteps.cons ?_ ?_
                · intro u W hS hd K hK
                  clear hd
                  simp only [upd, reduceIte, Nat.reduceEqDiff] at hK
                  go_simp
                  exact hK.out _ _ (Below.refl _ _) ⟨rfl, (fun e => absurd e (by decide))⟩
                refine FSteps.cons ?_ ?_
                · intro u W hS hd K hK
                  have h1 : u 1 = _ := (hd 1 rfl).1
                  clear hd
                  simp only [upd, h1, reduceIte, Nat.reduceEqDiff] at hK
                  go_simp
                  exact hK.out _ _ (Below.refl _ _) ⟨rfl, (fun e => absurd e (by decide))⟩
                refine FSteps.cons ?_ ?_
                · intro u W hS hd K hK
                  have h2 : u 2 = _ := (hd 2 rfl).1
                  clear hd
                  simp only [upd, h2, reduceIte, Nat.reduceEqDiff] at hK
                  go_simp
                  exact hK.out _ _ ((Below.refl _ _).alloc (Nat.le_refl _) _) ⟨⟨_, rfl, BytesAt.made _ _ [byteI KK] [.int .u8 KK] _ (by simp [bytesV, ← HBY.out]) rfl⟩, (fun e => absurd e (by decide))⟩
                refine FSteps.cons ?_ ?_
                · intro u W hS hd K hK
                  obtain ⟨g3, h3, b3⟩ : ∃ g, u 3 = .slice (some ⟨g, 0, none⟩) _ _ ∧ BytesAt W g _ := (hd 3 rfl).1
                  clear hd
                  simp only [upd, h3, reduceIte, Nat.reduceEqDiff] at hK
                  have hcv : (convert 76 9 (.slice (some ⟨g3, 0, none⟩) 1 1)).run Try.prog W = .ok (.string (bt [byteI KK])) W := b3.conv (cap := 1)
                  go_simp
                  exact hK.out _ _ (Below.refl _ _) ⟨rfl, (fun e => absurd e (by decide))⟩
                refine FSteps.cons ?_ ?_
                · intro u W hS hd K hK
                  clear hd
                  simp only [upd, reduceIte, Nat.reduceEqDiff] at hK
                  go_simp
                  exact hK.out _ _ (Below.refl _ _) ⟨rfl, (fun e => absurd e (by decide))⟩
                refine FSteps.cons ?_ ?_
                · intro u W hS hd K hK
                  clear hd
                  simp only [upd, reduceIte, Nat.reduceEqDiff] at hK
                  go_simp
                  exact hK.out _ _ (Below.refl _ _) ⟨rfl, (fun e => absurd e (by decide))⟩
                refine FSteps.cons ?_ ?_
                · intro u W hS hd K hK
                  have h5 : u 5 = _ := (hd 5 rfl).1
                  have h6 : u 6 = _ := (hd 6 rfl).1
                  clear hd
                  simp only [upd, h5, h6, reduceIte, Nat.reduceEqDiff] at hK
                  go_simp
                  exact hK.out _ _ (Below.refl _ _) ⟨rfl, (fun e => absurd e (by decide))⟩
                refine FSteps.cons ?_ ?_
                · intro u W hS hd K hK
                  have h7 : u 7 = _ := (hd 7 rfl).1
                  clear hd
                  simp only [upd, h7, reduceIte, Nat.reduceEqDiff] at hK
                  have c0 := HCE.out W hS.1
                  simp only [encS, Nat.mul_one, Nat.zero_add, Nat.add_zero] at c0
                  go_simp
                  exact hK.out _ _ (Below.refl _ _) ⟨rfl, (fun e => absurd e (by decide))⟩
                refine FSteps.cons ?_ ?_
                · intro u W hS hd K hK
                  have h4 : u 4 = _ := (hd 4 rfl).1
                  have h8 : u 8 = _ := (hd 8 rfl).1
                  clear hd
                  simp only [upd, h4, h8, reduceIte, Nat.reduceEqDiff] at hK
                  have ha := HHA.out W
                  go_simp
                  exact hK.out _ _ (Below.refl _ _) ⟨rfl, (fun e => absurd e (by decide))⟩
                refine FSteps.cons ?_ ?_
                · intro u W hS hd K hK
                  have h9 : u 9 = _ := (hd 9 rfl).1
                  clear hd
                  simp only [upd, h9, reduceIte, Nat.reduceEqDiff] at hK
                  go_simp
                  exact hK.out _ _ (Below.refl _ _) ⟨rfl, (fun e => absurd e (by decide))⟩
                refine FSteps.cons ?_ ?_
                · intro u W hS hd K hK
                  have h10 : u 10 = _ := (hd 10 rfl).1
                  clear hd
                  simp only [upd, h10, reduceIte, Nat.reduceEqDiff] at hK
                  go_simp
                  exact hK.out _ _ ((Below.refl _ _).alloc (Nat.le_refl _) _) ⟨trivial, fun _ => ⟨_, rfl, AtL.made encP 39 _ _ ⟨8, S⟩ _ rfl rfl⟩⟩
                exact trivial
              case hend1x1 =>
                intro u w6 hS hd
                have h0 : u 0 = _ := (hd 0 rfl).1
                obtain ⟨b7, h7, B7⟩ := (hd 11 rfl).2 rfl
                clear hd
                refine wpAny_ready (rs := [12]) (by kernel_rfl) (by simp) ?_
                refine AllReady.cons rfl (fun K2 hK => ?_) AllReady.nil
                rw [if_pos (by kernel_rfl)]
                obtain ⟨v', w7, hr, hown, hgr, hov⟩ := run_append_one encP 39 59 59 Try.underlying59 infoP rfl (by decide) w6 w.heap.size ov ((heads true D).take j) hS.2.1 b7 1 ⟨8, S⟩ B7 HTL.out hS.2.2.1.size
                simp only [h0, h7]
                refine wp_append_run (.tmp 97) (.tmp 108) rfl rfl rfl hr ?_
                have hne := HK.out.2.2.1
                have HR8 := Lib.hid (show OwnL encP 39 w7 w.heap.size v' ((heads true D).take (j + 1)) ∧ AtL encS w7 (some ⟨g, 0, none⟩) (D.map bt) ∧ v'.ownBlock ≠ some g ∧ Below w.heap.size w w7 ∧ g < w7.heap.size from by
                  refine ⟨by rw [HHD.out]; exact hown, hS.1.grown hgr hne hS.2.2.2, ?_, hS.2.2.1.grown hgr hS.2.2.1.size (fun k e => (hS.2.1.ge e).1), Nat.lt_of_lt_of_le hS.2.2.2 hgr.size⟩
                  rcases hov with e | e
                  · rw [e]; exact hne
                  · rw [e]
                    intro q
                    have := Option.some.inj q
                    have := hS.2.2.2
                    omega)
                clear hS hr hown hgr hov hne HK B7
                refine hK _ _ ?_
                clear hK K2
                refine wpAny_ready (rs := [13]) (by kernel_rfl) (by simp) ?_
                refine AllReady.cons rfl (fun K hK => ?_) AllReady.nil
                go_simp
                refine hK _ _ ?_
                clear hK K
                refine wpAny_done (by kernel_rfl) ?_ _
                go_wp2_with fail
                go_roundw
                case rel => exact ⟨j + 1, _, hlt, by go_num, rfl, HR8⟩
                case measure => simp [intOf]; omega
            · have dj : ((j : Int) == 0) = false := by rw [beq_eq_false_iff_ne]; omega
              have e : ((N - 1 - j : Nat) : Int) = KK := by rw [hK0, if_neg hz, Int.add_zero]
              rw [e] at q2
              clear hK0 hz e
              go_upto_region 27 with (fail)
              clear q1 q2 q3 dj
              refine wp_region_upto 12 1 (fun W W' => Below W.heap.size W W') (fun W => AtL encS W (some ⟨g, 0, none⟩) (D.map bt) ∧ OwnL encP 39 W w.heap.size ov ((heads true D).take j) ∧ Below w.heap.size w W ∧ g < W.heap.size)
                (fun j' v W => factsOf [.is ov, .is (.int .i64 KK), .is (.int .u8 KK), .row [byteI KK], .is (.string (bt [byteI KK])), .is (.slice (some ⟨g, 0, none⟩) N cp), .is (.int .i64 j), .is (.pointer (some ⟨g, j, none⟩)), .is (.string X), .is (.string S), .is (.agg #[.int .i64 8, .string S]), .any] j' v W ∧ (j' = 11 → ∃ b, v = .slice (some ⟨b, 0, none⟩) 1 1 ∧ AtL encP W (some ⟨b, 0, none⟩) [⟨8, S⟩]))
                (by kernel_rfl) rfl (by kernel_rfl) (by kernel_rfl) (fun j' v W W' hb h => ⟨facts_stay _ j' v W W' hb h.1, fun e => by obtain ⟨b, hv, hB⟩ := h.2 e; exact ⟨b, hv, hB.below hb⟩⟩)
                (fun W W' hb h => ⟨h.1.below hb, h.2.1.below hb, h.2.2.1.trans (hb.mono h.2.2.1.size), Nat.lt_of_lt_of_le h.2.2.2 hb.size⟩) (fun i => [u97, u98, u99, u100, u101, u102, u103, u104, u105, u106, u107, u108].getD i undef) (by kernel_rfl) ⟨HK.out.2.1.drew, HK.out.1.drew, HK.out.2.2.2.1.drew, HK.out.2.2.2.2⟩ ?F1x2 ?hF1x2 ?hstep1x2 ?hend1x2
              case hF1x2 =>
                intro u
                simp only [List.take, fillAct]
                go_simp
                rfl
              case hstep1x2 =>
                clear HK
                refine FSteps.cons ?_ ?_
                · intro u W hS hd K hK
                  clear hd
                  simp only [upd, reduceIte, Nat.reduceEqDiff] at hK
                  go_simp
                  exact hK.out _ _ (Below.refl _ _) ⟨rfl, (fun e => absurd e (by decide))⟩
                refine FSteps.cons ?_ ?_
                · intro u W hS hd K hK
                  clear hd
                  simp only [upd, reduceIte, Nat.reduceEqDiff] at hK
                  go_simp
                  exact hK.out _ _ (Below.refl _ _) ⟨rfl, (fun e => absurd e (by decide))⟩
                refine FSteps.cons ?_ ?_
                · intro u W hS hd K hK
                  have h1 : u 1 = _ := (hd 1 rfl).1
                  clear hd
                  simp only [upd, h1, reduceIte, Nat.reduceEqDiff] at hK
                  go_simp
                  exact hK.out _ _ (Below.refl _ _) ⟨rfl, (fun e => absurd e (by decide))⟩
                refine FSteps.cons ?_ ?_
                · intro u W hS hd K hK
                  have h2 : u 2 = _ := (hd 2 rfl).1
                  clear hd
                  simp only [upd, h2, reduceIte, Nat.reduceEqDiff] at hK
                  go_simp
                  exact hK.out _ _ ((Below.refl _ _).alloc (Nat.le_refl _) _) ⟨⟨_, rfl, BytesAt.made _ _ [byteI KK] [.int .u8 KK] _ (by simp [bytesV, ← HBY.out]) rfl⟩, (fun e => absurd e (by decide))⟩
                refine FSteps.cons ?_ ?_
                · intro u W hS hd K hK
                  obtain ⟨g3, h3, b3⟩ : ∃ g, u 3 = .slice (some ⟨g, 0, none⟩) _ _ ∧ BytesAt W g _ := (hd 3 rfl).1
                  clear hd
                  simp only [upd, h3, reduceIte, Nat.reduceEqDiff] at hK
                  have hcv : (convert 76 9 (.slice (some ⟨g3, 0, none⟩) 1 1)).run Try.prog W = .ok (.string (bt [byteI KK])) W := b3.conv (cap := 1)
                  go_simp
                  exact hK.out _ _ (Below.refl _ _) ⟨rfl, (fun e => absurd e (by decide))⟩
                refine FSteps.cons ?_ ?_
                · intro u W hS hd K hK
                  clear hd
                  simp only [upd, reduceIte, Nat.reduceEqDiff] at hK
                  go_simp
                  exact hK.out _ _ (Below.refl _ _) ⟨rfl, (fun e => absurd e (by decide))⟩
                refine FSteps.cons ?_ ?_
                · intro u W hS hd K hK
                  clear hd
                  simp only [upd, reduceIte, Nat.reduceEqDiff] at hK
                  go_simp
                  exact hK.out _ _ (Below.refl _ _) ⟨rfl, (fun e => absurd e (by decide))⟩
                refine FSteps.cons ?_ ?_
                · intro u W hS hd K hK
                  have h5 : u 5 = _ := (hd 5 rfl).1
                  have h6 : u 6 = _ := (hd 6 rfl).1
                  clear hd
                  simp only [upd, h5, h6, reduceIte, Nat.reduceEqDiff] at hK
                  go_simp
                  exact hK.out _ _ (Below.refl _ _) ⟨rfl, (fun e => absurd e (by decide))⟩
                refine FSteps.cons ?_ ?_
                · intro u W hS hd K hK
                  have h7 : u 7 = _ := (hd 7 rfl).1
                  clear hd
                  simp only [upd, h7, reduceIte, Nat.reduceEqDiff] at hK
                  have c0 := HCE.out W hS.1
                  simp only [encS, Nat.mul_one, Nat.zero_add, Nat.add_zero] at c0
                  go_simp
                  exact hK.out _ _ (Below.refl _ _) ⟨rfl, (fun e => absurd e (by decide))⟩
                refine FSteps.cons ?_ ?_
                · intro u W hS hd K hK
                  have h4 : u 4 = _ := (hd 4 rfl).1
                  have h8 : u 8 = _ := (hd 8 rfl).1
                  clear hd
                  simp only [upd, h4, h8, reduceIte, Nat.reduceEqDiff] at hK
                  have ha := HHA.out W
                  go_simp
                  exact hK.out _ _ (Below.refl _ _) ⟨rfl, (fun e => absurd e (by decide))⟩
                refine FSteps.cons ?_ ?_
                · intro u W hS hd K hK
                  have h9 : u 9 = _ := (hd 9 rfl).1
                  clear hd
                  simp only [upd, h9, reduceIte, Nat.reduceEqDiff] at hK
                  go_simp
                  exact hK.out _ _ (Below.refl _ _) ⟨rfl, (fun e => absurd e (by decide))⟩
                refine FSteps.cons ?_ ?_
                · intro u W hS hd K hK
                  have h10 : u 10 = _ := (hd 10 rfl).1
                  clear hd
                  simp only [upd, h10, reduceIte, Nat.reduceEqDiff] at hK
                  go_simp
                  exact hK.out _ _ ((Below.refl _ _).alloc (Nat.le_refl _) _) ⟨trivial, fun _ => ⟨_, rfl, AtL.made encP 39 _ _ ⟨8, S⟩ _ rfl rfl⟩⟩
                exact trivial
              case hend1x2 =>
                intro u w6 hS hd
                have h0 : u 0 = _ := (hd 0 rfl).1
                obtain ⟨b7, h7, B7⟩ := (hd 11 rfl).2 rfl
                clear hd
                refine wpAny_ready (rs := [12]) (by kernel_rfl) (by simp) ?_
                refine AllReady.cons rfl (fun K2 hK => ?_) AllReady.nil
                rw [if_pos (by kernel_rfl)]
                obtain ⟨v', w7, hr, hown, hgr, hov⟩ := run_append_one encP 39 59 59 Try.underlying59 infoP rfl (by decide) w6 w.heap.size ov ((heads true D).take j) hS.2.1 b7 1 ⟨8, S⟩ B7 HTL.out hS.2.2.1.size
                simp only [h0, h7]
                refine wp_append_run (.tmp 97) (.tmp 108) rfl rfl rfl hr ?_
                have hne := HK.out.2.2.1
                have HR8 := Lib.hid (show OwnL encP 39 w7 w.heap.size v' ((heads true D).take (j + 1)) ∧ AtL encS w7 (some ⟨g, 0, none⟩) (D.map bt) ∧ v'.ownBlock ≠ some g ∧ Below w.heap.size w w7 ∧ g < w7.heap.size from by
                  refine ⟨by rw [HHD.out]; exact hown, hS.1.grown hgr hne hS.2.2.2, ?_, hS.2.2.1.grown hgr hS.2.2.1.size (fun k e => (hS.2.1.ge e).1), Nat.lt_of_lt_of_le hS.2.2.2 hgr.size⟩
                  rcases hov with e | e
                  · rw [e]; exact hne
                  · rw [e]
                    intro q
                    have := Option.some.inj q
                    have := hS.2.2.2
                    omega)
                clear hS hr hown hgr hov hne HK B7
                refine hK _ _ ?_
                clear hK K2
                refine wpAny_ready (rs := [13]) (by kernel_rfl) (by simp) ?_
                refine AllReady.cons rfl (fun K hK => ?_) AllReady.nil
                go_simp
                refine hK _ _ ?_
                clear hK K
                refine wpAny_done (by kernel_rfl) ?_ _
                go_wp2_with fail
                go_roundw
                case rel => exact ⟨j + 1, _, hlt, by go_num, rfl, HR8⟩
                case measure => simp [intOf]; omega
          · have HF := Lib.hid HK.out
            clear HK
            go_wp2_with fail
            have hfull : (heads true D).take j = heads true D := List.take_of_length_le (by rw [heads_length, HN.out]; omega)
            have hO := HF.out.1
            rw [hfull] at hO
            exact bodyPost_ret (v := .tuple #[ov, .int .i64 0]) (by simp [results, Try.results24, go_sem]) rfl ⟨⟨ov, by rw [HE2.out], by rw [HE2.out]; exact hO⟩, HF.out.2.2.2.1⟩
      · by_cases hsh : (b.size : Int) < n1 - 1
        · obtain ⟨hcx, hcy⟩ := cut_at b (b.size : Int) (by omega) (by omega)
          obtain ⟨r, hr⟩ : ∃ r, r = ((b.size : Int)).toNat := ⟨_, rfl⟩
          rw [← hr] at hcx hcy
          have HR := Lib.hid (cut_more (pid := pid) (text := text) (m := m) (by have := HM.out.1; omega) r (by omega) (by have := HM.out.2.1; right; omega) HC.out hD)
          have hle : r ≤ b.size := by omega
          have hpos : 0 < r := by have := HM.out.1; have := HM.out.2.1; omega
          have hCE : ⟨#[]⟩ ++ bt (b.data.toList.take r) = bt (b.data.toList.take r) := bytes_ext' (by simp [bt])
          have ha := fun (W : World) => run_string_add_sum (P := Try.prog) (w := W) ⟨#[]⟩ (bt (b.data.toList.take r)) (by rw [bt_size]; have := HC.out.1; show 0 + _ ≤ _; simp; omega)
          rw [hCE] at ha
          have hYs : (bt (b.data.toList.drop r)).size = b.size - r := by rw [bt_size]; simp
          obtain ⟨C, hC⟩ : ∃ C, C = bt (b.data.toList.take r) := ⟨_, rfl⟩
          rw [← hC] at ha hcx
          generalize hcc : (b.data.toList.take r : List UInt8) = c at *
          generalize hyy : bt (b.data.toList.drop r) = Y at *
          have HCE := Lib.hid hC
          have HRR := Lib.hid hr
          clear hCE hC hcc hyy hr
          have HO1 := HO
          have HB1 := HB
          clear HO HB
          have HO2 := Lib.hid (HO1.out.alloc (.cells #[.string C] 9))
          have HB2 := Lib.hid (HB1.out.alloc HB1.out.size (.cells #[.string C] 9))
          have HM2 := Lib.hid (AtL.made encS 9 wr wr.heap.size C [.string C] rfl rfl)
          have hDn : D.length ≤ 1000 := by have := HC.out.2.1; omega
          have hDl : (D.map bt).length ≤ 1000 := by simpa using hDn
          have zD : IntKind.i64.wrap ((D.length : Int) + 1) = (D.length : Int) + 1 := i64_small _ (by omega) (by omega)
          have hDp : 0 < D.length := List.length_pos_iff.2 hD
          go_wp2_with (at_builtin; go_loud (refine wpList_append_one encS 9 86 Try.underlying86 infoS rfl (by decide) _ rfl (.tmp 70) (.tmp 76) rfl w.heap.size tv (D.map bt) rfl HO2.out wr.heap.size 1 rfl C HM2.out (by omega) (by have := HB2.out.size; exact this) ?_; intro v' w2 hown hgr hwh; have HB3 := Lib.hid (HO2.out.appended HB2.out (Nat.le_refl _) HB2.out.size hgr); have HO3 := Lib.hid hown; clear hown hgr hwh))
          go_roundw
          case rel => exact ⟨D ++ [c], Y, _, by rw [List.length_append]; rfl, rfl, rfl, Lib.hid ⟨HR.out, by have := HO3.out; rw [HCE.out] at this; rw [List.map_append]; exact this, HB3.out⟩⟩
          case measure =>
            clear HO3 HB3
            simp only [intOf, strLen, hYs]
            omega
        · obtain ⟨hcx, hcy⟩ := cut_at b (n1 - 1) (by omega) (by omega)
          obtain ⟨r, hr⟩ : ∃ r, r = ((n1 - 1)).toNat := ⟨_, rfl⟩
          rw [← hr] at hcx hcy
          have HR := Lib.hid (cut_more (pid := pid) (text := text) (m := m) (by have := HM.out.1; omega) r (by omega) (by have := HM.out.2.1; left; omega) HC.out hD)
          have hle : r ≤ b.size := by omega
          have hpos : 0 < r := by have := HM.out.1; have := HM.out.2.1; omega
          have hCE : ⟨#[]⟩ ++ bt (b.data.toList.take r) = bt (b.data.toList.take r) := bytes_ext' (by simp [bt])
          have ha := fun (W : World) => run_string_add_sum (P := Try.prog) (w := W) ⟨#[]⟩ (bt (b.data.toList.take r)) (by rw [bt_size]; have := HC.out.1; show 0 + _ ≤ _; simp; omega)
          rw [hCE] at ha
          have hYs : (bt (b.data.toList.drop r)).size = b.size - r := by rw [bt_size]; simp
          obtain ⟨C, hC⟩ : ∃ C, C = bt (b.data.toList.take r) := ⟨_, rfl⟩
          rw [← hC] at ha hcx
          generalize hcc : (b.data.toList.take r : List UInt8) = c at *
          generalize hyy : bt (b.data.toList.drop r) = Y at *
          have HCE := Lib.hid hC
          have HRR := Lib.hid hr
          clear hCE hC hcc hyy hr
          have HO1 := HO
          have HB1 := HB
          clear HO HB
          have HO2 := Lib.hid (HO1.out.alloc (.cells #[.string C] 9))
          have HB2 := Lib.hid (HB1.out.alloc HB1.out.size (.cells #[.string C] 9))
          have HM2 := Lib.hid (AtL.made encS 9 wr wr.heap.size C [.string C] rfl rfl)
          have hDn : D.length ≤ 1000 := by have := HC.out.2.1; omega
          have hDl : (D.map bt).length ≤ 1000 := by simpa using hDn
          have zD : IntKind.i64.wrap ((D.length : Int) + 1) = (D.length : Int) + 1 := i64_small _ (by omega) (by omega)
          have hDp : 0 < D.length := List.length_pos_iff.2 hD
          go_wp2_with (at_builtin; go_loud (refine wpList_append_one encS 9 86 Try.underlying86 infoS rfl (by decide) _ rfl (.tmp 70) (.tmp 76) rfl w.heap.size tv (D.map bt) rfl HO2.out wr.heap.size 1 rfl C HM2.out (by omega) (by have := HB2.out.size; exact this) ?_; intro v' w2 hown hgr hwh; have HB3 := Lib.hid (HO2.out.appended HB2.out (Nat.le_refl _) HB2.out.size hgr); have HO3 := Lib.hid hown; clear hown hgr hwh))
          go_roundw
          case rel => exact ⟨D ++ [c], Y, _, by rw [List.length_append]; rfl, rfl, rfl, Lib.hid ⟨HR.out, by have := HO3.out; rw [HCE.out] at this; rw [List.map_append]; exact this, HB3.out⟩⟩
          case measure =>
            clear HO3 HB3
            simp only [intOf, strLen, hYs]
            omega
theorem rsplit_any (pid n1 : Int) (text : ByteArray) (w : World) : Calls Try.prog 24 #[.int .i64 pid, .string text, .int .i64 n1] w (RSplitTo w (splitD pid text n1)) := by
  by_cases h : pid < 0 ∨ 255 < pid ∨ n1 < 16 ∨ 256 < n1
  · exact rsplit_bad pid n1 text w h
  · by_cases hz : 600 < text.size
    · exact rsplit_long pid n1 text w h hz
    · by_cases h5 : (text.size : Int) ≤ n1 ∧ pid ≠ 8
      · exact rsplit_one pid n1 text w h hz h5
      · by_cases h6 : (text.size : Int) ≤ n1
        · exact rsplit_eight pid n1 text w h hz ⟨h6, Classical.byContradiction fun hn => h5 ⟨h6, hn⟩⟩
        · exact rsplit_more pid n1 text w h hz (by omega)
end Go.Proofs.Ytchjljmcgjlkiaa
