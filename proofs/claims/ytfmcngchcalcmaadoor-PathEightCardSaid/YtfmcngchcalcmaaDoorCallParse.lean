/-
The document's own Parse.
-/
import Derived.Test.YtfmcngchcalcmaaDoorCallPlain
import Derived.Lib.IndexBytes
import Derived.IntWalk
namespace Go.Proofs.YtfmcngchcalcmaaDoor
open Go.RowKit Go.Sort
theorem take_more (s : ByteArray) (k : Nat) (h : k < s.size) : (s.data.toList.take (k + 1)).map upD = (s.data.toList.take k).map upD ++ [upD s[k]] := by
  have hl : k < s.data.toList.length := by simpa using h
  rw [List.take_succ_eq_append_getElem hl, List.map_append, list_at s k h]
  rfl
set_option maxHeartbeats 2000000 in
set_option maxRecDepth 20000 in
theorem rparse_any (s : ByteArray) (w : World) (hs : s.size ≤ 1000) :
    Calls Tryd.prog 67 #[.string s] w fun e w' => e = .returned (readV (readD s.data.toList)) ∧ Below w.heap.size w w' := by
  have HP0 := Lib.hid (PAt.start w 0)
  go_enter Tryd.func67, Tryd.ntmps67
  go_wp2
  go_loopw [5] (fun i wx => ∃ k : Nat, k ≤ s.size ∧ i = .int .i64 k ∧ Hid (PAt w wx ⟨((s.data.toList.take k).map upD).toArray⟩ 0 ∧ ∀ x ∈ s.data.toList.take k, x ≠ 45)) (fun i _ => s.size - (intOf i).toNat)
  case atStart => exact ⟨0, by omega, rfl, by simpa using HP0.out, by simp⟩
  case round =>
    obtain ⟨k, hk, rfl, HR⟩ := hrel
    clear HP0
    have HPA := Lib.hid HR.out.1
    have HNO := Lib.hid HR.out.2
    obtain ⟨B, hB⟩ : ∃ B : ByteArray, B = ⟨((s.data.toList.take k).map upD).toArray⟩ := ⟨_, rfl⟩
    rw [← hB] at HPA
    have HBS := Lib.hid (show B.size ≤ 1000 from by
      rw [hB]
      show ((s.data.toList.take k).map upD).toArray.size ≤ 1000
      have := List.length_take_le k s.data.toList
      simp
      omega)
    obtain ⟨⟨a0, a1⟩, ⟨c0, c1⟩, ⟨f0, f1⟩, _, hsz⟩ := HPA.out
    have hsz0 : w.heap.size < wr.heap.size := by omega
    clear HR
    by_cases hlt : k < s.size
    · have hx256 : s[k].toNat < 256 := blt' _
      have HBN := Lib.hid (take_more s k hlt)
      by_cases h45 : s[k].toNat = 45
      · have hy45 : ((s[k].toNat : Int) != 45) = false := by rw [h45]; rfl
        have hl : k < s.data.toList.length := by simpa using hlt
        obtain ⟨r, hr⟩ : ∃ r, r = s.data.toList.drop (k + 1) := ⟨_, rfl⟩
        have hsp : s.data.toList = s.data.toList.take k ++ 45 :: r := by
          have e : s[k] = 45 := UInt8.toNat_inj.1 (by rw [h45]; rfl)
          rw [hr, ← e, ← list_at s k hlt, ← List.drop_eq_getElem_cons hl, List.take_append_drop]
        have hrd := read_dash (s.data.toList.take k) r HNO.out
        rw [← hsp, ← hB] at hrd
        have HBB := Lib.hid hB
        have HRD := Lib.hid hrd
        obtain ⟨R, hR⟩ : ∃ R : ByteArray, R = s.extract (k + 1) s.size := ⟨_, rfl⟩
        have hRl : R.data.toList = r := by rw [hR, Lib.extract_to_end, hr]
        have hsl : ∀ W, (Instr.slice 9 (.string s) (some (.int .i64 ((k : Int) + 1))) none none).run Tryd.prog W = .ok (.string R) W := fun W => by
          have h := run_slice_string_l (P := Tryd.prog) (w := W) 9 s Tryd.underlying9 .i64 ((k : Int) + 1) (by omega) (by omega)
          rw [h, hR]
          rfl
        have hwr : IntKind.i64.wrap ((k : Int) + 1) = (k : Int) + 1 := IntWalk.i64_in _ (by omega)
        have HRL := Lib.hid hRl
        have HFL := Lib.hid (fndD_le r)
        clear hr hsp hrd hB hR hRl HBN HNO h45 hl
        go_wp2
        clear a0 a1 c0 c1 f0 f1 hsz hsz0
        go_loopw [7, 8] (fun fv nv wx => ∃ m : Nat, m ≤ 16 ∧ nv = .int .i64 m ∧ fv = .bool (fndD r m).1 ∧ Hid (PAt w wx B ((fndD r m).2 : Int))) (fun _ nv _ => 16 - (intOf nv).toNat)
        case atStart => exact ⟨0, by omega, rfl, rfl, HPA.out⟩
        case round =>
          obtain ⟨m, hm, rfl, rfl, HR⟩ := hrel
          clear HPA
          have HPA := HR
          clear HR
          obtain ⟨⟨a0, a1⟩, ⟨c0, c1⟩, ⟨f0, f1⟩, hbw, hsz⟩ := HPA.out
          by_cases hlm : m < 16
          · have HD := Lib.hid (fun W => digits_lit m W (by omega))
            obtain ⟨g, hg⟩ : ∃ g : ByteArray, g = ⟨(digD m).toArray⟩ := ⟨_, rfl⟩
            rw [← hg] at HD
            by_cases hq : digD m = r
            · have hge : (g.toList == R.toList) = true := by rw [ByteArray.toList_eq, ByteArray.toList_eq, HRL.out, hg, beq_iff_eq]; exact hq
              have hnx : fndD r (m + 1) = (true, m) := by
                show (if digD m = r then (true, m) else fndD r m) = _
                rw [if_pos hq]
              have HNX := Lib.hid hnx
              clear hnx hq hg
              go_wp2
              refine wp_region_quiet_below (by kernel_rfl) (by kernel_rfl) ?_
              repeat (quiet_step (exact Calls.regrown_of (HD.out _)))
              refine wpQuiet_nil ?_
              intro _ hw'
              obtain ⟨pg, hw''⟩ := hw'
              subst hw''
              replace HPA := Lib.hid (HPA.out.below (below_regrown _ pg.d pg.os))
              generalize grow (redrawn _ pg.d) pg.os = w9 at *
              clear a0 a1 c0 c1 f0 f1 hbw hsz
              obtain ⟨⟨a0, a1⟩, ⟨c0, c1⟩, ⟨f0, f1⟩, hbw, hsz⟩ := HPA.out
              go_wp2
              go_roundw
              case rel => exact ⟨m + 1, by omega, by go_num, by rw [HNX.out], by rw [HNX.out]; exact HPA.out.num _⟩
              case measure => simp [intOf]; omega
            · have hge : (g.toList == R.toList) = false := by rw [ByteArray.toList_eq, ByteArray.toList_eq, HRL.out, hg, beq_eq_false_iff_ne]; exact hq
              have hnx : fndD r (m + 1) = fndD r m := by
                show (if digD m = r then (true, m) else fndD r m) = _
                rw [if_neg hq]
              have HNX := Lib.hid hnx
              clear hnx hq hg
              go_wp2
              refine wp_region_quiet_below (by kernel_rfl) (by kernel_rfl) ?_
              repeat (quiet_step (exact Calls.regrown_of (HD.out _)))
              refine wpQuiet_nil ?_
              intro _ hw'
              obtain ⟨pg, hw''⟩ := hw'
              subst hw''
              replace HPA := Lib.hid (HPA.out.below (below_regrown _ pg.d pg.os))
              generalize grow (redrawn _ pg.d) pg.os = w9 at *
              clear a0 a1 c0 c1 f0 f1 hbw hsz
              obtain ⟨⟨a0, a1⟩, ⟨c0, c1⟩, ⟨f0, f1⟩, hbw, hsz⟩ := HPA.out
              go_wp2
              go_roundw
              case rel => exact ⟨m + 1, by omega, by go_num, by rw [HNX.out], by rw [HNX.out]; exact HPA.out⟩
              case measure => simp [intOf]; omega
          · obtain rfl : m = 16 := by omega
            have hle := HFL.out 16 (Nat.le_refl _)
            generalize fndD r 16 = fd at *
            obtain ⟨ok, n⟩ := fd
            simp only at hle HPA HRD c1
            cases ok
            · have hd : readD s.data.toList = (false, [], 0) := by rw [HRD.out]; rfl
              go_wp2
              obtain ⟨q0, q1⟩ := stored2 (.string ⟨#[]⟩) (.int .i64 0) a0 a1
              exact bodyPost_ret (v := .tuple #[.agg #[.string ⟨#[]⟩, .int .i64 0], .bool false]) (by simp [results, Tryd.results67, go_sem, q0, q1]) rfl ⟨by rw [hd]; rfl, set2_below hbw (Nat.le_refl _) _ _⟩
            · have HRT := Lib.hid (fun W => rcright_any B (n : Int) W)
              cases hrt : rightD B (n : Int)
              · rw [hrt] at HRT
                have hd : readD s.data.toList = (false, [], 0) := by rw [HRD.out, hrt]; rfl
                clear hrt
                go_wp2_with (go_at_call 47; ((with_reducible refine (HRT.out _).mono ?_); rintro e w5 ⟨rfl, hb⟩; replace HPA := Lib.hid (HPA.out.below hb); clear hb; obtain ⟨⟨a0, a1⟩, ⟨c0, c1⟩, ⟨f0, f1⟩, hbw, hsz⟩ := HPA.out))
                obtain ⟨q0, q1⟩ := stored2 (.string ⟨#[]⟩) (.int .i64 0) a0 a1
                exact bodyPost_ret (v := .tuple #[.agg #[.string ⟨#[]⟩, .int .i64 0], .bool false]) (by simp [results, Tryd.results67, go_sem, q0, q1]) rfl ⟨by rw [hd]; rfl, set2_below hbw (Nat.le_refl _) _ _⟩
              · rw [hrt] at HRT
                have hd : readD s.data.toList = (true, (s.data.toList.take k).map upD, n) := by rw [HRD.out, hrt]; rfl
                clear hrt
                go_wp2_with (go_at_call 47; ((with_reducible refine (HRT.out _).mono ?_); rintro e w5 ⟨rfl, hb⟩; replace HPA := Lib.hid (HPA.out.below hb); clear hb; obtain ⟨⟨a0, a1⟩, ⟨c0, c1⟩, ⟨f0, f1⟩, hbw, hsz⟩ := HPA.out))
                obtain ⟨q0, q1⟩ := stored2 (.string B) (.int .i64 (n : Int)) a0 a1
                exact bodyPost_ret (v := .tuple #[.agg #[.string B, .int .i64 (n : Int)], .bool true]) (by simp [results, Tryd.results67, go_sem, q0, q1]) rfl ⟨by rw [hd, HBB.out]; rfl, set2_below hbw (Nat.le_refl _) _ _⟩
      · have hn45 : ((s[k].toNat : Int) == 45) = false := by rw [beq_eq_false_iff_ne]; omega
        have HNX := Lib.hid (show ∀ x ∈ s.data.toList.take (k + 1), x ≠ 45 from by
          have hl : k < s.data.toList.length := by simpa using hlt
          rw [List.take_succ_eq_append_getElem hl, list_at s k hlt]
          intro x hx
          rcases List.mem_append.1 hx with h | h
          · exact HNO.out x h
          · rw [List.mem_singleton.1 h]; intro e; rw [e] at h45; exact h45 rfl)
        by_cases hsm : 97 ≤ s[k].toNat ∧ s[k].toNat ≤ 122
        · obtain ⟨h97, h122⟩ := hsm
          have hnx : (⟨((s.data.toList.take (k + 1)).map upD).toArray⟩ : ByteArray) = B ++ ⟨#[UInt8.ofNat (s[k].toNat - 32)]⟩ := by
            have hu : UInt8.ofNat (s[k].toNat - 32) = upD s[k] := by
              unfold upD
              rw [if_pos ⟨h97, h122⟩]
              apply UInt8.toNat_inj.1
              rw [UInt8.toNat_ofNat', UInt8.toNat_sub]
              show (s[k].toNat - 32) % 256 = (256 - 32 + s[k].toNat) % 256
              omega
            rw [hu, HBN.out, hB]
            exact bytes_ext' (by simp [ByteArray.data_append])
          have d122 : decide ((s[k].toNat : Int) ≤ 122) = true := decide_eq_true (by omega)
          clear hB HBN h45 HNO
          have hcv := conv1 ((s[k].toNat : Int) - 32) wr
          have hcat := fun (u : UInt8) (W : World) => run_string_add_sum (P := Tryd.prog) (w := W) B ⟨#[u]⟩ (by have := HBS.out; show B.size + 1 ≤ _; omega)
          go_wp2
          go_roundw
          case rel => exact ⟨k + 1, by omega, by go_num, by rw [hnx]; exact (HPA.out.base _).below ((Below.refl _ _).alloc (Nat.le_refl _) _), HNX.out⟩
          case measure => simp [intOf]; omega
        · have hnx : (⟨((s.data.toList.take (k + 1)).map upD).toArray⟩ : ByteArray) = B ++ ⟨#[s[k]]⟩ := by
            have hu : s[k] = upD s[k] := by
              unfold upD
              rw [if_neg hsm]
            rw [HBN.out, ← hu, hB]
            exact bytes_ext' (by simp [ByteArray.data_append])
          clear hB HBN h45 HNO
          by_cases h97 : 97 ≤ s[k].toNat
          · have d122 : decide ((s[k].toNat : Int) ≤ 122) = false := decide_eq_false (by omega)
            have hcv := conv1 ((s[k].toNat : Int)) wr
            have hcat := fun (u : UInt8) (W : World) => run_string_add_sum (P := Tryd.prog) (w := W) B ⟨#[u]⟩ (by have := HBS.out; show B.size + 1 ≤ _; omega)
            go_wp2
            go_roundw
            case rel => exact ⟨k + 1, by omega, by go_num, by rw [hnx]; exact (HPA.out.base _).below ((Below.refl _ _).alloc (Nat.le_refl _) _), HNX.out⟩
            case measure => simp [intOf]; omega
          · have d97 : (s[k].toNat : Int) < 97 := by omega
            have hcv := conv1 ((s[k].toNat : Int)) wr
            have hcat := fun (u : UInt8) (W : World) => run_string_add_sum (P := Tryd.prog) (w := W) B ⟨#[u]⟩ (by have := HBS.out; show B.size + 1 ≤ _; omega)
            go_wp2
            go_roundw
            case rel => exact ⟨k + 1, by omega, by go_num, by rw [hnx]; exact (HPA.out.base _).below ((Below.refl _ _).alloc (Nat.le_refl _) _), HNX.out⟩
            case measure => simp [intOf]; omega
    · obtain rfl : k = s.size := by omega
      have hfull : s.data.toList.take s.size = s.data.toList := List.take_of_length_le (by simp)
      rw [hfull] at HNO hB
      have HRD := Lib.hid (read_end s.data.toList HNO.out)
      rw [← hB] at HRD
      have HRT := Lib.hid (fun W => rcright_any B 0 W)
      have HBB := Lib.hid (show (⟨((s.data.toList.map upD)).toArray⟩ : ByteArray) = B from hB.symm)
      clear hfull hB HNO
      cases hrt : rightD B 0
      · rw [hrt] at HRD HRT
        clear hrt
        go_wp2_with (go_at_call 47; ((with_reducible refine (HRT.out _).mono ?_); rintro e w5 ⟨rfl, hb⟩; replace HPA := Lib.hid (HPA.out.below hb); clear hb; obtain ⟨⟨a0, a1⟩, ⟨c0, c1⟩, ⟨f0, f1⟩, hbw, hsz⟩ := HPA.out))
        have hd : readD s.data.toList = (false, [], 0) := by rw [HRD.out]; rfl
        obtain ⟨q0, q1⟩ := stored2 (.string ⟨#[]⟩) (.int .i64 0) a0 a1
        exact bodyPost_ret (v := .tuple #[.agg #[.string ⟨#[]⟩, .int .i64 0], .bool false]) (by simp [results, Tryd.results67, go_sem, q0, q1]) rfl ⟨by rw [hd]; rfl, set2_below hbw (Nat.le_refl _) _ _⟩
      · rw [hrt] at HRD HRT
        clear hrt
        go_wp2_with (go_at_call 47; ((with_reducible refine (HRT.out _).mono ?_); rintro e w5 ⟨rfl, hb⟩; replace HPA := Lib.hid (HPA.out.below hb); clear hb; obtain ⟨⟨a0, a1⟩, ⟨c0, c1⟩, ⟨f0, f1⟩, hbw, hsz⟩ := HPA.out))
        have hd : readD s.data.toList = (true, s.data.toList.map upD, 0) := by rw [HRD.out]; rfl
        obtain ⟨q0, q1⟩ := stored2 (.string B) (.int .i64 0) a0 a1
        exact bodyPost_ret (v := .tuple #[.agg #[.string B, .int .i64 0], .bool true]) (by simp [results, Tryd.results67, go_sem, q0, q1]) rfl ⟨by rw [hd, ← HBB.out]; rfl, set2_below hbw (Nat.le_refl _) _ _⟩
end Go.Proofs.YtfmcngchcalcmaaDoor
