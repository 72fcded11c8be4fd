/-
The landed code's Text of paths.
-/
import Derived.Test.YtplandmnmdkjmaaDoorCallCText
import Derived.Test.YtplandmnmdkjmaaDoorPathCAll
import Derived.Lib.QuietBelow
import Derived.Lib.SmallJoins
import Derived.Lib.ItoaNum
import Derived.Lib.IndexBytes
import Derived.IntWalk
namespace Go.Proofs.YtplandmnmdkjmaaDoor
open Go.RowKit Go.Sort
set_option maxRecDepth 20000
/-- a call's word, as a text -/
def wordD (e : Ent) : List UInt8 := textD e.1.data.toList e.2.1
/-- the digipeaters' words from number k on; f: how many have it -/
def tailD (f : Nat) : Nat → List Ent → List UInt8
  | _, [] => []
  | k, e :: M => (44 :: wordD e) ++ (if k + 1 = f then [42] else []) ++ tailD f (k + 1) M
/-- a path's word -/
def pathD (x y : Ent) (D : List Ent) : List UInt8 := wordD y ++ 62 :: wordD x ++ tailD (fstD D) 0 D
theorem word_le (e : Ent) (h : rightD e.1 e.2.1 = true) : (wordD e).length ≤ 9 := by
  obtain ⟨h1, h2, h3, h4, _⟩ := right_facts e.1 e.2.1 h
  have k1 : e.1.data.toList.length = e.1.size := by simp
  unfold wordD textD
  split
  · omega
  · rw [List.length_append, List.length_cons]
    have : (digD e.2.1.toNat).length ≤ 2 := by unfold digD; split <;> simp
    omega
theorem tail_le (f : Nat) : ∀ (M : List Ent) (k : Nat), (∀ e ∈ M, rightD e.1 e.2.1 = true) → (tailD f k M).length ≤ M.length * 11
  | [], _, _ => Nat.le_refl _
  | e :: M, k, h => by
    have ih := tail_le f M (k + 1) (fun x hx => h x (List.mem_cons_of_mem _ hx))
    have := word_le e (h e List.mem_cons_self)
    simp only [tailD, List.length_append, List.length_cons]
    split <;> simp <;> omega
theorem tail_app (f : Nat) : ∀ (M N : List Ent) (k : Nat), tailD f k (M ++ N) = tailD f k M ++ tailD f (k + M.length) N
  | [], _, _ => rfl
  | e :: M, N, k => by
    simp only [List.cons_append, tailD, tail_app f M N (k + 1), List.length_cons, List.append_assoc]
    rw [show k + 1 + M.length = k + (M.length + 1) from by omega]
theorem ptext_not (tb fb : ByteArray) (tn fn : Int) (tm fm : Bool) (a : Option Addr) (cap : Nat) (D : List Ent) (w : World) (hD : D.length ≤ 1000) (hE : EntsAt w a cap D) (hr : rightP ((tb, tn, tm) :: (fb, fn, fm) :: D) = false) :
    Calls Tryd.prog 47 #[.agg #[.string tb, .int .i64 tn, .string fb, .int .i64 fn, .bool tm, .bool fm, .slice a D.length cap]] w fun e w' => e = .returned (.string ⟨#[]⟩) ∧ Below w.heap.size w w' := by
  have HB0 := Lib.hid ((Below.refl _ w).alloc (Nat.le_refl _) (.cells #[.string tb, .int .i64 tn, .string fb, .int .i64 fn, .bool tm, .bool fm, .slice a D.length cap] 26))
  have hri := fun W (h : Below w.heap.size w W) => pright_any tb fb tn fn tm fm a cap D W hD (hE.below h)
  rw [hr] at hri
  have HRI := Lib.hid hri
  clear hri hr hE
  go_enter Tryd.func47, Tryd.ntmps47
  go_wp2_with (go_at_call 46; (with_reducible refine (HRI.out _ HB0.out).mono ?_); rintro e w1 ⟨rfl, hb⟩; have HB := Lib.hid (HB0.out.trans (hb.mono HB0.out.size)); clear hb)
  go_ret
  exact ⟨rfl, HB.out⟩
set_option maxHeartbeats 2000000 in
theorem ptext_yes (tb fb : ByteArray) (tn fn : Int) (tm fm : Bool) (a : Option Addr) (cap : Nat) (D : List Ent) (w : World) (hD : D.length ≤ 8) (hE : EntsAt w a cap D) (hr : rightP ((tb, tn, tm) :: (fb, fn, fm) :: D) = true) :
    Calls Tryd.prog 47 #[.agg #[.string tb, .int .i64 tn, .string fb, .int .i64 fn, .bool tm, .bool fm, .slice a D.length cap]] w fun e w' => e = .returned (.string ⟨(pathD (tb, tn, tm) (fb, fn, fm) D).toArray⟩) ∧ Below w.heap.size w w' := by
  have HB0 := Lib.hid ((Below.refl _ w).alloc (Nat.le_refl _) (.cells #[.string tb, .int .i64 tn, .string fb, .int .i64 fn, .bool tm, .bool fm, .slice a D.length cap] 26))
  have HP := Lib.hid (P7.new w w.heap.size rfl (.string tb) (.int .i64 tn) (.string fb) (.int .i64 fn) (.bool tm) (.bool fm) (.slice a D.length cap) 26)
  have hri := fun W (h : Below w.heap.size w W) => pright_any tb fb tn fn tm fm a cap D W (by omega) (hE.below h)
  rw [hr] at hri
  have HRI := Lib.hid hri
  have hall : ∀ e ∈ ((tb, tn, tm) : Ent) :: (fb, fn, fm) :: D, rightD e.1 e.2.1 = true := by
    unfold rightP at hr
    simp only [Bool.and_eq_true] at hr
    exact List.all_eq_true.1 hr.1.1.1
  have HTX := Lib.hid (show ∀ e : Ent, rightD e.1 e.2.1 = true → ∀ W, Calls Tryd.prog 67 #[.agg #[.string e.1, .int .i64 e.2.1]] W fun r w' => r = .returned (.string ⟨(wordD e).toArray⟩) ∧ Below W.heap.size W w' from fun e he W => by
    have h := ctext_ok e.1 e.2.1 W (by obtain ⟨_, h2, _⟩ := right_facts e.1 e.2.1 he; omega)
    rw [if_pos he] at h
    exact h)
  have HFI := Lib.hid (fun W (h : Below w.heap.size w W) => first_any a cap D W (by omega) (hE.below h))
  have HE := Lib.hid hE
  have HAD := Lib.hid (fun k (h : k < D.length) => hall D[k] (List.mem_cons_of_mem _ (List.mem_cons_of_mem _ (List.getElem_mem h))))
  have HW := Lib.hid (fun e (h : rightD e.1 e.2.1 = true) => word_le e h)
  have hT := HTX.out (tb, tn, tm) (hall _ List.mem_cons_self)
  have hF := HTX.out (fb, fn, fm) (hall _ (List.mem_cons_of_mem _ List.mem_cons_self))
  dsimp only at hT hF
  have lT := word_le (tb, tn, tm) (hall _ List.mem_cons_self)
  have lF := word_le (fb, fn, fm) (hall _ (List.mem_cons_of_mem _ List.mem_cons_self))
  have htl := fun k => tail_le (fstD D) (D.take k) 0 (fun e he => hall e (List.mem_cons_of_mem _ (List.mem_cons_of_mem _ (List.mem_of_mem_take he))))
  have HTS := Lib.hid (show ∀ k (h : k < D.length), tailD (fstD D) 0 (D.take (k + 1)) = tailD (fstD D) 0 (D.take k) ++ ((44 :: wordD D[k]) ++ (if k + 1 = fstD D then [42] else [])) from fun k h => by
    rw [List.take_succ_eq_append_getElem h, tail_app, List.length_take, show min k D.length = k from by omega]
    simp [tailD])
  have HEND := Lib.hid (show pathD (tb, tn, tm) (fb, fn, fm) D = wordD (fb, fn, fm) ++ 62 :: wordD (tb, tn, tm) ++ tailD (fstD D) 0 (D.take D.length) from by rw [List.take_length]; rfl)
  have hfl := fstD_le D
  generalize pathD (tb, tn, tm) (fb, fn, fm) D = RES at *
  generalize wordD (tb, tn, tm) = wt at *
  generalize wordD (fb, fn, fm) = wf at *
  generalize fstD D = f at *
  obtain ⟨H, hH⟩ : ∃ H, H = wf ++ 62 :: wt := ⟨_, rfl⟩
  rw [← hH] at HEND
  have HTL := Lib.hid (show ∀ k, k ≤ D.length → (H ++ tailD f 0 (D.take k)).length ≤ 200 from fun k hk => by
    have h1 := htl k
    have h2 : (D.take k).length = k := by rw [List.length_take]; omega
    rw [List.length_append, hH, List.length_append, List.length_cons]
    omega)
  have ha1 := fun (w : World) => run_string_add_sum (P := Tryd.prog) (w := w) ⟨wf.toArray⟩ ⟨#[62]⟩ (by show wf.toArray.size + 1 ≤ _; simp; omega)
  have ha2 := fun (w : World) => run_string_add_sum (P := Tryd.prog) (w := w) (⟨wf.toArray⟩ ++ ⟨#[62]⟩) ⟨wt.toArray⟩ (by rw [ByteArray.size_append]; show wf.toArray.size + 1 + wt.toArray.size ≤ _; simp; omega)
  rw [show ((⟨wf.toArray⟩ : ByteArray) ++ ⟨#[62]⟩) ++ ⟨wt.toArray⟩ = ⟨H.toArray⟩ from bytes_ext' (by rw [hH]; simp [ByteArray.data_append])] at ha2
  have HA1 := Lib.hid ha1
  have HA2 := Lib.hid ha2
  have HHT := Lib.hid hT
  have HHF := Lib.hid hF
  clear hri hr hE hall hT hF lT lF htl hH ha1 ha2
  go_enter Tryd.func47, Tryd.ntmps47
  go_wp2_with (go_at_call 46; (with_reducible refine (HRI.out _ HB0.out).mono ?_); rintro e w1 ⟨rfl, hb⟩; have HB := Lib.hid (HB0.out.trans (hb.mono HB0.out.size)); have HP1 := Lib.hid (HP.out.below hb); clear hb; obtain ⟨⟨p0, q0, pl⟩, ⟨p1, q1, -⟩, ⟨p2, q2, -⟩, ⟨p3, q3, -⟩, ⟨p4, q4, -⟩, ⟨p5, q5, -⟩, ⟨p6, q6, -⟩⟩ := HP1.out)
  clear HP HB0 HRI
  have ha1 := HA1.out
  have ha2 := HA2.out
  have g0 := fun d' os => cell_regrown p0 d' os
  have g1 := fun d' os => cell_regrown p1 d' os
  have g2 := fun d' os => cell_regrown p2 d' os
  have g3 := fun d' os => cell_regrown p3 d' os
  refine wp_region_quiet_below (by kernel_rfl) (by kernel_rfl) ?_
  repeat (quiet_step (first
    | (go_at_call 67; with_reducible exact Calls.regrown_of (HHF.out _))
    | (go_at_call 67; with_reducible exact Calls.regrown_of (HHT.out _))))
  refine wpQuiet_nil ?_
  intro _ hw'
  obtain ⟨pg, hw''⟩ := hw'
  subst hw''
  have HE2 := Lib.hid (below_regrown w1 pg.d pg.os)
  have HB2 := Lib.hid (HB.out.trans (HE2.out.mono HB.out.size))
  have HP2 := Lib.hid (HP1.out.below HE2.out)
  clear g0 g1 g2 g3 p0 q0 pl p1 q1 p2 q2 p3 q3 p4 q4 p5 q5 p6 q6 HP1 HB HE2 ha1 ha2 HA1 HA2
  generalize grow (redrawn w1 pg.d) pg.os = w9 at *
  obtain ⟨p6, q6, pl⟩ := HP2.out.k6
  go_wp2
  go_loopw [3, 20] (fun s i wx => ∃ k : Nat, k ≤ D.length ∧ i = .int .i64 k ∧ ∃ S : List UInt8, s = .string ⟨S.toArray⟩ ∧ Hid (S = H ++ tailD f 0 (D.take k) ∧ Below w.heap.size w wx ∧ P7 wx w.heap.size (.string tb) (.int .i64 tn) (.string fb) (.int .i64 fn) (.bool tm) (.bool fm) (.slice a D.length cap))) (fun _ i _ => D.length - (intOf i).toNat)
  case atStart => exact ⟨0, by omega, rfl, H, rfl, Lib.hid ⟨by simp [tailD], HB2.out, HP2.out⟩⟩
  case round =>
    obtain ⟨k, hk, rfl, S, rfl, HQ⟩ := hrel
    clear HP2 HB2 p6 q6 pl
    by_cases hlt : k < D.length
    · have dk : decide ((k : Int) < (D.length : Int)) = true := decide_eq_true (by omega)
      obtain ⟨g, o, rfl, hg, c0, c1, c2⟩ := (HE.out.below HQ.out.2.1).at_ k hlt
      have hRd := HAD.out k hlt
      have HN := Lib.hid (HTS.out k hlt)
      have HSL := Lib.hid (HTL.out (k + 1) (by omega))
      generalize D[k] = d at *
      have hw := HW.out d hRd
      have hX := HTX.out d hRd
      obtain ⟨db, dn, dm⟩ := d
      generalize hwd : wordD (db, dn, dm) = wd at *
      simp only at c0 c1 c2 hX
      have HXX := Lib.hid hX
      have hSl : S.length ≤ 200 := by
        have := HSL.out
        rw [HN.out, ← List.append_assoc, ← HQ.out.1] at this
        rw [List.length_append] at this
        omega
      have HS1 := Lib.hid (show H ++ tailD f 0 (D.take (k + 1)) = S ++ (44 :: wd ++ (if k + 1 = f then [42] else [])) from by rw [HN.out, ← List.append_assoc, ← HQ.out.1])
      have b1 := fun (w : World) => run_string_add_sum (P := Tryd.prog) (w := w) ⟨#[44]⟩ ⟨wd.toArray⟩ (by show 1 + wd.toArray.size ≤ _; simp; omega)
      rw [show ((⟨#[44]⟩ : ByteArray) ++ ⟨wd.toArray⟩) = ⟨(44 :: wd).toArray⟩ from bytes_ext' (by simp [ByteArray.data_append])] at b1
      have b2 := fun (w : World) => run_string_add_sum (P := Tryd.prog) (w := w) ⟨S.toArray⟩ ⟨(44 :: wd).toArray⟩ (by show S.toArray.size + (44 :: wd).toArray.size ≤ _; simp; omega)
      rw [show ((⟨S.toArray⟩ : ByteArray) ++ ⟨(44 :: wd).toArray⟩) = ⟨(S ++ 44 :: wd).toArray⟩ from bytes_ext' (by simp [ByteArray.data_append])] at b2
      obtain ⟨S1, hS1⟩ : ∃ S1, S1 = S ++ 44 :: wd := ⟨_, rfl⟩
      obtain ⟨wd1, hwd1⟩ : ∃ wd1 : ByteArray, wd1 = ⟨(44 :: wd).toArray⟩ := ⟨_, rfl⟩
      rw [← hS1, ← hwd1] at b2
      rw [← hwd1] at b1
      have b3 := fun (w : World) => run_string_add_sum (P := Tryd.prog) (w := w) ⟨S1.toArray⟩ ⟨#[42]⟩ (by show S1.toArray.size + 1 ≤ _; rw [hS1]; simp; omega)
      rw [show ((⟨S1.toArray⟩ : ByteArray) ++ ⟨#[42]⟩) = ⟨(S1 ++ [42]).toArray⟩ from bytes_ext' (by simp [ByteArray.data_append])] at b3
      have HSS := Lib.hid hS1
      have HB := Lib.hid (HQ.out.2.1.alloc HQ.out.2.1.size (.cells #[.string db, .int .i64 dn, .bool dm] 86))
      have HP := Lib.hid (HQ.out.2.2.alloc (.cells #[.string db, .int .i64 dn, .bool dm] 86))
      clear hX hRd hS1 hwd1 hwd hSl hw HQ HN HSL
      by_cases hf : k + 1 = f
      · have ef : ((k : Int) == (f : Int) - 1) = true := by rw [beq_iff_eq]; omega
        have HFF := Lib.hid hf
        clear hf
        go_wp2_with (first
          | (go_at_call 67; (with_reducible refine (HXX.out _).mono ?_); rintro e w3 ⟨rfl, hb⟩; replace HB := Lib.hid (HB.out.trans (hb.mono HB.out.size)); replace HP := Lib.hid (HP.out.below hb); clear hb; obtain ⟨p6, q6, pl⟩ := HP.out.k6)
          | (go_at_call 41; (with_reducible refine (HFI.out _ HB.out).mono ?_); rintro e w4 ⟨rfl, hb⟩; replace HB := Lib.hid (HB.out.trans (hb.mono HB.out.size)); replace HP := Lib.hid (HP.out.below hb); clear hb))
        go_roundw
        case rel => exact ⟨k + 1, by omega, by go_num, S1 ++ [42], rfl, Lib.hid ⟨by rw [HS1.out, if_pos HFF.out, HSS.out]; simp, HB.out, HP.out⟩⟩
        case measure => simp [intOf]; omega
      · have ef : ((k : Int) == (f : Int) - 1) = false := by rw [beq_eq_false_iff_ne]; omega
        have HFF := Lib.hid hf
        clear hf
        go_wp2_with (first
          | (go_at_call 67; (with_reducible refine (HXX.out _).mono ?_); rintro e w3 ⟨rfl, hb⟩; replace HB := Lib.hid (HB.out.trans (hb.mono HB.out.size)); replace HP := Lib.hid (HP.out.below hb); clear hb; obtain ⟨p6, q6, pl⟩ := HP.out.k6)
          | (go_at_call 41; (with_reducible refine (HFI.out _ HB.out).mono ?_); rintro e w4 ⟨rfl, hb⟩; replace HB := Lib.hid (HB.out.trans (hb.mono HB.out.size)); replace HP := Lib.hid (HP.out.below hb); clear hb))
        go_roundw
        case rel => exact ⟨k + 1, by omega, by go_num, S1, rfl, Lib.hid ⟨by rw [HS1.out, if_neg HFF.out, HSS.out]; simp, HB.out, HP.out⟩⟩
        case measure => simp [intOf]; omega
    · obtain rfl : k = D.length := by omega
      have dk : decide ((D.length : Int) < (D.length : Int)) = false := decide_eq_false (by omega)
      have hS : S = RES := by rw [HEND.out, HQ.out.1]
      subst hS
      go_wp2
      go_ret
      exact ⟨rfl, HQ.out.2.1⟩
theorem ptext_any (tb fb : ByteArray) (tn fn : Int) (tm fm : Bool) (a : Option Addr) (cap : Nat) (D : List Ent) (w : World) (hD : D.length ≤ 1000) (hE : EntsAt w a cap D) :
    Calls Tryd.prog 47 #[.agg #[.string tb, .int .i64 tn, .string fb, .int .i64 fn, .bool tm, .bool fm, .slice a D.length cap]] w fun e w' => e = .returned (.string (if rightP ((tb, tn, tm) :: (fb, fn, fm) :: D) then ⟨(pathD (tb, tn, tm) (fb, fn, fm) D).toArray⟩ else ⟨#[]⟩)) ∧ Below w.heap.size w w' := by
  cases hr : rightP ((tb, tn, tm) :: (fb, fn, fm) :: D)
  · rw [if_neg (by simp)]
    exact ptext_not tb fb tn fn tm fm a cap D w hD hE hr
  · rw [if_pos rfl]
    exact ptext_yes tb fb tn fn tm fm a cap D w (by
      rw [right_cons] at hr
      simp only [Bool.and_eq_true, decide_eq_true_eq] at hr
      exact hr.1.1) hE hr
end Go.Proofs.YtplandmnmdkjmaaDoor
