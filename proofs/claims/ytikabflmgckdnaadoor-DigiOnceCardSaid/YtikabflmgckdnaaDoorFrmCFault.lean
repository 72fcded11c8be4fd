/-
The landed code's look at a frame: its number, its information, what is wrong with it, whether it is right.
-/
import Derived.Test.YtikabflmgckdnaaDoorMix04
import Derived.Test.YtikabflmgckdnaaDoorCtlBase
namespace Go.Proofs.YtikabflmgckdnaaDoor
open Go.RowKit Go.Sort
set_option maxRecDepth 20000
theorem txt_some (b : ByteArray) (h : b.size ≠ 0) : b.toList.isEmpty = false := by
  rw [ByteArray.toList_eq]
  cases he : b.data.toList with
  | nil => exact absurd (by have : b.size = b.data.toList.length := by simp
                            rw [this, he]; rfl) h
  | cons x t => rfl
theorem txt_none (b : ByteArray) (h : b.size = 0) : b = ⟨#[]⟩ := by
  apply bytes_ext'
  have : b.data.toList.length = 0 := by simpa using h
  exact List.length_eq_zero_iff.1 this
set_option maxHeartbeats 1000000 in
theorem pidright_any (tb fb : ByteArray) (tn fn : Int) (tm fm : Bool) (a : Option Addr) (n cap : Nat) (k nr ns : Int) (pf : Bool) (pid : Int) (info : ByteArray) (w : World) :
    Calls Tryd.prog 56 #[.agg #[.string tb, .int .i64 tn, .string fb, .int .i64 fn, .bool tm, .bool fm, .slice a n cap, .int .i64 k, .int .i64 nr, .int .i64 ns, .bool pf, .int .i64 pid, .string info]] w fun e w' => e = .returned (.bool (pidOk k pid)) ∧ Below w.heap.size w w' := by
  have HB0 := Lib.hid ((Below.refl _ w).alloc (Nat.le_refl _) (.cells #[.string tb, .int .i64 tn, .string fb, .int .i64 fn, .bool tm, .bool fm, .slice a n cap, .int .i64 k, .int .i64 nr, .int .i64 ns, .bool pf, .int .i64 pid, .string info] 63))
  have hp := fun W => pid_any k W
  unfold pidOk
  cases h : pidD k
  · rw [h] at hp
    have HP := Lib.hid hp
    clear hp h
    go_enter Tryd.func56, Tryd.ntmps56
    go_wp2_with (go_at_call 41; (with_reducible refine (HP.out _).mono ?_); rintro e w1 ⟨rfl, rfl⟩)
    go_ret
    exact ⟨rfl, HB0.out⟩
  · rw [h] at hp
    have HP := Lib.hid hp
    clear hp h
    by_cases h0 : 0 ≤ pid
    · have d0 : decide (0 ≤ pid) = true := decide_eq_true h0
      by_cases h1 : pid ≤ 255
      · have d1 : decide (pid ≤ 255) = true := decide_eq_true h1
        go_enter Tryd.func56, Tryd.ntmps56
        go_wp2_with (go_at_call 41; (with_reducible refine (HP.out _).mono ?_); rintro e w1 ⟨rfl, rfl⟩)
        go_ret
        exact ⟨by first | rfl | (rw [d0, d1]; rfl), HB0.out⟩
      · have d1 : decide (pid ≤ 255) = false := decide_eq_false h1
        go_enter Tryd.func56, Tryd.ntmps56
        go_wp2_with (go_at_call 41; (with_reducible refine (HP.out _).mono ?_); rintro e w1 ⟨rfl, rfl⟩)
        go_ret
        exact ⟨by first | rfl | (rw [d0, d1]; rfl), HB0.out⟩
    · have d0 : decide (0 ≤ pid) = false := decide_eq_false h0
      go_enter Tryd.func56, Tryd.ntmps56
      go_wp2_with (go_at_call 41; (with_reducible refine (HP.out _).mono ?_); rintro e w1 ⟨rfl, rfl⟩)
      go_ret
      exact ⟨by first | rfl | (rw [d0]; rfl), HB0.out⟩
set_option maxHeartbeats 1000000 in
theorem inffault_any (tb fb : ByteArray) (tn fn : Int) (tm fm : Bool) (a : Option Addr) (n cap : Nat) (k nr ns : Int) (pf : Bool) (pid : Int) (info : ByteArray) (w : World) :
    Calls Tryd.prog 57 #[.agg #[.string tb, .int .i64 tn, .string fb, .int .i64 fn, .bool tm, .bool fm, .slice a n cap, .int .i64 k, .int .i64 nr, .int .i64 ns, .bool pf, .int .i64 pid, .string info]] w fun e w' => e = .returned (.int .i64 (infE k info.size : Nat)) ∧ Below w.heap.size w w' := by
  unfold infE
  by_cases h0 : info.size = 0
  · rw [if_pos h0]
    obtain rfl := txt_none info h0
    have HB0 := Lib.hid ((Below.refl _ w).alloc (Nat.le_refl _) (.cells #[.string tb, .int .i64 tn, .string fb, .int .i64 fn, .bool tm, .bool fm, .slice a n cap, .int .i64 k, .int .i64 nr, .int .i64 ns, .bool pf, .int .i64 pid, .string ⟨#[]⟩] 63))
    go_enter Tryd.func57, Tryd.ntmps57
    go_wp2_with fail
    go_ret
    exact ⟨rfl, HB0.out⟩
  · rw [if_neg h0]
    have HB0 := Lib.hid ((Below.refl _ w).alloc (Nat.le_refl _) (.cells #[.string tb, .int .i64 tn, .string fb, .int .i64 fn, .bool tm, .bool fm, .slice a n cap, .int .i64 k, .int .i64 nr, .int .i64 ns, .bool pf, .int .i64 pid, .string info] 63))
    have hi := fun W => info_any k W
    have he := txt_some info h0
    cases h : infoC k
    · rw [h] at hi
      have HI := Lib.hid hi
      clear hi h
      go_enter Tryd.func57, Tryd.ntmps57
      go_wp2_with (go_at_call 68; (with_reducible refine (HI.out _).mono ?_); rintro e w1 ⟨rfl, rfl⟩)
      go_ret
      exact ⟨rfl, HB0.out⟩
    · rw [h] at hi
      have HI := Lib.hid hi
      clear hi h
      by_cases h2 : 256 < info.size
      · have d2 : decide ((256 : Int) < (info.size : Int)) = true := decide_eq_true (by omega)
        rw [if_pos rfl, if_pos h2]
        go_enter Tryd.func57, Tryd.ntmps57
        go_wp2_with (go_at_call 68; (with_reducible refine (HI.out _).mono ?_); rintro e w1 ⟨rfl, rfl⟩)
        go_ret
        exact ⟨rfl, HB0.out⟩
      · have d2 : decide ((256 : Int) < (info.size : Int)) = false := decide_eq_false (by omega)
        rw [if_pos rfl, if_neg h2]
        go_enter Tryd.func57, Tryd.ntmps57
        go_wp2_with (go_at_call 68; (with_reducible refine (HI.out _).mono ?_); rintro e w1 ⟨rfl, rfl⟩)
        go_ret
        exact ⟨rfl, HB0.out⟩
set_option maxHeartbeats 1000000 in
theorem fault_any (tb fb : ByteArray) (tn fn : Int) (tm fm : Bool) (a : Option Addr) (cap : Nat) (D : List Ent) (k nr ns : Int) (pf : Bool) (pid : Int) (info : ByteArray) (wide : Bool) (w : World) (hD : D.length ≤ 1000) (hE : EntsAt w a cap D) :
    Calls Tryd.prog 39 #[.agg #[.string tb, .int .i64 tn, .string fb, .int .i64 fn, .bool tm, .bool fm, .slice a D.length cap, .int .i64 k, .int .i64 nr, .int .i64 ns, .bool pf, .int .i64 pid, .string info], .bool wide] w fun e w' => e = .returned (.int .i64 (wrongF ((tb, tn, tm) :: (fb, fn, fm) :: D) k nr ns wide pid info.size : Nat)) ∧ Below w.heap.size w w' := by
  have HB0 := Lib.hid ((Below.refl _ w).alloc (Nat.le_refl _) (.cells #[.string tb, .int .i64 tn, .string fb, .int .i64 fn, .bool tm, .bool fm, .slice a D.length cap, .int .i64 k, .int .i64 nr, .int .i64 ns, .bool pf, .int .i64 pid, .string info] 63))
  have HF0 := Lib.hid (F13.new w w.heap.size rfl (.string tb) (.int .i64 tn) (.string fb) (.int .i64 fn) (.bool tm) (.bool fm) (.slice a D.length cap) (.int .i64 k) (.int .i64 nr) (.int .i64 ns) (.bool pf) (.int .i64 pid) (.string info) 63)
  have hpr := fun W (h : Below w.heap.size w W) => pright_any tb fb tn fn tm fm a cap D W hD (hE.below h)
  have hcr := fun W => ccright_any k nr ns pf wide W
  have hpo := fun W => pidright_any tb fb tn fn tm fm a D.length cap k nr ns pf pid info W
  have HIN := Lib.hid (fun W => inffault_any tb fb tn fn tm fm a D.length cap k nr ns pf pid info W)
  have h1 := @wrong_path ((tb, tn, tm) :: (fb, fn, fm) :: D) k nr ns wide pid info.size
  have h2 := @wrong_arg ((tb, tn, tm) :: (fb, fn, fm) :: D) k nr ns wide pid info.size
  have h3 := @wrong_info ((tb, tn, tm) :: (fb, fn, fm) :: D) k nr ns wide pid info.size
  generalize wrongF ((tb, tn, tm) :: (fb, fn, fm) :: D) k nr ns wide pid info.size = G at *
  generalize rightP ((tb, tn, tm) :: (fb, fn, fm) :: D) = R at *
  generalize rightC k nr ns wide = C at *
  generalize pidOk k pid = O at *
  generalize infE k info.size = I at *
  cases R
  · obtain rfl := h1 rfl
    have HPR := Lib.hid hpr
    clear hpr hcr hpo h1 h2 h3 hE
    go_enter Tryd.func39, Tryd.ntmps39
    go_wp2_with (first
      | (go_at_call 38; (with_reducible refine (HPR.out _ HB0.out).mono ?_); rintro e w1 ⟨rfl, hb⟩; have HB := Lib.hid (HB0.out.trans (hb.mono HB0.out.size)); have HF := Lib.hid (HF0.out.below hb); clear hb; obtain ⟨⟨p0, -, pl⟩, ⟨p1, -, -⟩, ⟨p2, -, -⟩, ⟨p3, -, -⟩, ⟨p4, -, -⟩, ⟨p5, -, -⟩, ⟨p6, -, -⟩, ⟨p7, -, -⟩, ⟨p8, -, -⟩, ⟨p9, -, -⟩, ⟨p10, -, -⟩, ⟨p11, -, -⟩, ⟨p12, -, -⟩⟩ := HF.out))
    go_ret
    exact ⟨rfl, HB.out⟩
  · have HPR := Lib.hid hpr
    have HCR := Lib.hid hcr
    have HPO := Lib.hid hpo
    clear hpr hcr hpo hE
    cases C
    · obtain rfl := h2 rfl rfl
      clear h1 h2 h3
      go_enter Tryd.func39, Tryd.ntmps39
      go_wp2_with (first
        | (go_at_call 38; (with_reducible refine (HPR.out _ HB0.out).mono ?_); rintro e w1 ⟨rfl, hb⟩; have HB := Lib.hid (HB0.out.trans (hb.mono HB0.out.size)); have HF := Lib.hid (HF0.out.below hb); clear hb; obtain ⟨⟨p0, -, pl⟩, ⟨p1, -, -⟩, ⟨p2, -, -⟩, ⟨p3, -, -⟩, ⟨p4, -, -⟩, ⟨p5, -, -⟩, ⟨p6, -, -⟩, ⟨p7, -, -⟩, ⟨p8, -, -⟩, ⟨p9, -, -⟩, ⟨p10, -, -⟩, ⟨p11, -, -⟩, ⟨p12, -, -⟩⟩ := HF.out)
        | (go_at_call 55; (with_reducible refine (HCR.out _).mono ?_); rintro e w2 ⟨rfl, hb⟩; replace HB := Lib.hid (HB.out.trans (hb.mono HB.out.size)); replace HF := Lib.hid (HF.out.below hb); clear hb; clear p0 pl p1 p2 p3 p4 p5 p6 p7 p8 p9 p10 p11 p12; obtain ⟨⟨p0, -, pl⟩, ⟨p1, -, -⟩, ⟨p2, -, -⟩, ⟨p3, -, -⟩, ⟨p4, -, -⟩, ⟨p5, -, -⟩, ⟨p6, -, -⟩, ⟨p7, -, -⟩, ⟨p8, -, -⟩, ⟨p9, -, -⟩, ⟨p10, -, -⟩, ⟨p11, -, -⟩, ⟨p12, -, -⟩⟩ := HF.out))
      go_ret
      exact ⟨rfl, HB.out⟩
    · cases O
      · obtain rfl := h2 rfl rfl
        clear h1 h2 h3
        go_enter Tryd.func39, Tryd.ntmps39
        go_wp2_with (first
          | (go_at_call 38; (with_reducible refine (HPR.out _ HB0.out).mono ?_); rintro e w1 ⟨rfl, hb⟩; have HB := Lib.hid (HB0.out.trans (hb.mono HB0.out.size)); have HF := Lib.hid (HF0.out.below hb); clear hb; obtain ⟨⟨p0, -, pl⟩, ⟨p1, -, -⟩, ⟨p2, -, -⟩, ⟨p3, -, -⟩, ⟨p4, -, -⟩, ⟨p5, -, -⟩, ⟨p6, -, -⟩, ⟨p7, -, -⟩, ⟨p8, -, -⟩, ⟨p9, -, -⟩, ⟨p10, -, -⟩, ⟨p11, -, -⟩, ⟨p12, -, -⟩⟩ := HF.out)
          | (go_at_call 55; (with_reducible refine (HCR.out _).mono ?_); rintro e w2 ⟨rfl, hb⟩; replace HB := Lib.hid (HB.out.trans (hb.mono HB.out.size)); replace HF := Lib.hid (HF.out.below hb); clear hb; clear p0 pl p1 p2 p3 p4 p5 p6 p7 p8 p9 p10 p11 p12; obtain ⟨⟨p0, -, pl⟩, ⟨p1, -, -⟩, ⟨p2, -, -⟩, ⟨p3, -, -⟩, ⟨p4, -, -⟩, ⟨p5, -, -⟩, ⟨p6, -, -⟩, ⟨p7, -, -⟩, ⟨p8, -, -⟩, ⟨p9, -, -⟩, ⟨p10, -, -⟩, ⟨p11, -, -⟩, ⟨p12, -, -⟩⟩ := HF.out)
          | (go_at_call 56; (with_reducible refine (HPO.out _).mono ?_); rintro e w3 ⟨rfl, hb⟩; replace HB := Lib.hid (HB.out.trans (hb.mono HB.out.size)); replace HF := Lib.hid (HF.out.below hb); clear hb; clear p0 pl p1 p2 p3 p4 p5 p6 p7 p8 p9 p10 p11 p12; obtain ⟨⟨p0, -, pl⟩, ⟨p1, -, -⟩, ⟨p2, -, -⟩, ⟨p3, -, -⟩, ⟨p4, -, -⟩, ⟨p5, -, -⟩, ⟨p6, -, -⟩, ⟨p7, -, -⟩, ⟨p8, -, -⟩, ⟨p9, -, -⟩, ⟨p10, -, -⟩, ⟨p11, -, -⟩, ⟨p12, -, -⟩⟩ := HF.out))
        go_ret
        exact ⟨rfl, HB.out⟩
      · obtain rfl := h3 rfl rfl
        clear h1 h2 h3
        go_enter Tryd.func39, Tryd.ntmps39
        go_wp2_with (first
          | (go_at_call 38; (with_reducible refine (HPR.out _ HB0.out).mono ?_); rintro e w1 ⟨rfl, hb⟩; have HB := Lib.hid (HB0.out.trans (hb.mono HB0.out.size)); have HF := Lib.hid (HF0.out.below hb); clear hb; obtain ⟨⟨p0, -, pl⟩, ⟨p1, -, -⟩, ⟨p2, -, -⟩, ⟨p3, -, -⟩, ⟨p4, -, -⟩, ⟨p5, -, -⟩, ⟨p6, -, -⟩, ⟨p7, -, -⟩, ⟨p8, -, -⟩, ⟨p9, -, -⟩, ⟨p10, -, -⟩, ⟨p11, -, -⟩, ⟨p12, -, -⟩⟩ := HF.out)
          | (go_at_call 55; (with_reducible refine (HCR.out _).mono ?_); rintro e w2 ⟨rfl, hb⟩; replace HB := Lib.hid (HB.out.trans (hb.mono HB.out.size)); replace HF := Lib.hid (HF.out.below hb); clear hb; clear p0 pl p1 p2 p3 p4 p5 p6 p7 p8 p9 p10 p11 p12; obtain ⟨⟨p0, -, pl⟩, ⟨p1, -, -⟩, ⟨p2, -, -⟩, ⟨p3, -, -⟩, ⟨p4, -, -⟩, ⟨p5, -, -⟩, ⟨p6, -, -⟩, ⟨p7, -, -⟩, ⟨p8, -, -⟩, ⟨p9, -, -⟩, ⟨p10, -, -⟩, ⟨p11, -, -⟩, ⟨p12, -, -⟩⟩ := HF.out)
          | (go_at_call 56; (with_reducible refine (HPO.out _).mono ?_); rintro e w3 ⟨rfl, hb⟩; replace HB := Lib.hid (HB.out.trans (hb.mono HB.out.size)); replace HF := Lib.hid (HF.out.below hb); clear hb; clear p0 pl p1 p2 p3 p4 p5 p6 p7 p8 p9 p10 p11 p12; obtain ⟨⟨p0, -, pl⟩, ⟨p1, -, -⟩, ⟨p2, -, -⟩, ⟨p3, -, -⟩, ⟨p4, -, -⟩, ⟨p5, -, -⟩, ⟨p6, -, -⟩, ⟨p7, -, -⟩, ⟨p8, -, -⟩, ⟨p9, -, -⟩, ⟨p10, -, -⟩, ⟨p11, -, -⟩, ⟨p12, -, -⟩⟩ := HF.out)
          | (go_at_call 57; (with_reducible refine (HIN.out _).mono ?_); rintro e w4 ⟨rfl, hb⟩; replace HB := Lib.hid (HB.out.trans (hb.mono HB.out.size)); clear hb))
        go_ret
        exact ⟨rfl, HB.out⟩
end Go.Proofs.YtikabflmgckdnaaDoor
