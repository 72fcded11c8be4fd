/-
Frames as plain facts: what is wrong with one.
The landed code's look at a frame: its number, its information, what is wrong with it, whether it is right.
The landed code's Put of paths.
The landed code's Put of controls.
-/
import Derived.Test.YtmgfpnemamedoaaDoorMix05
import Derived.Test.YtmgfpnemamedoaaDoorMix12
import Derived.Test.YtmgfpnemamedoaaDoorMix07
import Derived.Test.YtmgfpnemamedoaaDoorMix04
import Derived.Lib.SmallJoins
import Derived.Lib.ItoaNum
import Derived.Lib.QuietBelow
import Derived.Lib.IndexBytes
import Derived.IntWalk
import Derived.BigQuiet
import Derived.Deep.QuietTactic
namespace Go.Proofs.YtmgfpnemamedoaaDoor
open Go.RowKit Go.Sort
set_option maxRecDepth 20000
/-- the protocol's number is right -/
def pidOk (k pid : Int) : Bool := if pidD k then decide (0 ≤ pid) && decide (pid ≤ 255) else decide (pid = 0)
/-- what is wrong with information of n bytes -/
def infE (k : Int) (n : Nat) : Nat := if n = 0 then 0 else if infoC k then (if 256 < n then 5 else 0) else 2
/-- what is wrong with a frame -/
def wrongF (L : List Ent) (k nr ns : Int) (wide : Bool) (pid : Int) (n : Nat) : Nat :=
  if rightP L then (if rightC k nr ns wide && pidOk k pid then infE k n else 1) else 11
theorem infE_le (k : Int) (n : Nat) : infE k n ≤ 5 := by
  unfold infE
  split
  · omega
  · split
    · split <;> omega
    · omega
theorem wrong_path {L : List Ent} {k nr ns : Int} {wide : Bool} {pid : Int} {n : Nat} (h : rightP L = false) : wrongF L k nr ns wide pid n = 11 := by unfold wrongF; rw [h]; rfl
theorem wrong_arg {L : List Ent} {k nr ns : Int} {wide : Bool} {pid : Int} {n : Nat} (h : rightP L = true) (h2 : (rightC k nr ns wide && pidOk k pid) = false) : wrongF L k nr ns wide pid n = 1 := by unfold wrongF; rw [h, h2]; rfl
theorem wrong_info {L : List Ent} {k nr ns : Int} {wide : Bool} {pid : Int} {n : Nat} (h : rightP L = true) (h2 : (rightC k nr ns wide && pidOk k pid) = true) : wrongF L k nr ns wide pid n = infE k n := by unfold wrongF; rw [h, h2]; rfl
/-- of a right frame -/
theorem right_frame {L : List Ent} {k nr ns : Int} {wide : Bool} {pid : Int} {n : Nat} (h : wrongF L k nr ns wide pid n = 0) : rightP L = true ∧ rightC k nr ns wide = true ∧ pidOk k pid = true ∧ infE k n = 0 := by
  unfold wrongF at h
  cases h1 : rightP L
  · rw [h1] at h; simp at h
  · cases h2 : rightC k nr ns wide
    · rw [h1, h2] at h; simp at h
    · cases h3 : pidOk k pid
      · rw [h1, h2, h3] at h; simp at h
      · rw [h1, h2, h3] at h
        exact ⟨rfl, rfl, rfl, by simpa using h⟩
theorem inf_facts {k : Int} {n : Nat} (h : infE k n = 0) : n ≤ 256 ∧ (n ≠ 0 → infoC k = true) := by
  unfold infE at h
  by_cases h0 : n = 0
  · exact ⟨by omega, fun q => absurd h0 q⟩
  · rw [if_neg h0] at h
    cases h1 : infoC k
    · rw [h1] at h; simp at h
    · rw [h1] at h
      refine ⟨?_, fun _ => rfl⟩
      by_cases h2 : 256 < n
      · rw [if_pos rfl, if_pos h2] at h; omega
      · omega
theorem pid_facts {k pid : Int} (h : pidOk k pid = true) : ∃ P : Nat, pid = P ∧ P < 256 ∧ (pidD k = false → P = 0) := by
  unfold pidOk at h
  cases h1 : pidD k
  · rw [h1] at h
    have e : pid = 0 := by simpa using h
    exact ⟨0, e, by omega, fun _ => rfl⟩
  · rw [h1] at h
    have e : 0 ≤ pid ∧ pid ≤ 255 := by simpa using h
    exact ⟨pid.toNat, by omega, by omega, fun q => by cases q⟩
end Go.Proofs.YtmgfpnemamedoaaDoor
namespace Go.Proofs.YtmgfpnemamedoaaDoor
open Go.RowKit Go.Sort
set_option maxRecDepth 20000
theorem txt_some (b : ByteArray) (h : b.size ≠ 0) : b.toList.isEmpty = false := by
  rw [ByteArray.toList_eq]
  cases he : b.data.toList with
  | nil => exact absurd (by have : b.size = b.data.toList.length := by simp
                            rw [this, he]; rfl) h
  | cons x t => rfl
theorem txt_none (b : ByteArray) (h : b.size = 0) : b = ⟨#[]⟩ := by
  apply bytes_ext'
  have : b.data.toList.length = 0 := by simpa using h
  exact List.length_eq_zero_iff.1 this
set_option maxHeartbeats 1000000 in
theorem pidright_any (tb fb : ByteArray) (tn fn : Int) (tm fm : Bool) (a : Option Addr) (n cap : Nat) (k nr ns : Int) (pf : Bool) (pid : Int) (info : ByteArray) (w : World) :
    Calls Tryd.prog 30 #[.agg #[.string tb, .int .i64 tn, .string fb, .int .i64 fn, .bool tm, .bool fm, .slice a n cap, .int .i64 k, .int .i64 nr, .int .i64 ns, .bool pf, .int .i64 pid, .string info]] w fun e w' => e = .returned (.bool (pidOk k pid)) ∧ Below w.heap.size w w' := by
  have HB0 := Lib.hid ((Below.refl _ w).alloc (Nat.le_refl _) (.cells #[.string tb, .int .i64 tn, .string fb, .int .i64 fn, .bool tm, .bool fm, .slice a n cap, .int .i64 k, .int .i64 nr, .int .i64 ns, .bool pf, .int .i64 pid, .string info] 39))
  have hp := fun W => pid_any k W
  unfold pidOk
  cases h : pidD k
  · rw [h] at hp
    have HP := Lib.hid hp
    clear hp h
    go_enter Tryd.func30, Tryd.ntmps30
    go_wp2_with (go_at_call 19; (with_reducible refine (HP.out _).mono ?_); rintro e w1 ⟨rfl, rfl⟩)
    go_ret
    exact ⟨rfl, HB0.out⟩
  · rw [h] at hp
    have HP := Lib.hid hp
    clear hp h
    by_cases h0 : 0 ≤ pid
    · have d0 : decide (0 ≤ pid) = true := decide_eq_true h0
      by_cases h1 : pid ≤ 255
      · have d1 : decide (pid ≤ 255) = true := decide_eq_true h1
        go_enter Tryd.func30, Tryd.ntmps30
        go_wp2_with (go_at_call 19; (with_reducible refine (HP.out _).mono ?_); rintro e w1 ⟨rfl, rfl⟩)
        go_ret
        exact ⟨by first | rfl | (rw [d0, d1]; rfl), HB0.out⟩
      · have d1 : decide (pid ≤ 255) = false := decide_eq_false h1
        go_enter Tryd.func30, Tryd.ntmps30
        go_wp2_with (go_at_call 19; (with_reducible refine (HP.out _).mono ?_); rintro e w1 ⟨rfl, rfl⟩)
        go_ret
        exact ⟨by first | rfl | (rw [d0, d1]; rfl), HB0.out⟩
    · have d0 : decide (0 ≤ pid) = false := decide_eq_false h0
      go_enter Tryd.func30, Tryd.ntmps30
      go_wp2_with (go_at_call 19; (with_reducible refine (HP.out _).mono ?_); rintro e w1 ⟨rfl, rfl⟩)
      go_ret
      exact ⟨by first | rfl | (rw [d0]; rfl), HB0.out⟩
set_option maxHeartbeats 1000000 in
theorem inffault_any (tb fb : ByteArray) (tn fn : Int) (tm fm : Bool) (a : Option Addr) (n cap : Nat) (k nr ns : Int) (pf : Bool) (pid : Int) (info : ByteArray) (w : World) :
    Calls Tryd.prog 31 #[.agg #[.string tb, .int .i64 tn, .string fb, .int .i64 fn, .bool tm, .bool fm, .slice a n cap, .int .i64 k, .int .i64 nr, .int .i64 ns, .bool pf, .int .i64 pid, .string info]] w fun e w' => e = .returned (.int .i64 (infE k info.size : Nat)) ∧ Below w.heap.size w w' := by
  unfold infE
  by_cases h0 : info.size = 0
  · rw [if_pos h0]
    obtain rfl := txt_none info h0
    have HB0 := Lib.hid ((Below.refl _ w).alloc (Nat.le_refl _) (.cells #[.string tb, .int .i64 tn, .string fb, .int .i64 fn, .bool tm, .bool fm, .slice a n cap, .int .i64 k, .int .i64 nr, .int .i64 ns, .bool pf, .int .i64 pid, .string ⟨#[]⟩] 39))
    go_enter Tryd.func31, Tryd.ntmps31
    go_wp2_with fail
    go_ret
    exact ⟨rfl, HB0.out⟩
  · rw [if_neg h0]
    have HB0 := Lib.hid ((Below.refl _ w).alloc (Nat.le_refl _) (.cells #[.string tb, .int .i64 tn, .string fb, .int .i64 fn, .bool tm, .bool fm, .slice a n cap, .int .i64 k, .int .i64 nr, .int .i64 ns, .bool pf, .int .i64 pid, .string info] 39))
    have hi := fun W => info_any k W
    have he := txt_some info h0
    cases h : infoC k
    · rw [h] at hi
      have HI := Lib.hid hi
      clear hi h
      go_enter Tryd.func31, Tryd.ntmps31
      go_wp2_with (go_at_call 44; (with_reducible refine (HI.out _).mono ?_); rintro e w1 ⟨rfl, rfl⟩)
      go_ret
      exact ⟨rfl, HB0.out⟩
    · rw [h] at hi
      have HI := Lib.hid hi
      clear hi h
      by_cases h2 : 256 < info.size
      · have d2 : decide ((256 : Int) < (info.size : Int)) = true := decide_eq_true (by omega)
        rw [if_pos rfl, if_pos h2]
        go_enter Tryd.func31, Tryd.ntmps31
        go_wp2_with (go_at_call 44; (with_reducible refine (HI.out _).mono ?_); rintro e w1 ⟨rfl, rfl⟩)
        go_ret
        exact ⟨rfl, HB0.out⟩
      · have d2 : decide ((256 : Int) < (info.size : Int)) = false := decide_eq_false (by omega)
        rw [if_pos rfl, if_neg h2]
        go_enter Tryd.func31, Tryd.ntmps31
        go_wp2_with (go_at_call 44; (with_reducible refine (HI.out _).mono ?_); rintro e w1 ⟨rfl, rfl⟩)
        go_ret
        exact ⟨rfl, HB0.out⟩
set_option maxHeartbeats 1000000 in
theorem fault_any (tb fb : ByteArray) (tn fn : Int) (tm fm : Bool) (a : Option Addr) (cap : Nat) (D : List Ent) (k nr ns : Int) (pf : Bool) (pid : Int) (info : ByteArray) (wide : Bool) (w : World) (hD : D.length ≤ 1000) (hE : EntsAt w a cap D) :
    Calls Tryd.prog 16 #[.agg #[.string tb, .int .i64 tn, .string fb, .int .i64 fn, .bool tm, .bool fm, .slice a D.length cap, .int .i64 k, .int .i64 nr, .int .i64 ns, .bool pf, .int .i64 pid, .string info], .bool wide] w fun e w' => e = .returned (.int .i64 (wrongF ((tb, tn, tm) :: (fb, fn, fm) :: D) k nr ns wide pid info.size : Nat)) ∧ Below w.heap.size w w' := by
  have HB0 := Lib.hid ((Below.refl _ w).alloc (Nat.le_refl _) (.cells #[.string tb, .int .i64 tn, .string fb, .int .i64 fn, .bool tm, .bool fm, .slice a D.length cap, .int .i64 k, .int .i64 nr, .int .i64 ns, .bool pf, .int .i64 pid, .string info] 39))
  have HF0 := Lib.hid (F13.new w w.heap.size rfl (.string tb) (.int .i64 tn) (.string fb) (.int .i64 fn) (.bool tm) (.bool fm) (.slice a D.length cap) (.int .i64 k) (.int .i64 nr) (.int .i64 ns) (.bool pf) (.int .i64 pid) (.string info) 39)
  have hpr := fun W (h : Below w.heap.size w W) => pright_any tb fb tn fn tm fm a cap D W hD (hE.below h)
  have hcr := fun W => ccright_any k nr ns pf wide W
  have hpo := fun W => pidright_any tb fb tn fn tm fm a D.length cap k nr ns pf pid info W
  have HIN := Lib.hid (fun W => inffault_any tb fb tn fn tm fm a D.length cap k nr ns pf pid info W)
  have h1 := @wrong_path ((tb, tn, tm) :: (fb, fn, fm) :: D) k nr ns wide pid info.size
  have h2 := @wrong_arg ((tb, tn, tm) :: (fb, fn, fm) :: D) k nr ns wide pid info.size
  have h3 := @wrong_info ((tb, tn, tm) :: (fb, fn, fm) :: D) k nr ns wide pid info.size
  generalize wrongF ((tb, tn, tm) :: (fb, fn, fm) :: D) k nr ns wide pid info.size = G at *
  generalize rightP ((tb, tn, tm) :: (fb, fn, fm) :: D) = R at *
  generalize rightC k nr ns wide = C at *
  generalize pidOk k pid = O at *
  generalize infE k info.size = I at *
  cases R
  · obtain rfl := h1 rfl
    have HPR := Lib.hid hpr
    clear hpr hcr hpo h1 h2 h3 hE
    go_enter Tryd.func16, Tryd.ntmps16
    go_wp2_with (first
      | (go_at_call 15; (with_reducible refine (HPR.out _ HB0.out).mono ?_); rintro e w1 ⟨rfl, hb⟩; have HB := Lib.hid (HB0.out.trans (hb.mono HB0.out.size)); have HF := Lib.hid (HF0.out.below hb); clear hb; obtain ⟨⟨p0, -, pl⟩, ⟨p1, -, -⟩, ⟨p2, -, -⟩, ⟨p3, -, -⟩, ⟨p4, -, -⟩, ⟨p5, -, -⟩, ⟨p6, -, -⟩, ⟨p7, -, -⟩, ⟨p8, -, -⟩, ⟨p9, -, -⟩, ⟨p10, -, -⟩, ⟨p11, -, -⟩, ⟨p12, -, -⟩⟩ := HF.out))
    go_ret
    exact ⟨rfl, HB.out⟩
  · have HPR := Lib.hid hpr
    have HCR := Lib.hid hcr
    have HPO := Lib.hid hpo
    clear hpr hcr hpo hE
    cases C
    · obtain rfl := h2 rfl rfl
      clear h1 h2 h3
      go_enter Tryd.func16, Tryd.ntmps16
      go_wp2_with (first
        | (go_at_call 15; (with_reducible refine (HPR.out _ HB0.out).mono ?_); rintro e w1 ⟨rfl, hb⟩; have HB := Lib.hid (HB0.out.trans (hb.mono HB0.out.size)); have HF := Lib.hid (HF0.out.below hb); clear hb; obtain ⟨⟨p0, -, pl⟩, ⟨p1, -, -⟩, ⟨p2, -, -⟩, ⟨p3, -, -⟩, ⟨p4, -, -⟩, ⟨p5, -, -⟩, ⟨p6, -, -⟩, ⟨p7, -, -⟩, ⟨p8, -, -⟩, ⟨p9, -, -⟩, ⟨p10, -, -⟩, ⟨p11, -, -⟩, ⟨p12, -, -⟩⟩ := HF.out)
        | (go_at_call 29; (with_reducible refine (HCR.out _).mono ?_); rintro e w2 ⟨rfl, hb⟩; replace HB := Lib.hid (HB.out.trans (hb.mono HB.out.size)); replace HF := Lib.hid (HF.out.below hb); clear hb; clear p0 pl p1 p2 p3 p4 p5 p6 p7 p8 p9 p10 p11 p12; obtain ⟨⟨p0, -, pl⟩, ⟨p1, -, -⟩, ⟨p2, -, -⟩, ⟨p3, -, -⟩, ⟨p4, -, -⟩, ⟨p5, -, -⟩, ⟨p6, -, -⟩, ⟨p7, -, -⟩, ⟨p8, -, -⟩, ⟨p9, -, -⟩, ⟨p10, -, -⟩, ⟨p11, -, -⟩, ⟨p12, -, -⟩⟩ := HF.out))
      go_ret
      exact ⟨rfl, HB.out⟩
    · cases O
      · obtain rfl := h2 rfl rfl
        clear h1 h2 h3
        go_enter Tryd.func16, Tryd.ntmps16
        go_wp2_with (first
          | (go_at_call 15; (with_reducible refine (HPR.out _ HB0.out).mono ?_); rintro e w1 ⟨rfl, hb⟩; have HB := Lib.hid (HB0.out.trans (hb.mono HB0.out.size)); have HF := Lib.hid (HF0.out.below hb); clear hb; obtain ⟨⟨p0, -, pl⟩, ⟨p1, -, -⟩, ⟨p2, -, -⟩, ⟨p3, -, -⟩, ⟨p4, -, -⟩, ⟨p5, -, -⟩, ⟨p6, -, -⟩, ⟨p7, -, -⟩, ⟨p8, -, -⟩, ⟨p9, -, -⟩, ⟨p10, -, -⟩, ⟨p11, -, -⟩, ⟨p12, -, -⟩⟩ := HF.out)
          | (go_at_call 29; (with_reducible refine (HCR.out _).mono ?_); rintro e w2 ⟨rfl, hb⟩; replace HB := Lib.hid (HB.out.trans (hb.mono HB.out.size)); replace HF := Lib.hid (HF.out.below hb); clear hb; clear p0 pl p1 p2 p3 p4 p5 p6 p7 p8 p9 p10 p11 p12; obtain ⟨⟨p0, -, pl⟩, ⟨p1, -, -⟩, ⟨p2, -, -⟩, ⟨p3, -, -⟩, ⟨p4, -, -⟩, ⟨p5, -, -⟩, ⟨p6, -, -⟩, ⟨p7, -, -⟩, ⟨p8, -, -⟩, ⟨p9, -, -⟩, ⟨p10, -, -⟩, ⟨p11, -, -⟩, ⟨p12, -, -⟩⟩ := HF.out)
          | (go_at_call 30; (with_reducible refine (HPO.out _).mono ?_); rintro e w3 ⟨rfl, hb⟩; replace HB := Lib.hid (HB.out.trans (hb.mono HB.out.size)); replace HF := Lib.hid (HF.out.below hb); clear hb; clear p0 pl p1 p2 p3 p4 p5 p6 p7 p8 p9 p10 p11 p12; obtain ⟨⟨p0, -, pl⟩, ⟨p1, -, -⟩, ⟨p2, -, -⟩, ⟨p3, -, -⟩, ⟨p4, -, -⟩, ⟨p5, -, -⟩, ⟨p6, -, -⟩, ⟨p7, -, -⟩, ⟨p8, -, -⟩, ⟨p9, -, -⟩, ⟨p10, -, -⟩, ⟨p11, -, -⟩, ⟨p12, -, -⟩⟩ := HF.out))
        go_ret
        exact ⟨rfl, HB.out⟩
      · obtain rfl := h3 rfl rfl
        clear h1 h2 h3
        go_enter Tryd.func16, Tryd.ntmps16
        go_wp2_with (first
          | (go_at_call 15; (with_reducible refine (HPR.out _ HB0.out).mono ?_); rintro e w1 ⟨rfl, hb⟩; have HB := Lib.hid (HB0.out.trans (hb.mono HB0.out.size)); have HF := Lib.hid (HF0.out.below hb); clear hb; obtain ⟨⟨p0, -, pl⟩, ⟨p1, -, -⟩, ⟨p2, -, -⟩, ⟨p3, -, -⟩, ⟨p4, -, -⟩, ⟨p5, -, -⟩, ⟨p6, -, -⟩, ⟨p7, -, -⟩, ⟨p8, -, -⟩, ⟨p9, -, -⟩, ⟨p10, -, -⟩, ⟨p11, -, -⟩, ⟨p12, -, -⟩⟩ := HF.out)
          | (go_at_call 29; (with_reducible refine (HCR.out _).mono ?_); rintro e w2 ⟨rfl, hb⟩; replace HB := Lib.hid (HB.out.trans (hb.mono HB.out.size)); replace HF := Lib.hid (HF.out.below hb); clear hb; clear p0 pl p1 p2 p3 p4 p5 p6 p7 p8 p9 p10 p11 p12; obtain ⟨⟨p0, -, pl⟩, ⟨p1, -, -⟩, ⟨p2, -, -⟩, ⟨p3, -, -⟩, ⟨p4, -, -⟩, ⟨p5, -, -⟩, ⟨p6, -, -⟩, ⟨p7, -, -⟩, ⟨p8, -, -⟩, ⟨p9, -, -⟩, ⟨p10, -, -⟩, ⟨p11, -, -⟩, ⟨p12, -, -⟩⟩ := HF.out)
          | (go_at_call 30; (with_reducible refine (HPO.out _).mono ?_); rintro e w3 ⟨rfl, hb⟩; replace HB := Lib.hid (HB.out.trans (hb.mono HB.out.size)); replace HF := Lib.hid (HF.out.below hb); clear hb; clear p0 pl p1 p2 p3 p4 p5 p6 p7 p8 p9 p10 p11 p12; obtain ⟨⟨p0, -, pl⟩, ⟨p1, -, -⟩, ⟨p2, -, -⟩, ⟨p3, -, -⟩, ⟨p4, -, -⟩, ⟨p5, -, -⟩, ⟨p6, -, -⟩, ⟨p7, -, -⟩, ⟨p8, -, -⟩, ⟨p9, -, -⟩, ⟨p10, -, -⟩, ⟨p11, -, -⟩, ⟨p12, -, -⟩⟩ := HF.out)
          | (go_at_call 31; (with_reducible refine (HIN.out _).mono ?_); rintro e w4 ⟨rfl, hb⟩; replace HB := Lib.hid (HB.out.trans (hb.mono HB.out.size)); clear hb))
        go_ret
        exact ⟨rfl, HB.out⟩
end Go.Proofs.YtmgfpnemamedoaaDoor
namespace Go.Proofs.YtmgfpnemamedoaaDoor
open Go.RowKit Go.Sort
set_option maxRecDepth 20000
/-- the bytes of the first k entries of L -/
def bytesP (L : List Ent) (k : Nat) : List UInt8 := (List.range k).flatMap fun i => match L[i]? with | some e => putD e.1.data.toList e.2.1.toNat e.2.2 (decide (i + 1 = L.length)) | none => []
theorem bytesP_next (L : List Ent) (k : Nat) (h : k < L.length) : bytesP L (k + 1) = bytesP L k ++ putD L[k].1.data.toList L[k].2.1.toNat L[k].2.2 (decide (k + 1 = L.length)) := by
  unfold bytesP
  rw [List.range_succ, List.flatMap_append, List.flatMap_singleton, List.getElem?_eq_getElem h]
/-- what Put answers -/
def pputE (L : List Ent) : Value := if rightP L then .tuple #[.string ⟨(bytesP L L.length).toArray⟩, .int .i64 0] else .tuple #[.string ⟨#[]⟩, .int .i64 11]
theorem bytesP_len' (L : List Ent) : ∀ k, k ≤ L.length → (bytesP L k).length = 7 * k
  | 0, _ => rfl
  | k + 1, h => by
    rw [bytesP_next L k (by omega), List.length_append, bytesP_len' L k (by omega), put_len]
    omega
set_option maxHeartbeats 2000000 in
theorem pput_any (tb fb : ByteArray) (tn fn : Int) (tm fm : Bool) (a : Option Addr) (cap : Nat) (D : List Ent) (w : World) (hD : D.length ≤ 1000) (hE : EntsAt w a cap D) :
    Calls Tryd.prog 17 #[.agg #[.string tb, .int .i64 tn, .string fb, .int .i64 fn, .bool tm, .bool fm, .slice a D.length cap]] w fun e w' => e = .returned (pputE ((tb, tn, tm) :: (fb, fn, fm) :: D)) ∧ Below w.heap.size w w' := by
  have HB0 := Lib.hid ((Below.refl _ w).alloc (Nat.le_refl _) (.cells #[.string tb, .int .i64 tn, .string fb, .int .i64 fn, .bool tm, .bool fm, .slice a D.length cap] 30))
  have HP0 := Lib.hid (P7.new w w.heap.size rfl (.string tb) (.int .i64 tn) (.string fb) (.int .i64 fn) (.bool tm) (.bool fm) (.slice a D.length cap) 30)
  have HRI := Lib.hid (fun W (h : Below w.heap.size w W) => pright_any tb fb tn fn tm fm a cap D W hD (hE.below h))
  have HAL := Lib.hid (fun W (h : Below w.heap.size w W) => all_any tb fb tn fn tm fm a cap D W hD (hE.below h))
  obtain ⟨L, hL⟩ : ∃ L, L = (tb, tn, tm) :: (fb, fn, fm) :: D := ⟨_, rfl⟩
  rw [← hL] at HRI HAL ⊢
  clear hE hL
  cases hr : rightP L
  · have HV := Lib.hid (show pputE L = .tuple #[.string ⟨#[]⟩, .int .i64 11] from by unfold pputE; rw [if_neg (by rw [hr]; simp)])
    rw [HV.out]
    rw [hr] at HRI
    go_enter Tryd.func17, Tryd.ntmps17
    go_wp2_with (go_at_call 15; (with_reducible refine (HRI.out _ HB0.out).mono ?_); rintro e w1 ⟨rfl, hb⟩; have HB := Lib.hid (HB0.out.trans (hb.mono HB0.out.size)); clear hb)
    exact bodyPost_ret (v := .tuple #[.string ⟨#[]⟩, .int .i64 11]) (by simp [results, Tryd.results17, go_sem]) rfl ⟨rfl, HB.out⟩
  · have HV := Lib.hid (show pputE L = .tuple #[.string ⟨(bytesP L L.length).toArray⟩, .int .i64 0] from by unfold pputE; rw [if_pos hr])
    rw [HV.out]
    rw [hr] at HRI
    have hll : 2 ≤ L.length ∧ L.length ≤ 10 ∧ ∀ e ∈ L, rightD e.1 e.2.1 = true := by
      unfold rightP at hr
      simp only [Bool.and_eq_true, decide_eq_true_eq] at hr
      exact ⟨hr.1.1.2, hr.1.2, List.all_eq_true.1 hr.1.1.1⟩
    obtain ⟨hl2, hl10, hall⟩ := hll
    have HCP := Lib.hid (show ∀ k (h : k < L.length) la W, Calls Tryd.prog 32 #[.agg #[.string L[k].1, .int .i64 L[k].2.1], .bool L[k].2.2, .bool la] W fun e w' => e = .returned (.tuple #[.string ⟨(putD L[k].1.data.toList L[k].2.1.toNat L[k].2.2 la).toArray⟩, .int .i64 0]) ∧ Below W.heap.size W w' from fun k h la W => by
      have hrk := hall _ (List.getElem_mem h)
      have q := cput_ok L[k].1 L[k].2.1 L[k].2.2 la W (by obtain ⟨_, h2, _⟩ := right_facts _ _ hrk; omega)
      unfold putE at q
      rw [if_pos hrk] at q
      exact q)
    have HN := Lib.hid (bytesP_next L)
    have HLN := Lib.hid (bytesP_len' L)
    obtain ⟨R, hR⟩ : ∃ R, R = bytesP L L.length := ⟨_, rfl⟩
    rw [← hR]
    have HRR := Lib.hid hR
    clear hall hr hR HV
    obtain ⟨p0, q0, pl⟩ := HP0.out.k0
    go_enter Tryd.func17, Tryd.ntmps17
    go_wp2_with (first
      | (go_at_call 15; (with_reducible refine (HRI.out _ HB0.out).mono ?_); rintro e w1 ⟨rfl, hb⟩; have HB := Lib.hid (HB0.out.trans (hb.mono HB0.out.size)); have HP1 := Lib.hid (HP0.out.below hb); clear hb p0 q0 pl; obtain ⟨⟨p0, q0, pl⟩, ⟨p1, q1, -⟩, ⟨p2, q2, -⟩, ⟨p3, q3, -⟩, ⟨p4, q4, -⟩, ⟨p5, q5, -⟩, ⟨p6, q6, -⟩⟩ := HP1.out)
      | (go_at_call 27; (with_reducible refine (HAL.out _ HB.out).mono ?_); rintro e w2 ⟨v, rfl, hv, hb⟩; obtain ⟨va, vc, hvv, hEE⟩ := hv.ents; subst hvv; have HE := Lib.hid hEE; replace HB := Lib.hid (HB.out.trans (hb.mono HB.out.size)); clear hb hv hEE))
    go_loopw [4, 17] (fun s i wx => ∃ k : Nat, k ≤ L.length ∧ i = .int .i64 k ∧ ∃ S : List UInt8, s = .string ⟨S.toArray⟩ ∧ Hid (S = bytesP L k ∧ Below w.heap.size w wx ∧ EntsAt wx va vc L)) (fun _ i _ => L.length - (intOf i).toNat)
    case atStart => exact ⟨0, by omega, rfl, [], rfl, Lib.hid ⟨rfl, HB.out, HE.out⟩⟩
    case round =>
      obtain ⟨k, hk, rfl, S, rfl, HQ⟩ := hrel
      clear HE HB
      by_cases hlt : k < L.length
      · have dk : decide ((k : Int) < (L.length : Int)) = true := decide_eq_true (by omega)
        obtain ⟨g, o, rfl, hg, c0, c1, c2⟩ := HQ.out.2.2.at_ k hlt
        have el : ((k : Int) == (L.length : Int) - 1) = decide (k + 1 = L.length) := by rw [Bool.eq_iff_iff, beq_iff_eq, decide_eq_true_eq]; omega
        have hP := HCP.out k hlt (decide (k + 1 = L.length))
        have hN := HN.out k hlt
        have hSl : S.length ≤ 70 := by rw [HQ.out.1, HLN.out k hk]; omega
        generalize decide (k + 1 = L.length) = la at *
        generalize L[k] = d at *
        obtain ⟨db, dn, dm⟩ := d
        simp only at c0 c1 c2 hP hN
        generalize hput : putD db.data.toList dn.toNat dm la = P at *
        have hPl : P.length = 7 := by rw [← hput]; exact put_len _ _ _ _
        have b1 := fun (w : World) => run_string_add_sum (P := Tryd.prog) (w := w) ⟨S.toArray⟩ ⟨P.toArray⟩ (by show S.toArray.size + P.toArray.size ≤ _; simp; omega)
        rw [show ((⟨S.toArray⟩ : ByteArray) ++ ⟨P.toArray⟩) = ⟨(S ++ P).toArray⟩ from bytes_ext' (by simp [ByteArray.data_append])] at b1
        have HPP := Lib.hid hP
        have HN2 := Lib.hid hN
        obtain ⟨S', hS'⟩ : ∃ S', S' = S ++ P := ⟨_, rfl⟩
        rw [← hS'] at b1
        have HS' := Lib.hid hS'
        have HB := Lib.hid (HQ.out.2.1.alloc HQ.out.2.1.size (.cells #[.string db, .int .i64 dn, .bool dm] 55))
        have HE := Lib.hid (HQ.out.2.2.alloc (.cells #[.string db, .int .i64 dn, .bool dm] 55))
        clear hP hN hput hS' hPl
        go_wp2_with (go_at_call 32; (with_reducible refine (HPP.out _).mono ?_); rintro e w3 ⟨rfl, hb⟩; replace HB := Lib.hid (HB.out.trans (hb.mono HB.out.size)); replace HE := Lib.hid (HE.out.below hb); clear hb)
        go_roundw
        case rel => exact ⟨k + 1, by omega, by go_num, S', rfl, Lib.hid ⟨by rw [HS'.out, HN2.out, ← HQ.out.1], HB.out, HE.out⟩⟩
        case measure => simp [intOf]; omega
      · obtain rfl : k = L.length := by omega
        have dk : decide ((L.length : Int) < (L.length : Int)) = false := decide_eq_false (by omega)
        have hS : S = R := by rw [HRR.out, HQ.out.1]
        subst hS
        go_wp2
        exact bodyPost_ret (v := .tuple #[.string ⟨S.toArray⟩, .int .i64 0]) (by simp [results, Tryd.results17, go_sem]) rfl ⟨rfl, HQ.out.2.1⟩
end Go.Proofs.YtmgfpnemamedoaaDoor
namespace Go.Proofs.YtmgfpnemamedoaaDoor
open Go.RowKit
set_option maxRecDepth 20000
theorem u8n (N : Nat) (h : N < 256) : (N : Int) = (((UInt8.ofNat N).toNat : Nat) : Int) := by
  have e : (UInt8.ofNat N).toNat = N % 256 := rfl
  omega
theorem OwnB.conv1 (w : World) (n : Nat) (F : Int) (N : Nat) (hF : F = (N : Int)) (hN : N < 256) (hn : n = w.heap.size) :
    (convert 61 9 (.slice (some ⟨n, 0, none⟩) 1 1)).run Tryd.prog (w.alloc (.cells #[.int .u8 F] 5)) = .ok (.string ⟨#[UInt8.ofNat N]⟩) (w.alloc (.cells #[.int .u8 F] 5)) :=
  OwnB.text (OwnB.start w 0 n F (UInt8.ofNat N) (hF.trans (u8n N hN)) hn (by omega)) rfl
theorem OwnB.conv2 (w : World) (n : Nat) (F G : Int) (N M : Nat) (hF : F = (N : Int)) (hN : N < 256) (hG : G = (M : Int)) (hM : M < 256) (hn : n = w.heap.size) :
    (convert 61 9 (.slice (some ⟨n, 0, none⟩) 2 2)).run Tryd.prog (w.alloc (.cells #[.int .u8 F, .int .u8 G] 5)) = .ok (.string ⟨#[UInt8.ofNat N, UInt8.ofNat M]⟩) (w.alloc (.cells #[.int .u8 F, .int .u8 G] 5)) := by
  subst hn
  have h := World.ownsRow_lit (base := 0) (e := 5) (size := 1) w #[.int .u8 F, .int .u8 G] 2 (by omega) (by decide) rfl
  rw [hF, hG, u8n N hN, u8n M hM] at h ⊢
  exact OwnB.text (l := [UInt8.ofNat N, UInt8.ofNat M]) (B := 0) h rfl
set_option maxHeartbeats 1000000 in
theorem cput_one (k nr ns : Nat) (pf wide : Bool) (w : World) (hC : CodesOk w) (hr : rightC k nr ns wide = true) (hk : k < 15) (hnr : nr < 8) (hns : ns < 128) (hw : (wide && hasD k) = false) :
    Calls Tryd.prog 18 #[.agg #[.int .i64 (k : Int), .int .i64 (nr : Int), .int .i64 (ns : Int), .bool pf], .bool wide] w fun e w' => e = .returned (.tuple #[.string ⟨#[UInt8.ofNat (oneN k nr ns pf)]⟩, .int .i64 0]) ∧ Below w.heap.size w w' := by
  have hR := fun W => ccright_any k nr ns pf wide W
  rw [hr] at hR
  have HR := Lib.hid hR
  have HB := Lib.hid (fun b W => bit_any pf b W)
  have HN := Lib.hid (fun W => hasNr_any k W)
  have HB0 := Lib.hid ((Below.refl _ w).alloc (Nat.le_refl _) (.cells #[.int .i64 (k : Int), .int .i64 (nr : Int), .int .i64 (ns : Int), .bool pf] 37))
  have HA := Lib.hid (C4.new w w.heap.size rfl (.int .i64 (k : Int)) (.int .i64 (nr : Int)) (.int .i64 (ns : Int)) (.bool pf) 37)
  have hcc := fun W (hb : Below w.heap.size w W) => (hC.below hb).at_ k hk
  have HCC := Lib.hid hcc
  have hi : (k : Int) < 15 := by omega
  have HO := Lib.hid (one_bits k nr ns pf hk hnr hns)
  generalize oneN k nr ns pf = O at *
  generalize codeD k = C at *
  generalize hasD k = H at *
  clear hR hr hcc
  have key : ∀ x : Int, x = (if pf then 16 else 0) → bits BinOp.or .u8 (bits BinOp.or .u8 C ((ns : Int) * 2)) (bits BinOp.or .u8 ((nr : Int) * 32) x) = (O : Int) := fun x hx => by rw [hx]; exact HO.out.1
  have KEY := Lib.hid key
  have HO2 := Lib.hid HO.out.2
  clear key HO
  cases wide
  · go_enter Tryd.func18, Tryd.ntmps18
    go_wp2_with (go_at_call 29; (with_reducible refine (HR.out _).mono ?_); rintro e w1 ⟨rfl, hb⟩; have HB1 := Lib.hid (HB0.out.trans (hb.mono HB0.out.size)); have HA1 := Lib.hid (HA.out.below hb); have hcc := HCC.out _ HB1.out; obtain ⟨c0, c1, c2, c3, -, -, -, -, cl⟩ := HA1.out; clear hb)
    clear HR HA HCC HB0 HN
    go_quiet (fail)
    go_wp2
    have HA2 := Lib.hid (HA1.out.drewN nq)
    have HB2 := Lib.hid (show Below w.heap.size w (w1.drewN nq) from ⟨HB1.out.os, HB1.out.tape, HB1.out.output, HB1.out.size, HB1.out.block⟩)
    clear c0 c1 c2 c3 cl hcc HB1 HA1
    generalize w1.drewN nq = w2 at *
    obtain ⟨c0, c1, c2, c3, -, -, -, -, cl⟩ := HA2.out
    cases pf
    all_goals
      go_quiet ((go_at_call 34; exact Calls.quiet_of_same (HB.out _ _)))
      have hcv := OwnB.conv1 (w2.drewN nq) w2.heap.size _ O (KEY.out _ rfl) HO2.out rfl
      simp only [if_true, if_false, Bool.false_eq_true] at hcv
      have HB3 := Lib.hid (show Below w.heap.size w (w2.drewN nq) from ⟨HB2.out.os, HB2.out.tape, HB2.out.output, HB2.out.size, HB2.out.block⟩)
      go_wp2
      go_ret2
      exact ⟨rfl, HB3.out.alloc HB3.out.size _⟩
  · cases H
    · go_enter Tryd.func18, Tryd.ntmps18
      go_wp2_with (go_at_call 29; (with_reducible refine (HR.out _).mono ?_); rintro e w1 ⟨rfl, hb⟩; have HB1 := Lib.hid (HB0.out.trans (hb.mono HB0.out.size)); have HA1 := Lib.hid (HA.out.below hb); have hcc := HCC.out _ HB1.out; obtain ⟨c0, c1, c2, c3, -, -, -, -, cl⟩ := HA1.out; clear hb)
      clear HR HA HCC HB0
      go_quiet (fail)
      have HA2 := Lib.hid (HA1.out.drewN nq)
      have HB2 := Lib.hid (show Below w.heap.size w (w1.drewN nq) from ⟨HB1.out.os, HB1.out.tape, HB1.out.output, HB1.out.size, HB1.out.block⟩)
      clear c0 c1 c2 c3 cl hcc HB1 HA1
      generalize w1.drewN nq = w2 at *
      obtain ⟨c0, c1, c2, c3, -, -, -, -, cl⟩ := HA2.out
      go_wp2_with (go_at_call 33; (with_reducible refine (HN.out _).mono ?_); rintro e w3 ⟨rfl, rfl⟩)
      cases pf
      all_goals
        go_quiet ((go_at_call 34; exact Calls.quiet_of_same (HB.out _ _)))
        have hcv := OwnB.conv1 (w3.drewN nq) w3.heap.size _ O (KEY.out _ rfl) HO2.out rfl
        simp only [if_true, if_false, Bool.false_eq_true] at hcv
        have HB3 := Lib.hid (show Below w.heap.size w (w3.drewN nq) from ⟨HB2.out.os, HB2.out.tape, HB2.out.output, HB2.out.size, HB2.out.block⟩)
        go_wp2
        go_ret2
        exact ⟨rfl, HB3.out.alloc HB3.out.size _⟩
    · exact absurd hw (by simp)
set_option maxHeartbeats 1000000 in
theorem cput_two (k nr ns : Nat) (pf : Bool) (w : World) (hC : CodesOk w) (hr : rightC k nr ns true = true) (hk : k < 15) (hnr : nr < 128) (hns : ns < 128) (hw : hasD k = true) :
    Calls Tryd.prog 18 #[.agg #[.int .i64 (k : Int), .int .i64 (nr : Int), .int .i64 (ns : Int), .bool pf], .bool true] w fun e w' => e = .returned (.tuple #[.string ⟨#[UInt8.ofNat (firN k ns), UInt8.ofNat (secN nr pf)]⟩, .int .i64 0]) ∧ Below w.heap.size w w' := by
  have hR := fun W => ccright_any k nr ns pf true W
  rw [hr] at hR
  have HR := Lib.hid hR
  have HB := Lib.hid (fun b W => bit_any pf b W)
  have hN := fun W => hasNr_any k W
  rw [hw] at hN
  have HN := Lib.hid hN
  have HB0 := Lib.hid ((Below.refl _ w).alloc (Nat.le_refl _) (.cells #[.int .i64 (k : Int), .int .i64 (nr : Int), .int .i64 (ns : Int), .bool pf] 37))
  have HA := Lib.hid (C4.new w w.heap.size rfl (.int .i64 (k : Int)) (.int .i64 (nr : Int)) (.int .i64 (ns : Int)) (.bool pf) 37)
  have hcc := fun W (hb : Below w.heap.size w W) => (hC.below hb).at_ k hk
  have HCC := Lib.hid hcc
  have hi : (k : Int) < 15 := by omega
  have HO := Lib.hid (fir_bits k ns hk hns)
  have HQ := Lib.hid (sec_bits nr pf hnr)
  generalize firN k ns = O at *
  generalize secN nr pf = S at *
  generalize codeD k = C at *
  clear hR hr hcc hN hw
  have key : ∀ x : Int, x = (if pf then 1 else 0) → bits BinOp.or .u8 ((nr : Int) * 2) x = (S : Int) := fun x hx => by rw [hx]; exact HQ.out.1
  have KEY := Lib.hid key
  have HQ2 := Lib.hid HQ.out.2
  clear key HQ
  go_enter Tryd.func18, Tryd.ntmps18
  go_wp2_with (go_at_call 29; (with_reducible refine (HR.out _).mono ?_); rintro e w1 ⟨rfl, hb⟩; have HB1 := Lib.hid (HB0.out.trans (hb.mono HB0.out.size)); have HA1 := Lib.hid (HA.out.below hb); have hcc := HCC.out _ HB1.out; obtain ⟨c0, c1, c2, c3, -, -, -, -, cl⟩ := HA1.out; clear hb)
  clear HR HA HCC HB0
  go_quiet (fail)
  have HA2 := Lib.hid (HA1.out.drewN nq)
  have HB2 := Lib.hid (show Below w.heap.size w (w1.drewN nq) from ⟨HB1.out.os, HB1.out.tape, HB1.out.output, HB1.out.size, HB1.out.block⟩)
  clear c0 c1 c2 c3 cl hcc HB1 HA1
  generalize w1.drewN nq = w2 at *
  obtain ⟨c0, c1, c2, c3, -, -, -, -, cl⟩ := HA2.out
  go_wp2_with (go_at_call 33; (with_reducible refine (HN.out _).mono ?_); rintro e w3 ⟨rfl, rfl⟩)
  cases pf
  all_goals
    go_quiet ((go_at_call 34; exact Calls.quiet_of_same (HB.out _ _)))
    have hcv := OwnB.conv2 (w3.drewN nq) w3.heap.size _ _ O S HO.out.1 HO.out.2 (KEY.out _ rfl) HQ2.out rfl
    simp only [if_true, if_false, Bool.false_eq_true] at hcv
    have HB3 := Lib.hid (show Below w.heap.size w (w3.drewN nq) from ⟨HB2.out.os, HB2.out.tape, HB2.out.output, HB2.out.size, HB2.out.block⟩)
    go_wp2
    go_ret2
    exact ⟨rfl, HB3.out.alloc HB3.out.size _⟩
theorem cput_none (k nr ns : Int) (pf wide : Bool) (w : World) (hr : rightC k nr ns wide = false) :
    Calls Tryd.prog 18 #[.agg #[.int .i64 k, .int .i64 nr, .int .i64 ns, .bool pf], .bool wide] w fun e w' => e = .returned (.tuple #[.string ⟨#[]⟩, .int .i64 1]) ∧ Below w.heap.size w w' := by
  have hR := fun W => ccright_any k nr ns pf wide W
  rw [hr] at hR
  have HR := Lib.hid hR
  have HB0 := Lib.hid ((Below.refl _ w).alloc (Nat.le_refl _) (.cells #[.int .i64 k, .int .i64 nr, .int .i64 ns, .bool pf] 37))
  clear hR hr
  go_enter Tryd.func18, Tryd.ntmps18
  go_wp2_with (go_at_call 29; (with_reducible refine (HR.out _).mono ?_); rintro e w1 ⟨rfl, hb⟩; have HB1 := Lib.hid (HB0.out.trans (hb.mono HB0.out.size)); clear hb)
  go_ret2
  exact ⟨rfl, HB1.out⟩
/-- what Put answers -/
def cputE (k nr ns : Int) (pf wide : Bool) : Value := if rightC k nr ns wide then .tuple #[.string ⟨(putB k.toNat nr.toNat ns.toNat pf wide).toArray⟩, .int .i64 0] else .tuple #[.string ⟨#[]⟩, .int .i64 1]
theorem ctlput_any (k nr ns : Int) (pf wide : Bool) (w : World) (hC : CodesOk w) :
    Calls Tryd.prog 18 #[.agg #[.int .i64 k, .int .i64 nr, .int .i64 ns, .bool pf], .bool wide] w fun e w' => e = .returned (cputE k nr ns pf wide) ∧ Below w.heap.size w w' := by
  unfold cputE
  cases hr : rightC k nr ns wide
  · exact cput_none k nr ns pf wide w hr
  · obtain ⟨K, R, S, rfl, rfl, rfl, h1, h2, h3, h4, h5, h6, h7⟩ := rightC_facts hr
    rw [if_pos rfl]
    simp only [Int.toNat_natCast]
    unfold putB
    cases wide
    · rw [if_neg (by simp)]
      exact cput_one K R S pf false w hC hr h2 (h5 rfl).1 h7 rfl
    · cases hh : hasD K
      · rw [if_neg (by simp)]
        exact cput_one K R S pf true w hC hr h2 (by have := h3 hh; omega) h7 (by rw [hh]; rfl)
      · rw [if_pos (by simp)]
        exact cput_two K R S pf w hC hr h2 h6 h7 hh
end Go.Proofs.YtmgfpnemamedoaaDoor
