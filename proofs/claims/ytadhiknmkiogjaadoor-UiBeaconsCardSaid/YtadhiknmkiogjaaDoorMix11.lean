/-
The landed code's look at a frame: its number, its information, what is wrong with it, whether it is right.
The landed code's Put of paths.
-/
import Derived.Test.YtadhiknmkiogjaaDoorMix04
import Derived.Test.YtadhiknmkiogjaaDoorMix10
import Derived.Test.YtadhiknmkiogjaaDoorCtlBase
import Derived.Lib.SmallJoins
import Derived.Lib.ItoaNum
import Derived.Lib.QuietBelow
import Derived.Lib.IndexBytes
import Derived.IntWalk
namespace Go.Proofs.YtadhiknmkiogjaaDoor
open Go.RowKit Go.Sort
set_option maxRecDepth 20000
theorem txt_some (b : ByteArray) (h : b.size ≠ 0) : b.toList.isEmpty = false := by
  rw [ByteArray.toList_eq]
  cases he : b.data.toList with
  | nil => exact absurd (by have : b.size = b.data.toList.length := by simp
                            rw [this, he]; rfl) h
  | cons x t => rfl
theorem txt_none (b : ByteArray) (h : b.size = 0) : b = ⟨#[]⟩ := by
  apply bytes_ext'
  have : b.data.toList.length = 0 := by simpa using h
  exact List.length_eq_zero_iff.1 this
set_option maxHeartbeats 1000000 in
theorem pidright_any (tb fb : ByteArray) (tn fn : Int) (tm fm : Bool) (a : Option Addr) (n cap : Nat) (k nr ns : Int) (pf : Bool) (pid : Int) (info : ByteArray) (w : World) :
    Calls Tryd.prog 51 #[.agg #[.string tb, .int .i64 tn, .string fb, .int .i64 fn, .bool tm, .bool fm, .slice a n cap, .int .i64 k, .int .i64 nr, .int .i64 ns, .bool pf, .int .i64 pid, .string info]] w fun e w' => e = .returned (.bool (pidOk k pid)) ∧ Below w.heap.size w w' := by
  have HB0 := Lib.hid ((Below.refl _ w).alloc (Nat.le_refl _) (.cells #[.string tb, .int .i64 tn, .string fb, .int .i64 fn, .bool tm, .bool fm, .slice a n cap, .int .i64 k, .int .i64 nr, .int .i64 ns, .bool pf, .int .i64 pid, .string info] 65))
  have hp := fun W => pid_any k W
  unfold pidOk
  cases h : pidD k
  · rw [h] at hp
    have HP := Lib.hid hp
    clear hp h
    go_enter Tryd.func51, Tryd.ntmps51
    go_wp2_with (go_at_call 34; (with_reducible refine (HP.out _).mono ?_); rintro e w1 ⟨rfl, rfl⟩)
    go_ret
    exact ⟨rfl, HB0.out⟩
  · rw [h] at hp
    have HP := Lib.hid hp
    clear hp h
    by_cases h0 : 0 ≤ pid
    · have d0 : decide (0 ≤ pid) = true := decide_eq_true h0
      by_cases h1 : pid ≤ 255
      · have d1 : decide (pid ≤ 255) = true := decide_eq_true h1
        go_enter Tryd.func51, Tryd.ntmps51
        go_wp2_with (go_at_call 34; (with_reducible refine (HP.out _).mono ?_); rintro e w1 ⟨rfl, rfl⟩)
        go_ret
        exact ⟨by first | rfl | (rw [d0, d1]; rfl), HB0.out⟩
      · have d1 : decide (pid ≤ 255) = false := decide_eq_false h1
        go_enter Tryd.func51, Tryd.ntmps51
        go_wp2_with (go_at_call 34; (with_reducible refine (HP.out _).mono ?_); rintro e w1 ⟨rfl, rfl⟩)
        go_ret
        exact ⟨by first | rfl | (rw [d0, d1]; rfl), HB0.out⟩
    · have d0 : decide (0 ≤ pid) = false := decide_eq_false h0
      go_enter Tryd.func51, Tryd.ntmps51
      go_wp2_with (go_at_call 34; (with_reducible refine (HP.out _).mono ?_); rintro e w1 ⟨rfl, rfl⟩)
      go_ret
      exact ⟨by first | rfl | (rw [d0]; rfl), HB0.out⟩
set_option maxHeartbeats 1000000 in
theorem inffault_any (tb fb : ByteArray) (tn fn : Int) (tm fm : Bool) (a : Option Addr) (n cap : Nat) (k nr ns : Int) (pf : Bool) (pid : Int) (info : ByteArray) (w : World) :
    Calls Tryd.prog 43 #[.agg #[.string tb, .int .i64 tn, .string fb, .int .i64 fn, .bool tm, .bool fm, .slice a n cap, .int .i64 k, .int .i64 nr, .int .i64 ns, .bool pf, .int .i64 pid, .string info]] w fun e w' => e = .returned (.int .i64 (infE k info.size : Nat)) ∧ Below w.heap.size w w' := by
  unfold infE
  by_cases h0 : info.size = 0
  · rw [if_pos h0]
    obtain rfl := txt_none info h0
    have HB0 := Lib.hid ((Below.refl _ w).alloc (Nat.le_refl _) (.cells #[.string tb, .int .i64 tn, .string fb, .int .i64 fn, .bool tm, .bool fm, .slice a n cap, .int .i64 k, .int .i64 nr, .int .i64 ns, .bool pf, .int .i64 pid, .string ⟨#[]⟩] 65))
    go_enter Tryd.func43, Tryd.ntmps43
    go_wp2_with fail
    go_ret
    exact ⟨rfl, HB0.out⟩
  · rw [if_neg h0]
    have HB0 := Lib.hid ((Below.refl _ w).alloc (Nat.le_refl _) (.cells #[.string tb, .int .i64 tn, .string fb, .int .i64 fn, .bool tm, .bool fm, .slice a n cap, .int .i64 k, .int .i64 nr, .int .i64 ns, .bool pf, .int .i64 pid, .string info] 65))
    have hi := fun W => info_any k W
    have he := txt_some info h0
    cases h : infoC k
    · rw [h] at hi
      have HI := Lib.hid hi
      clear hi h
      go_enter Tryd.func43, Tryd.ntmps43
      go_wp2_with (go_at_call 60; (with_reducible refine (HI.out _).mono ?_); rintro e w1 ⟨rfl, rfl⟩)
      go_ret
      exact ⟨rfl, HB0.out⟩
    · rw [h] at hi
      have HI := Lib.hid hi
      clear hi h
      by_cases h2 : 256 < info.size
      · have d2 : decide ((256 : Int) < (info.size : Int)) = true := decide_eq_true (by omega)
        rw [if_pos rfl, if_pos h2]
        go_enter Tryd.func43, Tryd.ntmps43
        go_wp2_with (go_at_call 60; (with_reducible refine (HI.out _).mono ?_); rintro e w1 ⟨rfl, rfl⟩)
        go_ret
        exact ⟨rfl, HB0.out⟩
      · have d2 : decide ((256 : Int) < (info.size : Int)) = false := decide_eq_false (by omega)
        rw [if_pos rfl, if_neg h2]
        go_enter Tryd.func43, Tryd.ntmps43
        go_wp2_with (go_at_call 60; (with_reducible refine (HI.out _).mono ?_); rintro e w1 ⟨rfl, rfl⟩)
        go_ret
        exact ⟨rfl, HB0.out⟩
set_option maxHeartbeats 1000000 in
theorem fault_any (tb fb : ByteArray) (tn fn : Int) (tm fm : Bool) (a : Option Addr) (cap : Nat) (D : List Ent) (k nr ns : Int) (pf : Bool) (pid : Int) (info : ByteArray) (wide : Bool) (w : World) (hD : D.length ≤ 1000) (hE : EntsAt w a cap D) :
    Calls Tryd.prog 31 #[.agg #[.string tb, .int .i64 tn, .string fb, .int .i64 fn, .bool tm, .bool fm, .slice a D.length cap, .int .i64 k, .int .i64 nr, .int .i64 ns, .bool pf, .int .i64 pid, .string info], .bool wide] w fun e w' => e = .returned (.int .i64 (wrongF ((tb, tn, tm) :: (fb, fn, fm) :: D) k nr ns wide pid info.size : Nat)) ∧ Below w.heap.size w w' := by
  have HB0 := Lib.hid ((Below.refl _ w).alloc (Nat.le_refl _) (.cells #[.string tb, .int .i64 tn, .string fb, .int .i64 fn, .bool tm, .bool fm, .slice a D.length cap, .int .i64 k, .int .i64 nr, .int .i64 ns, .bool pf, .int .i64 pid, .string info] 65))
  have HF0 := Lib.hid (F13.new w w.heap.size rfl (.string tb) (.int .i64 tn) (.string fb) (.int .i64 fn) (.bool tm) (.bool fm) (.slice a D.length cap) (.int .i64 k) (.int .i64 nr) (.int .i64 ns) (.bool pf) (.int .i64 pid) (.string info) 65)
  have hpr := fun W (h : Below w.heap.size w W) => pright_any tb fb tn fn tm fm a cap D W hD (hE.below h)
  have hcr := fun W => ccright_any k nr ns pf wide W
  have hpo := fun W => pidright_any tb fb tn fn tm fm a D.length cap k nr ns pf pid info W
  have HIN := Lib.hid (fun W => inffault_any tb fb tn fn tm fm a D.length cap k nr ns pf pid info W)
  have h1 := @wrong_path ((tb, tn, tm) :: (fb, fn, fm) :: D) k nr ns wide pid info.size
  have h2 := @wrong_arg ((tb, tn, tm) :: (fb, fn, fm) :: D) k nr ns wide pid info.size
  have h3 := @wrong_info ((tb, tn, tm) :: (fb, fn, fm) :: D) k nr ns wide pid info.size
  generalize wrongF ((tb, tn, tm) :: (fb, fn, fm) :: D) k nr ns wide pid info.size = G at *
  generalize rightP ((tb, tn, tm) :: (fb, fn, fm) :: D) = R at *
  generalize rightC k nr ns wide = C at *
  generalize pidOk k pid = O at *
  generalize infE k info.size = I at *
  cases R
  · obtain rfl := h1 rfl
    have HPR := Lib.hid hpr
    clear hpr hcr hpo h1 h2 h3 hE
    go_enter Tryd.func31, Tryd.ntmps31
    go_wp2_with (first
      | (go_at_call 30; (with_reducible refine (HPR.out _ HB0.out).mono ?_); rintro e w1 ⟨rfl, hb⟩; have HB := Lib.hid (HB0.out.trans (hb.mono HB0.out.size)); have HF := Lib.hid (HF0.out.below hb); clear hb; obtain ⟨⟨p0, -, pl⟩, ⟨p1, -, -⟩, ⟨p2, -, -⟩, ⟨p3, -, -⟩, ⟨p4, -, -⟩, ⟨p5, -, -⟩, ⟨p6, -, -⟩, ⟨p7, -, -⟩, ⟨p8, -, -⟩, ⟨p9, -, -⟩, ⟨p10, -, -⟩, ⟨p11, -, -⟩, ⟨p12, -, -⟩⟩ := HF.out))
    go_ret
    exact ⟨rfl, HB.out⟩
  · have HPR := Lib.hid hpr
    have HCR := Lib.hid hcr
    have HPO := Lib.hid hpo
    clear hpr hcr hpo hE
    cases C
    · obtain rfl := h2 rfl rfl
      clear h1 h2 h3
      go_enter Tryd.func31, Tryd.ntmps31
      go_wp2_with (first
        | (go_at_call 30; (with_reducible refine (HPR.out _ HB0.out).mono ?_); rintro e w1 ⟨rfl, hb⟩; have HB := Lib.hid (HB0.out.trans (hb.mono HB0.out.size)); have HF := Lib.hid (HF0.out.below hb); clear hb; obtain ⟨⟨p0, -, pl⟩, ⟨p1, -, -⟩, ⟨p2, -, -⟩, ⟨p3, -, -⟩, ⟨p4, -, -⟩, ⟨p5, -, -⟩, ⟨p6, -, -⟩, ⟨p7, -, -⟩, ⟨p8, -, -⟩, ⟨p9, -, -⟩, ⟨p10, -, -⟩, ⟨p11, -, -⟩, ⟨p12, -, -⟩⟩ := HF.out)
        | (go_at_call 50; (with_reducible refine (HCR.out _).mono ?_); rintro e w2 ⟨rfl, hb⟩; replace HB := Lib.hid (HB.out.trans (hb.mono HB.out.size)); replace HF := Lib.hid (HF.out.below hb); clear hb; clear p0 pl p1 p2 p3 p4 p5 p6 p7 p8 p9 p10 p11 p12; obtain ⟨⟨p0, -, pl⟩, ⟨p1, -, -⟩, ⟨p2, -, -⟩, ⟨p3, -, -⟩, ⟨p4, -, -⟩, ⟨p5, -, -⟩, ⟨p6, -, -⟩, ⟨p7, -, -⟩, ⟨p8, -, -⟩, ⟨p9, -, -⟩, ⟨p10, -, -⟩, ⟨p11, -, -⟩, ⟨p12, -, -⟩⟩ := HF.out))
      go_ret
      exact ⟨rfl, HB.out⟩
    · cases O
      · obtain rfl := h2 rfl rfl
        clear h1 h2 h3
        go_enter Tryd.func31, Tryd.ntmps31
        go_wp2_with (first
          | (go_at_call 30; (with_reducible refine (HPR.out _ HB0.out).mono ?_); rintro e w1 ⟨rfl, hb⟩; have HB := Lib.hid (HB0.out.trans (hb.mono HB0.out.size)); have HF := Lib.hid (HF0.out.below hb); clear hb; obtain ⟨⟨p0, -, pl⟩, ⟨p1, -, -⟩, ⟨p2, -, -⟩, ⟨p3, -, -⟩, ⟨p4, -, -⟩, ⟨p5, -, -⟩, ⟨p6, -, -⟩, ⟨p7, -, -⟩, ⟨p8, -, -⟩, ⟨p9, -, -⟩, ⟨p10, -, -⟩, ⟨p11, -, -⟩, ⟨p12, -, -⟩⟩ := HF.out)
          | (go_at_call 50; (with_reducible refine (HCR.out _).mono ?_); rintro e w2 ⟨rfl, hb⟩; replace HB := Lib.hid (HB.out.trans (hb.mono HB.out.size)); replace HF := Lib.hid (HF.out.below hb); clear hb; clear p0 pl p1 p2 p3 p4 p5 p6 p7 p8 p9 p10 p11 p12; obtain ⟨⟨p0, -, pl⟩, ⟨p1, -, -⟩, ⟨p2, -, -⟩, ⟨p3, -, -⟩, ⟨p4, -, -⟩, ⟨p5, -, -⟩, ⟨p6, -, -⟩, ⟨p7, -, -⟩, ⟨p8, -, -⟩, ⟨p9, -, -⟩, ⟨p10, -, -⟩, ⟨p11, -, -⟩, ⟨p12, -, -⟩⟩ := HF.out)
          | (go_at_call 51; (with_reducible refine (HPO.out _).mono ?_); rintro e w3 ⟨rfl, hb⟩; replace HB := Lib.hid (HB.out.trans (hb.mono HB.out.size)); replace HF := Lib.hid (HF.out.below hb); clear hb; clear p0 pl p1 p2 p3 p4 p5 p6 p7 p8 p9 p10 p11 p12; obtain ⟨⟨p0, -, pl⟩, ⟨p1, -, -⟩, ⟨p2, -, -⟩, ⟨p3, -, -⟩, ⟨p4, -, -⟩, ⟨p5, -, -⟩, ⟨p6, -, -⟩, ⟨p7, -, -⟩, ⟨p8, -, -⟩, ⟨p9, -, -⟩, ⟨p10, -, -⟩, ⟨p11, -, -⟩, ⟨p12, -, -⟩⟩ := HF.out))
        go_ret
        exact ⟨rfl, HB.out⟩
      · obtain rfl := h3 rfl rfl
        clear h1 h2 h3
        go_enter Tryd.func31, Tryd.ntmps31
        go_wp2_with (first
          | (go_at_call 30; (with_reducible refine (HPR.out _ HB0.out).mono ?_); rintro e w1 ⟨rfl, hb⟩; have HB := Lib.hid (HB0.out.trans (hb.mono HB0.out.size)); have HF := Lib.hid (HF0.out.below hb); clear hb; obtain ⟨⟨p0, -, pl⟩, ⟨p1, -, -⟩, ⟨p2, -, -⟩, ⟨p3, -, -⟩, ⟨p4, -, -⟩, ⟨p5, -, -⟩, ⟨p6, -, -⟩, ⟨p7, -, -⟩, ⟨p8, -, -⟩, ⟨p9, -, -⟩, ⟨p10, -, -⟩, ⟨p11, -, -⟩, ⟨p12, -, -⟩⟩ := HF.out)
          | (go_at_call 50; (with_reducible refine (HCR.out _).mono ?_); rintro e w2 ⟨rfl, hb⟩; replace HB := Lib.hid (HB.out.trans (hb.mono HB.out.size)); replace HF := Lib.hid (HF.out.below hb); clear hb; clear p0 pl p1 p2 p3 p4 p5 p6 p7 p8 p9 p10 p11 p12; obtain ⟨⟨p0, -, pl⟩, ⟨p1, -, -⟩, ⟨p2, -, -⟩, ⟨p3, -, -⟩, ⟨p4, -, -⟩, ⟨p5, -, -⟩, ⟨p6, -, -⟩, ⟨p7, -, -⟩, ⟨p8, -, -⟩, ⟨p9, -, -⟩, ⟨p10, -, -⟩, ⟨p11, -, -⟩, ⟨p12, -, -⟩⟩ := HF.out)
          | (go_at_call 51; (with_reducible refine (HPO.out _).mono ?_); rintro e w3 ⟨rfl, hb⟩; replace HB := Lib.hid (HB.out.trans (hb.mono HB.out.size)); replace HF := Lib.hid (HF.out.below hb); clear hb; clear p0 pl p1 p2 p3 p4 p5 p6 p7 p8 p9 p10 p11 p12; obtain ⟨⟨p0, -, pl⟩, ⟨p1, -, -⟩, ⟨p2, -, -⟩, ⟨p3, -, -⟩, ⟨p4, -, -⟩, ⟨p5, -, -⟩, ⟨p6, -, -⟩, ⟨p7, -, -⟩, ⟨p8, -, -⟩, ⟨p9, -, -⟩, ⟨p10, -, -⟩, ⟨p11, -, -⟩, ⟨p12, -, -⟩⟩ := HF.out)
          | (go_at_call 43; (with_reducible refine (HIN.out _).mono ?_); rintro e w4 ⟨rfl, hb⟩; replace HB := Lib.hid (HB.out.trans (hb.mono HB.out.size)); clear hb))
        go_ret
        exact ⟨rfl, HB.out⟩
end Go.Proofs.YtadhiknmkiogjaaDoor
namespace Go.Proofs.YtadhiknmkiogjaaDoor
open Go.RowKit Go.Sort
set_option maxRecDepth 20000
/-- the bytes of the first k entries of L -/
def bytesP (L : List Ent) (k : Nat) : List UInt8 := (List.range k).flatMap fun i => match L[i]? with | some e => putD e.1.data.toList e.2.1.toNat e.2.2 (decide (i + 1 = L.length)) | none => []
theorem bytesP_next (L : List Ent) (k : Nat) (h : k < L.length) : bytesP L (k + 1) = bytesP L k ++ putD L[k].1.data.toList L[k].2.1.toNat L[k].2.2 (decide (k + 1 = L.length)) := by
  unfold bytesP
  rw [List.range_succ, List.flatMap_append, List.flatMap_singleton, List.getElem?_eq_getElem h]
/-- what Put answers -/
def pputE (L : List Ent) : Value := if rightP L then .tuple #[.string ⟨(bytesP L L.length).toArray⟩, .int .i64 0] else .tuple #[.string ⟨#[]⟩, .int .i64 11]
theorem bytesP_len' (L : List Ent) : ∀ k, k ≤ L.length → (bytesP L k).length = 7 * k
  | 0, _ => rfl
  | k + 1, h => by
    rw [bytesP_next L k (by omega), List.length_append, bytesP_len' L k (by omega), put_len]
    omega
set_option maxHeartbeats 2000000 in
theorem pput_any (tb fb : ByteArray) (tn fn : Int) (tm fm : Bool) (a : Option Addr) (cap : Nat) (D : List Ent) (w : World) (hD : D.length ≤ 1000) (hE : EntsAt w a cap D) :
    Calls Tryd.prog 32 #[.agg #[.string tb, .int .i64 tn, .string fb, .int .i64 fn, .bool tm, .bool fm, .slice a D.length cap]] w fun e w' => e = .returned (pputE ((tb, tn, tm) :: (fb, fn, fm) :: D)) ∧ Below w.heap.size w w' := by
  have HB0 := Lib.hid ((Below.refl _ w).alloc (Nat.le_refl _) (.cells #[.string tb, .int .i64 tn, .string fb, .int .i64 fn, .bool tm, .bool fm, .slice a D.length cap] 58))
  have HP0 := Lib.hid (P7.new w w.heap.size rfl (.string tb) (.int .i64 tn) (.string fb) (.int .i64 fn) (.bool tm) (.bool fm) (.slice a D.length cap) 58)
  have HRI := Lib.hid (fun W (h : Below w.heap.size w W) => pright_any tb fb tn fn tm fm a cap D W hD (hE.below h))
  have HAL := Lib.hid (fun W (h : Below w.heap.size w W) => all_any tb fb tn fn tm fm a cap D W hD (hE.below h))
  obtain ⟨L, hL⟩ : ∃ L, L = (tb, tn, tm) :: (fb, fn, fm) :: D := ⟨_, rfl⟩
  rw [← hL] at HRI HAL ⊢
  clear hE hL
  cases hr : rightP L
  · have HV := Lib.hid (show pputE L = .tuple #[.string ⟨#[]⟩, .int .i64 11] from by unfold pputE; rw [if_neg (by rw [hr]; simp)])
    rw [HV.out]
    rw [hr] at HRI
    go_enter Tryd.func32, Tryd.ntmps32
    go_wp2_with (go_at_call 30; (with_reducible refine (HRI.out _ HB0.out).mono ?_); rintro e w1 ⟨rfl, hb⟩; have HB := Lib.hid (HB0.out.trans (hb.mono HB0.out.size)); clear hb)
    exact bodyPost_ret (v := .tuple #[.string ⟨#[]⟩, .int .i64 11]) (by simp [results, Tryd.results32, go_sem]) rfl ⟨rfl, HB.out⟩
  · have HV := Lib.hid (show pputE L = .tuple #[.string ⟨(bytesP L L.length).toArray⟩, .int .i64 0] from by unfold pputE; rw [if_pos hr])
    rw [HV.out]
    rw [hr] at HRI
    have hll : 2 ≤ L.length ∧ L.length ≤ 10 ∧ ∀ e ∈ L, rightD e.1 e.2.1 = true := by
      unfold rightP at hr
      simp only [Bool.and_eq_true, decide_eq_true_eq] at hr
      exact ⟨hr.1.1.2, hr.1.2, List.all_eq_true.1 hr.1.1.1⟩
    obtain ⟨hl2, hl10, hall⟩ := hll
    have HCP := Lib.hid (show ∀ k (h : k < L.length) la W, Calls Tryd.prog 52 #[.agg #[.string L[k].1, .int .i64 L[k].2.1], .bool L[k].2.2, .bool la] W fun e w' => e = .returned (.tuple #[.string ⟨(putD L[k].1.data.toList L[k].2.1.toNat L[k].2.2 la).toArray⟩, .int .i64 0]) ∧ Below W.heap.size W w' from fun k h la W => by
      have hrk := hall _ (List.getElem_mem h)
      have q := cput_ok L[k].1 L[k].2.1 L[k].2.2 la W (by obtain ⟨_, h2, _⟩ := right_facts _ _ hrk; omega)
      unfold putE at q
      rw [if_pos hrk] at q
      exact q)
    have HN := Lib.hid (bytesP_next L)
    have HLN := Lib.hid (bytesP_len' L)
    obtain ⟨R, hR⟩ : ∃ R, R = bytesP L L.length := ⟨_, rfl⟩
    rw [← hR]
    have HRR := Lib.hid hR
    clear hall hr hR HV
    obtain ⟨p0, q0, pl⟩ := HP0.out.k0
    go_enter Tryd.func32, Tryd.ntmps32
    go_wp2_with (first
      | (go_at_call 30; (with_reducible refine (HRI.out _ HB0.out).mono ?_); rintro e w1 ⟨rfl, hb⟩; have HB := Lib.hid (HB0.out.trans (hb.mono HB0.out.size)); have HP1 := Lib.hid (HP0.out.below hb); clear hb p0 q0 pl; obtain ⟨⟨p0, q0, pl⟩, ⟨p1, q1, -⟩, ⟨p2, q2, -⟩, ⟨p3, q3, -⟩, ⟨p4, q4, -⟩, ⟨p5, q5, -⟩, ⟨p6, q6, -⟩⟩ := HP1.out)
      | (go_at_call 49; (with_reducible refine (HAL.out _ HB.out).mono ?_); rintro e w2 ⟨v, rfl, hv, hb⟩; obtain ⟨va, vc, hvv, hEE⟩ := hv.ents; subst hvv; have HE := Lib.hid hEE; replace HB := Lib.hid (HB.out.trans (hb.mono HB.out.size)); clear hb hv hEE))
    go_loopw [4, 17] (fun s i wx => ∃ k : Nat, k ≤ L.length ∧ i = .int .i64 k ∧ ∃ S : List UInt8, s = .string ⟨S.toArray⟩ ∧ Hid (S = bytesP L k ∧ Below w.heap.size w wx ∧ EntsAt wx va vc L)) (fun _ i _ => L.length - (intOf i).toNat)
    case atStart => exact ⟨0, by omega, rfl, [], rfl, Lib.hid ⟨rfl, HB.out, HE.out⟩⟩
    case round =>
      obtain ⟨k, hk, rfl, S, rfl, HQ⟩ := hrel
      clear HE HB
      by_cases hlt : k < L.length
      · have dk : decide ((k : Int) < (L.length : Int)) = true := decide_eq_true (by omega)
        obtain ⟨g, o, rfl, hg, c0, c1, c2⟩ := HQ.out.2.2.at_ k hlt
        have el : ((k : Int) == (L.length : Int) - 1) = decide (k + 1 = L.length) := by rw [Bool.eq_iff_iff, beq_iff_eq, decide_eq_true_eq]; omega
        have hP := HCP.out k hlt (decide (k + 1 = L.length))
        have hN := HN.out k hlt
        have hSl : S.length ≤ 70 := by rw [HQ.out.1, HLN.out k hk]; omega
        generalize decide (k + 1 = L.length) = la at *
        generalize L[k] = d at *
        obtain ⟨db, dn, dm⟩ := d
        simp only at c0 c1 c2 hP hN
        generalize hput : putD db.data.toList dn.toNat dm la = P at *
        have hPl : P.length = 7 := by rw [← hput]; exact put_len _ _ _ _
        have b1 := fun (w : World) => run_string_add_sum (P := Tryd.prog) (w := w) ⟨S.toArray⟩ ⟨P.toArray⟩ (by show S.toArray.size + P.toArray.size ≤ _; simp; omega)
        rw [show ((⟨S.toArray⟩ : ByteArray) ++ ⟨P.toArray⟩) = ⟨(S ++ P).toArray⟩ from bytes_ext' (by simp [ByteArray.data_append])] at b1
        have HPP := Lib.hid hP
        have HN2 := Lib.hid hN
        obtain ⟨S', hS'⟩ : ∃ S', S' = S ++ P := ⟨_, rfl⟩
        rw [← hS'] at b1
        have HS' := Lib.hid hS'
        have HB := Lib.hid (HQ.out.2.1.alloc HQ.out.2.1.size (.cells #[.string db, .int .i64 dn, .bool dm] 79))
        have HE := Lib.hid (HQ.out.2.2.alloc (.cells #[.string db, .int .i64 dn, .bool dm] 79))
        clear hP hN hput hS' hPl
        go_wp2_with (go_at_call 52; (with_reducible refine (HPP.out _).mono ?_); rintro e w3 ⟨rfl, hb⟩; replace HB := Lib.hid (HB.out.trans (hb.mono HB.out.size)); replace HE := Lib.hid (HE.out.below hb); clear hb)
        go_roundw
        case rel => exact ⟨k + 1, by omega, by go_num, S', rfl, Lib.hid ⟨by rw [HS'.out, HN2.out, ← HQ.out.1], HB.out, HE.out⟩⟩
        case measure => simp [intOf]; omega
      · obtain rfl : k = L.length := by omega
        have dk : decide ((L.length : Int) < (L.length : Int)) = false := decide_eq_false (by omega)
        have hS : S = R := by rw [HRR.out, HQ.out.1]
        subst hS
        go_wp2
        exact bodyPost_ret (v := .tuple #[.string ⟨S.toArray⟩, .int .i64 0]) (by simp [results, Tryd.results32, go_sem]) rfl ⟨rfl, HQ.out.2.1⟩
end Go.Proofs.YtadhiknmkiogjaaDoor
