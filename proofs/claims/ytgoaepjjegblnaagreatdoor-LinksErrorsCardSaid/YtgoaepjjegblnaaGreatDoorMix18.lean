/-
The landed code's look at a frame: its number, its information, what is wrong with it, whether it is right.
The landed code's Put of calls.
-/
import Derived.Test.YtgoaepjjegblnaaGreatDoorMix17
import Derived.Test.YtgoaepjjegblnaaGreatDoorMix03
import Derived.Test.YtgoaepjjegblnaaGreatDoorMix16
import Derived.Lib.SmallJoins
import Derived.Lib.ItoaNum
import Derived.Lib.QuietBelow
import Derived.Lib.IndexBytes
import Derived.IntWalk
namespace Go.Proofs.YtgoaepjjegblnaaGreatDoor
open Go.RowKit Go.Sort
set_option maxRecDepth 20000
theorem txt_some (b : ByteArray) (h : b.size ≠ 0) : b.toList.isEmpty = false := by
  rw [ByteArray.toList_eq]
  cases he : b.data.toList with
  | nil => exact absurd (by have : b.size = b.data.toList.length := by simp
                            rw [this, he]; rfl) h
  | cons x t => rfl
theorem txt_none (b : ByteArray) (h : b.size = 0) : b = ⟨#[]⟩ := by
  apply bytes_ext'
  have : b.data.toList.length = 0 := by simpa using h
  exact List.length_eq_zero_iff.1 this
set_option maxHeartbeats 1000000 in
theorem pidright_any (tb fb : ByteArray) (tn fn : Int) (tm fm : Bool) (a : Option Addr) (n cap : Nat) (k nr ns : Int) (pf : Bool) (pid : Int) (info : ByteArray) (w : World) :
    Calls Tryz.prog 159 #[.agg #[.string tb, .int .i64 tn, .string fb, .int .i64 fn, .bool tm, .bool fm, .slice a n cap, .int .i64 k, .int .i64 nr, .int .i64 ns, .bool pf, .int .i64 pid, .string info]] w fun e w' => e = .returned (.bool (pidOk k pid)) ∧ Below w.heap.size w w' := by
  have HB0 := Lib.hid ((Below.refl _ w).alloc (Nat.le_refl _) (.cells #[.string tb, .int .i64 tn, .string fb, .int .i64 fn, .bool tm, .bool fm, .slice a n cap, .int .i64 k, .int .i64 nr, .int .i64 ns, .bool pf, .int .i64 pid, .string info] 74))
  have hp := fun W => pid_any k W
  unfold pidOk
  cases h : pidD k
  · rw [h] at hp
    have HP := Lib.hid hp
    clear hp h
    go_enter Tryz.func159, Tryz.ntmps159
    go_wp2_with (go_at_call 102; (with_reducible refine (HP.out _).mono ?_); rintro e w1 ⟨rfl, rfl⟩)
    go_ret
    exact ⟨rfl, HB0.out⟩
  · rw [h] at hp
    have HP := Lib.hid hp
    clear hp h
    by_cases h0 : 0 ≤ pid
    · have d0 : decide (0 ≤ pid) = true := decide_eq_true h0
      by_cases h1 : pid ≤ 255
      · have d1 : decide (pid ≤ 255) = true := decide_eq_true h1
        go_enter Tryz.func159, Tryz.ntmps159
        go_wp2_with (go_at_call 102; (with_reducible refine (HP.out _).mono ?_); rintro e w1 ⟨rfl, rfl⟩)
        go_ret
        exact ⟨by first | rfl | (rw [d0, d1]; rfl), HB0.out⟩
      · have d1 : decide (pid ≤ 255) = false := decide_eq_false h1
        go_enter Tryz.func159, Tryz.ntmps159
        go_wp2_with (go_at_call 102; (with_reducible refine (HP.out _).mono ?_); rintro e w1 ⟨rfl, rfl⟩)
        go_ret
        exact ⟨by first | rfl | (rw [d0, d1]; rfl), HB0.out⟩
    · have d0 : decide (0 ≤ pid) = false := decide_eq_false h0
      go_enter Tryz.func159, Tryz.ntmps159
      go_wp2_with (go_at_call 102; (with_reducible refine (HP.out _).mono ?_); rintro e w1 ⟨rfl, rfl⟩)
      go_ret
      exact ⟨by first | rfl | (rw [d0]; rfl), HB0.out⟩
set_option maxHeartbeats 1000000 in
theorem inffault_any (tb fb : ByteArray) (tn fn : Int) (tm fm : Bool) (a : Option Addr) (n cap : Nat) (k nr ns : Int) (pf : Bool) (pid : Int) (info : ByteArray) (w : World) :
    Calls Tryz.prog 103 #[.agg #[.string tb, .int .i64 tn, .string fb, .int .i64 fn, .bool tm, .bool fm, .slice a n cap, .int .i64 k, .int .i64 nr, .int .i64 ns, .bool pf, .int .i64 pid, .string info]] w fun e w' => e = .returned (.int .i64 (infE k info.size : Nat)) ∧ Below w.heap.size w w' := by
  unfold infE
  by_cases h0 : info.size = 0
  · rw [if_pos h0]
    obtain rfl := txt_none info h0
    have HB0 := Lib.hid ((Below.refl _ w).alloc (Nat.le_refl _) (.cells #[.string tb, .int .i64 tn, .string fb, .int .i64 fn, .bool tm, .bool fm, .slice a n cap, .int .i64 k, .int .i64 nr, .int .i64 ns, .bool pf, .int .i64 pid, .string ⟨#[]⟩] 74))
    go_enter Tryz.func103, Tryz.ntmps103
    go_wp2_with fail
    go_ret
    exact ⟨rfl, HB0.out⟩
  · rw [if_neg h0]
    have HB0 := Lib.hid ((Below.refl _ w).alloc (Nat.le_refl _) (.cells #[.string tb, .int .i64 tn, .string fb, .int .i64 fn, .bool tm, .bool fm, .slice a n cap, .int .i64 k, .int .i64 nr, .int .i64 ns, .bool pf, .int .i64 pid, .string info] 74))
    have hi := fun W => info_any k W
    have he := txt_some info h0
    cases h : infoC k
    · rw [h] at hi
      have HI := Lib.hid hi
      clear hi h
      go_enter Tryz.func103, Tryz.ntmps103
      go_wp2_with (go_at_call 156; (with_reducible refine (HI.out _).mono ?_); rintro e w1 ⟨rfl, rfl⟩)
      go_ret
      exact ⟨rfl, HB0.out⟩
    · rw [h] at hi
      have HI := Lib.hid hi
      clear hi h
      by_cases h2 : 256 < info.size
      · have d2 : decide ((256 : Int) < (info.size : Int)) = true := decide_eq_true (by omega)
        rw [if_pos rfl, if_pos h2]
        go_enter Tryz.func103, Tryz.ntmps103
        go_wp2_with (go_at_call 156; (with_reducible refine (HI.out _).mono ?_); rintro e w1 ⟨rfl, rfl⟩)
        go_ret
        exact ⟨rfl, HB0.out⟩
      · have d2 : decide ((256 : Int) < (info.size : Int)) = false := decide_eq_false (by omega)
        rw [if_pos rfl, if_neg h2]
        go_enter Tryz.func103, Tryz.ntmps103
        go_wp2_with (go_at_call 156; (with_reducible refine (HI.out _).mono ?_); rintro e w1 ⟨rfl, rfl⟩)
        go_ret
        exact ⟨rfl, HB0.out⟩
set_option maxHeartbeats 1000000 in
theorem fault_any (tb fb : ByteArray) (tn fn : Int) (tm fm : Bool) (a : Option Addr) (cap : Nat) (D : List Ent) (k nr ns : Int) (pf : Bool) (pid : Int) (info : ByteArray) (wide : Bool) (w : World) (hD : D.length ≤ 1000) (hE : EntsAt w a cap D) :
    Calls Tryz.prog 105 #[.agg #[.string tb, .int .i64 tn, .string fb, .int .i64 fn, .bool tm, .bool fm, .slice a D.length cap, .int .i64 k, .int .i64 nr, .int .i64 ns, .bool pf, .int .i64 pid, .string info], .bool wide] w fun e w' => e = .returned (.int .i64 (wrongF ((tb, tn, tm) :: (fb, fn, fm) :: D) k nr ns wide pid info.size : Nat)) ∧ Below w.heap.size w w' := by
  have HB0 := Lib.hid ((Below.refl _ w).alloc (Nat.le_refl _) (.cells #[.string tb, .int .i64 tn, .string fb, .int .i64 fn, .bool tm, .bool fm, .slice a D.length cap, .int .i64 k, .int .i64 nr, .int .i64 ns, .bool pf, .int .i64 pid, .string info] 74))
  have HF0 := Lib.hid (F13.new w w.heap.size rfl (.string tb) (.int .i64 tn) (.string fb) (.int .i64 fn) (.bool tm) (.bool fm) (.slice a D.length cap) (.int .i64 k) (.int .i64 nr) (.int .i64 ns) (.bool pf) (.int .i64 pid) (.string info) 74)
  have hpr := fun W (h : Below w.heap.size w W) => pright_any tb fb tn fn tm fm a cap D W hD (hE.below h)
  have hcr := fun W => ccright_any k nr ns pf wide W
  have hpo := fun W => pidright_any tb fb tn fn tm fm a D.length cap k nr ns pf pid info W
  have HIN := Lib.hid (fun W => inffault_any tb fb tn fn tm fm a D.length cap k nr ns pf pid info W)
  have h1 := @wrong_path ((tb, tn, tm) :: (fb, fn, fm) :: D) k nr ns wide pid info.size
  have h2 := @wrong_arg ((tb, tn, tm) :: (fb, fn, fm) :: D) k nr ns wide pid info.size
  have h3 := @wrong_info ((tb, tn, tm) :: (fb, fn, fm) :: D) k nr ns wide pid info.size
  generalize wrongF ((tb, tn, tm) :: (fb, fn, fm) :: D) k nr ns wide pid info.size = G at *
  generalize rightP ((tb, tn, tm) :: (fb, fn, fm) :: D) = R at *
  generalize rightC k nr ns wide = C at *
  generalize pidOk k pid = O at *
  generalize infE k info.size = I at *
  cases R
  · obtain rfl := h1 rfl
    have HPR := Lib.hid hpr
    clear hpr hcr hpo h1 h2 h3 hE
    go_enter Tryz.func105, Tryz.ntmps105
    go_wp2_with (first
      | (go_at_call 64; (with_reducible refine (HPR.out _ HB0.out).mono ?_); rintro e w1 ⟨rfl, hb⟩; have HB := Lib.hid (HB0.out.trans (hb.mono HB0.out.size)); have HF := Lib.hid (HF0.out.below hb); clear hb; obtain ⟨⟨p0, -, pl⟩, ⟨p1, -, -⟩, ⟨p2, -, -⟩, ⟨p3, -, -⟩, ⟨p4, -, -⟩, ⟨p5, -, -⟩, ⟨p6, -, -⟩, ⟨p7, -, -⟩, ⟨p8, -, -⟩, ⟨p9, -, -⟩, ⟨p10, -, -⟩, ⟨p11, -, -⟩, ⟨p12, -, -⟩⟩ := HF.out))
    go_ret
    exact ⟨rfl, HB.out⟩
  · have HPR := Lib.hid hpr
    have HCR := Lib.hid hcr
    have HPO := Lib.hid hpo
    clear hpr hcr hpo hE
    cases C
    · obtain rfl := h2 rfl rfl
      clear h1 h2 h3
      go_enter Tryz.func105, Tryz.ntmps105
      go_wp2_with (first
        | (go_at_call 64; (with_reducible refine (HPR.out _ HB0.out).mono ?_); rintro e w1 ⟨rfl, hb⟩; have HB := Lib.hid (HB0.out.trans (hb.mono HB0.out.size)); have HF := Lib.hid (HF0.out.below hb); clear hb; obtain ⟨⟨p0, -, pl⟩, ⟨p1, -, -⟩, ⟨p2, -, -⟩, ⟨p3, -, -⟩, ⟨p4, -, -⟩, ⟨p5, -, -⟩, ⟨p6, -, -⟩, ⟨p7, -, -⟩, ⟨p8, -, -⟩, ⟨p9, -, -⟩, ⟨p10, -, -⟩, ⟨p11, -, -⟩, ⟨p12, -, -⟩⟩ := HF.out)
        | (go_at_call 158; (with_reducible refine (HCR.out _).mono ?_); rintro e w2 ⟨rfl, hb⟩; replace HB := Lib.hid (HB.out.trans (hb.mono HB.out.size)); replace HF := Lib.hid (HF.out.below hb); clear hb; clear p0 pl p1 p2 p3 p4 p5 p6 p7 p8 p9 p10 p11 p12; obtain ⟨⟨p0, -, pl⟩, ⟨p1, -, -⟩, ⟨p2, -, -⟩, ⟨p3, -, -⟩, ⟨p4, -, -⟩, ⟨p5, -, -⟩, ⟨p6, -, -⟩, ⟨p7, -, -⟩, ⟨p8, -, -⟩, ⟨p9, -, -⟩, ⟨p10, -, -⟩, ⟨p11, -, -⟩, ⟨p12, -, -⟩⟩ := HF.out))
      go_ret
      exact ⟨rfl, HB.out⟩
    · cases O
      · obtain rfl := h2 rfl rfl
        clear h1 h2 h3
        go_enter Tryz.func105, Tryz.ntmps105
        go_wp2_with (first
          | (go_at_call 64; (with_reducible refine (HPR.out _ HB0.out).mono ?_); rintro e w1 ⟨rfl, hb⟩; have HB := Lib.hid (HB0.out.trans (hb.mono HB0.out.size)); have HF := Lib.hid (HF0.out.below hb); clear hb; obtain ⟨⟨p0, -, pl⟩, ⟨p1, -, -⟩, ⟨p2, -, -⟩, ⟨p3, -, -⟩, ⟨p4, -, -⟩, ⟨p5, -, -⟩, ⟨p6, -, -⟩, ⟨p7, -, -⟩, ⟨p8, -, -⟩, ⟨p9, -, -⟩, ⟨p10, -, -⟩, ⟨p11, -, -⟩, ⟨p12, -, -⟩⟩ := HF.out)
          | (go_at_call 158; (with_reducible refine (HCR.out _).mono ?_); rintro e w2 ⟨rfl, hb⟩; replace HB := Lib.hid (HB.out.trans (hb.mono HB.out.size)); replace HF := Lib.hid (HF.out.below hb); clear hb; clear p0 pl p1 p2 p3 p4 p5 p6 p7 p8 p9 p10 p11 p12; obtain ⟨⟨p0, -, pl⟩, ⟨p1, -, -⟩, ⟨p2, -, -⟩, ⟨p3, -, -⟩, ⟨p4, -, -⟩, ⟨p5, -, -⟩, ⟨p6, -, -⟩, ⟨p7, -, -⟩, ⟨p8, -, -⟩, ⟨p9, -, -⟩, ⟨p10, -, -⟩, ⟨p11, -, -⟩, ⟨p12, -, -⟩⟩ := HF.out)
          | (go_at_call 159; (with_reducible refine (HPO.out _).mono ?_); rintro e w3 ⟨rfl, hb⟩; replace HB := Lib.hid (HB.out.trans (hb.mono HB.out.size)); replace HF := Lib.hid (HF.out.below hb); clear hb; clear p0 pl p1 p2 p3 p4 p5 p6 p7 p8 p9 p10 p11 p12; obtain ⟨⟨p0, -, pl⟩, ⟨p1, -, -⟩, ⟨p2, -, -⟩, ⟨p3, -, -⟩, ⟨p4, -, -⟩, ⟨p5, -, -⟩, ⟨p6, -, -⟩, ⟨p7, -, -⟩, ⟨p8, -, -⟩, ⟨p9, -, -⟩, ⟨p10, -, -⟩, ⟨p11, -, -⟩, ⟨p12, -, -⟩⟩ := HF.out))
        go_ret
        exact ⟨rfl, HB.out⟩
      · obtain rfl := h3 rfl rfl
        clear h1 h2 h3
        go_enter Tryz.func105, Tryz.ntmps105
        go_wp2_with (first
          | (go_at_call 64; (with_reducible refine (HPR.out _ HB0.out).mono ?_); rintro e w1 ⟨rfl, hb⟩; have HB := Lib.hid (HB0.out.trans (hb.mono HB0.out.size)); have HF := Lib.hid (HF0.out.below hb); clear hb; obtain ⟨⟨p0, -, pl⟩, ⟨p1, -, -⟩, ⟨p2, -, -⟩, ⟨p3, -, -⟩, ⟨p4, -, -⟩, ⟨p5, -, -⟩, ⟨p6, -, -⟩, ⟨p7, -, -⟩, ⟨p8, -, -⟩, ⟨p9, -, -⟩, ⟨p10, -, -⟩, ⟨p11, -, -⟩, ⟨p12, -, -⟩⟩ := HF.out)
          | (go_at_call 158; (with_reducible refine (HCR.out _).mono ?_); rintro e w2 ⟨rfl, hb⟩; replace HB := Lib.hid (HB.out.trans (hb.mono HB.out.size)); replace HF := Lib.hid (HF.out.below hb); clear hb; clear p0 pl p1 p2 p3 p4 p5 p6 p7 p8 p9 p10 p11 p12; obtain ⟨⟨p0, -, pl⟩, ⟨p1, -, -⟩, ⟨p2, -, -⟩, ⟨p3, -, -⟩, ⟨p4, -, -⟩, ⟨p5, -, -⟩, ⟨p6, -, -⟩, ⟨p7, -, -⟩, ⟨p8, -, -⟩, ⟨p9, -, -⟩, ⟨p10, -, -⟩, ⟨p11, -, -⟩, ⟨p12, -, -⟩⟩ := HF.out)
          | (go_at_call 159; (with_reducible refine (HPO.out _).mono ?_); rintro e w3 ⟨rfl, hb⟩; replace HB := Lib.hid (HB.out.trans (hb.mono HB.out.size)); replace HF := Lib.hid (HF.out.below hb); clear hb; clear p0 pl p1 p2 p3 p4 p5 p6 p7 p8 p9 p10 p11 p12; obtain ⟨⟨p0, -, pl⟩, ⟨p1, -, -⟩, ⟨p2, -, -⟩, ⟨p3, -, -⟩, ⟨p4, -, -⟩, ⟨p5, -, -⟩, ⟨p6, -, -⟩, ⟨p7, -, -⟩, ⟨p8, -, -⟩, ⟨p9, -, -⟩, ⟨p10, -, -⟩, ⟨p11, -, -⟩, ⟨p12, -, -⟩⟩ := HF.out)
          | (go_at_call 103; (with_reducible refine (HIN.out _).mono ?_); rintro e w4 ⟨rfl, hb⟩; replace HB := Lib.hid (HB.out.trans (hb.mono HB.out.size)); clear hb))
        go_ret
        exact ⟨rfl, HB.out⟩
end Go.Proofs.YtgoaepjjegblnaaGreatDoor
namespace Go.Proofs.YtgoaepjjegblnaaGreatDoor
open Go.RowKit Go.Sort
set_option maxRecDepth 20000
/-- seven bytes of which the first k are blanks, the others nothing yet -/
def blankF (k : Nat) (j : Nat) : Int := if j < k then 64 else 0
/-- seven bytes: the first k letters, blanks, nothing yet -/
def letF (b : List UInt8) (k : Nat) (j : Nat) : Int := if j = 6 then 0 else if j < k then 2 * ((b.getD j 0).toNat : Int) else 64
/-- a call's cells and seven bytes behind them -/
def RAt (w W : World) (b : ByteArray) (n : Nat) (f : Nat → Int) (m : Nat) : Prop := (W.cell? ⟨w.heap.size, 0, none⟩ = some (.string b) ∧ W.cell? ⟨w.heap.size, 1, none⟩ = some (.int .i64 (n : Int))) ∧ B7 W m f ∧ Below w.heap.size w W ∧ w.heap.size < m
theorem RAt.set {w W : World} {b : ByteArray} {n m : Nat} {f g : Nat → Int} (h : RAt w W b n f m) (i : Nat) (hi : i < 7) (v : Int) (hg : ∀ j, j < 7 → g j = if j = i then v else f j) : RAt w (W.setCell ⟨m, i, none⟩ (.int .u8 v)) b n g m := by
  obtain ⟨⟨a0, a1⟩, hB, hw, hm⟩ := h
  refine ⟨⟨?_, ?_⟩, ?_, hw.setCell (p := ⟨m, i, none⟩) (by show w.heap.size ≤ m; omega) _, hm⟩
  · rw [set_block _ _ _ _ _ _ (by omega)]; exact a0
  · rw [set_block _ _ _ _ _ _ (by omega)]; exact a1
  · have k := hB.set i hi v
    exact ⟨fun j hj => by rw [hg j hj]; exact k.1 j hj, k.2⟩
theorem RAt.start {w W : World} {b : ByteArray} {n : Nat} (h : CAt1 w W b (n : Int)) : RAt w (W.alloc (.cells #[.int .u8 0, .int .u8 0, .int .u8 0, .int .u8 0, .int .u8 0, .int .u8 0, .int .u8 0] 277)) b n (blankF 0) W.heap.size := by
  obtain ⟨⟨x0, x1⟩, hw, hs⟩ := h
  refine ⟨⟨(World.cell?_alloc_past _ _ _ (by simpa using hs)).trans x0, (World.cell?_alloc_past _ _ _ (by simpa using hs)).trans x1⟩, ⟨fun j hj => ?_, fun j => World.frozen?_alloc_at _ _ _ _ (by simp)⟩, hw.alloc hw.size _, hs⟩
  refine (World.cell?_alloc_at _ _ _ _ (by simp)).trans ?_
  obtain rfl | rfl | rfl | rfl | rfl | rfl | rfl : j = 0 ∨ j = 1 ∨ j = 2 ∨ j = 3 ∨ j = 4 ∨ j = 5 ∨ j = 6 := by omega
  all_goals rfl
theorem letF_next (b : ByteArray) (k : Nat) (hk : k < b.size) (hb : b.size ≤ 6) (j : Nat) : letF b.data.toList (k + 1) j = if j = k then (b[k].toNat : Int) * 2 else letF b.data.toList k j := by
  by_cases e : j = k
  · subst e
    have hl : j < b.data.toList.length := by simpa using hk
    rw [if_pos rfl]
    unfold letF
    rw [if_neg (by omega), if_pos (by omega), List.getD_eq_getElem?_getD, List.getElem?_eq_getElem hl, list_at b j hk]
    show 2 * (b[j].toNat : Int) = _
    omega
  · rw [if_neg e]
    unfold letF
    by_cases h6 : j = 6
    · rw [if_pos h6, if_pos h6]
    · rw [if_neg h6, if_neg h6]
      by_cases hjk : j < k
      · rw [if_pos hjk, if_pos (by omega)]
      · rw [if_neg hjk, if_neg (by omega)]
theorem or_facts (n : Nat) (hn : n ≤ 15) : bits BinOp.or .u8 96 ((n : Int) * 2) = 96 + 2 * (n : Int) ∧ bits BinOp.or .u8 (96 + 2 * (n : Int)) 128 = 96 + 2 * (n : Int) + 128 ∧ bits BinOp.or .u8 (96 + 2 * (n : Int)) 1 = 96 + 2 * (n : Int) + 1 ∧ bits BinOp.or .u8 (96 + 2 * (n : Int) + 128) 1 = 96 + 2 * (n : Int) + 128 + 1 := by
  obtain rfl | rfl | rfl | rfl | rfl | rfl | rfl | rfl | rfl | rfl | rfl | rfl | rfl | rfl | rfl | rfl : n = 0 ∨ n = 1 ∨ n = 2 ∨ n = 3 ∨ n = 4 ∨ n = 5 ∨ n = 6 ∨ n = 7 ∨ n = 8 ∨ n = 9 ∨ n = 10 ∨ n = 11 ∨ n = 12 ∨ n = 13 ∨ n = 14 ∨ n = 15 := by omega
  all_goals exact ⟨by decide +kernel, by decide +kernel, by decide +kernel, by decide +kernel⟩
theorem sign_low {x : UInt8} (h : signD x = true) : x.toNat < 128 := by
  simp only [signD, Bool.or_eq_true, Bool.and_eq_true, decide_eq_true_eq] at h
  omega
theorem cput_not (b : ByteArray) (n : Int) (mk la : Bool) (w : World) (hr : rightD b n = false) (h : b.size ≤ 300) :
    Calls Tryz.prog 160 #[.agg #[.string b, .int .i64 n], .bool mk, .bool la] w fun e w' => e = .returned (.tuple #[.string ⟨#[]⟩, .int .i64 12]) ∧ Below w.heap.size w w' := by
  have HM := Lib.hid (CAt1.start w b n)
  have hR := fun W => cright_ok b n W h
  rw [hr] at hR
  have HR := Lib.hid hR
  clear hR hr h
  go_enter Tryz.func160, Tryz.ntmps160
  go_wp2_with (go_at_call 90; (with_reducible refine (HR.out _).mono ?_); rintro e w1 ⟨rfl, hb⟩; replace HM := Lib.hid (HM.out.below hb); clear hb)
  go_ret2
  exact ⟨rfl, HM.out.2.1⟩
set_option maxHeartbeats 1000000 in
theorem cput_yes (b : ByteArray) (n : Nat) (mk la : Bool) (w : World) (hr : rightD b (n : Int) = true) (hb6 : b.size ≤ 6) (hn : n ≤ 15) (hs : ∀ i (h : i < b.size), b[i].toNat < 128) :
    Calls Tryz.prog 160 #[.agg #[.string b, .int .i64 (n : Int)], .bool mk, .bool la] w fun e w' => e = .returned (.tuple #[.string ⟨(putD b.data.toList n mk la).toArray⟩, .int .i64 0]) ∧ Below w.heap.size w w' := by
  have HM := Lib.hid (CAt1.start w b (n : Int))
  have hR := fun W => cright_ok b (n : Int) W (by omega)
  rw [hr] at hR
  have HR := Lib.hid hR
  obtain ⟨R, hR⟩ : ∃ R : ByteArray, R = ⟨(putD b.data.toList n mk la).toArray⟩ := ⟨_, rfl⟩
  rw [← hR]
  have HRR := Lib.hid hR
  have HS := Lib.hid hs
  clear hr hs
  go_enter Tryz.func160, Tryz.ntmps160
  go_wp2_with (go_at_call 90; (with_reducible refine (HR.out _).mono ?_); rintro e w1 ⟨rfl, hb⟩; replace HM := Lib.hid (HM.out.below hb); clear hb)
  have HA := Lib.hid (RAt.start HM.out)
  clear hR
  clear HM HR
  go_loopw [14] (fun i wx => ∃ k : Nat, k ≤ 6 ∧ i = .int .i64 k ∧ Hid (RAt w wx b n (blankF k) w1.heap.size)) (fun i _ => 6 - (intOf i).toNat)
  case atStart => exact ⟨0, by omega, rfl, HA.out⟩
  case round =>
    obtain ⟨k, hk, rfl, HK⟩ := hrel
    clear HA
    obtain ⟨⟨a0, a1⟩, hB, hbw, hm⟩ := HK.out
    by_cases hlt : k < 6
    · have dk : decide ((k : Int) < 6) = true := decide_eq_true (by omega)
      have hkc := hB.1 k (by omega)
      have hkf := hB.2 k
      have HN := Lib.hid (HK.out.set (g := blankF (k + 1)) k (by omega) 64 (fun j hj => by unfold blankF; by_cases e : j = k <;> simp [e] <;> split <;> split <;> omega))
      clear hB HK hbw
      go_wp2
      go_roundw
      case rel => exact ⟨k + 1, by omega, by go_num, HN.out⟩
      case measure => simp [intOf]; omega
    · obtain rfl : k = 6 := by omega
      have HL := Lib.hid (show RAt w wr b n (letF b.data.toList 0) w1.heap.size from ⟨HK.out.1, ⟨fun j hj => by rw [HK.out.2.1.1 j hj]; unfold blankF letF; split <;> split <;> first | rfl | omega, HK.out.2.1.2⟩, HK.out.2.2⟩)
      clear hB HK hbw
      go_wp2
      go_loopw [23] (fun i wx => ∃ k : Nat, k ≤ b.size ∧ i = .int .i64 k ∧ Hid (RAt w wx b n (letF b.data.toList k) w1.heap.size)) (fun i _ => b.size - (intOf i).toNat)
      case atStart => exact ⟨0, by omega, rfl, HL.out⟩
      case round =>
        obtain ⟨k, hk, rfl, HK⟩ := hrel
        clear HL a0 a1
        obtain ⟨⟨a0, a1⟩, hB, hbw, hm⟩ := HK.out
        by_cases hlt : k < b.size
        · have dk : decide ((k : Int) < (b.size : Int)) = true := decide_eq_true (by omega)
          have hkc := hB.1 k (by omega)
          have hkf := hB.2 k
          have hlim := HS.out k hlt
          have HN := Lib.hid (HK.out.set (g := letF b.data.toList (k + 1)) k (by omega) ((b[k].toNat : Int) * 2) (fun j hj => letF_next b k hlt hb6 j))
          clear hB HK hbw
          go_wp2
          go_roundw
          case rel => exact ⟨k + 1, by omega, by go_num, HN.out⟩
          case measure => simp [intOf]; omega
        · obtain rfl : k = b.size := by omega
          have dk : decide ((b.size : Int) < (b.size : Int)) = false := decide_eq_false (by omega)
          have c6 := hB.1 6 (by omega)
          have f6 := hB.2 6
          have HB := Lib.hid hB
          have key : ∀ (f : Nat → Int), (∀ j, j < 7 → f j = if j = 6 then 96 + 2 * (n : Int) + mkD mk la else letF b.data.toList b.size j) → (⟨((List.range 7).map fun j => UInt8.ofNat (f j).toNat).toArray⟩ : ByteArray) = R := fun f hf => by
            rw [HRR.out]
            unfold putD
            congr 2
            apply List.map_congr_left
            intro j hj
            rw [hf j (List.mem_range.1 hj), show b.data.toList.length = b.size by simp]
            by_cases e : j = 6
            · rw [if_pos e, if_pos e]
            · rw [if_neg e, if_neg e]
              unfold letF putF
              rw [if_neg e, if_neg e]
          have KEY := Lib.hid key
          have HW := Lib.hid hbw
          obtain ⟨e1, e2, e3, e4⟩ := or_facts n hn
          clear key HRR hB HK hbw
          cases mk
          · cases la
            · have hcv := (HB.out.set 6 (by omega) (96 + 2 * (n : Int))).conv
              rw [KEY.out _ (fun j hj => by by_cases e : j = 6 <;> simp [e, mkD])] at hcv
              go_wp2
              go_ret2
              exact ⟨rfl, HW.out.setCell (p := ⟨w1.heap.size, 6, none⟩) (by show w.heap.size ≤ w1.heap.size; omega) _⟩
            · have hcv := ((HB.out.set 6 (by omega) (96 + 2 * (n : Int))).set 6 (by omega) (96 + 2 * (n : Int) + 1)).conv
              rw [KEY.out _ (fun j hj => by by_cases e : j = 6 <;> simp [e, mkD])] at hcv
              go_wp2
              go_ret2
              exact ⟨rfl, (HW.out.setCell (p := ⟨w1.heap.size, 6, none⟩) (by show w.heap.size ≤ w1.heap.size; omega) _).setCell (p := ⟨w1.heap.size, 6, none⟩) (by show w.heap.size ≤ w1.heap.size; omega) _⟩
          · cases la
            · have hcv := ((HB.out.set 6 (by omega) (96 + 2 * (n : Int))).set 6 (by omega) (96 + 2 * (n : Int) + 128)).conv
              rw [KEY.out _ (fun j hj => by by_cases e : j = 6 <;> simp [e, mkD])] at hcv
              go_wp2
              go_ret2
              exact ⟨rfl, (HW.out.setCell (p := ⟨w1.heap.size, 6, none⟩) (by show w.heap.size ≤ w1.heap.size; omega) _).setCell (p := ⟨w1.heap.size, 6, none⟩) (by show w.heap.size ≤ w1.heap.size; omega) _⟩
            · have hcv := (((HB.out.set 6 (by omega) (96 + 2 * (n : Int))).set 6 (by omega) (96 + 2 * (n : Int) + 128)).set 6 (by omega) (96 + 2 * (n : Int) + 128 + 1)).conv
              rw [KEY.out _ (fun j hj => by by_cases e : j = 6 <;> simp [e, mkD] <;> omega)] at hcv
              go_wp2
              go_ret2
              exact ⟨rfl, ((HW.out.setCell (p := ⟨w1.heap.size, 6, none⟩) (by show w.heap.size ≤ w1.heap.size; omega) _).setCell (p := ⟨w1.heap.size, 6, none⟩) (by show w.heap.size ≤ w1.heap.size; omega) _).setCell (p := ⟨w1.heap.size, 6, none⟩) (by show w.heap.size ≤ w1.heap.size; omega) _⟩
theorem cput_ok : CPutOk := fun b n mk la w h => by
  unfold putE
  cases hr : rightD b n
  · rw [if_neg (by simp)]
    exact cput_not b n mk la w hr h
  · rw [if_pos rfl]
    obtain ⟨h1, h2, h3, h4, h5⟩ := right_facts b n hr
    have e : ((n.toNat : Nat) : Int) = n := by omega
    have k := cput_yes b n.toNat mk la w (by rw [e]; exact hr) h2 (by omega) (fun i hi => sign_low (h5 b[i] (by rw [← list_at b i hi]; exact List.getElem_mem _)))
    rw [e] at k
    exact k
end Go.Proofs.YtgoaepjjegblnaaGreatDoor
