/-
The document's example of frames, and the law's test of length.
-/
import Derived.Test.YtplandmnmdkjmaaDoorFrmText
import Derived.Test.YtplandmnmdkjmaaDoorFrmCEnc
import Derived.Test.YtplandmnmdkjmaaDoorFrmCKind
import Derived.Test.YtplandmnmdkjmaaDoorPathCVia
namespace Go.Proofs.YtplandmnmdkjmaaDoor
open Go.RowKit Go.Sort
set_option maxRecDepth 20000
set_option maxHeartbeats 1000000 in
theorem fgreat_any (tb fb : ByteArray) (tn fn : Int) (tm fm : Bool) (a : Option Addr) (n cap : Nat) (k nr ns : Int) (pf : Bool) (pid : Int) (info : ByteArray) (w : World) :
    Calls Tryd.prog 7 #[.agg #[.string tb, .int .i64 tn, .string fb, .int .i64 fn, .bool tm, .bool fm, .slice a n cap, .int .i64 k, .int .i64 nr, .int .i64 ns, .bool pf, .int .i64 pid, .string info]] w fun e w' => e = .returned (.bool (decide (30 < n) || decide (2000 < info.size))) ∧ Below w.heap.size w w' := by
  have HB0 := Lib.hid ((Below.refl _ w).alloc (Nat.le_refl _) (.cells #[.string tb, .int .i64 tn, .string fb, .int .i64 fn, .bool tm, .bool fm, .slice a n cap, .int .i64 k, .int .i64 nr, .int .i64 ns, .bool pf, .int .i64 pid, .string info] 30))
  by_cases h : 30 < n
  · have d1 : decide ((30 : Int) < (n : Int)) = true := decide_eq_true (by omega)
    rw [decide_eq_true h]
    go_enter Tryd.func7, Tryd.ntmps7
    go_wp2_with fail
    go_ret
    exact ⟨rfl, HB0.out⟩
  · have d1 : decide ((30 : Int) < (n : Int)) = false := decide_eq_false (by omega)
    rw [decide_eq_false h]
    by_cases h2 : 2000 < info.size
    · have d2 : decide ((2000 : Int) < (info.size : Int)) = true := decide_eq_true (by omega)
      rw [decide_eq_true h2]
      go_enter Tryd.func7, Tryd.ntmps7
      go_wp2_with fail
      go_ret
      exact ⟨rfl, HB0.out⟩
    · have d2 : decide ((2000 : Int) < (info.size : Int)) = false := decide_eq_false (by omega)
      rw [decide_eq_false h2]
      go_enter Tryd.func7, Tryd.ntmps7
      go_wp2_with fail
      go_ret
      exact ⟨rfl, HB0.out⟩
def exF : List UInt8 := bytesF [(⟨#[66]⟩, 0, true), (⟨#[65]⟩, 0, false)] 12 0 0 false false 240 [104, 105]
theorem ex_fwrong : wrongF [(⟨#[66]⟩, 0, true), (⟨#[65]⟩, 0, false)] 12 0 0 false 240 2 = 0 := by decide +kernel
theorem ex_flen : exF.length = 18 := by decide +kernel
theorem ex_fkind : kindF exF = 12 := by decide +kernel
theorem ex_fvia (w : World) : Calls Tryd.prog 22 #[.agg #[.string ⟨#[65]⟩, .int .i64 0], .agg #[.string ⟨#[66]⟩, .int .i64 0], .bool true, .slice none 0 0] w fun e w' =>
    (∃ da dc, e = .returned (.tuple #[.agg #[.string ⟨#[66]⟩, .int .i64 0, .string ⟨#[65]⟩, .int .i64 0, .bool true, .bool false, .slice da 0 dc], .int .i64 0]) ∧ EntsAt w' da dc []) ∧ Below w.heap.size w w' := by
  have h := via_any ⟨#[65]⟩ ⟨#[66]⟩ 0 0 true none 0 [] w (by simp) (fun k hk => by simp at hk) (by decide) (by decide) (fun x hx => by cases hx)
  rw [show rightP ((⟨#[66]⟩, 0, true) :: (⟨#[65]⟩, 0, !true) :: freshD []) = true from ex_fright] at h
  simp only [if_true] at h
  exact h
set_option maxHeartbeats 2000000 in
theorem fawake_any (w : World) (hC : CodesOk w) (hN : NamesOk w) : Calls Tryd.prog 6 #[] w fun e w' => e = .returned (.bool true) ∧ Below w.heap.size w w' := by
  obtain ⟨S, hS⟩ : ∃ S : ByteArray, S = ⟨exF.toArray⟩ := ⟨_, rfl⟩
  have hsz : S.size = 18 := by
    rw [hS]
    show exF.toArray.size = 18
    rw [List.size_toArray, ex_flen]
  have hlen : ((S.size : Nat) : Int) = 18 := by rw [hsz]; rfl
  have HEN := Lib.hid (show ∀ da dc W, Below w.heap.size w W → EntsAt W da dc [] → Calls Tryd.prog 10 #[.agg #[.string ⟨#[66]⟩, .int .i64 0, .string ⟨#[65]⟩, .int .i64 0, .bool true, .bool false, .slice da 0 dc, .int .i64 12, .int .i64 0, .int .i64 0, .bool false, .int .i64 240, .string ⟨#[104, 105]⟩], .bool false] W fun e w' => e = .returned (.tuple #[.string S, .int .i64 0]) ∧ Below W.heap.size W w' from fun da dc W hb hE => by
    rw [hS]
    exact enc_yes ⟨#[66]⟩ ⟨#[65]⟩ 0 0 true false da dc [] 12 0 0 false 240 ⟨#[104, 105]⟩ false W (hC.below hb) (by simp) hE ex_fwrong)
  have HTX := Lib.hid (fun da dc W (hb : Below w.heap.size w W) (hE : EntsAt W da dc []) => ftext_ui da dc ⟨#[104, 105]⟩ rfl W (hN.below hb) hE)
  have hdo := fun da dc W (hE : EntsAt W da dc []) => done_any ⟨#[66]⟩ ⟨#[65]⟩ 0 0 true false da dc [] 12 0 0 false 240 ⟨#[104, 105]⟩ W (by simp) hE (fun x hx => by cases hx)
  rw [show decide (¬ fstD [] < ([] : List Ent).length) = true from rfl, List.length_nil] at hdo
  have HDO := Lib.hid hdo
  have hki := fun W (hb : Below w.heap.size w W) => kind_any S W (by omega) (hC.below hb)
  rw [show S.data.toList = exF from by rw [hS], ex_fkind] at hki
  have HKI := Lib.hid (show ∀ W, Below w.heap.size w W → Calls Tryd.prog 15 #[.string S] W fun e w' => e = .returned (.int .i64 12) ∧ Below W.heap.size W w' from hki)
  have HVI := Lib.hid (fun W => ex_fvia W)
  have HB0 := Lib.hid (Below.refl w.heap.size w)
  clear hS hC hN hdo hki hsz
  go_enter Tryd.func6, Tryd.ntmps6
  go_wp2_with (first
    | (go_at_call 22; (with_reducible refine (HVI.out _).mono ?_); rintro e w1 ⟨⟨da, dc, rfl, hE⟩, hb⟩; have hb2 := hb.alloc hb.size (.cells #[.string ⟨#[66]⟩, .int .i64 0, .string ⟨#[65]⟩, .int .i64 0, .bool true, .bool false, .slice da 0 dc] 26); have HB := Lib.hid (hb2.alloc hb2.size (.cells #[.string ⟨#[66]⟩, .int .i64 0, .string ⟨#[65]⟩, .int .i64 0, .bool true, .bool false, .slice da 0 dc, .int .i64 12, .int .i64 0, .int .i64 0, .bool false, .int .i64 240, .string ⟨#[104, 105]⟩] 30)); have HE := Lib.hid ((hE.alloc (.cells #[.string ⟨#[66]⟩, .int .i64 0, .string ⟨#[65]⟩, .int .i64 0, .bool true, .bool false, .slice da 0 dc] 26)).alloc (.cells #[.string ⟨#[66]⟩, .int .i64 0, .string ⟨#[65]⟩, .int .i64 0, .bool true, .bool false, .slice da 0 dc, .int .i64 12, .int .i64 0, .int .i64 0, .bool false, .int .i64 240, .string ⟨#[104, 105]⟩] 30)); have HF := Lib.hid (F13.new (w1.alloc (.cells #[.string ⟨#[66]⟩, .int .i64 0, .string ⟨#[65]⟩, .int .i64 0, .bool true, .bool false, .slice da 0 dc] 26)) (w1.heap.size + 1) (by simp) (.string ⟨#[66]⟩) (.int .i64 0) (.string ⟨#[65]⟩) (.int .i64 0) (.bool true) (.bool false) (.slice da 0 dc) (.int .i64 12) (.int .i64 0) (.int .i64 0) (.bool false) (.int .i64 240) (.string ⟨#[104, 105]⟩) 30); clear hb hE hb2)
    | (go_at_call 10; (with_reducible refine (HEN.out da dc _ HB.out HE.out).mono ?_); rintro e w2 ⟨rfl, hb⟩; replace HB := Lib.hid (HB.out.trans (hb.mono HB.out.size)); replace HE := Lib.hid (HE.out.below hb); replace HF := Lib.hid (HF.out.below hb); clear hb; obtain ⟨⟨p0, -, pl⟩, ⟨p1, -, -⟩, ⟨p2, -, -⟩, ⟨p3, -, -⟩, ⟨p4, -, -⟩, ⟨p5, -, -⟩, ⟨p6, -, -⟩, ⟨p7, -, -⟩, ⟨p8, -, -⟩, ⟨p9, -, -⟩, ⟨p10, -, -⟩, ⟨p11, -, -⟩, ⟨p12, -, -⟩⟩ := HF.out)
    | (go_at_call 23; (with_reducible refine (HTX.out da dc _ HB.out HE.out).mono ?_); rintro e w3 ⟨rfl, hb⟩; replace HB := Lib.hid (HB.out.trans (hb.mono HB.out.size)); replace HE := Lib.hid (HE.out.below hb); replace HF := Lib.hid (HF.out.below hb); clear hb; clear p0 pl p1 p2 p3 p4 p5 p6 p7 p8 p9 p10 p11 p12; obtain ⟨⟨p0, -, pl⟩, ⟨p1, -, -⟩, ⟨p2, -, -⟩, ⟨p3, -, -⟩, ⟨p4, -, -⟩, ⟨p5, -, -⟩, ⟨p6, -, -⟩, ⟨p7, -, -⟩, ⟨p8, -, -⟩, ⟨p9, -, -⟩, ⟨p10, -, -⟩, ⟨p11, -, -⟩, ⟨p12, -, -⟩⟩ := HF.out)
    | (go_at_call 18; (with_reducible refine (HDO.out da dc _ HE.out).mono ?_); rintro e w4 ⟨rfl, hb⟩; replace HB := Lib.hid (HB.out.trans (hb.mono HB.out.size)); clear hb)
    | (go_at_call 15; (with_reducible refine (HKI.out _ HB.out).mono ?_); rintro e w5 ⟨rfl, hb⟩; replace HB := Lib.hid (HB.out.trans (hb.mono HB.out.size)); clear hb))
  go_ret
  exact ⟨rfl, HB.out⟩
end Go.Proofs.YtplandmnmdkjmaaDoor
