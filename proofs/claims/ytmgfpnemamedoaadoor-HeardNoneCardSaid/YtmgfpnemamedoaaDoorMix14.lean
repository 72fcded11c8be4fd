/-
A right frame's bytes, as plain facts.
The landed code's Encode of frames.
Walk of the statement PathBytes.
What a right frame's bytes are read as.
Frames that bear a call's name; what one that is heard makes of a list.
-/
import Derived.Test.YtmgfpnemamedoaaDoorMix13
import Derived.Test.YtmgfpnemamedoaaDoorMix05
import Derived.Lib.SmallJoins
import Derived.Lib.ItoaNum
import Derived.Lib.QuietBelow
import Derived.Lib.IndexBytes
import Derived.IntWalk
import Derived.WalkKit
import Derived.Scope
import Derived.WalkMore
import Derived.Lib.LazyBuf
import Derived.BigRegion
import Derived.OrdersHeld
import Derived.Deep.RegionHeld
import Derived.BigQuiet
import Derived.Deep.QuietTactic
import Derived.Test.YtmgfpnemamedoaaDoorMix12
import Derived.Test.YtmgfpnemamedoaaDoorHrdHearF
import Derived.Test.YtmgfpnemamedoaaDoorHrdHearS
import Derived.Test.YtmgfpnemamedoaaDoorHrdHearN
import Derived.Test.YtmgfpnemamedoaaDoorMix08
namespace Go.Proofs.YtmgfpnemamedoaaDoor
open Go.RowKit Go.Sort
set_option maxRecDepth 20000
/-- the number's byte -/
def pidB (k pid : Int) : List UInt8 := if pidD k then [UInt8.ofNat pid.toNat] else []
/-- a right frame's bytes -/
def bytesF (L : List Ent) (k nr ns : Int) (pf wide : Bool) (pid : Int) (info : List UInt8) : List UInt8 :=
  bytesP L L.length ++ (putB k.toNat nr.toNat ns.toNat pf wide ++ (pidB k pid ++ info))
end Go.Proofs.YtmgfpnemamedoaaDoor
namespace Go.Proofs.YtmgfpnemamedoaaDoor
open Go.RowKit Go.Sort
set_option maxRecDepth 20000
/-- what Encode answers -/
def encE (L : List Ent) (k nr ns : Int) (pf wide : Bool) (pid : Int) (info : ByteArray) : Value :=
  if wrongF L k nr ns wide pid info.size = 0 then .tuple #[.string ⟨(bytesF L k nr ns pf wide pid info.data.toList).toArray⟩, .int .i64 0] else .tuple #[.string ⟨#[]⟩, .int .i64 (wrongF L k nr ns wide pid info.size : Nat)]
set_option maxHeartbeats 1000000 in
theorem enc_no (tb fb : ByteArray) (tn fn : Int) (tm fm : Bool) (a : Option Addr) (cap : Nat) (D : List Ent) (k nr ns : Int) (pf : Bool) (pid : Int) (info : ByteArray) (wide : Bool) (w : World) (hD : D.length ≤ 1000) (hE : EntsAt w a cap D) (hw : wrongF ((tb, tn, tm) :: (fb, fn, fm) :: D) k nr ns wide pid info.size ≠ 0) :
    Calls Tryd.prog 8 #[.agg #[.string tb, .int .i64 tn, .string fb, .int .i64 fn, .bool tm, .bool fm, .slice a D.length cap, .int .i64 k, .int .i64 nr, .int .i64 ns, .bool pf, .int .i64 pid, .string info], .bool wide] w fun e w' => e = .returned (.tuple #[.string ⟨#[]⟩, .int .i64 (wrongF ((tb, tn, tm) :: (fb, fn, fm) :: D) k nr ns wide pid info.size : Nat)]) ∧ Below w.heap.size w w' := by
  have HB0 := Lib.hid ((Below.refl _ w).alloc (Nat.le_refl _) (.cells #[.string tb, .int .i64 tn, .string fb, .int .i64 fn, .bool tm, .bool fm, .slice a D.length cap, .int .i64 k, .int .i64 nr, .int .i64 ns, .bool pf, .int .i64 pid, .string info] 39))
  have HFA := Lib.hid (fun W (h : Below w.heap.size w W) => fault_any tb fb tn fn tm fm a cap D k nr ns pf pid info wide W hD (hE.below h))
  generalize wrongF ((tb, tn, tm) :: (fb, fn, fm) :: D) k nr ns wide pid info.size = G at *
  have hz : ((G : Int) != 0) = true := by rw [bne_iff_ne]; omega
  clear hE hw
  go_enter Tryd.func8, Tryd.ntmps8
  go_wp2_with (go_at_call 16; (with_reducible refine (HFA.out _ HB0.out).mono ?_); rintro e w1 ⟨rfl, hb⟩; have HB := Lib.hid (HB0.out.trans (hb.mono HB0.out.size)); clear hb)
  go_ret2
  exact ⟨rfl, HB.out⟩
theorem putB_le (k nr ns : Nat) (pf wide : Bool) : (putB k nr ns pf wide).length ≤ 2 := by
  unfold putB
  split <;> simp
theorem bytesP_size (L : List Ent) (h : L.length ≤ 10) : (⟨(bytesP L L.length).toArray⟩ : ByteArray).size ≤ 70 := by
  show (bytesP L L.length).toArray.size ≤ 70
  have := bytesP_len' L L.length (Nat.le_refl _)
  simp; omega
theorem right_len {L : List Ent} (h : rightP L = true) : L.length ≤ 10 := by
  unfold rightP at h
  simp only [Bool.and_eq_true, decide_eq_true_eq] at h
  exact h.1.2
set_option maxHeartbeats 2000000 in
theorem enc_yes (tb fb : ByteArray) (tn fn : Int) (tm fm : Bool) (a : Option Addr) (cap : Nat) (D : List Ent) (k nr ns : Int) (pf : Bool) (pid : Int) (info : ByteArray) (wide : Bool) (w : World) (hC : CodesOk w) (hD : D.length ≤ 1000) (hE : EntsAt w a cap D) (hw : wrongF ((tb, tn, tm) :: (fb, fn, fm) :: D) k nr ns wide pid info.size = 0) :
    Calls Tryd.prog 8 #[.agg #[.string tb, .int .i64 tn, .string fb, .int .i64 fn, .bool tm, .bool fm, .slice a D.length cap, .int .i64 k, .int .i64 nr, .int .i64 ns, .bool pf, .int .i64 pid, .string info], .bool wide] w fun e w' => e = .returned (.tuple #[.string ⟨(bytesF ((tb, tn, tm) :: (fb, fn, fm) :: D) k nr ns pf wide pid info.data.toList).toArray⟩, .int .i64 0]) ∧ Below w.heap.size w w' := by
  have HB0 := Lib.hid ((Below.refl _ w).alloc (Nat.le_refl _) (.cells #[.string tb, .int .i64 tn, .string fb, .int .i64 fn, .bool tm, .bool fm, .slice a D.length cap, .int .i64 k, .int .i64 nr, .int .i64 ns, .bool pf, .int .i64 pid, .string info] 39))
  have HF0 := Lib.hid (F13.new w w.heap.size rfl (.string tb) (.int .i64 tn) (.string fb) (.int .i64 fn) (.bool tm) (.bool fm) (.slice a D.length cap) (.int .i64 k) (.int .i64 nr) (.int .i64 ns) (.bool pf) (.int .i64 pid) (.string info) 39)
  have hfa := fun W (h : Below w.heap.size w W) => fault_any tb fb tn fn tm fm a cap D k nr ns pf pid info wide W hD (hE.below h)
  rw [hw] at hfa
  obtain ⟨h1, h2, h3, h4⟩ := right_frame hw
  have hpu := fun W (h : Below w.heap.size w W) => pput_any tb fb tn fn tm fm a cap D W hD (hE.below h)
  unfold pputE at hpu
  rw [h1] at hpu
  simp only [if_true] at hpu
  have hcu := fun W (h : Below w.heap.size w W) => ctlput_any k nr ns pf wide W (hC.below h)
  unfold cputE at hcu
  rw [h2] at hcu
  simp only [if_true] at hcu
  have hpd := fun W => pid_any k W
  obtain ⟨P, rfl, hP, hP0⟩ := pid_facts h3
  have hi := (inf_facts h4).1
  have s1 := bytesP_size ((tb, tn, tm) :: (fb, fn, fm) :: D) (right_len h1)
  have s2 : (⟨(putB k.toNat nr.toNat ns.toNat pf wide).toArray⟩ : ByteArray).size ≤ 2 := putB_le _ _ _ _ _
  have e0 : bytesF ((tb, tn, tm) :: (fb, fn, fm) :: D) k nr ns pf wide (P : Int) info.data.toList = (bytesP ((tb, tn, tm) :: (fb, fn, fm) :: D) (((tb, tn, tm) :: (fb, fn, fm) :: D)).length ++ putB k.toNat nr.toNat ns.toNat pf wide) ++ ((if pidD k then [UInt8.ofNat P] else []) ++ info.data.toList) := by
    unfold bytesF pidB
    rw [List.append_assoc]
    rfl
  rw [e0]
  obtain ⟨R, hR⟩ : ∃ R : ByteArray, R = ⟨((bytesP ((tb, tn, tm) :: (fb, fn, fm) :: D) (((tb, tn, tm) :: (fb, fn, fm) :: D)).length ++ putB k.toNat nr.toNat ns.toNat pf wide) ++ ((if pidD k then [UInt8.ofNat P] else []) ++ info.data.toList)).toArray⟩ := ⟨_, rfl⟩
  rw [← hR]
  clear e0
  generalize bytesP ((tb, tn, tm) :: (fb, fn, fm) :: D) (((tb, tn, tm) :: (fb, fn, fm) :: D)).length = l1 at *
  generalize putB k.toNat nr.toNat ns.toNat pf wide = l2 at *
  obtain ⟨S1, hS1⟩ : ∃ S : ByteArray, S = ⟨l1.toArray⟩ := ⟨_, rfl⟩
  obtain ⟨S2, hS2⟩ : ∃ S : ByteArray, S = ⟨l2.toArray⟩ := ⟨_, rfl⟩
  rw [← hS1] at hpu s1
  rw [← hS2] at hcu s2
  have c1 := fun (w : World) => run_string_add_sum (P := Tryd.prog) (w := w) S1 S2 (by omega)
  obtain ⟨S3, hS3⟩ : ∃ S : ByteArray, S = S1 ++ S2 := ⟨_, rfl⟩
  rw [← hS3] at c1
  have s3 : S3.size ≤ 72 := by rw [hS3, ByteArray.size_append]; omega
  have HFA := Lib.hid hfa
  have HPU := Lib.hid hpu
  have HCU := Lib.hid hcu
  clear hfa hpu hcu hE h1 h2 h4 hw hC
  cases hp : pidD k
  · rw [hp] at hpd
    have HPD := Lib.hid hpd
    have c2 := fun (w : World) => run_string_add_sum (P := Tryd.prog) (w := w) S3 info (by omega)
    obtain ⟨S4, hS4⟩ : ∃ S : ByteArray, S = S3 ++ info := ⟨_, rfl⟩
    rw [← hS4] at c2
    have HR := Lib.hid (show S4 = R from by
      apply bytes_ext'
      rw [hR, hp, hS4, hS3, hS1, hS2]
      simp [ByteArray.data_append])
    clear hpd hS1 hS2 hS3 hS4 s1 s2 s3 hP0 h3 hR
    go_enter Tryd.func8, Tryd.ntmps8
    go_wp2_with (first
      | (go_at_call 16; (with_reducible refine (HFA.out _ HB0.out).mono ?_); rintro e w1 ⟨rfl, hb⟩; have HB := Lib.hid (HB0.out.trans (hb.mono HB0.out.size)); have HF := Lib.hid (HF0.out.below hb); clear hb; obtain ⟨⟨p0, -, pl⟩, ⟨p1, -, -⟩, ⟨p2, -, -⟩, ⟨p3, -, -⟩, ⟨p4, -, -⟩, ⟨p5, -, -⟩, ⟨p6, -, -⟩, ⟨p7, -, -⟩, ⟨p8, -, -⟩, ⟨p9, -, -⟩, ⟨p10, -, -⟩, ⟨p11, -, -⟩, ⟨p12, -, -⟩⟩ := HF.out)
      | (go_at_call 17; (with_reducible refine (HPU.out _ HB.out).mono ?_); rintro e w2 ⟨rfl, hb⟩; replace HB := Lib.hid (HB.out.trans (hb.mono HB.out.size)); replace HF := Lib.hid (HF.out.below hb); clear hb; clear p0 pl p1 p2 p3 p4 p5 p6 p7 p8 p9 p10 p11 p12; obtain ⟨⟨p0, -, pl⟩, ⟨p1, -, -⟩, ⟨p2, -, -⟩, ⟨p3, -, -⟩, ⟨p4, -, -⟩, ⟨p5, -, -⟩, ⟨p6, -, -⟩, ⟨p7, -, -⟩, ⟨p8, -, -⟩, ⟨p9, -, -⟩, ⟨p10, -, -⟩, ⟨p11, -, -⟩, ⟨p12, -, -⟩⟩ := HF.out)
      | (go_at_call 18; (with_reducible refine (HCU.out _ HB.out).mono ?_); rintro e w3 ⟨rfl, hb⟩; replace HB := Lib.hid (HB.out.trans (hb.mono HB.out.size)); replace HF := Lib.hid (HF.out.below hb); clear hb; clear p0 pl p1 p2 p3 p4 p5 p6 p7 p8 p9 p10 p11 p12; obtain ⟨⟨p0, -, pl⟩, ⟨p1, -, -⟩, ⟨p2, -, -⟩, ⟨p3, -, -⟩, ⟨p4, -, -⟩, ⟨p5, -, -⟩, ⟨p6, -, -⟩, ⟨p7, -, -⟩, ⟨p8, -, -⟩, ⟨p9, -, -⟩, ⟨p10, -, -⟩, ⟨p11, -, -⟩, ⟨p12, -, -⟩⟩ := HF.out)
      | (go_at_call 19; (with_reducible refine (HPD.out _).mono ?_); rintro e w4 ⟨rfl, rfl⟩))
    go_ret2
    exact ⟨by rw [HR.out]; rfl, HB.out⟩
  · rw [hp] at hpd
    have HPD := Lib.hid hpd
    have hcv : IntKind.u8.wrap (P : Int) = (P : Int) := IntWalk.u8_in _ (by omega)
    obtain ⟨SP, hSP⟩ : ∃ S : ByteArray, S = ⟨#[UInt8.ofNat P]⟩ := ⟨_, rfl⟩
    have hsp1 : SP.size = 1 := by rw [hSP]; rfl
    have hcvr := fun (W : World) => OwnB.conv1 W W.heap.size (P : Int) P rfl hP rfl
    simp only [← hSP] at hcvr
    have c2 := fun (w : World) => run_string_add_sum (P := Tryd.prog) (w := w) S3 SP (by omega)
    obtain ⟨S4, hS4⟩ : ∃ S : ByteArray, S = S3 ++ SP := ⟨_, rfl⟩
    rw [← hS4] at c2
    have s4 : S4.size ≤ 73 := by rw [hS4, ByteArray.size_append]; omega
    have c3 := fun (w : World) => run_string_add_sum (P := Tryd.prog) (w := w) S4 info (by omega)
    obtain ⟨S5, hS5⟩ : ∃ S : ByteArray, S = S4 ++ info := ⟨_, rfl⟩
    rw [← hS5] at c3
    have HR := Lib.hid (show S5 = R from by
      apply bytes_ext'
      rw [hR, hp, hS5, hS4, hS3, hS1, hS2, hSP]
      simp [ByteArray.data_append])
    clear hpd hS1 hS2 hS3 hS4 hS5 hSP hsp1 s1 s2 s3 s4 hP0 h3 hR
    go_enter Tryd.func8, Tryd.ntmps8
    go_wp2_with (first
      | (go_at_call 16; (with_reducible refine (HFA.out _ HB0.out).mono ?_); rintro e w1 ⟨rfl, hb⟩; have HB := Lib.hid (HB0.out.trans (hb.mono HB0.out.size)); have HF := Lib.hid (HF0.out.below hb); clear hb; obtain ⟨⟨p0, -, pl⟩, ⟨p1, -, -⟩, ⟨p2, -, -⟩, ⟨p3, -, -⟩, ⟨p4, -, -⟩, ⟨p5, -, -⟩, ⟨p6, -, -⟩, ⟨p7, -, -⟩, ⟨p8, -, -⟩, ⟨p9, -, -⟩, ⟨p10, -, -⟩, ⟨p11, -, -⟩, ⟨p12, -, -⟩⟩ := HF.out)
      | (go_at_call 17; (with_reducible refine (HPU.out _ HB.out).mono ?_); rintro e w2 ⟨rfl, hb⟩; replace HB := Lib.hid (HB.out.trans (hb.mono HB.out.size)); replace HF := Lib.hid (HF.out.below hb); clear hb; clear p0 pl p1 p2 p3 p4 p5 p6 p7 p8 p9 p10 p11 p12; obtain ⟨⟨p0, -, pl⟩, ⟨p1, -, -⟩, ⟨p2, -, -⟩, ⟨p3, -, -⟩, ⟨p4, -, -⟩, ⟨p5, -, -⟩, ⟨p6, -, -⟩, ⟨p7, -, -⟩, ⟨p8, -, -⟩, ⟨p9, -, -⟩, ⟨p10, -, -⟩, ⟨p11, -, -⟩, ⟨p12, -, -⟩⟩ := HF.out)
      | (go_at_call 18; (with_reducible refine (HCU.out _ HB.out).mono ?_); rintro e w3 ⟨rfl, hb⟩; replace HB := Lib.hid (HB.out.trans (hb.mono HB.out.size)); replace HF := Lib.hid (HF.out.below hb); clear hb; clear p0 pl p1 p2 p3 p4 p5 p6 p7 p8 p9 p10 p11 p12; obtain ⟨⟨p0, -, pl⟩, ⟨p1, -, -⟩, ⟨p2, -, -⟩, ⟨p3, -, -⟩, ⟨p4, -, -⟩, ⟨p5, -, -⟩, ⟨p6, -, -⟩, ⟨p7, -, -⟩, ⟨p8, -, -⟩, ⟨p9, -, -⟩, ⟨p10, -, -⟩, ⟨p11, -, -⟩, ⟨p12, -, -⟩⟩ := HF.out)
      | (go_at_call 19; (with_reducible refine (HPD.out _).mono ?_); rintro e w4 ⟨rfl, rfl⟩))
    go_ret2
    exact ⟨by rw [HR.out]; rfl, HB.out.alloc HB.out.size _⟩
end Go.Proofs.YtmgfpnemamedoaaDoor
namespace Go.Proofs.YtmgfpnemamedoaaDoor
open Go.RowKit Go.Sort
set_option maxRecDepth 20000
/-- bytes of calls from number k on, of n in all -/
def restP (n : Nat) : Nat → List Ent → List UInt8
  | _, [] => []
  | k, e :: M => putD e.1.data.toList e.2.1.toNat e.2.2 (decide (k + 1 = n)) ++ restP n (k + 1) M
theorem bytes_rest (L : List Ent) : ∀ k, k ≤ L.length → bytesP L k ++ restP L.length k (L.drop k) = bytesP L L.length := by
  intro k hk
  obtain ⟨j, hj⟩ : ∃ j, j = L.length - k := ⟨_, rfl⟩
  induction j generalizing k with
  | zero =>
    have : k = L.length := by omega
    subst this
    rw [List.drop_length, restP, List.append_nil]
  | succ j ih =>
    have hlt : k < L.length := by omega
    rw [← ih (k + 1) (by omega) (by omega), bytesP_next L k hlt, List.drop_eq_getElem_cons hlt, restP, List.append_assoc]
theorem take7 (a b : List UInt8) (h : a.length = 7) : (a ++ b).take 7 = a ∧ (a ++ b).drop 7 = b := by
  rw [← h]
  exact ⟨List.take_left, List.drop_left⟩
theorem put_len7 (e : Ent) (la : Bool) : (putD e.1.data.toList e.2.1.toNat e.2.2 la).length = 7 := put_len _ _ _ _
/-- the bytes of right entries are read as they are -/
theorem getP_put (n : Nat) (behind : List UInt8) : ∀ (M : List Ent) (acc : List Ent) (k : Nat), (∀ e ∈ M, rightD e.1 e.2.1 = true) → acc.length + M.length = n → acc.length + k = 10 → M.length ≤ k → 0 < M.length → 2 ≤ n → ordD ((acc ++ M).drop 2) = true →
    getP k acc (restP n acc.length M ++ behind) = (0, acc ++ M)
  | [], _, _, _, _, _, _, h0, _, _ => by simp at h0
  | e :: M, acc, 0, _, _, _, hk, _, _, _ => by simp at hk
  | e :: M, acc, k + 1, hr, hn, hk, hkk, _, h2, ho => by
    have he := hr e List.mem_cons_self
    have hg := get_put e.1 e.2.1 e.2.2 (decide (acc.length + 1 = n)) he
    have hlen := put_len7 e (decide (acc.length + 1 = n))
    obtain ⟨t7, d7⟩ := take7 (putD e.1.data.toList e.2.1.toNat e.2.2 (decide (acc.length + 1 = n))) (restP n (acc.length + 1) M ++ behind) hlen
    have hs : restP n acc.length (e :: M) ++ behind = putD e.1.data.toList e.2.1.toNat e.2.2 (decide (acc.length + 1 = n)) ++ (restP n (acc.length + 1) M ++ behind) := by rw [restP, List.append_assoc]
    have h7 : 7 ≤ (restP n acc.length (e :: M) ++ behind).length := by rw [hs, List.length_append, hlen]; omega
    have hent : ((⟨e.1.data.toList.toArray⟩, ((e.2.1.toNat : Nat) : Int), e.2.2) : Ent) = e := by
      obtain ⟨_, _, h3, _⟩ := right_facts e.1 e.2.1 he
      rw [show ((e.2.1.toNat : Nat) : Int) = e.2.1 from by omega]
    cases M with
    | nil =>
      have hl : acc.length + 1 = n := by simpa using hn
      rw [decide_eq_true hl] at hg t7 hs
      rw [getP_last k acc _ h7 (by rw [hs, t7]; exact hg), hent, if_neg (by omega), if_pos ho]
    | cons e' M =>
      have hl : ¬ acc.length + 1 = n := by simp at hn; omega
      rw [decide_eq_false hl] at hg t7 hs d7
      rw [getP_next k acc _ h7 (by rw [hs, t7]; exact hg), hent, hs, d7]
      have ih := getP_put n behind (e' :: M) (acc ++ [e]) k (fun x hx => hr x (List.mem_cons_of_mem _ hx)) (by simp at hn ⊢; omega) (by simp; omega) (by simp at hkk ⊢; omega) (by simp) h2 (by rw [List.append_assoc]; exact ho)
      rw [show (acc ++ [e]).length = acc.length + 1 from by simp] at ih
      rw [ih, List.append_assoc]
      try rfl
theorem right_path (L : List Ent) (h : rightP L = true) : (∀ e ∈ L, rightD e.1 e.2.1 = true) ∧ 2 ≤ L.length ∧ L.length ≤ 10 ∧ ordD (L.drop 2) = true := by
  unfold rightP at h
  simp only [Bool.and_eq_true, decide_eq_true_eq] at h
  exact ⟨List.all_eq_true.1 h.1.1.1, h.1.1.2, h.1.2, h.2⟩
theorem get_bytes (L : List Ent) (behind : List UInt8) (h : rightP L = true) : getP 10 [] (bytesP L L.length ++ behind) = (0, L) := by
  obtain ⟨h1, h2, h3, h4⟩ := right_path L h
  have k := getP_put L.length behind L [] 10 h1 (by simp) rfl h3 (by omega) h2 h4
  have e := bytes_rest L 0 (by omega)
  rw [show bytesP L 0 = [] from rfl, List.nil_append, List.drop_zero] at e
  rw [show ([] : List Ent).length = 0 from rfl, e] at k
  exact k
/-- the argument's cells, and the law's own path w -/
structure BAt (w W : World) (m : Nat) (v0 v1 v2 v3 v4 v5 v6 : Value) (wa : Option Addr) (wc : Nat) (L : List Ent) : Prop where
  box : P7 W w.heap.size v0 v1 v2 v3 v4 v5 v6
  var : KeepAt W m 0 (.slice wa L.length wc)
  ents : EntsAt W wa wc L
  bel : Below w.heap.size w W
theorem BAt.below {w W W' : World} {m : Nat} {v0 v1 v2 v3 v4 v5 v6 : Value} {wa : Option Addr} {wc : Nat} {L : List Ent} (h : BAt w W m v0 v1 v2 v3 v4 v5 v6 wa wc L) (hb : Below W.heap.size W W') : BAt w W' m v0 v1 v2 v3 v4 v5 v6 wa wc L :=
  ⟨h.box.below hb, h.var.below hb, h.ents.below hb, h.bel.trans (hb.mono h.bel.size)⟩
theorem BAt.alloc {w W : World} {m : Nat} {v0 v1 v2 v3 v4 v5 v6 : Value} {wa : Option Addr} {wc : Nat} {L : List Ent} (h : BAt w W m v0 v1 v2 v3 v4 v5 v6 wa wc L) (o : Obj) : BAt w (W.alloc o) m v0 v1 v2 v3 v4 v5 v6 wa wc L := h.below ((Below.refl _ W).alloc (Nat.le_refl _) _)
end Go.Proofs.YtmgfpnemamedoaaDoor
namespace Go.Proofs.YtmgfpnemamedoaaDoor
open Go.RowKit Go.Sort
set_option maxRecDepth 20000
theorem gotU_inj (r q : Nat × Nat × Nat × Bool × Nat × Nat) (h : gotU r = gotU q) : r = q := by
  obtain ⟨a, b, c, d, e, f⟩ := r
  obtain ⟨a', b', c', d', e', f'⟩ := q
  unfold gotU at h
  simp only [Value.tuple.injEq, Array.mk.injEq, List.cons.injEq, Value.agg.injEq, Value.int.injEq, Value.bool.injEq, true_and, and_true] at h
  obtain ⟨⟨h1, h2, h3, h4⟩, h5, h6⟩ := h
  obtain rfl : a = a' := by omega
  obtain rfl : b = b' := by omega
  obtain rfl : c = c' := by omega
  obtain rfl : e = e' := by omega
  obtain rfl : f = f' := by omega
  rw [h4]
/-- what the bytes of a right frame are read as -/
theorem read_right (L : List Ent) (k nr ns : Int) (pf wide : Bool) (pid : Int) (info : List UInt8) (h1 : rightP L = true) (h2 : rightC k nr ns wide = true) :
    (getP 10 [] (bytesF L k nr ns pf wide pid info)) = (0, L) ∧ ctlOf (bytesF L k nr ns pf wide pid info) wide = (k.toNat, nr.toNat, ns.toNat, pf, (putB k.toNat nr.toNat ns.toNat pf wide).length, 0) ∧ begE (bytesF L k nr ns pf wide pid info) wide = 0 := by
  have hg : getP 10 [] (bytesF L k nr ns pf wide pid info) = (0, L) := by unfold bytesF; exact get_bytes L _ h1
  have hd : (bytesF L k nr ns pf wide pid info).drop (7 * L.length) = putB k.toNat nr.toNat ns.toNat pf wide ++ (pidB k pid ++ info) := by
    unfold bytesF
    exact List.drop_left' (bytesP_len' L L.length (Nat.le_refl _))
  have hc : ctlOf (bytesF L k nr ns pf wide pid info) wide = (k.toNat, nr.toNat, ns.toNat, pf, (putB k.toNat nr.toNat ns.toNat pf wide).length, 0) := by
    unfold ctlOf
    rw [hg]
    dsimp only
    rw [hd]
    obtain ⟨K, R, S, rfl, rfl, rfl, _⟩ := rightC_facts h2
    obtain ⟨a, _, _⟩ := cget_put K R S pf wide (pidB K pid ++ info) h2
    rw [ref_get] at a
    exact gotU_inj _ _ a
  refine ⟨hg, hc, ?_⟩
  unfold begE
  rw [hg, hc]
  rfl
end Go.Proofs.YtmgfpnemamedoaaDoor
namespace Go.Proofs.YtmgfpnemamedoaaDoor
open Go.RowKit Go.Sort
set_option maxRecDepth 20000
/-- the path from one to another -/
def waysH (tb fb : ByteArray) (tn fn : Int) : List Ent := [(tb, tn, true), (fb, fn, false)]
/-- the frame's bytes -/
def uaS (tb fb : ByteArray) (tn fn : Int) : ByteArray := ⟨(bytesF (waysH tb fb tn fn) 10 0 0 false false 0 []).toArray⟩
theorem ways_right (tb fb : ByteArray) (tn fn : Int) (ht : rightD tb tn = true) : rightP (waysH tb fb tn fn) = rightD fb fn := by
  unfold waysH
  rw [right_cons]
  have e : ordD [] = true := by decide +kernel
  rw [e]
  simp [ht]
theorem right10 : rightC 10 0 0 false = true := by decide +kernel
theorem wrong10 (tb fb : ByteArray) (tn fn : Int) (ht : rightD tb tn = true) (hf : rightD fb fn = true) : wrongF (waysH tb fb tn fn) 10 0 0 false 0 0 = 0 := by
  rw [wrong_info ((ways_right tb fb tn fn ht).trans hf) (by decide +kernel)]
  decide +kernel
theorem put10 : putB (10 : Int).toNat (0 : Int).toNat (0 : Int).toNat false false = [99] := by decide +kernel
theorem pid10 : pidD (10 : Int) = false := by decide +kernel
theorem ua_get (tb fb : ByteArray) (tn fn : Int) (ht : rightD tb tn = true) (hf : rightD fb fn = true) : getP 10 [] (uaS tb fb tn fn).data.toList = (0, waysH tb fb tn fn) ∧ (uaS tb fb tn fn).size ≤ 1000 := by
  have hr := read_right (waysH tb fb tn fn) 10 0 0 false false 0 [] ((ways_right tb fb tn fn ht).trans hf) right10
  refine ⟨hr.1, ?_⟩
  have hz : (uaS tb fb tn fn).size = (bytesF (waysH tb fb tn fn) 10 0 0 false false 0 []).length := by
    unfold uaS
    simp [ByteArray.size]
  have hb : bytesF (waysH tb fb tn fn) 10 0 0 false false 0 [] = bytesP (waysH tb fb tn fn) (waysH tb fb tn fn).length ++ [99] := by
    unfold bytesF pidB
    rw [pid10, put10]
    rfl
  rw [hz, hb, List.length_append, bytesP_len' (waysH tb fb tn fn) (waysH tb fb tn fn).length (Nat.le_refl _)]
  show 7 * 2 + 1 ≤ 1000
  omega
/-- what Via answers -/
theorem via23 (tb fb : ByteArray) (tn fn : Int) (w : World) (ht : rightD tb tn = true) (hts : tb.size ≤ 1000) (hfs : fb.size ≤ 140737488351232) :
    Calls Tryd.prog 7 #[.agg #[.string fb, .int .i64 fn], .agg #[.string tb, .int .i64 tn], .bool true, .slice none 0 0] w fun e w' =>
      (if rightD fb fn = true then ∃ da dc, e = .returned (.tuple #[.agg #[.string tb, .int .i64 tn, .string fb, .int .i64 fn, .bool true, .bool false, .slice da 0 dc], .int .i64 0]) ∧ EntsAt w' da dc [] else e = .returned (.tuple #[.agg #[.string ⟨#[]⟩, .int .i64 0, .string ⟨#[]⟩, .int .i64 0, .bool false, .bool false, .slice none 0 0], .int .i64 11])) ∧ Below w.heap.size w w' := by
  have h := via_any fb tb fn tn true none 0 [] w (by simp) (fun k hk => absurd hk (Nat.not_lt_zero _)) hfs (by omega) (fun x hx => by cases hx)
  have e : rightP ((tb, tn, true) :: (fb, fn, !true) :: freshD []) = rightD fb fn := ways_right tb fb tn fn ht
  rw [e] at h
  exact h
theorem enc23 (tb fb : ByteArray) (tn fn : Int) (da : Option Addr) (dc : Nat) (w : World) (hC : CodesOk w) (hE : EntsAt w da dc []) (ht : rightD tb tn = true) (hf : rightD fb fn = true) :
    Calls Tryd.prog 8 #[.agg #[.string tb, .int .i64 tn, .string fb, .int .i64 fn, .bool true, .bool false, .slice da 0 dc, .int .i64 10, .int .i64 0, .int .i64 0, .bool false, .int .i64 0, .string ⟨#[]⟩], .bool false] w fun e w' => e = .returned (.tuple #[.string (uaS tb fb tn fn), .int .i64 0]) ∧ Below w.heap.size w w' :=
  enc_yes tb fb tn fn true false da dc [] 10 0 0 false 0 ⟨#[]⟩ false w hC (by simp) hE (wrong10 tb fb tn fn ht hf)
/-- such a frame is heard -/
theorem hear23 (tb fb : ByteArray) (tn fn now : Int) (w : World) (p : Nat) (sv : Value) (L : List Hs) (h : HdAt w p sv L) (ht : rightD tb tn = true) (hf : rightD fb fn = true) :
    Calls Tryd.prog 9 #[ptrH p, .string (uaS tb fb tn fn), .int .i64 now] w (HearTo w p sv (hearP L (fb, fn) (⟨#[]⟩, 0) now)) := by
  obtain ⟨h1, h2⟩ := ua_get tb fb tn fn ht hf
  have hfs : fb.size ≤ 1000 := by
    simp only [rightD, Bool.and_eq_true, decide_eq_true_eq] at hf
    omega
  by_cases hi : whereH L (fb, fn) < L.length
  · exact hear_found23 (uaS tb fb tn fn) now w p sv L tb fb tn fn true false [] h (by omega) h1 (by simp) hfs (by decide) _ hi rfl
  · have e : whereH L (fb, fn) = L.length := by have := where_le L (fb, fn); omega
    by_cases h8 : L.length = 8
    · exact hear_full23 (uaS tb fb tn fn) now w p sv L tb fb tn fn true false [] h (by omega) h1 (by simp) hfs (by decide) e h8
    · exact hear_new23 (uaS tb fb tn fn) now w p sv L tb fb tn fn true false [] h (by omega) h1 (by simp) hfs (by decide) e (by have := h.len; omega)
end Go.Proofs.YtmgfpnemamedoaaDoor
