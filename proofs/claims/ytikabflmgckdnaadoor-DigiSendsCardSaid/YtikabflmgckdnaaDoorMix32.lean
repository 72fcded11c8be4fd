/-
The landed code's Encode of frames.
What a landed digipeater has to answer (contracts); the document's example.
-/
import Derived.Test.YtikabflmgckdnaaDoorFrmCFault
import Derived.Test.YtikabflmgckdnaaDoorMix23
import Derived.Test.YtikabflmgckdnaaDoorDigMade
import Derived.Test.YtikabflmgckdnaaDoorPathCVia
import Derived.Test.YtikabflmgckdnaaDoorMix30
namespace Go.Proofs.YtikabflmgckdnaaDoor
open Go.RowKit Go.Sort
set_option maxRecDepth 20000
/-- what Encode answers -/
def encE (L : List Ent) (k nr ns : Int) (pf wide : Bool) (pid : Int) (info : ByteArray) : Value :=
  if wrongF L k nr ns wide pid info.size = 0 then .tuple #[.string ⟨(bytesF L k nr ns pf wide pid info.data.toList).toArray⟩, .int .i64 0] else .tuple #[.string ⟨#[]⟩, .int .i64 (wrongF L k nr ns wide pid info.size : Nat)]
set_option maxHeartbeats 1000000 in
theorem enc_no (tb fb : ByteArray) (tn fn : Int) (tm fm : Bool) (a : Option Addr) (cap : Nat) (D : List Ent) (k nr ns : Int) (pf : Bool) (pid : Int) (info : ByteArray) (wide : Bool) (w : World) (hD : D.length ≤ 1000) (hE : EntsAt w a cap D) (hw : wrongF ((tb, tn, tm) :: (fb, fn, fm) :: D) k nr ns wide pid info.size ≠ 0) :
    Calls Tryd.prog 21 #[.agg #[.string tb, .int .i64 tn, .string fb, .int .i64 fn, .bool tm, .bool fm, .slice a D.length cap, .int .i64 k, .int .i64 nr, .int .i64 ns, .bool pf, .int .i64 pid, .string info], .bool wide] w fun e w' => e = .returned (.tuple #[.string ⟨#[]⟩, .int .i64 (wrongF ((tb, tn, tm) :: (fb, fn, fm) :: D) k nr ns wide pid info.size : Nat)]) ∧ Below w.heap.size w w' := by
  have HB0 := Lib.hid ((Below.refl _ w).alloc (Nat.le_refl _) (.cells #[.string tb, .int .i64 tn, .string fb, .int .i64 fn, .bool tm, .bool fm, .slice a D.length cap, .int .i64 k, .int .i64 nr, .int .i64 ns, .bool pf, .int .i64 pid, .string info] 63))
  have HFA := Lib.hid (fun W (h : Below w.heap.size w W) => fault_any tb fb tn fn tm fm a cap D k nr ns pf pid info wide W hD (hE.below h))
  generalize wrongF ((tb, tn, tm) :: (fb, fn, fm) :: D) k nr ns wide pid info.size = G at *
  have hz : ((G : Int) != 0) = true := by rw [bne_iff_ne]; omega
  clear hE hw
  go_enter Tryd.func21, Tryd.ntmps21
  go_wp2_with (go_at_call 39; (with_reducible refine (HFA.out _ HB0.out).mono ?_); rintro e w1 ⟨rfl, hb⟩; have HB := Lib.hid (HB0.out.trans (hb.mono HB0.out.size)); clear hb)
  go_ret2
  exact ⟨rfl, HB.out⟩
theorem putB_le (k nr ns : Nat) (pf wide : Bool) : (putB k nr ns pf wide).length ≤ 2 := by
  unfold putB
  split <;> simp
theorem bytesP_size (L : List Ent) (h : L.length ≤ 10) : (⟨(bytesP L L.length).toArray⟩ : ByteArray).size ≤ 70 := by
  show (bytesP L L.length).toArray.size ≤ 70
  have := bytesP_len' L L.length (Nat.le_refl _)
  simp; omega
theorem right_len {L : List Ent} (h : rightP L = true) : L.length ≤ 10 := by
  unfold rightP at h
  simp only [Bool.and_eq_true, decide_eq_true_eq] at h
  exact h.1.2
set_option maxHeartbeats 2000000 in
theorem enc_yes (tb fb : ByteArray) (tn fn : Int) (tm fm : Bool) (a : Option Addr) (cap : Nat) (D : List Ent) (k nr ns : Int) (pf : Bool) (pid : Int) (info : ByteArray) (wide : Bool) (w : World) (hC : CodesOk w) (hD : D.length ≤ 1000) (hE : EntsAt w a cap D) (hw : wrongF ((tb, tn, tm) :: (fb, fn, fm) :: D) k nr ns wide pid info.size = 0) :
    Calls Tryd.prog 21 #[.agg #[.string tb, .int .i64 tn, .string fb, .int .i64 fn, .bool tm, .bool fm, .slice a D.length cap, .int .i64 k, .int .i64 nr, .int .i64 ns, .bool pf, .int .i64 pid, .string info], .bool wide] w fun e w' => e = .returned (.tuple #[.string ⟨(bytesF ((tb, tn, tm) :: (fb, fn, fm) :: D) k nr ns pf wide pid info.data.toList).toArray⟩, .int .i64 0]) ∧ Below w.heap.size w w' := by
  have HB0 := Lib.hid ((Below.refl _ w).alloc (Nat.le_refl _) (.cells #[.string tb, .int .i64 tn, .string fb, .int .i64 fn, .bool tm, .bool fm, .slice a D.length cap, .int .i64 k, .int .i64 nr, .int .i64 ns, .bool pf, .int .i64 pid, .string info] 63))
  have HF0 := Lib.hid (F13.new w w.heap.size rfl (.string tb) (.int .i64 tn) (.string fb) (.int .i64 fn) (.bool tm) (.bool fm) (.slice a D.length cap) (.int .i64 k) (.int .i64 nr) (.int .i64 ns) (.bool pf) (.int .i64 pid) (.string info) 63)
  have hfa := fun W (h : Below w.heap.size w W) => fault_any tb fb tn fn tm fm a cap D k nr ns pf pid info wide W hD (hE.below h)
  rw [hw] at hfa
  obtain ⟨h1, h2, h3, h4⟩ := right_frame hw
  have hpu := fun W (h : Below w.heap.size w W) => pput_any tb fb tn fn tm fm a cap D W hD (hE.below h)
  unfold pputE at hpu
  rw [h1] at hpu
  simp only [if_true] at hpu
  have hcu := fun W (h : Below w.heap.size w W) => ctlput_any k nr ns pf wide W (hC.below h)
  unfold cputE at hcu
  rw [h2] at hcu
  simp only [if_true] at hcu
  have hpd := fun W => pid_any k W
  obtain ⟨P, rfl, hP, hP0⟩ := pid_facts h3
  have hi := (inf_facts h4).1
  have s1 := bytesP_size ((tb, tn, tm) :: (fb, fn, fm) :: D) (right_len h1)
  have s2 : (⟨(putB k.toNat nr.toNat ns.toNat pf wide).toArray⟩ : ByteArray).size ≤ 2 := putB_le _ _ _ _ _
  have e0 : bytesF ((tb, tn, tm) :: (fb, fn, fm) :: D) k nr ns pf wide (P : Int) info.data.toList = (bytesP ((tb, tn, tm) :: (fb, fn, fm) :: D) (((tb, tn, tm) :: (fb, fn, fm) :: D)).length ++ putB k.toNat nr.toNat ns.toNat pf wide) ++ ((if pidD k then [UInt8.ofNat P] else []) ++ info.data.toList) := by
    unfold bytesF pidB
    rw [List.append_assoc]
    rfl
  rw [e0]
  obtain ⟨R, hR⟩ : ∃ R : ByteArray, R = ⟨((bytesP ((tb, tn, tm) :: (fb, fn, fm) :: D) (((tb, tn, tm) :: (fb, fn, fm) :: D)).length ++ putB k.toNat nr.toNat ns.toNat pf wide) ++ ((if pidD k then [UInt8.ofNat P] else []) ++ info.data.toList)).toArray⟩ := ⟨_, rfl⟩
  rw [← hR]
  clear e0
  generalize bytesP ((tb, tn, tm) :: (fb, fn, fm) :: D) (((tb, tn, tm) :: (fb, fn, fm) :: D)).length = l1 at *
  generalize putB k.toNat nr.toNat ns.toNat pf wide = l2 at *
  obtain ⟨S1, hS1⟩ : ∃ S : ByteArray, S = ⟨l1.toArray⟩ := ⟨_, rfl⟩
  obtain ⟨S2, hS2⟩ : ∃ S : ByteArray, S = ⟨l2.toArray⟩ := ⟨_, rfl⟩
  rw [← hS1] at hpu s1
  rw [← hS2] at hcu s2
  have c1 := fun (w : World) => run_string_add_sum (P := Tryd.prog) (w := w) S1 S2 (by omega)
  obtain ⟨S3, hS3⟩ : ∃ S : ByteArray, S = S1 ++ S2 := ⟨_, rfl⟩
  rw [← hS3] at c1
  have s3 : S3.size ≤ 72 := by rw [hS3, ByteArray.size_append]; omega
  have HFA := Lib.hid hfa
  have HPU := Lib.hid hpu
  have HCU := Lib.hid hcu
  clear hfa hpu hcu hE h1 h2 h4 hw hC
  cases hp : pidD k
  · rw [hp] at hpd
    have HPD := Lib.hid hpd
    have c2 := fun (w : World) => run_string_add_sum (P := Tryd.prog) (w := w) S3 info (by omega)
    obtain ⟨S4, hS4⟩ : ∃ S : ByteArray, S = S3 ++ info := ⟨_, rfl⟩
    rw [← hS4] at c2
    have HR := Lib.hid (show S4 = R from by
      apply bytes_ext'
      rw [hR, hp, hS4, hS3, hS1, hS2]
      simp [ByteArray.data_append])
    clear hpd hS1 hS2 hS3 hS4 s1 s2 s3 hP0 h3 hR
    go_enter Tryd.func21, Tryd.ntmps21
    go_wp2_with (first
      | (go_at_call 39; (with_reducible refine (HFA.out _ HB0.out).mono ?_); rintro e w1 ⟨rfl, hb⟩; have HB := Lib.hid (HB0.out.trans (hb.mono HB0.out.size)); have HF := Lib.hid (HF0.out.below hb); clear hb; obtain ⟨⟨p0, -, pl⟩, ⟨p1, -, -⟩, ⟨p2, -, -⟩, ⟨p3, -, -⟩, ⟨p4, -, -⟩, ⟨p5, -, -⟩, ⟨p6, -, -⟩, ⟨p7, -, -⟩, ⟨p8, -, -⟩, ⟨p9, -, -⟩, ⟨p10, -, -⟩, ⟨p11, -, -⟩, ⟨p12, -, -⟩⟩ := HF.out)
      | (go_at_call 28; (with_reducible refine (HPU.out _ HB.out).mono ?_); rintro e w2 ⟨rfl, hb⟩; replace HB := Lib.hid (HB.out.trans (hb.mono HB.out.size)); replace HF := Lib.hid (HF.out.below hb); clear hb; clear p0 pl p1 p2 p3 p4 p5 p6 p7 p8 p9 p10 p11 p12; obtain ⟨⟨p0, -, pl⟩, ⟨p1, -, -⟩, ⟨p2, -, -⟩, ⟨p3, -, -⟩, ⟨p4, -, -⟩, ⟨p5, -, -⟩, ⟨p6, -, -⟩, ⟨p7, -, -⟩, ⟨p8, -, -⟩, ⟨p9, -, -⟩, ⟨p10, -, -⟩, ⟨p11, -, -⟩, ⟨p12, -, -⟩⟩ := HF.out)
      | (go_at_call 40; (with_reducible refine (HCU.out _ HB.out).mono ?_); rintro e w3 ⟨rfl, hb⟩; replace HB := Lib.hid (HB.out.trans (hb.mono HB.out.size)); replace HF := Lib.hid (HF.out.below hb); clear hb; clear p0 pl p1 p2 p3 p4 p5 p6 p7 p8 p9 p10 p11 p12; obtain ⟨⟨p0, -, pl⟩, ⟨p1, -, -⟩, ⟨p2, -, -⟩, ⟨p3, -, -⟩, ⟨p4, -, -⟩, ⟨p5, -, -⟩, ⟨p6, -, -⟩, ⟨p7, -, -⟩, ⟨p8, -, -⟩, ⟨p9, -, -⟩, ⟨p10, -, -⟩, ⟨p11, -, -⟩, ⟨p12, -, -⟩⟩ := HF.out)
      | (go_at_call 41; (with_reducible refine (HPD.out _).mono ?_); rintro e w4 ⟨rfl, rfl⟩))
    go_ret2
    exact ⟨by rw [HR.out]; rfl, HB.out⟩
  · rw [hp] at hpd
    have HPD := Lib.hid hpd
    have hcv : IntKind.u8.wrap (P : Int) = (P : Int) := IntWalk.u8_in _ (by omega)
    obtain ⟨SP, hSP⟩ : ∃ S : ByteArray, S = ⟨#[UInt8.ofNat P]⟩ := ⟨_, rfl⟩
    have hsp1 : SP.size = 1 := by rw [hSP]; rfl
    have hcvr := fun (W : World) => OwnB.conv1 W W.heap.size (P : Int) P rfl hP rfl
    simp only [← hSP] at hcvr
    have c2 := fun (w : World) => run_string_add_sum (P := Tryd.prog) (w := w) S3 SP (by omega)
    obtain ⟨S4, hS4⟩ : ∃ S : ByteArray, S = S3 ++ SP := ⟨_, rfl⟩
    rw [← hS4] at c2
    have s4 : S4.size ≤ 73 := by rw [hS4, ByteArray.size_append]; omega
    have c3 := fun (w : World) => run_string_add_sum (P := Tryd.prog) (w := w) S4 info (by omega)
    obtain ⟨S5, hS5⟩ : ∃ S : ByteArray, S = S4 ++ info := ⟨_, rfl⟩
    rw [← hS5] at c3
    have HR := Lib.hid (show S5 = R from by
      apply bytes_ext'
      rw [hR, hp, hS5, hS4, hS3, hS1, hS2, hSP]
      simp [ByteArray.data_append])
    clear hpd hS1 hS2 hS3 hS4 hS5 hSP hsp1 s1 s2 s3 s4 hP0 h3 hR
    go_enter Tryd.func21, Tryd.ntmps21
    go_wp2_with (first
      | (go_at_call 39; (with_reducible refine (HFA.out _ HB0.out).mono ?_); rintro e w1 ⟨rfl, hb⟩; have HB := Lib.hid (HB0.out.trans (hb.mono HB0.out.size)); have HF := Lib.hid (HF0.out.below hb); clear hb; obtain ⟨⟨p0, -, pl⟩, ⟨p1, -, -⟩, ⟨p2, -, -⟩, ⟨p3, -, -⟩, ⟨p4, -, -⟩, ⟨p5, -, -⟩, ⟨p6, -, -⟩, ⟨p7, -, -⟩, ⟨p8, -, -⟩, ⟨p9, -, -⟩, ⟨p10, -, -⟩, ⟨p11, -, -⟩, ⟨p12, -, -⟩⟩ := HF.out)
      | (go_at_call 28; (with_reducible refine (HPU.out _ HB.out).mono ?_); rintro e w2 ⟨rfl, hb⟩; replace HB := Lib.hid (HB.out.trans (hb.mono HB.out.size)); replace HF := Lib.hid (HF.out.below hb); clear hb; clear p0 pl p1 p2 p3 p4 p5 p6 p7 p8 p9 p10 p11 p12; obtain ⟨⟨p0, -, pl⟩, ⟨p1, -, -⟩, ⟨p2, -, -⟩, ⟨p3, -, -⟩, ⟨p4, -, -⟩, ⟨p5, -, -⟩, ⟨p6, -, -⟩, ⟨p7, -, -⟩, ⟨p8, -, -⟩, ⟨p9, -, -⟩, ⟨p10, -, -⟩, ⟨p11, -, -⟩, ⟨p12, -, -⟩⟩ := HF.out)
      | (go_at_call 40; (with_reducible refine (HCU.out _ HB.out).mono ?_); rintro e w3 ⟨rfl, hb⟩; replace HB := Lib.hid (HB.out.trans (hb.mono HB.out.size)); replace HF := Lib.hid (HF.out.below hb); clear hb; clear p0 pl p1 p2 p3 p4 p5 p6 p7 p8 p9 p10 p11 p12; obtain ⟨⟨p0, -, pl⟩, ⟨p1, -, -⟩, ⟨p2, -, -⟩, ⟨p3, -, -⟩, ⟨p4, -, -⟩, ⟨p5, -, -⟩, ⟨p6, -, -⟩, ⟨p7, -, -⟩, ⟨p8, -, -⟩, ⟨p9, -, -⟩, ⟨p10, -, -⟩, ⟨p11, -, -⟩, ⟨p12, -, -⟩⟩ := HF.out)
      | (go_at_call 41; (with_reducible refine (HPD.out _).mono ?_); rintro e w4 ⟨rfl, rfl⟩))
    go_ret2
    exact ⟨by rw [HR.out]; rfl, HB.out.alloc HB.out.size _⟩
end Go.Proofs.YtikabflmgckdnaaDoor
namespace Go.Proofs.YtikabflmgckdnaaDoor
open Go.RowKit Go.Sort
set_option maxRecDepth 20000
/-- how a digipeater lies: its calls (own, then aliases), what it has counted (sent on, not for it, can't be decoded), in which blocks -/
abbrev DiP := World → Nat → List Cl → Nat × Nat × Nat → (Nat → Prop) → Prop
abbrev ptrD (a : Nat) : Value := .pointer (some ⟨a, 0, none⟩)
/-- one more is counted -/
def cntD (k : Nat × Nat × Nat) (how : Nat) : Nat × Nat × Nat := if how = 0 then (k.1 + 1, k.2.1, k.2.2) else if how = 1 then (k.1, k.2.1 + 1, k.2.2) else (k.1, k.2.1, k.2.2 + 1)
abbrev sayD (r : List UInt8 × Nat) : Value := .tuple #[.string ⟨r.1.toArray⟩, .bool (decide (r.2 = 0))]
abbrev few (k : Nat × Nat × Nat) : Prop := k.1 ≤ 1000 ∧ k.2.1 ≤ 1000 ∧ k.2.2 ≤ 1000
structure DiC (D : DiP) : Prop where
  mem : ∀ {w d C k F}, D w d C k F → ∀ b, F b → b < w.heap.size
  stay : ∀ {w w' d C k F}, D w d C k F → SameOn F w w' → D w' d C k F
  new : ∀ (w : World) (b : ByteArray) (n : Int) (a : Option Addr) (m c : Nat) (A : List Cl), CodesOk w → A.length = m → m ≤ 40 → CallsAt w a A → (a = none → c = 0) → Calls Tryd.prog 8 #[.agg #[.string b, .int .i64 n], .slice a m c] w fun e w' =>
    ((madeD ((b, n) :: A) = 0 ∧ ∃ d F, e = .returned (.tuple #[ptrD d, .int .i64 0]) ∧ D w' d ((b, n) :: A) (0, 0, 0) F ∧ (∀ b, F b → w.heap.size ≤ b)) ∨ (madeD ((b, n) :: A) ≠ 0 ∧ e = .returned (.tuple #[.pointer none, .int .i64 (madeD ((b, n) :: A) : Nat)]))) ∧ Below w.heap.size w w'
  on : ∀ (w : World) (d : Nat) (C : List Cl) (k : Nat × Nat × Nat) (F : Nat → Prop) (s : ByteArray), CodesOk w → D w d C k F → s.size ≤ 1000 → few k → Calls Tryd.prog 10 #[ptrD d, .string s] w fun e w' =>
    e = .returned (sayD (onD C s.data.toList)) ∧ D w' d C (cntD k (onD C s.data.toList).2) F ∧ Turn F w w'
  mine : ∀ (w : World) (d : Nat) (C : List Cl) (k : Nat × Nat × Nat) (F : Nat → Prop) (b : ByteArray) (n : Int), D w d C k F → Calls Tryd.prog 16 #[ptrD d, .agg #[.string b, .int .i64 n]] w fun e w' => e = .returned (.bool (mineB C (b, n))) ∧ Below w.heap.size w w'
  counts : ∀ (w : World) (d : Nat) (C : List Cl) (k : Nat × Nat × Nat) (F : Nat → Prop), D w d C k F → Calls Tryd.prog 15 #[ptrD d] w fun e w' => e = .returned (.tuple #[.int .i64 (k.1 : Nat), .int .i64 (k.2.1 : Nat), .int .i64 (k.2.2 : Nat)]) ∧ Below w.heap.size w w'
  on0 : ∀ (w : World) (s : ByteArray), s.size ≤ 1000 → Calls Tryd.prog 10 #[.pointer none, .string s] w fun e w' => e = .returned (.tuple #[.string ⟨#[]⟩, .bool false]) ∧ Below w.heap.size w w'
  mine0 : ∀ (w : World) (b : ByteArray) (n : Int), Calls Tryd.prog 16 #[.pointer none, .agg #[.string b, .int .i64 n]] w fun e w' => e = .returned (.bool false) ∧ Below w.heap.size w w'
  counts0 : ∀ (w : World), Calls Tryd.prog 15 #[.pointer none] w fun e w' => e = .returned (.tuple #[.int .i64 0, .int .i64 0, .int .i64 0]) ∧ Below w.heap.size w w'
  decodes : ∀ (w : World) (s : ByteArray), CodesOk w → s.size ≤ 1000 → Calls Tryd.prog 12 #[.string s] w fun e w' => e = .returned (.bool (decB s.data.toList)) ∧ Below w.heap.size w w'
  for_ : ∀ (w : World) (b : ByteArray) (n : Int) (s : ByteArray), CodesOk w → s.size ≤ 1000 → Calls Tryd.prog 13 #[.agg #[.string b, .int .i64 n], .string s] w fun e w' => e = .returned (.bool (forD (b, n) s.data.toList)) ∧ Below w.heap.size w w'
/-- a digipeater of the call's own; some other blocks that it is off -/
def DiO (D : DiP) (w0 : World) (d : Nat) (C : List Cl) (k : Nat × Nat × Nat) (K : Nat → Prop) (W : World) : Prop := ∃ F, D W d C k F ∧ (∀ b, F b → w0.heap.size ≤ b) ∧ Below w0.heap.size w0 W ∧ ∀ b, K b → b < W.heap.size ∧ ¬ F b
section
variable {D : DiP} (hC : DiC D) {w0 W W' : World} {d : Nat} {C : List Cl} {k : Nat × Nat × Nat} {K : Nat → Prop}
theorem DiO.bel (h : DiO D w0 d C k K W) : Below w0.heap.size w0 W := by
  obtain ⟨F, h1, h2, h3, h4⟩ := h
  exact h3
theorem DiO.less {K' : Nat → Prop} (h : DiO D w0 d C k K W) (hK : ∀ b, K' b → K b) : DiO D w0 d C k K' W := by
  obtain ⟨F, h1, h2, h3, h4⟩ := h
  exact ⟨F, h1, h2, h3, fun b hk => h4 b (hK b hk)⟩
include hC
theorem DiO.below (h : DiO D w0 d C k K W) (hb : Below W.heap.size W W') : DiO D w0 d C k K W' := by
  obtain ⟨F, h1, h2, h3, h4⟩ := h
  exact ⟨F, hC.stay h1 (SameOn.of_below hb (hC.mem h1)), h2, h3.trans (hb.mono h3.size), fun b hk => ⟨Nat.lt_of_lt_of_le (h4 b hk).1 hb.size, (h4 b hk).2⟩⟩
theorem DiO.alloc (h : DiO D w0 d C k K W) (o : Obj) : DiO D w0 d C k (fun b => K b ∨ b = W.heap.size) (W.alloc o) := by
  have hb := (Below.refl W.heap.size W).alloc (Nat.le_refl _) o
  obtain ⟨F, h1, h2, h3, h4⟩ := h
  refine ⟨F, hC.stay h1 (SameOn.of_below hb (hC.mem h1)), h2, h3.trans (hb.mono h3.size), fun b hk => ?_⟩
  rcases hk with hk | rfl
  · exact ⟨Nat.lt_of_lt_of_le (h4 b hk).1 hb.size, (h4 b hk).2⟩
  · exact ⟨by simp, fun hf => by have := hC.mem h1 _ hf; omega⟩
theorem DiO.on (h : DiO D w0 d C k K W) (hW : CodesOk w0) (s : ByteArray) (hs : s.size ≤ 1000) (hk : few k) : Calls Tryd.prog 10 #[ptrD d, .string s] W fun e w' =>
    e = .returned (sayD (onD C s.data.toList)) ∧ DiO D w0 d C (cntD k (onD C s.data.toList).2) K w' ∧ SameOn K W w' := by
  obtain ⟨F, h1, h2, h3, h4⟩ := h
  refine (hC.on W d C k F s (hW.below h3) h1 hs hk).mono ?_
  rintro e w' ⟨rfl, q1, q2⟩
  exact ⟨rfl, ⟨F, q1, h2, h3.trans (q2.below h3.size h2), fun b hk => ⟨Nat.lt_of_lt_of_le (h4 b hk).1 q2.size, (h4 b hk).2⟩⟩, q2.size, fun b hk => q2.block b (h4 b hk).1 (h4 b hk).2⟩
theorem DiO.mine (h : DiO D w0 d C k K W) (b : ByteArray) (n : Int) : Calls Tryd.prog 16 #[ptrD d, .agg #[.string b, .int .i64 n]] W fun e w' => e = .returned (.bool (mineB C (b, n))) ∧ DiO D w0 d C k K w' ∧ Below W.heap.size W w' := by
  have hh := h
  obtain ⟨F, h1, h2, h3, h4⟩ := h
  refine (hC.mine W d C k F b n h1).mono ?_
  rintro e w' ⟨rfl, hb⟩
  exact ⟨rfl, hh.below hC hb, hb⟩
theorem DiO.counts (h : DiO D w0 d C k K W) : Calls Tryd.prog 15 #[ptrD d] W fun e w' => e = .returned (.tuple #[.int .i64 (k.1 : Nat), .int .i64 (k.2.1 : Nat), .int .i64 (k.2.2 : Nat)]) ∧ DiO D w0 d C k K w' ∧ Below W.heap.size W w' := by
  have hh := h
  obtain ⟨F, h1, h2, h3, h4⟩ := h
  refine (hC.counts W d C k F h1).mono ?_
  rintro e w' ⟨rfl, hb⟩
  exact ⟨rfl, hh.below hC hb, hb⟩
end
/-- the example's frame, as it is sent first, and on -/
def exS18 : List UInt8 := bytesF [(⟨#[66]⟩, 0, true), (⟨#[65]⟩, 0, false), (⟨#[67]⟩, 0, false)] 12 0 0 false false 240 [120]
def exT18 : List UInt8 := bytesF [(⟨#[66]⟩, 0, true), (⟨#[65]⟩, 0, false), (⟨#[67]⟩, 0, true)] 12 0 0 false false 240 [120]
theorem ex18_wrong : wrongF [(⟨#[66]⟩, 0, true), (⟨#[65]⟩, 0, false), (⟨#[67]⟩, 0, false)] 12 0 0 false 240 1 = 0 := by decide +kernel
theorem ex18_len : exS18.length = 24 ∧ exT18.length = 24 := by decide +kernel
theorem ex18_on : onD [(⟨#[67]⟩, 0)] exS18 = (exT18, 0) := by decide +kernel
theorem ex18_for : forD (⟨#[66]⟩, 0) exS18 = false ∧ forD (⟨#[66]⟩, 0) exT18 = true := by decide +kernel
theorem ex18_made : madeD [(⟨#[67]⟩, 0)] = 0 := by decide +kernel
theorem ex18_right : rightP ((⟨#[66]⟩, 0, true) :: (⟨#[65]⟩, 0, !true) :: freshD [(⟨#[67]⟩, 0)]) = true := by decide +kernel
end Go.Proofs.YtikabflmgckdnaaDoor
