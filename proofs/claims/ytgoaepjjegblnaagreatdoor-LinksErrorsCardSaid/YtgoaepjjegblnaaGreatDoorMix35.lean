/-
The landed code's Encode of frames.
What a landed digipeater has to answer (contracts); the document's example.
The landed code's Decode: the answer's cells, the frame that is made.
-/
import Derived.Test.YtgoaepjjegblnaaGreatDoorMix18
import Derived.Test.YtgoaepjjegblnaaGreatDoorMix25
import Derived.Test.YtgoaepjjegblnaaGreatDoorMix26
import Derived.Lib.QuietBelow
import Derived.Deep.QuietTactic
import Derived.Test.YtgoaepjjegblnaaGreatDoorMix06
import Derived.ArgAppend
import Derived.Test.YtgoaepjjegblnaaGreatDoorMix05
import Derived.Test.YtgoaepjjegblnaaGreatDoorMix24
namespace Go.Proofs.YtgoaepjjegblnaaGreatDoor
open Go.RowKit Go.Sort
set_option maxRecDepth 20000
theorem putB_le (k nr ns : Nat) (pf wide : Bool) : (putB k nr ns pf wide).length ≤ 2 := by
  unfold putB
  split <;> simp
theorem bytesP_size (L : List Ent) (h : L.length ≤ 10) : (⟨(bytesP L L.length).toArray⟩ : ByteArray).size ≤ 70 := by
  show (bytesP L L.length).toArray.size ≤ 70
  have := bytesP_len' L L.length (Nat.le_refl _)
  simp; omega
theorem right_len {L : List Ent} (h : rightP L = true) : L.length ≤ 10 := by
  unfold rightP at h
  simp only [Bool.and_eq_true, decide_eq_true_eq] at h
  exact h.1.2
set_option maxHeartbeats 2000000 in
theorem enc_yes (tb fb : ByteArray) (tn fn : Int) (tm fm : Bool) (a : Option Addr) (cap : Nat) (D : List Ent) (k nr ns : Int) (pf : Bool) (pid : Int) (info : ByteArray) (wide : Bool) (w : World) (hC : CodesOk w) (hD : D.length ≤ 1000) (hE : EntsAt w a cap D) (hw : wrongF ((tb, tn, tm) :: (fb, fn, fm) :: D) k nr ns wide pid info.size = 0) :
    Calls Tryz.prog 57 #[.agg #[.string tb, .int .i64 tn, .string fb, .int .i64 fn, .bool tm, .bool fm, .slice a D.length cap, .int .i64 k, .int .i64 nr, .int .i64 ns, .bool pf, .int .i64 pid, .string info], .bool wide] w fun e w' => e = .returned (.tuple #[.string ⟨(bytesF ((tb, tn, tm) :: (fb, fn, fm) :: D) k nr ns pf wide pid info.data.toList).toArray⟩, .int .i64 0]) ∧ Below w.heap.size w w' := by
  have HB0 := Lib.hid ((Below.refl _ w).alloc (Nat.le_refl _) (.cells #[.string tb, .int .i64 tn, .string fb, .int .i64 fn, .bool tm, .bool fm, .slice a D.length cap, .int .i64 k, .int .i64 nr, .int .i64 ns, .bool pf, .int .i64 pid, .string info] 74))
  have HF0 := Lib.hid (F13.new w w.heap.size rfl (.string tb) (.int .i64 tn) (.string fb) (.int .i64 fn) (.bool tm) (.bool fm) (.slice a D.length cap) (.int .i64 k) (.int .i64 nr) (.int .i64 ns) (.bool pf) (.int .i64 pid) (.string info) 74)
  have hfa := fun W (h : Below w.heap.size w W) => fault_any tb fb tn fn tm fm a cap D k nr ns pf pid info wide W hD (hE.below h)
  rw [hw] at hfa
  obtain ⟨h1, h2, h3, h4⟩ := right_frame hw
  have hpu := fun W (h : Below w.heap.size w W) => pput_any tb fb tn fn tm fm a cap D W hD (hE.below h)
  unfold pputE at hpu
  rw [h1] at hpu
  simp only [if_true] at hpu
  have hcu := fun W (h : Below w.heap.size w W) => ctlput_any k nr ns pf wide W (hC.below h)
  unfold cputE at hcu
  rw [h2] at hcu
  simp only [if_true] at hcu
  have hpd := fun W => pid_any k W
  obtain ⟨P, rfl, hP, hP0⟩ := pid_facts h3
  have hi := (inf_facts h4).1
  have s1 := bytesP_size ((tb, tn, tm) :: (fb, fn, fm) :: D) (right_len h1)
  have s2 : (⟨(putB k.toNat nr.toNat ns.toNat pf wide).toArray⟩ : ByteArray).size ≤ 2 := putB_le _ _ _ _ _
  have e0 : bytesF ((tb, tn, tm) :: (fb, fn, fm) :: D) k nr ns pf wide (P : Int) info.data.toList = (bytesP ((tb, tn, tm) :: (fb, fn, fm) :: D) (((tb, tn, tm) :: (fb, fn, fm) :: D)).length ++ putB k.toNat nr.toNat ns.toNat pf wide) ++ ((if pidD k then [UInt8.ofNat P] else []) ++ info.data.toList) := by
    unfold bytesF pidB
    rw [List.append_assoc]
    rfl
  rw [e0]
  obtain ⟨R, hR⟩ : ∃ R : ByteArray, R = ⟨((bytesP ((tb, tn, tm) :: (fb, fn, fm) :: D) (((tb, tn, tm) :: (fb, fn, fm) :: D)).length ++ putB k.toNat nr.toNat ns.toNat pf wide) ++ ((if pidD k then [UInt8.ofNat P] else []) ++ info.data.toList)).toArray⟩ := ⟨_, rfl⟩
  rw [← hR]
  clear e0
  generalize bytesP ((tb, tn, tm) :: (fb, fn, fm) :: D) (((tb, tn, tm) :: (fb, fn, fm) :: D)).length = l1 at *
  generalize putB k.toNat nr.toNat ns.toNat pf wide = l2 at *
  obtain ⟨S1, hS1⟩ : ∃ S : ByteArray, S = ⟨l1.toArray⟩ := ⟨_, rfl⟩
  obtain ⟨S2, hS2⟩ : ∃ S : ByteArray, S = ⟨l2.toArray⟩ := ⟨_, rfl⟩
  rw [← hS1] at hpu s1
  rw [← hS2] at hcu s2
  have c1 := fun (w : World) => run_string_add_sum (P := Tryz.prog) (w := w) S1 S2 (by omega)
  obtain ⟨S3, hS3⟩ : ∃ S : ByteArray, S = S1 ++ S2 := ⟨_, rfl⟩
  rw [← hS3] at c1
  have s3 : S3.size ≤ 72 := by rw [hS3, ByteArray.size_append]; omega
  have HFA := Lib.hid hfa
  have HPU := Lib.hid hpu
  have HCU := Lib.hid hcu
  clear hfa hpu hcu hE h1 h2 h4 hw hC
  cases hp : pidD k
  · rw [hp] at hpd
    have HPD := Lib.hid hpd
    have c2 := fun (w : World) => run_string_add_sum (P := Tryz.prog) (w := w) S3 info (by omega)
    obtain ⟨S4, hS4⟩ : ∃ S : ByteArray, S = S3 ++ info := ⟨_, rfl⟩
    rw [← hS4] at c2
    have HR := Lib.hid (show S4 = R from by
      apply bytes_ext'
      rw [hR, hp, hS4, hS3, hS1, hS2]
      simp [ByteArray.data_append])
    clear hpd hS1 hS2 hS3 hS4 s1 s2 s3 hP0 h3 hR
    go_enter Tryz.func57, Tryz.ntmps57
    go_wp2_with (first
      | (go_at_call 105; (with_reducible refine (HFA.out _ HB0.out).mono ?_); rintro e w1 ⟨rfl, hb⟩; have HB := Lib.hid (HB0.out.trans (hb.mono HB0.out.size)); have HF := Lib.hid (HF0.out.below hb); clear hb; obtain ⟨⟨p0, -, pl⟩, ⟨p1, -, -⟩, ⟨p2, -, -⟩, ⟨p3, -, -⟩, ⟨p4, -, -⟩, ⟨p5, -, -⟩, ⟨p6, -, -⟩, ⟨p7, -, -⟩, ⟨p8, -, -⟩, ⟨p9, -, -⟩, ⟨p10, -, -⟩, ⟨p11, -, -⟩, ⟨p12, -, -⟩⟩ := HF.out)
      | (go_at_call 106; (with_reducible refine (HPU.out _ HB.out).mono ?_); rintro e w2 ⟨rfl, hb⟩; replace HB := Lib.hid (HB.out.trans (hb.mono HB.out.size)); replace HF := Lib.hid (HF.out.below hb); clear hb; clear p0 pl p1 p2 p3 p4 p5 p6 p7 p8 p9 p10 p11 p12; obtain ⟨⟨p0, -, pl⟩, ⟨p1, -, -⟩, ⟨p2, -, -⟩, ⟨p3, -, -⟩, ⟨p4, -, -⟩, ⟨p5, -, -⟩, ⟨p6, -, -⟩, ⟨p7, -, -⟩, ⟨p8, -, -⟩, ⟨p9, -, -⟩, ⟨p10, -, -⟩, ⟨p11, -, -⟩, ⟨p12, -, -⟩⟩ := HF.out)
      | (go_at_call 107; (with_reducible refine (HCU.out _ HB.out).mono ?_); rintro e w3 ⟨rfl, hb⟩; replace HB := Lib.hid (HB.out.trans (hb.mono HB.out.size)); replace HF := Lib.hid (HF.out.below hb); clear hb; clear p0 pl p1 p2 p3 p4 p5 p6 p7 p8 p9 p10 p11 p12; obtain ⟨⟨p0, -, pl⟩, ⟨p1, -, -⟩, ⟨p2, -, -⟩, ⟨p3, -, -⟩, ⟨p4, -, -⟩, ⟨p5, -, -⟩, ⟨p6, -, -⟩, ⟨p7, -, -⟩, ⟨p8, -, -⟩, ⟨p9, -, -⟩, ⟨p10, -, -⟩, ⟨p11, -, -⟩, ⟨p12, -, -⟩⟩ := HF.out)
      | (go_at_call 102; (with_reducible refine (HPD.out _).mono ?_); rintro e w4 ⟨rfl, rfl⟩))
    go_ret2
    exact ⟨by rw [HR.out]; rfl, HB.out⟩
  · rw [hp] at hpd
    have HPD := Lib.hid hpd
    have hcv : IntKind.u8.wrap (P : Int) = (P : Int) := IntWalk.u8_in _ (by omega)
    obtain ⟨SP, hSP⟩ : ∃ S : ByteArray, S = ⟨#[UInt8.ofNat P]⟩ := ⟨_, rfl⟩
    have hsp1 : SP.size = 1 := by rw [hSP]; rfl
    have hcvr := fun (W : World) => OwnB.conv1 W W.heap.size (P : Int) P rfl hP rfl
    simp only [← hSP] at hcvr
    have c2 := fun (w : World) => run_string_add_sum (P := Tryz.prog) (w := w) S3 SP (by omega)
    obtain ⟨S4, hS4⟩ : ∃ S : ByteArray, S = S3 ++ SP := ⟨_, rfl⟩
    rw [← hS4] at c2
    have s4 : S4.size ≤ 73 := by rw [hS4, ByteArray.size_append]; omega
    have c3 := fun (w : World) => run_string_add_sum (P := Tryz.prog) (w := w) S4 info (by omega)
    obtain ⟨S5, hS5⟩ : ∃ S : ByteArray, S = S4 ++ info := ⟨_, rfl⟩
    rw [← hS5] at c3
    have HR := Lib.hid (show S5 = R from by
      apply bytes_ext'
      rw [hR, hp, hS5, hS4, hS3, hS1, hS2, hSP]
      simp [ByteArray.data_append])
    clear hpd hS1 hS2 hS3 hS4 hS5 hSP hsp1 s1 s2 s3 s4 hP0 h3 hR
    go_enter Tryz.func57, Tryz.ntmps57
    go_wp2_with (first
      | (go_at_call 105; (with_reducible refine (HFA.out _ HB0.out).mono ?_); rintro e w1 ⟨rfl, hb⟩; have HB := Lib.hid (HB0.out.trans (hb.mono HB0.out.size)); have HF := Lib.hid (HF0.out.below hb); clear hb; obtain ⟨⟨p0, -, pl⟩, ⟨p1, -, -⟩, ⟨p2, -, -⟩, ⟨p3, -, -⟩, ⟨p4, -, -⟩, ⟨p5, -, -⟩, ⟨p6, -, -⟩, ⟨p7, -, -⟩, ⟨p8, -, -⟩, ⟨p9, -, -⟩, ⟨p10, -, -⟩, ⟨p11, -, -⟩, ⟨p12, -, -⟩⟩ := HF.out)
      | (go_at_call 106; (with_reducible refine (HPU.out _ HB.out).mono ?_); rintro e w2 ⟨rfl, hb⟩; replace HB := Lib.hid (HB.out.trans (hb.mono HB.out.size)); replace HF := Lib.hid (HF.out.below hb); clear hb; clear p0 pl p1 p2 p3 p4 p5 p6 p7 p8 p9 p10 p11 p12; obtain ⟨⟨p0, -, pl⟩, ⟨p1, -, -⟩, ⟨p2, -, -⟩, ⟨p3, -, -⟩, ⟨p4, -, -⟩, ⟨p5, -, -⟩, ⟨p6, -, -⟩, ⟨p7, -, -⟩, ⟨p8, -, -⟩, ⟨p9, -, -⟩, ⟨p10, -, -⟩, ⟨p11, -, -⟩, ⟨p12, -, -⟩⟩ := HF.out)
      | (go_at_call 107; (with_reducible refine (HCU.out _ HB.out).mono ?_); rintro e w3 ⟨rfl, hb⟩; replace HB := Lib.hid (HB.out.trans (hb.mono HB.out.size)); replace HF := Lib.hid (HF.out.below hb); clear hb; clear p0 pl p1 p2 p3 p4 p5 p6 p7 p8 p9 p10 p11 p12; obtain ⟨⟨p0, -, pl⟩, ⟨p1, -, -⟩, ⟨p2, -, -⟩, ⟨p3, -, -⟩, ⟨p4, -, -⟩, ⟨p5, -, -⟩, ⟨p6, -, -⟩, ⟨p7, -, -⟩, ⟨p8, -, -⟩, ⟨p9, -, -⟩, ⟨p10, -, -⟩, ⟨p11, -, -⟩, ⟨p12, -, -⟩⟩ := HF.out)
      | (go_at_call 102; (with_reducible refine (HPD.out _).mono ?_); rintro e w4 ⟨rfl, rfl⟩))
    go_ret2
    exact ⟨by rw [HR.out]; rfl, HB.out.alloc HB.out.size _⟩
end Go.Proofs.YtgoaepjjegblnaaGreatDoor
namespace Go.Proofs.YtgoaepjjegblnaaGreatDoor
open Go.RowKit Go.Sort
set_option maxRecDepth 20000
/-- how a digipeater lies: its calls (own, then aliases), what it has counted (sent on, not for it, can't be decoded), in which blocks -/
abbrev DiP := World → Nat → List Cl → Nat × Nat × Nat → (Nat → Prop) → Prop
abbrev few (k : Nat × Nat × Nat) : Prop := k.1 ≤ 1000 ∧ k.2.1 ≤ 1000 ∧ k.2.2 ≤ 1000
structure DiC (D : DiP) : Prop where
  mem : ∀ {w d C k F}, D w d C k F → ∀ b, F b → b < w.heap.size
  stay : ∀ {w w' d C k F}, D w d C k F → SameOn F w w' → D w' d C k F
  for_ : ∀ (w : World) (b : ByteArray) (n : Int) (s : ByteArray), CodesOk w → s.size ≤ 1000 → Calls Tryz.prog 143 #[.agg #[.string b, .int .i64 n], .string s] w fun e w' => e = .returned (.bool (forD (b, n) s.data.toList)) ∧ Below w.heap.size w w'
section
variable {D : DiP} (hC : DiC D) {w0 W W' : World} {d : Nat} {C : List Cl} {k : Nat × Nat × Nat} {K : Nat → Prop}
include hC
end
end Go.Proofs.YtgoaepjjegblnaaGreatDoor
namespace Go.Proofs.YtgoaepjjegblnaaGreatDoor
open Go.RowKit Go.Sort
set_option maxRecDepth 20000
/-- the answer's cells, and the frame that is made -/
structure DcAt (w W : World) (m : Nat) (sv v0 v1 v2 v3 v4 v5 v6 v7 v8 v9 v10 v11 v12 : Value) (D : List Ent) : Prop where
  res : F13 W w.heap.size (.string ⟨#[]⟩) (.int .i64 0) (.string ⟨#[]⟩) (.int .i64 0) (.bool false) (.bool false) (.slice none 0 0) (.int .i64 0) (.int .i64 0) (.int .i64 0) (.bool false) (.int .i64 0) (.string ⟨#[]⟩)
  box : F13 W m v0 v1 v2 v3 v4 v5 v6 v7 v8 v9 v10 v11 v12
  own : OwnE 157 W (w.heap.size + 1) sv D
  bel : Below w.heap.size w W
  rm : w.heap.size < m
  lt : ∀ g, sv.ownBlock = some g → g < m
theorem DcAt.below {w W W' : World} {m : Nat} {sv v0 v1 v2 v3 v4 v5 v6 v7 v8 v9 v10 v11 v12 : Value} {D : List Ent} (h : DcAt w W m sv v0 v1 v2 v3 v4 v5 v6 v7 v8 v9 v10 v11 v12 D) (hb : Below W.heap.size W W') : DcAt w W' m sv v0 v1 v2 v3 v4 v5 v6 v7 v8 v9 v10 v11 v12 D :=
  ⟨h.res.below hb, h.box.below hb, h.own.below hb, h.bel.trans (hb.mono h.bel.size), h.rm, h.lt⟩
theorem DcAt.pid {w W : World} {m : Nat} {sv v0 v1 v2 v3 v4 v5 v6 v7 v8 v9 v10 v11 v12 : Value} {D : List Ent} (h : DcAt w W m sv v0 v1 v2 v3 v4 v5 v6 v7 v8 v9 v10 v11 v12 D) (u : Value) : DcAt w (W.setCell ⟨m, 11, none⟩ u) m sv v0 v1 v2 v3 v4 v5 v6 v7 v8 v9 v10 u v12 D := by
  have hm := h.rm
  exact ⟨h.res.other _ (by omega), h.box.pid u, h.own.grown (grown_set (grown_refl W (some m)) (o := 11) u) (fun g hv e => by have := h.lt g hv; have := Option.some.inj e; omega), h.bel.setCell (p := ⟨m, 11, none⟩) (by show w.heap.size ≤ m; omega) _, hm, h.lt⟩
theorem DcAt.info {w W : World} {m : Nat} {sv v0 v1 v2 v3 v4 v5 v6 v7 v8 v9 v10 v11 v12 : Value} {D : List Ent} (h : DcAt w W m sv v0 v1 v2 v3 v4 v5 v6 v7 v8 v9 v10 v11 v12 D) (u : Value) : DcAt w (W.setCell ⟨m, 12, none⟩ u) m sv v0 v1 v2 v3 v4 v5 v6 v7 v8 v9 v10 v11 u D := by
  have hm := h.rm
  exact ⟨h.res.other _ (by omega), h.box.info u, h.own.grown (grown_set (grown_refl W (some m)) (o := 12) u) (fun g hv e => by have := h.lt g hv; have := Option.some.inj e; omega), h.bel.setCell (p := ⟨m, 12, none⟩) (by show w.heap.size ≤ m; omega) _, hm, h.lt⟩
theorem DcAt.drew {w W : World} {m : Nat} {sv v0 v1 v2 v3 v4 v5 v6 v7 v8 v9 v10 v11 v12 : Value} {D : List Ent} (h : DcAt w W m sv v0 v1 v2 v3 v4 v5 v6 v7 v8 v9 v10 v11 v12 D) : DcAt w W.drew m sv v0 v1 v2 v3 v4 v5 v6 v7 v8 v9 v10 v11 v12 D := h.below ((Below.refl _ W).drew)
theorem slice_at (s : ByteArray) (A : Nat) (h : A ≤ s.size) : ∃ T : ByteArray, T.data.toList = s.data.toList.drop A ∧ ∀ W, (Instr.slice 9 (.string s) (some (.int .i64 (A : Int))) none none).run Tryz.prog W = .ok (.string T) W := by
  refine ⟨s.extract A s.size, ?_, fun W => ?_⟩
  · rw [Lib.extract_to_end]
  · have k := run_slice_string_l (P := Tryz.prog) (w := W) 9 s Tryz.underlying9 .i64 (A : Int) (by omega) (by omega)
    rw [show ((A : Int)).toNat = A from by omega] at k
    exact k
end Go.Proofs.YtgoaepjjegblnaaGreatDoor
