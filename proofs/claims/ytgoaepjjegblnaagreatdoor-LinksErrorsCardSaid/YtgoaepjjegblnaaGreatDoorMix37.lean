/-
The landed digipeater's decode, Decodes.
-/
import Derived.Test.YtgoaepjjegblnaaGreatDoorMix35
import Derived.Test.YtgoaepjjegblnaaGreatDoorMix06
import Derived.Deep.AppendSrc
import Derived.Lib.AppendZeros
import Derived.Test.YtgoaepjjegblnaaGreatDoorMix36
namespace Go.Proofs.YtgoaepjjegblnaaGreatDoor
open Go.RowKit Go.Sort
set_option maxRecDepth 20000
/-- stores into a block that the entries don't lie in -/
theorem ents_set {w : World} {a : Option Addr} {c : Nat} {D : List Ent} (h : EntsAt w a c D) {m : Nat} (hq : ∀ q, a = some q → q.block ≠ m) (i : Nat) (u : Value) : EntsAt (w.setCell ⟨m, i, none⟩ u) a c D :=
  h.same (fun q e => Below.heap_setCell _ _ _ _ (by have := hq q e; show q.block ≠ m; omega)) (by simp [World.setCell])
theorem ents13 {w : World} {a : Option Addr} {c : Nat} {D : List Ent} (h : EntsAt w a c D) {m : Nat} (hq : ∀ q, a = some q → q.block ≠ m) (u0 u1 u2 u3 u4 u5 u6 u7 u8 u9 u10 u11 u12 : Value) : EntsAt (((((((((((((w.setCell ⟨m, 0, none⟩ u0).setCell ⟨m, 1, none⟩ u1).setCell ⟨m, 2, none⟩ u2).setCell ⟨m, 3, none⟩ u3).setCell ⟨m, 4, none⟩ u4).setCell ⟨m, 5, none⟩ u5).setCell ⟨m, 6, none⟩ u6).setCell ⟨m, 7, none⟩ u7).setCell ⟨m, 8, none⟩ u8).setCell ⟨m, 9, none⟩ u9).setCell ⟨m, 10, none⟩ u10).setCell ⟨m, 11, none⟩ u11).setCell ⟨m, 12, none⟩ u12) a c D :=
  ents_set (ents_set (ents_set (ents_set (ents_set (ents_set (ents_set (ents_set (ents_set (ents_set (ents_set (ents_set (ents_set h hq 0 u0) hq 1 u1) hq 2 u2) hq 3 u3) hq 4 u4) hq 5 u5) hq 6 u6) hq 7 u7) hq 8 u8) hq 9 u9) hq 10 u10) hq 11 u11) hq 12 u12
/-- what a frame's Decode answers where it can be decoded -/
def FdYes (s : List UInt8) (W : World) (e : Ending) (w' : World) : Prop := (∃ (xb : ByteArray) (xn : Int) (xm : Bool) (yb : ByteArray) (yn : Int) (ym : Bool) (D : List Ent) (da : Option Addr) (dc : Nat) (k nr ns : Int) (pf : Bool) (pid : Int) (info : ByteArray), pathL s = (xb, xn, xm) :: (yb, yn, ym) :: D ∧ e = .returned (.tuple #[.agg #[.string xb, .int .i64 xn, .string yb, .int .i64 yn, .bool xm, .bool ym, .slice da D.length dc, .int .i64 k, .int .i64 nr, .int .i64 ns, .bool pf, .int .i64 pid, .string info], .int .i64 0]) ∧ EntsAt w' da dc D ∧ ∀ q, da = some q → W.heap.size ≤ q.block) ∧ Below W.heap.size W w'
theorem fdec_yes (s : ByteArray) (wide : Bool) (w : World) (hs : s.size ≤ 100000) (hC : CodesOk w) (h : decE s.data.toList wide = 0) :
    Calls Tryz.prog 56 #[.string s, .bool wide] w fun e w' => FdYes s.data.toList w e w' := by
  refine (fdecx_any s wide w hs hC).mono ?_
  rintro e w' ⟨-, h2, h3⟩
  obtain ⟨x, y, D, da, dc, pid, info, hx, rfl, hE, hO, -⟩ := h2 h
  exact ⟨⟨x.1, x.2.1, x.2.2, y.1, y.2.1, y.2.2, D, da, dc, _, _, _, _, _, _, hx, rfl, hE, hO⟩, h3⟩
theorem fdec_no (s : ByteArray) (wide : Bool) (w : World) (hs : s.size ≤ 100000) (hC : CodesOk w) (h : decE s.data.toList wide ≠ 0) :
    Calls Tryz.prog 56 #[.string s, .bool wide] w fun e w' => e = .returned (.tuple #[.agg #[.string ⟨#[]⟩, .int .i64 0, .string ⟨#[]⟩, .int .i64 0, .bool false, .bool false, .slice none 0 0, .int .i64 0, .int .i64 0, .int .i64 0, .bool false, .int .i64 0, .string ⟨#[]⟩], .int .i64 (decE s.data.toList wide : Nat)]) ∧ Below w.heap.size w w' := by
  refine (fdecx_any s wide w hs hC).mono ?_
  rintro e w' ⟨h1, -, h3⟩
  exact ⟨h1 h, h3⟩
/-- what the landed decode answers -/
def DecTo (s : List UInt8) (w : World) (e : Ending) (w' : World) : Prop :=
  (decB s = false → e = .returned (.tuple #[.agg #[.string ⟨#[]⟩, .int .i64 0, .string ⟨#[]⟩, .int .i64 0, .bool false, .bool false, .slice none 0 0, .int .i64 0, .int .i64 0, .int .i64 0, .bool false, .int .i64 0, .string ⟨#[]⟩], .bool false])) ∧
  (decB s = true → ∃ (xb : ByteArray) (xn : Int) (xm : Bool) (yb : ByteArray) (yn : Int) (ym : Bool) (D : List Ent) (da : Option Addr) (dc : Nat) (k nr ns : Int) (pf : Bool) (pid : Int) (info : ByteArray), pathL s = (xb, xn, xm) :: (yb, yn, ym) :: D ∧ e = .returned (.tuple #[.agg #[.string xb, .int .i64 xn, .string yb, .int .i64 yn, .bool xm, .bool ym, .slice da D.length dc, .int .i64 k, .int .i64 nr, .int .i64 ns, .bool pf, .int .i64 pid, .string info], .bool true]) ∧ EntsAt w' da dc D) ∧ Below w.heap.size w w'
set_option maxHeartbeats 4000000 in
theorem cdecode_a (s : ByteArray) (w : World) (hs : s.size ≤ 100000) (hC : CodesOk w) (h : decE s.data.toList false = 0) : Calls Tryz.prog 189 #[.string s] w fun e w' => DecTo s.data.toList w e w' := by
  have hB : decB s.data.toList = true := by unfold decB; rw [h]; rfl
  unfold DecTo
  rw [hB]
  have HD := Lib.hid (fun W hb => fdec_yes s false W hs (hC.below hb) h)
  unfold FdYes at HD
  have HB0 := Lib.hid ((Below.refl _ w).alloc (Nat.le_refl _) (.cells #[.string ⟨#[]⟩, .int .i64 0, .string ⟨#[]⟩, .int .i64 0, .bool false, .bool false, .slice none 0 0, .int .i64 0, .int .i64 0, .int .i64 0, .bool false, .int .i64 0, .string ⟨#[]⟩] 74))
  have HF0 := Lib.hid (F13.new w w.heap.size rfl (.string ⟨#[]⟩) (.int .i64 0) (.string ⟨#[]⟩) (.int .i64 0) (.bool false) (.bool false) (.slice none 0 0) (.int .i64 0) (.int .i64 0) (.int .i64 0) (.bool false) (.int .i64 0) (.string ⟨#[]⟩) 74)
  generalize pathL s.data.toList = L at *
  clear hC h hB
  go_enter Tryz.func189, Tryz.ntmps189
  go_wp2_with (go_at_call 56; (with_reducible refine (HD.out _ HB0.out).mono ?_); rintro e w1 ⟨⟨xb, xn, xm, yb, yn, ym, D, da, dc, k, nr, ns, pf, pid, info, hx, rfl, hE, hq⟩, hb⟩; have HX := Lib.hid hx; have hb1 := HB0.out.trans (hb.mono HB0.out.size); have HB := Lib.hid (hb1.alloc hb1.size (.cells #[.string xb, .int .i64 xn, .string yb, .int .i64 yn, .bool xm, .bool ym, .slice da D.length dc, .int .i64 k, .int .i64 nr, .int .i64 ns, .bool pf, .int .i64 pid, .string info] 74)); have HR := Lib.hid ((HF0.out.below hb).alloc (.cells #[.string xb, .int .i64 xn, .string yb, .int .i64 yn, .bool xm, .bool ym, .slice da D.length dc, .int .i64 k, .int .i64 nr, .int .i64 ns, .bool pf, .int .i64 pid, .string info] 74)); have HO := Lib.hid (F13.new w1 w1.heap.size rfl (.string xb) (.int .i64 xn) (.string yb) (.int .i64 yn) (.bool xm) (.bool ym) (.slice da D.length dc) (.int .i64 k) (.int .i64 nr) (.int .i64 ns) (.bool pf) (.int .i64 pid) (.string info) 74); have HE := Lib.hid (hE.alloc (.cells #[.string xb, .int .i64 xn, .string yb, .int .i64 yn, .bool xm, .bool ym, .slice da D.length dc, .int .i64 k, .int .i64 nr, .int .i64 ns, .bool pf, .int .i64 pid, .string info] 74)); have HQ := Lib.hid (show ∀ q, da = some q → q.block ≠ w.heap.size from fun q e => by have := hq q e; simp at this; omega); have hne2 : ¬ w1.heap.size = w.heap.size := (by have := hb.size; simp at this; omega); clear hx hb hb1 hE hq; obtain ⟨⟨p0, q0, pl⟩, ⟨p1, q1, -⟩, ⟨p2, q2, -⟩, ⟨p3, q3, -⟩, ⟨p4, q4, -⟩, ⟨p5, q5, -⟩, ⟨p6, q6, -⟩, ⟨p7, q7, -⟩, ⟨p8, q8, -⟩, ⟨p9, q9, -⟩, ⟨p10, q10, -⟩, ⟨p11, q11, -⟩, ⟨p12, q12, -⟩⟩ := HR.out; obtain ⟨⟨b0, z0, bl⟩, ⟨b1, z1, -⟩, ⟨b2, z2, -⟩, ⟨b3, z3, -⟩, ⟨b4, z4, -⟩, ⟨b5, z5, -⟩, ⟨b6, z6, -⟩, ⟨b7, z7, -⟩, ⟨b8, z8, -⟩, ⟨b9, z9, -⟩, ⟨b10, z10, -⟩, ⟨b11, z11, -⟩, ⟨b12, z12, -⟩⟩ := HO.out)
  have S9 := F13.stored HR.out (.string xb) (.int .i64 xn) (.string yb) (.int .i64 yn) (.bool xm) (.bool ym) (.slice da D.length dc) (.int .i64 k) (.int .i64 nr) (.int .i64 ns) (.bool pf) (.int .i64 pid) (.string info)
  have HBF := Lib.hid (set13_below HB.out (Nat.le_refl _) (.string xb) (.int .i64 xn) (.string yb) (.int .i64 yn) (.bool xm) (.bool ym) (.slice da D.length dc) (.int .i64 k) (.int .i64 nr) (.int .i64 ns) (.bool pf) (.int .i64 pid) (.string info))
  have HEF := Lib.hid (ents13 HE.out HQ.out (.string xb) (.int .i64 xn) (.string yb) (.int .i64 yn) (.bool xm) (.bool ym) (.slice da D.length dc) (.int .i64 k) (.int .i64 nr) (.int .i64 ns) (.bool pf) (.int .i64 pid) (.string info))
  exact bodyPost_ret (v := .tuple #[.agg #[.string xb, .int .i64 xn, .string yb, .int .i64 yn, .bool xm, .bool ym, .slice da D.length dc, .int .i64 k, .int .i64 nr, .int .i64 ns, .bool pf, .int .i64 pid, .string info], .bool true]) (by simp [results, Tryz.results189, go_sem, S9.k0.cell, S9.k1.cell, S9.k2.cell, S9.k3.cell, S9.k4.cell, S9.k5.cell, S9.k6.cell, S9.k7.cell, S9.k8.cell, S9.k9.cell, S9.k10.cell, S9.k11.cell, S9.k12.cell]) rfl ⟨fun h => absurd h (by decide), fun _ => ⟨xb, xn, xm, yb, yn, ym, D, da, dc, k, nr, ns, pf, pid, info, HX.out, rfl, HEF.out⟩, HBF.out⟩
set_option maxHeartbeats 4000000 in
theorem cdecode_b (s : ByteArray) (w : World) (hs : s.size ≤ 100000) (hC : CodesOk w) (h0 : decE s.data.toList false ≠ 0) (h : decE s.data.toList true = 0) : Calls Tryz.prog 189 #[.string s] w fun e w' => DecTo s.data.toList w e w' := by
  have hB : decB s.data.toList = true := by unfold decB; rw [h, Bool.or_eq_true]; exact Or.inr rfl
  unfold DecTo
  rw [hB]
  have HD := Lib.hid (fun W hb => fdec_yes s true W hs (hC.below hb) h)
  have HN := Lib.hid (fun W hb => fdec_no s false W hs (hC.below hb) h0)
  unfold FdYes at HD
  have HB0 := Lib.hid ((Below.refl _ w).alloc (Nat.le_refl _) (.cells #[.string ⟨#[]⟩, .int .i64 0, .string ⟨#[]⟩, .int .i64 0, .bool false, .bool false, .slice none 0 0, .int .i64 0, .int .i64 0, .int .i64 0, .bool false, .int .i64 0, .string ⟨#[]⟩] 74))
  have HF0 := Lib.hid (F13.new w w.heap.size rfl (.string ⟨#[]⟩) (.int .i64 0) (.string ⟨#[]⟩) (.int .i64 0) (.bool false) (.bool false) (.slice none 0 0) (.int .i64 0) (.int .i64 0) (.int .i64 0) (.bool false) (.int .i64 0) (.string ⟨#[]⟩) 74)
  generalize pathL s.data.toList = L at *
  generalize decE s.data.toList false = E0 at *
  have hz : ((E0 : Int) != 0) = true := by rw [bne_iff_ne]; omega
  clear hC h hB h0
  go_enter Tryz.func189, Tryz.ntmps189
  go_upto_region 4 with (first
    | (go_at_call 56; (with_reducible refine (HN.out _ HB0.out).mono ?_); rintro e w1 ⟨rfl, hb⟩; have hb1 := HB0.out.trans (hb.mono HB0.out.size); have HB := Lib.hid (hb1.alloc hb1.size (.cells #[.string ⟨#[]⟩, .int .i64 0, .string ⟨#[]⟩, .int .i64 0, .bool false, .bool false, .slice none 0 0, .int .i64 0, .int .i64 0, .int .i64 0, .bool false, .int .i64 0, .string ⟨#[]⟩] 74)); have HR := Lib.hid ((HF0.out.below hb).alloc (.cells #[.string ⟨#[]⟩, .int .i64 0, .string ⟨#[]⟩, .int .i64 0, .bool false, .bool false, .slice none 0 0, .int .i64 0, .int .i64 0, .int .i64 0, .bool false, .int .i64 0, .string ⟨#[]⟩] 74)); have HO := Lib.hid (F13.new w1 w1.heap.size rfl (.string ⟨#[]⟩) (.int .i64 0) (.string ⟨#[]⟩) (.int .i64 0) (.bool false) (.bool false) (.slice none 0 0) (.int .i64 0) (.int .i64 0) (.int .i64 0) (.bool false) (.int .i64 0) (.string ⟨#[]⟩) 74); have hmr : w.heap.size < w1.heap.size := (by have := hb.size; simp at this; omega); clear hb hb1)
    | (go_at_call 56; (with_reducible refine (HD.out _ HB.out).mono ?_); rintro e w2 ⟨⟨xb, xn, xm, yb, yn, ym, D, da, dc, k, nr, ns, pf, pid, info, hx, rfl, hE, hq⟩, hb⟩; have HX := Lib.hid hx; have HB2 := Lib.hid (HB.out.trans (hb.mono HB.out.size)); have HR2 := Lib.hid (HR.out.below hb); have HO2 := Lib.hid (HO.out.below hb); have HE := Lib.hid hE; have HQ := Lib.hid (show ∀ q, da = some q → w1.heap.size < q.block from fun q e => by have := hq q e; simp at this; omega); clear hx hb hE hq; obtain ⟨⟨b0, z0, bl⟩, ⟨b1, z1, -⟩, ⟨b2, z2, -⟩, ⟨b3, z3, -⟩, ⟨b4, z4, -⟩, ⟨b5, z5, -⟩, ⟨b6, z6, -⟩, ⟨b7, z7, -⟩, ⟨b8, z8, -⟩, ⟨b9, z9, -⟩, ⟨b10, z10, -⟩, ⟨b11, z11, -⟩, ⟨b12, z12, -⟩⟩ := HO2.out))
  have HO3 := Lib.hid (F13.stored HO2.out (.string xb) (.int .i64 xn) (.string yb) (.int .i64 yn) (.bool xm) (.bool ym) (.slice da D.length dc) (.int .i64 k) (.int .i64 nr) (.int .i64 ns) (.bool pf) (.int .i64 pid) (.string info))
  have HB3 := Lib.hid (set13_below HB2.out (Nat.le_of_lt hmr) (.string xb) (.int .i64 xn) (.string yb) (.int .i64 yn) (.bool xm) (.bool ym) (.slice da D.length dc) (.int .i64 k) (.int .i64 nr) (.int .i64 ns) (.bool pf) (.int .i64 pid) (.string info))
  have HE3 := Lib.hid (ents13 HE.out (m := w1.heap.size) (fun q e => by have := HQ.out q e; omega) (.string xb) (.int .i64 xn) (.string yb) (.int .i64 yn) (.bool xm) (.bool ym) (.slice da D.length dc) (.int .i64 k) (.int .i64 nr) (.int .i64 ns) (.bool pf) (.int .i64 pid) (.string info))
  have hbr := set13_below (Below.refl w1.heap.size w2) (Nat.le_refl _) (.string xb) (.int .i64 xn) (.string yb) (.int .i64 yn) (.bool xm) (.bool ym) (.slice da D.length dc) (.int .i64 k) (.int .i64 nr) (.int .i64 ns) (.bool pf) (.int .i64 pid) (.string info)
  have HR3 := Lib.hid (HR2.out.block (hbr.block _ hmr) hbr.size)
  have HQ3 := Lib.hid (show ∀ q, da = some q → q.block ≠ w.heap.size from fun q e => by have := HQ.out q e; omega)
  have hne2 : ¬ w1.heap.size = w.heap.size := by omega
  clear hbr HO2 HB2 HE HR2 HQ HB HR HO
  clear b0 z0 bl b1 z1 b2 z2 b3 z3 b4 z4 b5 z5 b6 z6 b7 z7 b8 z8 b9 z9 b10 z10 b11 z11 b12 z12
  generalize (((((((((((((w2.setCell ⟨w1.heap.size, 0, none⟩ (.string xb)).setCell ⟨w1.heap.size, 1, none⟩ (.int .i64 xn)).setCell ⟨w1.heap.size, 2, none⟩ (.string yb)).setCell ⟨w1.heap.size, 3, none⟩ (.int .i64 yn)).setCell ⟨w1.heap.size, 4, none⟩ (.bool xm)).setCell ⟨w1.heap.size, 5, none⟩ (.bool ym)).setCell ⟨w1.heap.size, 6, none⟩ (.slice da D.length dc)).setCell ⟨w1.heap.size, 7, none⟩ (.int .i64 k)).setCell ⟨w1.heap.size, 8, none⟩ (.int .i64 nr)).setCell ⟨w1.heap.size, 9, none⟩ (.int .i64 ns)).setCell ⟨w1.heap.size, 10, none⟩ (.bool pf)).setCell ⟨w1.heap.size, 11, none⟩ (.int .i64 pid)).setCell ⟨w1.heap.size, 12, none⟩ (.string info)) = W3 at *
  generalize w1.heap.size = m at *
  obtain ⟨⟨p0, q0, pl⟩, ⟨p1, q1, -⟩, ⟨p2, q2, -⟩, ⟨p3, q3, -⟩, ⟨p4, q4, -⟩, ⟨p5, q5, -⟩, ⟨p6, q6, -⟩, ⟨p7, q7, -⟩, ⟨p8, q8, -⟩, ⟨p9, q9, -⟩, ⟨p10, q10, -⟩, ⟨p11, q11, -⟩, ⟨p12, q12, -⟩⟩ := HR3.out
  obtain ⟨⟨b0, z0, bl⟩, ⟨b1, z1, -⟩, ⟨b2, z2, -⟩, ⟨b3, z3, -⟩, ⟨b4, z4, -⟩, ⟨b5, z5, -⟩, ⟨b6, z6, -⟩, ⟨b7, z7, -⟩, ⟨b8, z8, -⟩, ⟨b9, z9, -⟩, ⟨b10, z10, -⟩, ⟨b11, z11, -⟩, ⟨b12, z12, -⟩⟩ := HO3.out
  go_wp2_with fail
  have S9 := F13.stored HR3.out (.string xb) (.int .i64 xn) (.string yb) (.int .i64 yn) (.bool xm) (.bool ym) (.slice da D.length dc) (.int .i64 k) (.int .i64 nr) (.int .i64 ns) (.bool pf) (.int .i64 pid) (.string info)
  have HBF := Lib.hid (set13_below HB3.out (Nat.le_refl _) (.string xb) (.int .i64 xn) (.string yb) (.int .i64 yn) (.bool xm) (.bool ym) (.slice da D.length dc) (.int .i64 k) (.int .i64 nr) (.int .i64 ns) (.bool pf) (.int .i64 pid) (.string info))
  have HEF := Lib.hid (ents13 HE3.out HQ3.out (.string xb) (.int .i64 xn) (.string yb) (.int .i64 yn) (.bool xm) (.bool ym) (.slice da D.length dc) (.int .i64 k) (.int .i64 nr) (.int .i64 ns) (.bool pf) (.int .i64 pid) (.string info))
  exact bodyPost_ret (v := .tuple #[.agg #[.string xb, .int .i64 xn, .string yb, .int .i64 yn, .bool xm, .bool ym, .slice da D.length dc, .int .i64 k, .int .i64 nr, .int .i64 ns, .bool pf, .int .i64 pid, .string info], .bool true]) (by simp [results, Tryz.results189, go_sem, S9.k0.cell, S9.k1.cell, S9.k2.cell, S9.k3.cell, S9.k4.cell, S9.k5.cell, S9.k6.cell, S9.k7.cell, S9.k8.cell, S9.k9.cell, S9.k10.cell, S9.k11.cell, S9.k12.cell]) rfl ⟨fun h => absurd h (by decide), fun _ => ⟨xb, xn, xm, yb, yn, ym, D, da, dc, k, nr, ns, pf, pid, info, HX.out, rfl, HEF.out⟩, HBF.out⟩
set_option maxHeartbeats 4000000 in
theorem cdecode_c (s : ByteArray) (w : World) (hs : s.size ≤ 100000) (hC : CodesOk w) (h0 : decE s.data.toList false ≠ 0) (h : decE s.data.toList true ≠ 0) : Calls Tryz.prog 189 #[.string s] w fun e w' => DecTo s.data.toList w e w' := by
  have hB : decB s.data.toList = false := by unfold decB; rw [decide_eq_false h0, decide_eq_false h]; rfl
  unfold DecTo
  rw [hB]
  have HD := Lib.hid (fun W hb => fdec_no s true W hs (hC.below hb) h)
  have HN := Lib.hid (fun W hb => fdec_no s false W hs (hC.below hb) h0)
  have HB0 := Lib.hid ((Below.refl _ w).alloc (Nat.le_refl _) (.cells #[.string ⟨#[]⟩, .int .i64 0, .string ⟨#[]⟩, .int .i64 0, .bool false, .bool false, .slice none 0 0, .int .i64 0, .int .i64 0, .int .i64 0, .bool false, .int .i64 0, .string ⟨#[]⟩] 74))
  have HF0 := Lib.hid (F13.new w w.heap.size rfl (.string ⟨#[]⟩) (.int .i64 0) (.string ⟨#[]⟩) (.int .i64 0) (.bool false) (.bool false) (.slice none 0 0) (.int .i64 0) (.int .i64 0) (.int .i64 0) (.bool false) (.int .i64 0) (.string ⟨#[]⟩) 74)
  generalize pathL s.data.toList = L at *
  generalize decE s.data.toList false = E0 at *
  generalize decE s.data.toList true = E1 at *
  have hz : ((E0 : Int) != 0) = true := by rw [bne_iff_ne]; omega
  have hz1 : ((E1 : Int) == 0) = false := by rw [beq_eq_false_iff_ne]; omega
  clear hC h hB h0
  go_enter Tryz.func189, Tryz.ntmps189
  go_upto_region 4 with (first
    | (go_at_call 56; (with_reducible refine (HN.out _ HB0.out).mono ?_); rintro e w1 ⟨rfl, hb⟩; have hb1 := HB0.out.trans (hb.mono HB0.out.size); have HB := Lib.hid (hb1.alloc hb1.size (.cells #[.string ⟨#[]⟩, .int .i64 0, .string ⟨#[]⟩, .int .i64 0, .bool false, .bool false, .slice none 0 0, .int .i64 0, .int .i64 0, .int .i64 0, .bool false, .int .i64 0, .string ⟨#[]⟩] 74)); have HR := Lib.hid ((HF0.out.below hb).alloc (.cells #[.string ⟨#[]⟩, .int .i64 0, .string ⟨#[]⟩, .int .i64 0, .bool false, .bool false, .slice none 0 0, .int .i64 0, .int .i64 0, .int .i64 0, .bool false, .int .i64 0, .string ⟨#[]⟩] 74)); have HO := Lib.hid (F13.new w1 w1.heap.size rfl (.string ⟨#[]⟩) (.int .i64 0) (.string ⟨#[]⟩) (.int .i64 0) (.bool false) (.bool false) (.slice none 0 0) (.int .i64 0) (.int .i64 0) (.int .i64 0) (.bool false) (.int .i64 0) (.string ⟨#[]⟩) 74); have hmr : w.heap.size < w1.heap.size := (by have := hb.size; simp at this; omega); clear hb hb1)
    | (go_at_call 56; (with_reducible refine (HD.out _ HB.out).mono ?_); rintro e w2 ⟨rfl, hb⟩; have HB2 := Lib.hid (HB.out.trans (hb.mono HB.out.size)); have HR2 := Lib.hid (HR.out.below hb); have HO2 := Lib.hid (HO.out.below hb); clear hb; obtain ⟨⟨b0, z0, bl⟩, ⟨b1, z1, -⟩, ⟨b2, z2, -⟩, ⟨b3, z3, -⟩, ⟨b4, z4, -⟩, ⟨b5, z5, -⟩, ⟨b6, z6, -⟩, ⟨b7, z7, -⟩, ⟨b8, z8, -⟩, ⟨b9, z9, -⟩, ⟨b10, z10, -⟩, ⟨b11, z11, -⟩, ⟨b12, z12, -⟩⟩ := HO2.out))
  have HO3 := Lib.hid (F13.stored HO2.out (.string ⟨#[]⟩) (.int .i64 0) (.string ⟨#[]⟩) (.int .i64 0) (.bool false) (.bool false) (.slice none 0 0) (.int .i64 0) (.int .i64 0) (.int .i64 0) (.bool false) (.int .i64 0) (.string ⟨#[]⟩))
  have HB3 := Lib.hid (set13_below HB2.out (Nat.le_of_lt hmr) (.string ⟨#[]⟩) (.int .i64 0) (.string ⟨#[]⟩) (.int .i64 0) (.bool false) (.bool false) (.slice none 0 0) (.int .i64 0) (.int .i64 0) (.int .i64 0) (.bool false) (.int .i64 0) (.string ⟨#[]⟩))
  have hbr := set13_below (Below.refl w1.heap.size w2) (Nat.le_refl _) (.string ⟨#[]⟩) (.int .i64 0) (.string ⟨#[]⟩) (.int .i64 0) (.bool false) (.bool false) (.slice none 0 0) (.int .i64 0) (.int .i64 0) (.int .i64 0) (.bool false) (.int .i64 0) (.string ⟨#[]⟩)
  have HR3 := Lib.hid (HR2.out.block (hbr.block _ hmr) hbr.size)
  have hne2 : ¬ w1.heap.size = w.heap.size := by omega
  clear hbr HO2 HB2 HR2 HB HR HO
  clear b0 z0 bl b1 z1 b2 z2 b3 z3 b4 z4 b5 z5 b6 z6 b7 z7 b8 z8 b9 z9 b10 z10 b11 z11 b12 z12
  generalize (((((((((((((w2.setCell ⟨w1.heap.size, 0, none⟩ (.string ⟨#[]⟩)).setCell ⟨w1.heap.size, 1, none⟩ (.int .i64 0)).setCell ⟨w1.heap.size, 2, none⟩ (.string ⟨#[]⟩)).setCell ⟨w1.heap.size, 3, none⟩ (.int .i64 0)).setCell ⟨w1.heap.size, 4, none⟩ (.bool false)).setCell ⟨w1.heap.size, 5, none⟩ (.bool false)).setCell ⟨w1.heap.size, 6, none⟩ (.slice none 0 0)).setCell ⟨w1.heap.size, 7, none⟩ (.int .i64 0)).setCell ⟨w1.heap.size, 8, none⟩ (.int .i64 0)).setCell ⟨w1.heap.size, 9, none⟩ (.int .i64 0)).setCell ⟨w1.heap.size, 10, none⟩ (.bool false)).setCell ⟨w1.heap.size, 11, none⟩ (.int .i64 0)).setCell ⟨w1.heap.size, 12, none⟩ (.string ⟨#[]⟩)) = W3 at *
  generalize w1.heap.size = m at *
  obtain ⟨⟨p0, q0, pl⟩, ⟨p1, q1, -⟩, ⟨p2, q2, -⟩, ⟨p3, q3, -⟩, ⟨p4, q4, -⟩, ⟨p5, q5, -⟩, ⟨p6, q6, -⟩, ⟨p7, q7, -⟩, ⟨p8, q8, -⟩, ⟨p9, q9, -⟩, ⟨p10, q10, -⟩, ⟨p11, q11, -⟩, ⟨p12, q12, -⟩⟩ := HR3.out
  obtain ⟨⟨b0, z0, bl⟩, ⟨b1, z1, -⟩, ⟨b2, z2, -⟩, ⟨b3, z3, -⟩, ⟨b4, z4, -⟩, ⟨b5, z5, -⟩, ⟨b6, z6, -⟩, ⟨b7, z7, -⟩, ⟨b8, z8, -⟩, ⟨b9, z9, -⟩, ⟨b10, z10, -⟩, ⟨b11, z11, -⟩, ⟨b12, z12, -⟩⟩ := HO3.out
  go_wp2_with fail
  have S9 := F13.stored HR3.out (.string ⟨#[]⟩) (.int .i64 0) (.string ⟨#[]⟩) (.int .i64 0) (.bool false) (.bool false) (.slice none 0 0) (.int .i64 0) (.int .i64 0) (.int .i64 0) (.bool false) (.int .i64 0) (.string ⟨#[]⟩)
  have HBF := Lib.hid (set13_below HB3.out (Nat.le_refl _) (.string ⟨#[]⟩) (.int .i64 0) (.string ⟨#[]⟩) (.int .i64 0) (.bool false) (.bool false) (.slice none 0 0) (.int .i64 0) (.int .i64 0) (.int .i64 0) (.bool false) (.int .i64 0) (.string ⟨#[]⟩))
  exact bodyPost_ret (v := .tuple #[.agg #[.string ⟨#[]⟩, .int .i64 0, .string ⟨#[]⟩, .int .i64 0, .bool false, .bool false, .slice none 0 0, .int .i64 0, .int .i64 0, .int .i64 0, .bool false, .int .i64 0, .string ⟨#[]⟩], .bool false]) (by simp [results, Tryz.results189, go_sem, S9.k0.cell, S9.k1.cell, S9.k2.cell, S9.k3.cell, S9.k4.cell, S9.k5.cell, S9.k6.cell, S9.k7.cell, S9.k8.cell, S9.k9.cell, S9.k10.cell, S9.k11.cell, S9.k12.cell]) rfl ⟨fun _ => rfl, fun h => absurd h (by decide), HBF.out⟩
theorem cdecode18 (s : ByteArray) (w : World) (hs : s.size ≤ 100000) (hC : CodesOk w) : Calls Tryz.prog 189 #[.string s] w fun e w' => DecTo s.data.toList w e w' := by
  by_cases h0 : decE s.data.toList false = 0
  · exact cdecode_a s w hs hC h0
  · by_cases h : decE s.data.toList true = 0
    · exact cdecode_b s w hs hC h0 h
    · exact cdecode_c s w hs hC h0 h
end Go.Proofs.YtgoaepjjegblnaaGreatDoor
