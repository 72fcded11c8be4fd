/-
The landed digipeater's decode, Decodes.
How the landed digipeater lies; Mine, Counts; what one that isn't there answers.
The landed code's Next.
-/
import Derived.Test.YtikabflmgckdnaaDoorMix32
import Derived.Test.YtikabflmgckdnaaDoorMix33
import Derived.Test.YtikabflmgckdnaaDoorFrmCDecX
import Derived.Test.YtikabflmgckdnaaDoorMix24
import Derived.Test.YtikabflmgckdnaaDoorPathBase
import Derived.Lib.SmallJoins
import Derived.Lib.ItoaNum
import Derived.Lib.QuietBelow
import Derived.Lib.IndexBytes
import Derived.IntWalk
namespace Go.Proofs.YtikabflmgckdnaaDoor
open Go.RowKit Go.Sort
set_option maxRecDepth 20000
/-- stores into a block that the entries don't lie in -/
theorem ents_set {w : World} {a : Option Addr} {c : Nat} {D : List Ent} (h : EntsAt w a c D) {m : Nat} (hq : ∀ q, a = some q → q.block ≠ m) (i : Nat) (u : Value) : EntsAt (w.setCell ⟨m, i, none⟩ u) a c D :=
  h.same (fun q e => Below.heap_setCell _ _ _ _ (by have := hq q e; show q.block ≠ m; omega)) (by simp [World.setCell])
theorem ents13 {w : World} {a : Option Addr} {c : Nat} {D : List Ent} (h : EntsAt w a c D) {m : Nat} (hq : ∀ q, a = some q → q.block ≠ m) (u0 u1 u2 u3 u4 u5 u6 u7 u8 u9 u10 u11 u12 : Value) : EntsAt (((((((((((((w.setCell ⟨m, 0, none⟩ u0).setCell ⟨m, 1, none⟩ u1).setCell ⟨m, 2, none⟩ u2).setCell ⟨m, 3, none⟩ u3).setCell ⟨m, 4, none⟩ u4).setCell ⟨m, 5, none⟩ u5).setCell ⟨m, 6, none⟩ u6).setCell ⟨m, 7, none⟩ u7).setCell ⟨m, 8, none⟩ u8).setCell ⟨m, 9, none⟩ u9).setCell ⟨m, 10, none⟩ u10).setCell ⟨m, 11, none⟩ u11).setCell ⟨m, 12, none⟩ u12) a c D :=
  ents_set (ents_set (ents_set (ents_set (ents_set (ents_set (ents_set (ents_set (ents_set (ents_set (ents_set (ents_set (ents_set h hq 0 u0) hq 1 u1) hq 2 u2) hq 3 u3) hq 4 u4) hq 5 u5) hq 6 u6) hq 7 u7) hq 8 u8) hq 9 u9) hq 10 u10) hq 11 u11) hq 12 u12
/-- what a frame's Decode answers where it can be decoded -/
def FdYes (s : List UInt8) (W : World) (e : Ending) (w' : World) : Prop := (∃ (xb : ByteArray) (xn : Int) (xm : Bool) (yb : ByteArray) (yn : Int) (ym : Bool) (D : List Ent) (da : Option Addr) (dc : Nat) (k nr ns : Int) (pf : Bool) (pid : Int) (info : ByteArray), pathL s = (xb, xn, xm) :: (yb, yn, ym) :: D ∧ e = .returned (.tuple #[.agg #[.string xb, .int .i64 xn, .string yb, .int .i64 yn, .bool xm, .bool ym, .slice da D.length dc, .int .i64 k, .int .i64 nr, .int .i64 ns, .bool pf, .int .i64 pid, .string info], .int .i64 0]) ∧ EntsAt w' da dc D ∧ ∀ q, da = some q → W.heap.size ≤ q.block) ∧ Below W.heap.size W w'
theorem fdec_yes (s : ByteArray) (wide : Bool) (w : World) (hs : s.size ≤ 100000) (hC : CodesOk w) (h : decE s.data.toList wide = 0) :
    Calls Tryd.prog 51 #[.string s, .bool wide] w fun e w' => FdYes s.data.toList w e w' := by
  refine (fdecx_any s wide w hs hC).mono ?_
  rintro e w' ⟨-, h2, h3⟩
  obtain ⟨x, y, D, da, dc, pid, info, hx, rfl, hE, hO, -⟩ := h2 h
  exact ⟨⟨x.1, x.2.1, x.2.2, y.1, y.2.1, y.2.2, D, da, dc, _, _, _, _, _, _, hx, rfl, hE, hO⟩, h3⟩
theorem fdec_no (s : ByteArray) (wide : Bool) (w : World) (hs : s.size ≤ 100000) (hC : CodesOk w) (h : decE s.data.toList wide ≠ 0) :
    Calls Tryd.prog 51 #[.string s, .bool wide] w fun e w' => e = .returned (.tuple #[.agg #[.string ⟨#[]⟩, .int .i64 0, .string ⟨#[]⟩, .int .i64 0, .bool false, .bool false, .slice none 0 0, .int .i64 0, .int .i64 0, .int .i64 0, .bool false, .int .i64 0, .string ⟨#[]⟩], .int .i64 (decE s.data.toList wide : Nat)]) ∧ Below w.heap.size w w' := by
  refine (fdecx_any s wide w hs hC).mono ?_
  rintro e w' ⟨h1, -, h3⟩
  exact ⟨h1 h, h3⟩
/-- what the landed decode answers -/
def DecTo (s : List UInt8) (w : World) (e : Ending) (w' : World) : Prop :=
  (decB s = false → e = .returned (.tuple #[.agg #[.string ⟨#[]⟩, .int .i64 0, .string ⟨#[]⟩, .int .i64 0, .bool false, .bool false, .slice none 0 0, .int .i64 0, .int .i64 0, .int .i64 0, .bool false, .int .i64 0, .string ⟨#[]⟩], .bool false])) ∧
  (decB s = true → ∃ (xb : ByteArray) (xn : Int) (xm : Bool) (yb : ByteArray) (yn : Int) (ym : Bool) (D : List Ent) (da : Option Addr) (dc : Nat) (k nr ns : Int) (pf : Bool) (pid : Int) (info : ByteArray), pathL s = (xb, xn, xm) :: (yb, yn, ym) :: D ∧ e = .returned (.tuple #[.agg #[.string xb, .int .i64 xn, .string yb, .int .i64 yn, .bool xm, .bool ym, .slice da D.length dc, .int .i64 k, .int .i64 nr, .int .i64 ns, .bool pf, .int .i64 pid, .string info], .bool true]) ∧ EntsAt w' da dc D) ∧ Below w.heap.size w w'
set_option maxHeartbeats 4000000 in
theorem cdecode_a (s : ByteArray) (w : World) (hs : s.size ≤ 100000) (hC : CodesOk w) (h : decE s.data.toList false = 0) : Calls Tryd.prog 31 #[.string s] w fun e w' => DecTo s.data.toList w e w' := by
  have hB : decB s.data.toList = true := by unfold decB; rw [h]; rfl
  unfold DecTo
  rw [hB]
  have HD := Lib.hid (fun W hb => fdec_yes s false W hs (hC.below hb) h)
  unfold FdYes at HD
  have HB0 := Lib.hid ((Below.refl _ w).alloc (Nat.le_refl _) (.cells #[.string ⟨#[]⟩, .int .i64 0, .string ⟨#[]⟩, .int .i64 0, .bool false, .bool false, .slice none 0 0, .int .i64 0, .int .i64 0, .int .i64 0, .bool false, .int .i64 0, .string ⟨#[]⟩] 63))
  have HF0 := Lib.hid (F13.new w w.heap.size rfl (.string ⟨#[]⟩) (.int .i64 0) (.string ⟨#[]⟩) (.int .i64 0) (.bool false) (.bool false) (.slice none 0 0) (.int .i64 0) (.int .i64 0) (.int .i64 0) (.bool false) (.int .i64 0) (.string ⟨#[]⟩) 63)
  generalize pathL s.data.toList = L at *
  clear hC h hB
  go_enter Tryd.func31, Tryd.ntmps31
  go_wp2_with (go_at_call 51; (with_reducible refine (HD.out _ HB0.out).mono ?_); rintro e w1 ⟨⟨xb, xn, xm, yb, yn, ym, D, da, dc, k, nr, ns, pf, pid, info, hx, rfl, hE, hq⟩, hb⟩; have HX := Lib.hid hx; have hb1 := HB0.out.trans (hb.mono HB0.out.size); have HB := Lib.hid (hb1.alloc hb1.size (.cells #[.string xb, .int .i64 xn, .string yb, .int .i64 yn, .bool xm, .bool ym, .slice da D.length dc, .int .i64 k, .int .i64 nr, .int .i64 ns, .bool pf, .int .i64 pid, .string info] 63)); have HR := Lib.hid ((HF0.out.below hb).alloc (.cells #[.string xb, .int .i64 xn, .string yb, .int .i64 yn, .bool xm, .bool ym, .slice da D.length dc, .int .i64 k, .int .i64 nr, .int .i64 ns, .bool pf, .int .i64 pid, .string info] 63)); have HO := Lib.hid (F13.new w1 w1.heap.size rfl (.string xb) (.int .i64 xn) (.string yb) (.int .i64 yn) (.bool xm) (.bool ym) (.slice da D.length dc) (.int .i64 k) (.int .i64 nr) (.int .i64 ns) (.bool pf) (.int .i64 pid) (.string info) 63); have HE := Lib.hid (hE.alloc (.cells #[.string xb, .int .i64 xn, .string yb, .int .i64 yn, .bool xm, .bool ym, .slice da D.length dc, .int .i64 k, .int .i64 nr, .int .i64 ns, .bool pf, .int .i64 pid, .string info] 63)); have HQ := Lib.hid (show ∀ q, da = some q → q.block ≠ w.heap.size from fun q e => by have := hq q e; simp at this; omega); have hne2 : ¬ w1.heap.size = w.heap.size := (by have := hb.size; simp at this; omega); clear hx hb hb1 hE hq; obtain ⟨⟨p0, q0, pl⟩, ⟨p1, q1, -⟩, ⟨p2, q2, -⟩, ⟨p3, q3, -⟩, ⟨p4, q4, -⟩, ⟨p5, q5, -⟩, ⟨p6, q6, -⟩, ⟨p7, q7, -⟩, ⟨p8, q8, -⟩, ⟨p9, q9, -⟩, ⟨p10, q10, -⟩, ⟨p11, q11, -⟩, ⟨p12, q12, -⟩⟩ := HR.out; obtain ⟨⟨b0, z0, bl⟩, ⟨b1, z1, -⟩, ⟨b2, z2, -⟩, ⟨b3, z3, -⟩, ⟨b4, z4, -⟩, ⟨b5, z5, -⟩, ⟨b6, z6, -⟩, ⟨b7, z7, -⟩, ⟨b8, z8, -⟩, ⟨b9, z9, -⟩, ⟨b10, z10, -⟩, ⟨b11, z11, -⟩, ⟨b12, z12, -⟩⟩ := HO.out)
  have S9 := F13.stored HR.out (.string xb) (.int .i64 xn) (.string yb) (.int .i64 yn) (.bool xm) (.bool ym) (.slice da D.length dc) (.int .i64 k) (.int .i64 nr) (.int .i64 ns) (.bool pf) (.int .i64 pid) (.string info)
  have HBF := Lib.hid (set13_below HB.out (Nat.le_refl _) (.string xb) (.int .i64 xn) (.string yb) (.int .i64 yn) (.bool xm) (.bool ym) (.slice da D.length dc) (.int .i64 k) (.int .i64 nr) (.int .i64 ns) (.bool pf) (.int .i64 pid) (.string info))
  have HEF := Lib.hid (ents13 HE.out HQ.out (.string xb) (.int .i64 xn) (.string yb) (.int .i64 yn) (.bool xm) (.bool ym) (.slice da D.length dc) (.int .i64 k) (.int .i64 nr) (.int .i64 ns) (.bool pf) (.int .i64 pid) (.string info))
  exact bodyPost_ret (v := .tuple #[.agg #[.string xb, .int .i64 xn, .string yb, .int .i64 yn, .bool xm, .bool ym, .slice da D.length dc, .int .i64 k, .int .i64 nr, .int .i64 ns, .bool pf, .int .i64 pid, .string info], .bool true]) (by simp [results, Tryd.results31, go_sem, S9.k0.cell, S9.k1.cell, S9.k2.cell, S9.k3.cell, S9.k4.cell, S9.k5.cell, S9.k6.cell, S9.k7.cell, S9.k8.cell, S9.k9.cell, S9.k10.cell, S9.k11.cell, S9.k12.cell]) rfl ⟨fun h => absurd h (by decide), fun _ => ⟨xb, xn, xm, yb, yn, ym, D, da, dc, k, nr, ns, pf, pid, info, HX.out, rfl, HEF.out⟩, HBF.out⟩
set_option maxHeartbeats 4000000 in
theorem cdecode_b (s : ByteArray) (w : World) (hs : s.size ≤ 100000) (hC : CodesOk w) (h0 : decE s.data.toList false ≠ 0) (h : decE s.data.toList true = 0) : Calls Tryd.prog 31 #[.string s] w fun e w' => DecTo s.data.toList w e w' := by
  have hB : decB s.data.toList = true := by unfold decB; rw [h, Bool.or_eq_true]; exact Or.inr rfl
  unfold DecTo
  rw [hB]
  have HD := Lib.hid (fun W hb => fdec_yes s true W hs (hC.below hb) h)
  have HN := Lib.hid (fun W hb => fdec_no s false W hs (hC.below hb) h0)
  unfold FdYes at HD
  have HB0 := Lib.hid ((Below.refl _ w).alloc (Nat.le_refl _) (.cells #[.string ⟨#[]⟩, .int .i64 0, .string ⟨#[]⟩, .int .i64 0, .bool false, .bool false, .slice none 0 0, .int .i64 0, .int .i64 0, .int .i64 0, .bool false, .int .i64 0, .string ⟨#[]⟩] 63))
  have HF0 := Lib.hid (F13.new w w.heap.size rfl (.string ⟨#[]⟩) (.int .i64 0) (.string ⟨#[]⟩) (.int .i64 0) (.bool false) (.bool false) (.slice none 0 0) (.int .i64 0) (.int .i64 0) (.int .i64 0) (.bool false) (.int .i64 0) (.string ⟨#[]⟩) 63)
  generalize pathL s.data.toList = L at *
  generalize decE s.data.toList false = E0 at *
  have hz : ((E0 : Int) != 0) = true := by rw [bne_iff_ne]; omega
  clear hC h hB h0
  go_enter Tryd.func31, Tryd.ntmps31
  go_upto_region 4 with (first
    | (go_at_call 51; (with_reducible refine (HN.out _ HB0.out).mono ?_); rintro e w1 ⟨rfl, hb⟩; have hb1 := HB0.out.trans (hb.mono HB0.out.size); have HB := Lib.hid (hb1.alloc hb1.size (.cells #[.string ⟨#[]⟩, .int .i64 0, .string ⟨#[]⟩, .int .i64 0, .bool false, .bool false, .slice none 0 0, .int .i64 0, .int .i64 0, .int .i64 0, .bool false, .int .i64 0, .string ⟨#[]⟩] 63)); have HR := Lib.hid ((HF0.out.below hb).alloc (.cells #[.string ⟨#[]⟩, .int .i64 0, .string ⟨#[]⟩, .int .i64 0, .bool false, .bool false, .slice none 0 0, .int .i64 0, .int .i64 0, .int .i64 0, .bool false, .int .i64 0, .string ⟨#[]⟩] 63)); have HO := Lib.hid (F13.new w1 w1.heap.size rfl (.string ⟨#[]⟩) (.int .i64 0) (.string ⟨#[]⟩) (.int .i64 0) (.bool false) (.bool false) (.slice none 0 0) (.int .i64 0) (.int .i64 0) (.int .i64 0) (.bool false) (.int .i64 0) (.string ⟨#[]⟩) 63); have hmr : w.heap.size < w1.heap.size := (by have := hb.size; simp at this; omega); clear hb hb1)
    | (go_at_call 51; (with_reducible refine (HD.out _ HB.out).mono ?_); rintro e w2 ⟨⟨xb, xn, xm, yb, yn, ym, D, da, dc, k, nr, ns, pf, pid, info, hx, rfl, hE, hq⟩, hb⟩; have HX := Lib.hid hx; have HB2 := Lib.hid (HB.out.trans (hb.mono HB.out.size)); have HR2 := Lib.hid (HR.out.below hb); have HO2 := Lib.hid (HO.out.below hb); have HE := Lib.hid hE; have HQ := Lib.hid (show ∀ q, da = some q → w1.heap.size < q.block from fun q e => by have := hq q e; simp at this; omega); clear hx hb hE hq; obtain ⟨⟨b0, z0, bl⟩, ⟨b1, z1, -⟩, ⟨b2, z2, -⟩, ⟨b3, z3, -⟩, ⟨b4, z4, -⟩, ⟨b5, z5, -⟩, ⟨b6, z6, -⟩, ⟨b7, z7, -⟩, ⟨b8, z8, -⟩, ⟨b9, z9, -⟩, ⟨b10, z10, -⟩, ⟨b11, z11, -⟩, ⟨b12, z12, -⟩⟩ := HO2.out))
  have HO3 := Lib.hid (F13.stored HO2.out (.string xb) (.int .i64 xn) (.string yb) (.int .i64 yn) (.bool xm) (.bool ym) (.slice da D.length dc) (.int .i64 k) (.int .i64 nr) (.int .i64 ns) (.bool pf) (.int .i64 pid) (.string info))
  have HB3 := Lib.hid (set13_below HB2.out (Nat.le_of_lt hmr) (.string xb) (.int .i64 xn) (.string yb) (.int .i64 yn) (.bool xm) (.bool ym) (.slice da D.length dc) (.int .i64 k) (.int .i64 nr) (.int .i64 ns) (.bool pf) (.int .i64 pid) (.string info))
  have HE3 := Lib.hid (ents13 HE.out (m := w1.heap.size) (fun q e => by have := HQ.out q e; omega) (.string xb) (.int .i64 xn) (.string yb) (.int .i64 yn) (.bool xm) (.bool ym) (.slice da D.length dc) (.int .i64 k) (.int .i64 nr) (.int .i64 ns) (.bool pf) (.int .i64 pid) (.string info))
  have hbr := set13_below (Below.refl w1.heap.size w2) (Nat.le_refl _) (.string xb) (.int .i64 xn) (.string yb) (.int .i64 yn) (.bool xm) (.bool ym) (.slice da D.length dc) (.int .i64 k) (.int .i64 nr) (.int .i64 ns) (.bool pf) (.int .i64 pid) (.string info)
  have HR3 := Lib.hid (HR2.out.block (hbr.block _ hmr) hbr.size)
  have HQ3 := Lib.hid (show ∀ q, da = some q → q.block ≠ w.heap.size from fun q e => by have := HQ.out q e; omega)
  have hne2 : ¬ w1.heap.size = w.heap.size := by omega
  clear hbr HO2 HB2 HE HR2 HQ HB HR HO
  clear b0 z0 bl b1 z1 b2 z2 b3 z3 b4 z4 b5 z5 b6 z6 b7 z7 b8 z8 b9 z9 b10 z10 b11 z11 b12 z12
  generalize (((((((((((((w2.setCell ⟨w1.heap.size, 0, none⟩ (.string xb)).setCell ⟨w1.heap.size, 1, none⟩ (.int .i64 xn)).setCell ⟨w1.heap.size, 2, none⟩ (.string yb)).setCell ⟨w1.heap.size, 3, none⟩ (.int .i64 yn)).setCell ⟨w1.heap.size, 4, none⟩ (.bool xm)).setCell ⟨w1.heap.size, 5, none⟩ (.bool ym)).setCell ⟨w1.heap.size, 6, none⟩ (.slice da D.length dc)).setCell ⟨w1.heap.size, 7, none⟩ (.int .i64 k)).setCell ⟨w1.heap.size, 8, none⟩ (.int .i64 nr)).setCell ⟨w1.heap.size, 9, none⟩ (.int .i64 ns)).setCell ⟨w1.heap.size, 10, none⟩ (.bool pf)).setCell ⟨w1.heap.size, 11, none⟩ (.int .i64 pid)).setCell ⟨w1.heap.size, 12, none⟩ (.string info)) = W3 at *
  generalize w1.heap.size = m at *
  obtain ⟨⟨p0, q0, pl⟩, ⟨p1, q1, -⟩, ⟨p2, q2, -⟩, ⟨p3, q3, -⟩, ⟨p4, q4, -⟩, ⟨p5, q5, -⟩, ⟨p6, q6, -⟩, ⟨p7, q7, -⟩, ⟨p8, q8, -⟩, ⟨p9, q9, -⟩, ⟨p10, q10, -⟩, ⟨p11, q11, -⟩, ⟨p12, q12, -⟩⟩ := HR3.out
  obtain ⟨⟨b0, z0, bl⟩, ⟨b1, z1, -⟩, ⟨b2, z2, -⟩, ⟨b3, z3, -⟩, ⟨b4, z4, -⟩, ⟨b5, z5, -⟩, ⟨b6, z6, -⟩, ⟨b7, z7, -⟩, ⟨b8, z8, -⟩, ⟨b9, z9, -⟩, ⟨b10, z10, -⟩, ⟨b11, z11, -⟩, ⟨b12, z12, -⟩⟩ := HO3.out
  go_wp2_with fail
  have S9 := F13.stored HR3.out (.string xb) (.int .i64 xn) (.string yb) (.int .i64 yn) (.bool xm) (.bool ym) (.slice da D.length dc) (.int .i64 k) (.int .i64 nr) (.int .i64 ns) (.bool pf) (.int .i64 pid) (.string info)
  have HBF := Lib.hid (set13_below HB3.out (Nat.le_refl _) (.string xb) (.int .i64 xn) (.string yb) (.int .i64 yn) (.bool xm) (.bool ym) (.slice da D.length dc) (.int .i64 k) (.int .i64 nr) (.int .i64 ns) (.bool pf) (.int .i64 pid) (.string info))
  have HEF := Lib.hid (ents13 HE3.out HQ3.out (.string xb) (.int .i64 xn) (.string yb) (.int .i64 yn) (.bool xm) (.bool ym) (.slice da D.length dc) (.int .i64 k) (.int .i64 nr) (.int .i64 ns) (.bool pf) (.int .i64 pid) (.string info))
  exact bodyPost_ret (v := .tuple #[.agg #[.string xb, .int .i64 xn, .string yb, .int .i64 yn, .bool xm, .bool ym, .slice da D.length dc, .int .i64 k, .int .i64 nr, .int .i64 ns, .bool pf, .int .i64 pid, .string info], .bool true]) (by simp [results, Tryd.results31, go_sem, S9.k0.cell, S9.k1.cell, S9.k2.cell, S9.k3.cell, S9.k4.cell, S9.k5.cell, S9.k6.cell, S9.k7.cell, S9.k8.cell, S9.k9.cell, S9.k10.cell, S9.k11.cell, S9.k12.cell]) rfl ⟨fun h => absurd h (by decide), fun _ => ⟨xb, xn, xm, yb, yn, ym, D, da, dc, k, nr, ns, pf, pid, info, HX.out, rfl, HEF.out⟩, HBF.out⟩
set_option maxHeartbeats 4000000 in
theorem cdecode_c (s : ByteArray) (w : World) (hs : s.size ≤ 100000) (hC : CodesOk w) (h0 : decE s.data.toList false ≠ 0) (h : decE s.data.toList true ≠ 0) : Calls Tryd.prog 31 #[.string s] w fun e w' => DecTo s.data.toList w e w' := by
  have hB : decB s.data.toList = false := by unfold decB; rw [decide_eq_false h0, decide_eq_false h]; rfl
  unfold DecTo
  rw [hB]
  have HD := Lib.hid (fun W hb => fdec_no s true W hs (hC.below hb) h)
  have HN := Lib.hid (fun W hb => fdec_no s false W hs (hC.below hb) h0)
  have HB0 := Lib.hid ((Below.refl _ w).alloc (Nat.le_refl _) (.cells #[.string ⟨#[]⟩, .int .i64 0, .string ⟨#[]⟩, .int .i64 0, .bool false, .bool false, .slice none 0 0, .int .i64 0, .int .i64 0, .int .i64 0, .bool false, .int .i64 0, .string ⟨#[]⟩] 63))
  have HF0 := Lib.hid (F13.new w w.heap.size rfl (.string ⟨#[]⟩) (.int .i64 0) (.string ⟨#[]⟩) (.int .i64 0) (.bool false) (.bool false) (.slice none 0 0) (.int .i64 0) (.int .i64 0) (.int .i64 0) (.bool false) (.int .i64 0) (.string ⟨#[]⟩) 63)
  generalize pathL s.data.toList = L at *
  generalize decE s.data.toList false = E0 at *
  generalize decE s.data.toList true = E1 at *
  have hz : ((E0 : Int) != 0) = true := by rw [bne_iff_ne]; omega
  have hz1 : ((E1 : Int) == 0) = false := by rw [beq_eq_false_iff_ne]; omega
  clear hC h hB h0
  go_enter Tryd.func31, Tryd.ntmps31
  go_upto_region 4 with (first
    | (go_at_call 51; (with_reducible refine (HN.out _ HB0.out).mono ?_); rintro e w1 ⟨rfl, hb⟩; have hb1 := HB0.out.trans (hb.mono HB0.out.size); have HB := Lib.hid (hb1.alloc hb1.size (.cells #[.string ⟨#[]⟩, .int .i64 0, .string ⟨#[]⟩, .int .i64 0, .bool false, .bool false, .slice none 0 0, .int .i64 0, .int .i64 0, .int .i64 0, .bool false, .int .i64 0, .string ⟨#[]⟩] 63)); have HR := Lib.hid ((HF0.out.below hb).alloc (.cells #[.string ⟨#[]⟩, .int .i64 0, .string ⟨#[]⟩, .int .i64 0, .bool false, .bool false, .slice none 0 0, .int .i64 0, .int .i64 0, .int .i64 0, .bool false, .int .i64 0, .string ⟨#[]⟩] 63)); have HO := Lib.hid (F13.new w1 w1.heap.size rfl (.string ⟨#[]⟩) (.int .i64 0) (.string ⟨#[]⟩) (.int .i64 0) (.bool false) (.bool false) (.slice none 0 0) (.int .i64 0) (.int .i64 0) (.int .i64 0) (.bool false) (.int .i64 0) (.string ⟨#[]⟩) 63); have hmr : w.heap.size < w1.heap.size := (by have := hb.size; simp at this; omega); clear hb hb1)
    | (go_at_call 51; (with_reducible refine (HD.out _ HB.out).mono ?_); rintro e w2 ⟨rfl, hb⟩; have HB2 := Lib.hid (HB.out.trans (hb.mono HB.out.size)); have HR2 := Lib.hid (HR.out.below hb); have HO2 := Lib.hid (HO.out.below hb); clear hb; obtain ⟨⟨b0, z0, bl⟩, ⟨b1, z1, -⟩, ⟨b2, z2, -⟩, ⟨b3, z3, -⟩, ⟨b4, z4, -⟩, ⟨b5, z5, -⟩, ⟨b6, z6, -⟩, ⟨b7, z7, -⟩, ⟨b8, z8, -⟩, ⟨b9, z9, -⟩, ⟨b10, z10, -⟩, ⟨b11, z11, -⟩, ⟨b12, z12, -⟩⟩ := HO2.out))
  have HO3 := Lib.hid (F13.stored HO2.out (.string ⟨#[]⟩) (.int .i64 0) (.string ⟨#[]⟩) (.int .i64 0) (.bool false) (.bool false) (.slice none 0 0) (.int .i64 0) (.int .i64 0) (.int .i64 0) (.bool false) (.int .i64 0) (.string ⟨#[]⟩))
  have HB3 := Lib.hid (set13_below HB2.out (Nat.le_of_lt hmr) (.string ⟨#[]⟩) (.int .i64 0) (.string ⟨#[]⟩) (.int .i64 0) (.bool false) (.bool false) (.slice none 0 0) (.int .i64 0) (.int .i64 0) (.int .i64 0) (.bool false) (.int .i64 0) (.string ⟨#[]⟩))
  have hbr := set13_below (Below.refl w1.heap.size w2) (Nat.le_refl _) (.string ⟨#[]⟩) (.int .i64 0) (.string ⟨#[]⟩) (.int .i64 0) (.bool false) (.bool false) (.slice none 0 0) (.int .i64 0) (.int .i64 0) (.int .i64 0) (.bool false) (.int .i64 0) (.string ⟨#[]⟩)
  have HR3 := Lib.hid (HR2.out.block (hbr.block _ hmr) hbr.size)
  have hne2 : ¬ w1.heap.size = w.heap.size := by omega
  clear hbr HO2 HB2 HR2 HB HR HO
  clear b0 z0 bl b1 z1 b2 z2 b3 z3 b4 z4 b5 z5 b6 z6 b7 z7 b8 z8 b9 z9 b10 z10 b11 z11 b12 z12
  generalize (((((((((((((w2.setCell ⟨w1.heap.size, 0, none⟩ (.string ⟨#[]⟩)).setCell ⟨w1.heap.size, 1, none⟩ (.int .i64 0)).setCell ⟨w1.heap.size, 2, none⟩ (.string ⟨#[]⟩)).setCell ⟨w1.heap.size, 3, none⟩ (.int .i64 0)).setCell ⟨w1.heap.size, 4, none⟩ (.bool false)).setCell ⟨w1.heap.size, 5, none⟩ (.bool false)).setCell ⟨w1.heap.size, 6, none⟩ (.slice none 0 0)).setCell ⟨w1.heap.size, 7, none⟩ (.int .i64 0)).setCell ⟨w1.heap.size, 8, none⟩ (.int .i64 0)).setCell ⟨w1.heap.size, 9, none⟩ (.int .i64 0)).setCell ⟨w1.heap.size, 10, none⟩ (.bool false)).setCell ⟨w1.heap.size, 11, none⟩ (.int .i64 0)).setCell ⟨w1.heap.size, 12, none⟩ (.string ⟨#[]⟩)) = W3 at *
  generalize w1.heap.size = m at *
  obtain ⟨⟨p0, q0, pl⟩, ⟨p1, q1, -⟩, ⟨p2, q2, -⟩, ⟨p3, q3, -⟩, ⟨p4, q4, -⟩, ⟨p5, q5, -⟩, ⟨p6, q6, -⟩, ⟨p7, q7, -⟩, ⟨p8, q8, -⟩, ⟨p9, q9, -⟩, ⟨p10, q10, -⟩, ⟨p11, q11, -⟩, ⟨p12, q12, -⟩⟩ := HR3.out
  obtain ⟨⟨b0, z0, bl⟩, ⟨b1, z1, -⟩, ⟨b2, z2, -⟩, ⟨b3, z3, -⟩, ⟨b4, z4, -⟩, ⟨b5, z5, -⟩, ⟨b6, z6, -⟩, ⟨b7, z7, -⟩, ⟨b8, z8, -⟩, ⟨b9, z9, -⟩, ⟨b10, z10, -⟩, ⟨b11, z11, -⟩, ⟨b12, z12, -⟩⟩ := HO3.out
  go_wp2_with fail
  have S9 := F13.stored HR3.out (.string ⟨#[]⟩) (.int .i64 0) (.string ⟨#[]⟩) (.int .i64 0) (.bool false) (.bool false) (.slice none 0 0) (.int .i64 0) (.int .i64 0) (.int .i64 0) (.bool false) (.int .i64 0) (.string ⟨#[]⟩)
  have HBF := Lib.hid (set13_below HB3.out (Nat.le_refl _) (.string ⟨#[]⟩) (.int .i64 0) (.string ⟨#[]⟩) (.int .i64 0) (.bool false) (.bool false) (.slice none 0 0) (.int .i64 0) (.int .i64 0) (.int .i64 0) (.bool false) (.int .i64 0) (.string ⟨#[]⟩))
  exact bodyPost_ret (v := .tuple #[.agg #[.string ⟨#[]⟩, .int .i64 0, .string ⟨#[]⟩, .int .i64 0, .bool false, .bool false, .slice none 0 0, .int .i64 0, .int .i64 0, .int .i64 0, .bool false, .int .i64 0, .string ⟨#[]⟩], .bool false]) (by simp [results, Tryd.results31, go_sem, S9.k0.cell, S9.k1.cell, S9.k2.cell, S9.k3.cell, S9.k4.cell, S9.k5.cell, S9.k6.cell, S9.k7.cell, S9.k8.cell, S9.k9.cell, S9.k10.cell, S9.k11.cell, S9.k12.cell]) rfl ⟨fun _ => rfl, fun h => absurd h (by decide), HBF.out⟩
theorem cdecode18 (s : ByteArray) (w : World) (hs : s.size ≤ 100000) (hC : CodesOk w) : Calls Tryd.prog 31 #[.string s] w fun e w' => DecTo s.data.toList w e w' := by
  by_cases h0 : decE s.data.toList false = 0
  · exact cdecode_a s w hs hC h0
  · by_cases h : decE s.data.toList true = 0
    · exact cdecode_b s w hs hC h0 h
    · exact cdecode_c s w hs hC h0 h
set_option maxHeartbeats 1000000 in
theorem cdecs18 (s : ByteArray) (w : World) (hs : s.size ≤ 100000) (hC : CodesOk w) : Calls Tryd.prog 12 #[.string s] w fun e w' => e = .returned (.bool (decB s.data.toList)) ∧ Below w.heap.size w w' := by
  have hd := cdecode18 s w hs hC
  unfold DecTo at hd
  cases h : decB s.data.toList with
  | false =>
    have HD := Lib.hid (hd.mono fun e w' hq => And.intro (hq.1 h) hq.2.2)
    clear hd h hC
    go_enter Tryd.func12, Tryd.ntmps12
    go_wp2_with (go_at_call 31; (with_reducible refine HD.out.mono ?_); rintro e w1 ⟨rfl, hb⟩; have HB := Lib.hid (hb.alloc hb.size (.cells #[.string ⟨#[]⟩, .int .i64 0, .string ⟨#[]⟩, .int .i64 0, .bool false, .bool false, .slice none 0 0, .int .i64 0, .int .i64 0, .int .i64 0, .bool false, .int .i64 0, .string ⟨#[]⟩] 63)); clear hb)
    exact bodyPost_ret (v := .bool false) (by simp [results, Tryd.results12, go_sem]) rfl ⟨rfl, HB.out⟩
  | true =>
    have HD := Lib.hid (hd.mono fun e w' hq => And.intro (hq.2.1 h) hq.2.2)
    clear hd h hC
    go_enter Tryd.func12, Tryd.ntmps12
    go_wp2_with (go_at_call 31; (with_reducible refine HD.out.mono ?_); rintro e w1 ⟨⟨xb, xn, xm, yb, yn, ym, D, da, dc, k, nr, ns, pf, pid, info, -, rfl, -⟩, hb⟩; have HB := Lib.hid (hb.alloc hb.size (.cells #[.string xb, .int .i64 xn, .string yb, .int .i64 yn, .bool xm, .bool ym, .slice da D.length dc, .int .i64 k, .int .i64 nr, .int .i64 ns, .bool pf, .int .i64 pid, .string info] 63)); clear hb)
    exact bodyPost_ret (v := .bool true) (by simp [results, Tryd.results12, go_sem]) rfl ⟨rfl, HB.out⟩
end Go.Proofs.YtikabflmgckdnaaDoor
namespace Go.Proofs.YtikabflmgckdnaaDoor
open Go.RowKit Go.Sort
set_option maxRecDepth 20000
abbrev diV (g c : Nat) (C : List Cl) (k : Nat × Nat × Nat) : List Value := [.slice (some ⟨g, 0, none⟩) C.length c, .int .i64 (k.1 : Nat), .int .i64 (k.2.1 : Nat), .int .i64 (k.2.2 : Nat)]
/-- laid open -/
structure DiAt (w : World) (d g c : Nat) (C : List Cl) (k : Nat × Nat × Nat) (F : Nat → Prop) : Prop where
  row : RowAt w d (diV g c C k)
  calls : CallsAt w (some ⟨g, 0, none⟩) C
  ne : g ≠ d
  lt : g < w.heap.size
  few : C.length ≤ 5
  fd : F d
  fg : F g
  mem : ∀ b, F b → b < w.heap.size
def DiL : DiP := fun w d C k F => ∃ g c, DiAt w d g c C k F
theorem DiAt.stay {w w' : World} {d g c : Nat} {C : List Cl} {k : Nat × Nat × Nat} {F : Nat → Prop} (h : DiAt w d g c C k F) (hs : SameOn F w w') : DiAt w' d g c C k F :=
  ⟨h.row.block (hs.2 _ h.fd) hs.1, h.calls.same (fun p hp => by cases hp; exact hs.2 _ h.fg) hs.1, h.ne, Nat.lt_of_lt_of_le h.lt hs.1, h.few, h.fd, h.fg, fun b hb => Nat.lt_of_lt_of_le (h.mem b hb) hs.1⟩
theorem DiAt.below {w w' : World} {d g c : Nat} {C : List Cl} {k : Nat × Nat × Nat} {F : Nat → Prop} (h : DiAt w d g c C k F) (hb : Below w.heap.size w w') : DiAt w' d g c C k F := h.stay (SameOn.of_below hb h.mem)
theorem DiAt.put {w : World} {d g c : Nat} {C : List Cl} {k k' : Nat × Nat × Nat} {F : Nat → Prop} (h : DiAt w d g c C k F) (i : Nat) (v : Value) (e : diV g c C k' = (diV g c C k).set i v) : DiAt (w.setCell ⟨d, i, none⟩ v) d g c C k' F ∧ Turn F w (w.setCell ⟨d, i, none⟩ v) := by
  refine ⟨⟨h.row.put i v _ e, h.calls.same (fun p hp => Below.heap_setCell _ _ _ _ (by cases hp; exact h.ne)) (by simp [World.setCell]), h.ne, by simpa [World.setCell] using h.lt, h.few, h.fd, h.fg, fun b hb => by simpa [World.setCell] using h.mem b hb⟩, ?_⟩
  exact (Turn.refl F w).set (p := ⟨d, i, none⟩) (Or.inl h.fd) v
theorem mine_at (C : List Cl) (c : Cl) (i : Nat) (hi : i < C.length) : mineB (C.drop i) c = (decide (C[i] = c) || mineB (C.drop (i + 1)) c) := by
  conv => lhs; rw [List.drop_eq_getElem_cons hi]
  rfl
set_option maxHeartbeats 1000000 in
theorem cmine18 (w : World) (d g c : Nat) (C : List Cl) (k : Nat × Nat × Nat) (F : Nat → Prop) (b : ByteArray) (n : Int) (h : DiAt w d g c C k F) : Calls Tryd.prog 16 #[ptrD d, .agg #[.string b, .int .i64 n]] w fun e w' => e = .returned (.bool (mineB C (b, n))) ∧ Below w.heap.size w w' := by
  have hb0 := (Below.refl w.heap.size w).alloc (Nat.le_refl _) (.cells #[.string b, .int .i64 n] 23)
  have hra := RowAt.new w w.heap.size rfl [.string b, .int .i64 n] 23
  obtain ⟨r, hr⟩ : ∃ r, r = mineB C (b, n) := ⟨_, rfl⟩
  rw [← hr]
  have HRR := Lib.hid hr
  have HA := Lib.hid h.calls
  have HF := Lib.hid h.few
  have HB0 := Lib.hid hb0
  have HR0 := Lib.hid hra
  have z2 := (h.below hb0).row.cell 0 rfl
  clear hra hb0 h hr
  go_enter Tryd.func16, Tryd.ntmps16
  go_wp2_with fail
  clear z2
  go_loopw [14] (fun iv wx => ∃ i : Nat, i ≤ C.length ∧ iv = .int .i64 i ∧ Hid (r = mineB (C.drop i) (b, n) ∧ Below w.heap.size w wx ∧ RowAt wx w.heap.size [.string b, .int .i64 n])) (fun iv _ => C.length - (intOf iv).toNat)
  case atStart => exact ⟨0, Nat.zero_le _, rfl, Lib.hid ⟨HRR.out, HB0.out, HR0.out⟩⟩
  case round =>
    obtain ⟨i, hi, rfl, HK⟩ := hrel
    clear HB0 HR0
    have HZI := Lib.hid (show wrap64 ((i : Int) + 1) = (i : Int) + 1 from IntWalk.wrap64_in _ (by have := HF.out; omega))
    by_cases hlt : i < C.length
    · have dk : decide (i < C.length) = true := decide_eq_true hlt
      obtain ⟨g', o, ha, -, c0, c1⟩ := (HA.out.below HK.out.2.1) i hlt
      simp only [Option.some.injEq, Addr.mk.injEq, and_true] at ha
      obtain ⟨rfl, rfl⟩ := ha
      have HX := Lib.hid (HK.out.1.trans (mine_at C (b, n) i hlt))
      have HBW := Lib.hid (HK.out.2.1.alloc HK.out.2.1.size (.cells #[.string C[i].1, .int .i64 C[i].2] 23))
      have HRW := Lib.hid (HK.out.2.2.alloc (.cells #[.string C[i].1, .int .i64 C[i].2] 23))
      have HRN := Lib.hid (RowAt.new wr wr.heap.size rfl [.string C[i].1, .int .i64 C[i].2] 23)
      generalize C[i] = x at *
      obtain ⟨xb, xn⟩ := x
      simp only [Nat.zero_add] at c0 c1 HBW HRW HRN
      have y0 := HRN.out.cell 0 rfl
      have y1 := HRN.out.cell 1 rfl
      have z0 := HRW.out.cell 0 rfl
      have z1 := HRW.out.cell 1 rfl
      have heq := fun W => run_eq_call18 xb b xn n W _ rfl
      clear HK
      cases hq : decide ((xb, xn) = (b, n)) with
      | true =>
        rw [hq] at heq
        have e : r = true := by rw [HX.out, hq, Bool.true_or]
        subst e
        clear hq HX
        go_wp2_with fail
        trace_state
        exact bodyPost_ret (v := .bool true) (by simp [results, Tryd.results16, go_sem]) rfl ⟨rfl, HBW.out⟩
      | false =>
        rw [hq] at heq
        have HX2 := Lib.hid (show r = mineB (C.drop (i + 1)) (b, n) from by rw [HX.out, hq, Bool.false_or])
        clear hq HX
        go_wp2_with fail
        go_roundw
        case rel => exact ⟨i + 1, by omega, (by (try rw [HZI.out]); rfl), Lib.hid ⟨HX2.out, HBW.out, HRW.out⟩⟩
        case measure =>
          try rw [HZI.out]
          simp [intOf]
          omega
    · have dk : decide (i < C.length) = false := decide_eq_false hlt
      have e : r = false := by
        rw [HK.out.1, List.drop_eq_nil_of_le (by omega)]
        rfl
      subst e
      have HBW := Lib.hid HK.out.2.1
      clear HRR HK
      go_wp2_with fail
      trace_state
      exact bodyPost_ret (v := .bool false) (by simp [results, Tryd.results16, go_sem]) rfl ⟨rfl, HBW.out⟩
theorem ccounts18 (w : World) (d g c : Nat) (C : List Cl) (k : Nat × Nat × Nat) (F : Nat → Prop) (h : DiAt w d g c C k F) : Calls Tryd.prog 15 #[ptrD d] w fun e w' => e = .returned (.tuple #[.int .i64 (k.1 : Nat), .int .i64 (k.2.1 : Nat), .int .i64 (k.2.2 : Nat)]) ∧ Below w.heap.size w w' := by
  obtain ⟨k0, k1, k2⟩ := k
  have x1 := h.row.cell 1 rfl
  have x2 := h.row.cell 2 rfl
  have x3 := h.row.cell 3 rfl
  simp only at x1 x2 x3
  clear h
  go_enter Tryd.func15, Tryd.ntmps15
  go_upto_region 3 with (fail)
  go_quiet (fail)
  go_wp2_with fail
  trace_state
  exact bodyPost_ret (v := .tuple #[.int .i64 (k0 : Nat), .int .i64 (k1 : Nat), .int .i64 (k2 : Nat)]) (by simp [results, Tryd.results15, go_sem]) rfl ⟨rfl, belowN18 (Below.refl _ _) _⟩
theorem con0_18 (w : World) (s : ByteArray) : Calls Tryd.prog 10 #[.pointer none, .string s] w fun e w' => e = .returned (.tuple #[.string ⟨#[]⟩, .bool false]) ∧ Below w.heap.size w w' := by
  go_enter Tryd.func10, Tryd.ntmps10
  go_wp2_with fail
  trace_state
  exact bodyPost_ret (v := .tuple #[.string ⟨#[]⟩, .bool false]) (by simp [results, Tryd.results10, go_sem]) rfl ⟨rfl, Below.refl _ _⟩
theorem ccounts0_18 (w : World) : Calls Tryd.prog 15 #[.pointer none] w fun e w' => e = .returned (.tuple #[.int .i64 0, .int .i64 0, .int .i64 0]) ∧ Below w.heap.size w w' := by
  go_enter Tryd.func15, Tryd.ntmps15
  go_wp2_with fail
  trace_state
  exact bodyPost_ret (v := .tuple #[.int .i64 0, .int .i64 0, .int .i64 0]) (by simp [results, Tryd.results15, go_sem]) rfl ⟨rfl, Below.refl _ _⟩
theorem cmine0_18 (w : World) (b : ByteArray) (n : Int) : Calls Tryd.prog 16 #[.pointer none, .agg #[.string b, .int .i64 n]] w fun e w' => e = .returned (.bool false) ∧ Below w.heap.size w w' := by
  have HB0 := Lib.hid ((Below.refl w.heap.size w).alloc (Nat.le_refl _) (.cells #[.string b, .int .i64 n] 23))
  go_enter Tryd.func16, Tryd.ntmps16
  go_wp2_with fail
  trace_state
  exact bodyPost_ret (v := .bool false) (by simp [results, Tryd.results16, go_sem]) rfl ⟨rfl, HB0.out⟩
end Go.Proofs.YtikabflmgckdnaaDoor
namespace Go.Proofs.YtikabflmgckdnaaDoor
open Go.RowKit Go.Sort
set_option maxRecDepth 20000
/-- what Next answers -/
def nextV (D : List Ent) : Value := match D[fstD D]? with | some e => .tuple #[.agg #[.string e.1, .int .i64 e.2.1], .bool true] | none => .tuple #[.agg #[.string ⟨#[]⟩, .int .i64 0], .bool false]
set_option maxHeartbeats 1000000 in
theorem next_any (tb fb : ByteArray) (tn fn : Int) (tm fm : Bool) (a : Option Addr) (cap : Nat) (D : List Ent) (w : World) (hD : D.length ≤ 1000) (hE : EntsAt w a cap D) (hS : ∀ e ∈ D, e.1.size ≤ 140737488351232) :
    Calls Tryd.prog 26 #[.agg #[.string tb, .int .i64 tn, .string fb, .int .i64 fn, .bool tm, .bool fm, .slice a D.length cap]] w fun e w' => e = .returned (nextV D) ∧ Below w.heap.size w w' := by
  obtain ⟨W1, hW1⟩ : ∃ W1, W1 = w.alloc (.cells #[.string tb, .int .i64 tn, .string fb, .int .i64 fn, .bool tm, .bool fm, .slice a D.length cap] 55) := ⟨_, rfl⟩
  have hs1 : w.heap.size + 1 = W1.heap.size := by rw [hW1]; simp
  have HP := Lib.hid (show P7 (W1.alloc (.cells #[.string ⟨#[]⟩, .int .i64 0] 23)) w.heap.size _ _ _ _ _ _ _ from by rw [hW1]; exact (P7.new w _ rfl _ _ _ _ _ _ _ _).alloc _)
  have HR := Lib.hid (show KeepAt (W1.alloc (.cells #[.string ⟨#[]⟩, .int .i64 0] 23)) (w.heap.size + 1) 0 (.string ⟨#[]⟩) ∧ KeepAt (W1.alloc (.cells #[.string ⟨#[]⟩, .int .i64 0] 23)) (w.heap.size + 1) 1 (.int .i64 0) from by
    rw [hs1]
    exact ⟨⟨World.cell?_alloc_at _ _ _ _ rfl, World.frozen?_alloc_at _ _ _ _ rfl, by simp⟩, ⟨World.cell?_alloc_at _ _ _ _ rfl, World.frozen?_alloc_at _ _ _ _ rfl, by simp⟩⟩)
  have HB0 := Lib.hid (show Below w.heap.size w (W1.alloc (.cells #[.string ⟨#[]⟩, .int .i64 0] 23)) from by rw [hW1]; exact ((Below.refl _ w).alloc (Nat.le_refl _) _).alloc (by simp) _)
  have HFI := Lib.hid (fun W (h : Below w.heap.size w W) => first_any a cap D W hD (hE.below h))
  have HE := Lib.hid (fun W (h : Below w.heap.size w W) => hE.below h)
  have hle := fstD_le D
  have HSS := Lib.hid hS
  clear hE hs1 hS
  subst hW1
  obtain ⟨f, hf⟩ : ∃ f, f = fstD D := ⟨_, rfl⟩
  obtain ⟨V, hV⟩ : ∃ V, V = nextV D := ⟨_, rfl⟩
  have hVV := hV
  unfold nextV at hVV
  rw [← hf] at HFI hle hVV
  rw [← hV]
  clear hf hV
  by_cases hlt : f < D.length
  · rw [List.getElem?_eq_getElem hlt] at hVV
    have HSK := Lib.hid (HSS.out D[f] (List.getElem_mem hlt))
    have HCK := Lib.hid (fun W (h : Below w.heap.size w W) => (HE.out W h).at_ f hlt)
    have ef : ((f : Int) == (D.length : Int)) = false := by rw [beq_eq_false_iff_ne]; omega
    generalize D[f] = d at *
    obtain ⟨db, dn, dm⟩ := d
    simp only at hVV HSK HCK
    subst hVV
    obtain ⟨g, o, rfl, -, -, -, -⟩ := HCK.out w (Below.refl _ _)
    have HAN := Lib.hid (fun W => anew_any db dn W HSK.out)
    go_enter Tryd.func26, Tryd.ntmps26
    go_wp2_with (first
      | (go_at_call 47; (with_reducible refine (HFI.out _ HB0.out).mono ?_); rintro e w1 ⟨rfl, hb⟩; have HB := Lib.hid (HB0.out.trans (hb.mono HB0.out.size)); have HP1 := Lib.hid (HP.out.below hb); have HR1 := Lib.hid (And.intro (HR.out.1.below hb) (HR.out.2.below hb)); clear hb; obtain ⟨p6, -, pl⟩ := HP1.out.k6; obtain ⟨g', o', ha, hg, c0, c1, -⟩ := HCK.out _ HB.out; simp only [Option.some.injEq, Addr.mk.injEq, and_true] at ha; obtain ⟨rfl, rfl⟩ := ha)
      | (go_at_call 37; (with_reducible refine (HAN.out _).mono ?_); rintro e w2 ⟨rfl, hb⟩; replace HB := Lib.hid (HB.out.trans (hb.mono HB.out.size)); have HR2 := Lib.hid (And.intro (HR1.out.1.below hb) (HR1.out.2.below hb)); clear hb; obtain ⟨⟨r0, s0, rl⟩, ⟨r1, s1, -⟩⟩ := HR2.out))
    obtain ⟨z0, z1⟩ := stored2 (W := w2) (.string db) (.int .i64 dn) r0 r1
    exact bodyPost_ret (v := .tuple #[.agg #[.string db, .int .i64 dn], .bool true]) (by simp [results, Tryd.results26, go_sem, z0, z1]) rfl ⟨rfl, set2_below HB.out (by omega) _ _⟩
  · obtain rfl : f = D.length := by omega
    rw [List.getElem?_eq_none (Nat.le_refl _)] at hVV
    simp only at hVV
    subst hVV
    have ef : ((D.length : Int) == (D.length : Int)) = true := beq_self_eq_true _
    go_enter Tryd.func26, Tryd.ntmps26
    go_wp2_with (go_at_call 47; (with_reducible refine (HFI.out _ HB0.out).mono ?_); rintro e w1 ⟨rfl, hb⟩; have HB := Lib.hid (HB0.out.trans (hb.mono HB0.out.size)); have HP1 := Lib.hid (HP.out.below hb); have HR1 := Lib.hid (And.intro (HR.out.1.below hb) (HR.out.2.below hb)); clear hb; obtain ⟨p6, -, pl⟩ := HP1.out.k6; obtain ⟨⟨r0, s0, rl⟩, ⟨r1, s1, -⟩⟩ := HR1.out)
    obtain ⟨z0, z1⟩ := stored2 (W := w1) (.string ⟨#[]⟩) (.int .i64 0) r0 r1
    exact bodyPost_ret (v := .tuple #[.agg #[.string ⟨#[]⟩, .int .i64 0], .bool false]) (by simp [results, Tryd.results26, go_sem, z0, z1]) rfl ⟨rfl, set2_below HB.out (by omega) _ _⟩
end Go.Proofs.YtikabflmgckdnaaDoor
