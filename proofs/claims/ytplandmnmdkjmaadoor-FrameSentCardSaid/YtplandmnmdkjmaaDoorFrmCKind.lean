/-
The landed code's kind of bytes; whether all have sent a frame.
-/
import Derived.Test.YtplandmnmdkjmaaDoorFrmCBegin
import Derived.Test.YtplandmnmdkjmaaDoorPathCNext
namespace Go.Proofs.YtplandmnmdkjmaaDoor
open Go.RowKit Go.Sort
set_option maxRecDepth 20000
/-- the kind that is told of bytes -/
def kindF (s : List UInt8) : Nat := if begE s false ≠ 0 then 0 else (ctlOf s false).1
set_option maxHeartbeats 1000000 in
theorem kind_any (s : ByteArray) (w : World) (hs : s.size ≤ 100000) (hC : CodesOk w) :
    Calls Tryd.prog 15 #[.string s] w fun e w' => e = .returned (.int .i64 (kindF s.data.toList : Nat)) ∧ Below w.heap.size w w' := by
  have hbg := begin_any s false w hs hC
  unfold BegTo at hbg
  unfold kindF
  by_cases h : begE s.data.toList false = 0
  · rw [if_neg (fun q => q h)]
    have HBG := Lib.hid (hbg.mono fun e w' hq => And.intro (hq.2.1 h) hq.2.2)
    generalize ctlOf s.data.toList false = C at *
    obtain ⟨k, nr, ns, pf, m, er⟩ := C
    clear hbg h hC
    go_enter Tryd.func15, Tryd.ntmps15
    go_wp2_with (go_at_call 32; (with_reducible refine HBG.out.mono ?_); rintro e w1 ⟨⟨⟨xb, xn, xm⟩, ⟨yb, yn, ym⟩, D, da, dc, hx, rfl, hE⟩, hb⟩; have HB := Lib.hid (hb.alloc hb.size (.cells #[.string xb, .int .i64 xn, .string yb, .int .i64 yn, .bool xm, .bool ym, .slice da D.length dc, .int .i64 (k : Int), .int .i64 (nr : Int), .int .i64 (ns : Int), .bool pf, .int .i64 0, .string ⟨#[]⟩] 30)); clear hb hE hx)
    go_ret
    exact ⟨rfl, HB.out⟩
  · rw [if_pos h]
    have HBG := Lib.hid (hbg.mono fun e w' hq => And.intro (hq.1 h) hq.2.2)
    unfold zeroF at HBG
    generalize begE s.data.toList false = E at *
    clear hbg h hC
    go_enter Tryd.func15, Tryd.ntmps15
    go_wp2_with (go_at_call 32; (with_reducible refine HBG.out.mono ?_); rintro e w1 ⟨rfl, hb⟩; have HB := Lib.hid (hb.alloc hb.size (.cells #[.string ⟨#[]⟩, .int .i64 0, .string ⟨#[]⟩, .int .i64 0, .bool false, .bool false, .slice none 0 0, .int .i64 0, .int .i64 0, .int .i64 0, .bool false, .int .i64 0, .string ⟨#[]⟩] 30)); clear hb)
    go_ret
    exact ⟨rfl, HB.out⟩
set_option maxHeartbeats 1000000 in
theorem done_any (tb fb : ByteArray) (tn fn : Int) (tm fm : Bool) (a : Option Addr) (cap : Nat) (D : List Ent) (k nr ns : Int) (pf : Bool) (pid : Int) (info : ByteArray) (w : World) (hD : D.length ≤ 1000) (hE : EntsAt w a cap D) (hS : ∀ e ∈ D, e.1.size ≤ 140737488351232) :
    Calls Tryd.prog 18 #[.agg #[.string tb, .int .i64 tn, .string fb, .int .i64 fn, .bool tm, .bool fm, .slice a D.length cap, .int .i64 k, .int .i64 nr, .int .i64 ns, .bool pf, .int .i64 pid, .string info]] w fun e w' => e = .returned (.bool (decide (¬ fstD D < D.length))) ∧ Below w.heap.size w w' := by
  have HB0 := Lib.hid ((Below.refl _ w).alloc (Nat.le_refl _) (.cells #[.string tb, .int .i64 tn, .string fb, .int .i64 fn, .bool tm, .bool fm, .slice a D.length cap, .int .i64 k, .int .i64 nr, .int .i64 ns, .bool pf, .int .i64 pid, .string info] 30))
  have hn := fun W (h : Below w.heap.size w W) => next_any tb fb tn fn tm fm a cap D W hD (hE.below h) hS
  unfold nextV at hn
  by_cases h : fstD D < D.length
  · rw [List.getElem?_eq_getElem h] at hn
    dsimp only at hn
    have e : decide (¬ fstD D < D.length) = false := decide_eq_false (fun q => q h)
    rw [e]
    generalize D[fstD D] = x at *
    obtain ⟨xb, xn, xm⟩ := x
    dsimp only at hn
    have HN := Lib.hid hn
    clear hn hE hS h e
    go_enter Tryd.func18, Tryd.ntmps18
    go_wp2_with (go_at_call 17; (with_reducible refine (HN.out _ HB0.out).mono ?_); rintro e w1 ⟨rfl, hb⟩; have hb1 := HB0.out.trans (hb.mono HB0.out.size); have HB := Lib.hid (hb1.alloc hb1.size (.cells #[.string xb, .int .i64 xn] 23)); clear hb hb1)
    go_ret
    exact ⟨rfl, HB.out⟩
  · rw [List.getElem?_eq_none (by omega)] at hn
    dsimp only at hn
    have e : decide (¬ fstD D < D.length) = true := decide_eq_true h
    rw [e]
    have HN := Lib.hid hn
    clear hn hE hS h e
    go_enter Tryd.func18, Tryd.ntmps18
    go_wp2_with (go_at_call 17; (with_reducible refine (HN.out _ HB0.out).mono ?_); rintro e w1 ⟨rfl, hb⟩; have hb1 := HB0.out.trans (hb.mono HB0.out.size); have HB := Lib.hid (hb1.alloc hb1.size (.cells #[.string ⟨#[]⟩, .int .i64 0] 23)); clear hb hb1)
    go_ret
    exact ⟨rfl, HB.out⟩
end Go.Proofs.YtplandmnmdkjmaaDoor
