/-
Walk of the statement FrameSent.
-/
import Derived.Test.YtplandmnmdkjmaaDoorFrmSentP
import Derived.Test.YtplandmnmdkjmaaDoorFrmAwake
import Derived.Test.YtplandmnmdkjmaaDoorPathPlain
import Derived.Test.YtplandmnmdkjmaaDoorPathRNext
import Derived.Test.YtplandmnmdkjmaaDoorPathCSentO
import Derived.Test.YtplandmnmdkjmaaDoorCtlRGetA
import Derived.Lib.OthersKept
import Derived.OrdersHeld
import Derived.Deep.RegionHeld
namespace Go.Proofs.YtplandmnmdkjmaaDoor
open Go.RowKit Go.Sort Go.Lib
set_option maxRecDepth 20000
/-- the loop's state: where the iterator stands, and the frame's own cells -/
structure SlAt (w W : World) (kb : Nat) (S : ByteArray) (p : Nat) (v0 v1 v2 v3 v4 v5 v6 v7 v8 v9 v10 v11 v12 : Value) : Prop where
  it : W.heap[kb]? = some (.stringIter S p)
  box : F13 W w.heap.size v0 v1 v2 v3 v4 v5 v6 v7 v8 v9 v10 v11 v12
  bel : Below w.heap.size w W
  kne : w.heap.size < kb
theorem SlAt.below {w W W' : World} {kb : Nat} {S : ByteArray} {p : Nat} {v0 v1 v2 v3 v4 v5 v6 v7 v8 v9 v10 v11 v12 : Value} (h : SlAt w W kb S p v0 v1 v2 v3 v4 v5 v6 v7 v8 v9 v10 v11 v12) (hb : Below W.heap.size W W') : SlAt w W' kb S p v0 v1 v2 v3 v4 v5 v6 v7 v8 v9 v10 v11 v12 :=
  ⟨(hb.block kb (Array.getElem?_eq_some_iff.1 h.it).1).trans h.it, h.box.below hb, h.bel.trans (hb.mono h.bel.size), h.kne⟩
theorem SlAt.step {w W : World} {kb : Nat} {S : ByteArray} {p : Nat} {v0 v1 v2 v3 v4 v5 v6 v7 v8 v9 v10 v11 v12 : Value} (h : SlAt w W kb S p v0 v1 v2 v3 v4 v5 v6 v7 v8 v9 v10 v11 v12) (p' : Nat) : SlAt w (W.iterAt kb S p') kb S p' v0 v1 v2 v3 v4 v5 v6 v7 v8 v9 v10 v11 v12 := by
  have hk := h.kne
  exact ⟨iterAt_heap W kb S p p' h.it, h.box.block (iterAt_other W kb _ S p' (by omega)) (by rw [iterAt_size]; exact Nat.le_refl _), below_iterAt h.bel (by omega) S p', hk⟩
theorem iterPos_at {W : World} {k p : Nat} {s : ByteArray} (h : W.heap[k]? = some (.stringIter s p)) : W.iterPos k = p := by
  unfold World.iterPos
  rw [h]
theorem two_texts (S T : ByteArray) (pre post : List UInt8) (c c' : UInt8) (hS : S.data.toList = pre ++ c :: post) (hT : T.data.toList = pre ++ c' :: post) :
    S.size = T.size ∧ pre.length < S.size ∧ (∀ p (hp : p < S.size) (hp' : p < T.size), p ≠ pre.length → S[p]'hp = T[p]'hp') ∧ (∀ h : pre.length < S.size, S[pre.length]'h = c) ∧ (∀ h : pre.length < T.size, T[pre.length]'h = c') := by
  have e1 : S.data.toList.length = S.size := by simp
  have e2 : T.data.toList.length = T.size := by simp
  rw [hS, List.length_append, List.length_cons] at e1
  rw [hT, List.length_append, List.length_cons] at e2
  refine ⟨by omega, by omega, fun p hp hp' hne => ?_, fun h => ?_, fun h => ?_⟩
  · rw [← list_at S p hp, ← list_at T p hp']
    simp only [hS, hT]
    by_cases hl : p < pre.length
    · rw [List.getElem_append_left hl, List.getElem_append_left hl]
    · rw [List.getElem_append_right (by omega), List.getElem_append_right (by omega)]
      obtain ⟨j, hj⟩ : ∃ j, p - pre.length = j + 1 := ⟨p - pre.length - 1, by omega⟩
      simp only [hj, List.getElem_cons_succ]
  · rw [← list_at S _ h]
    simp only [hS]
    rw [List.getElem_append_right (Nat.le_refl _)]
    simp
  · rw [← list_at T _ h]
    simp only [hT]
    rw [List.getElem_append_right (Nat.le_refl _)]
    simp
theorem xor_mark : ∀ c : Fin 128, bits BinOp.xor .u8 (c.1 : Int) ((c.1 + 128 : Nat) : Int) = 128 := by decide +kernel
theorem get_bang (s : ByteArray) (p : Nat) (h : p < s.size) : s.get! p = s[p]'h := get_at s p h
set_option maxHeartbeats 1000000 in
theorem fsent_great (tb fb : ByteArray) (tn fn : Int) (tm fm : Bool) (a : Option Addr) (n cap : Nat) (k nr ns : Int) (pf : Bool) (pid : Int) (info : ByteArray) (wide : Bool) (w : World) (hC : CodesOk w) (hN : NamesOk w) (h : 30 < n ∨ 2000 < info.size) :
    Calls Tryd.prog 5 #[.agg #[.string tb, .int .i64 tn, .string fb, .int .i64 fn, .bool tm, .bool fm, .slice a n cap, .int .i64 k, .int .i64 nr, .int .i64 ns, .bool pf, .int .i64 pid, .string info], .bool wide] w fun e w' => e = .returned (.bool true) ∧ Below w.heap.size w w' := by
  have HB0 := Lib.hid ((Below.refl _ w).alloc (Nat.le_refl _) (.cells #[.string tb, .int .i64 tn, .string fb, .int .i64 fn, .bool tm, .bool fm, .slice a n cap, .int .i64 k, .int .i64 nr, .int .i64 ns, .bool pf, .int .i64 pid, .string info] 30))
  have HF0 := Lib.hid (F13.new w w.heap.size rfl (.string tb) (.int .i64 tn) (.string fb) (.int .i64 fn) (.bool tm) (.bool fm) (.slice a n cap) (.int .i64 k) (.int .i64 nr) (.int .i64 ns) (.bool pf) (.int .i64 pid) (.string info) 30)
  have HAW := Lib.hid (fun W (h : Below w.heap.size w W) => fawake_any W (hC.below h) (hN.below h))
  have hg := fun W => fgreat_any tb fb tn fn tm fm a n cap k nr ns pf pid info W
  rw [show (decide (30 < n) || decide (2000 < info.size)) = true from by simpa using h] at hg
  have HG := Lib.hid hg
  clear hg h hC hN
  go_enter Tryd.func5, Tryd.ntmps5
  go_wp2_with (first
    | (go_at_call 6; (with_reducible refine (HAW.out _ HB0.out).mono ?_); rintro e w1 ⟨rfl, hb⟩; have HB := Lib.hid (HB0.out.trans (hb.mono HB0.out.size)); have HF := Lib.hid (HF0.out.below hb); clear hb; obtain ⟨⟨p0, -, pl⟩, ⟨p1, -, -⟩, ⟨p2, -, -⟩, ⟨p3, -, -⟩, ⟨p4, -, -⟩, ⟨p5, -, -⟩, ⟨p6, -, -⟩, ⟨p7, -, -⟩, ⟨p8, -, -⟩, ⟨p9, -, -⟩, ⟨p10, -, -⟩, ⟨p11, -, -⟩, ⟨p12, -, -⟩⟩ := HF.out)
    | (go_at_call 7; (with_reducible refine (HG.out _).mono ?_); rintro e w2 ⟨rfl, hb⟩; replace HB := Lib.hid (HB.out.trans (hb.mono HB.out.size)); replace HF := Lib.hid (HF.out.below hb); clear hb; clear p0 pl p1 p2 p3 p4 p5 p6 p7 p8 p9 p10 p11 p12; obtain ⟨⟨p0, -, pl⟩, ⟨p1, -, -⟩, ⟨p2, -, -⟩, ⟨p3, -, -⟩, ⟨p4, -, -⟩, ⟨p5, -, -⟩, ⟨p6, -, -⟩, ⟨p7, -, -⟩, ⟨p8, -, -⟩, ⟨p9, -, -⟩, ⟨p10, -, -⟩, ⟨p11, -, -⟩, ⟨p12, -, -⟩⟩ := HF.out))
  go_ret
  exact ⟨rfl, HB.out⟩
set_option maxHeartbeats 1000000 in
theorem fsent_no (tb fb : ByteArray) (tn fn : Int) (tm fm : Bool) (a : Option Addr) (cap : Nat) (D : List Ent) (k nr ns : Int) (pf : Bool) (pid : Int) (info : ByteArray) (wide : Bool) (w : World) (hC : CodesOk w) (hN : NamesOk w) (hD : D.length ≤ 30) (hi : info.size ≤ 2000) (hE : EntsAt w a cap D) (hw : wrongF ((tb, tn, tm) :: (fb, fn, fm) :: D) k nr ns wide pid info.size ≠ 0) :
    Calls Tryd.prog 5 #[.agg #[.string tb, .int .i64 tn, .string fb, .int .i64 fn, .bool tm, .bool fm, .slice a D.length cap, .int .i64 k, .int .i64 nr, .int .i64 ns, .bool pf, .int .i64 pid, .string info], .bool wide] w fun e w' => e = .returned (.bool true) ∧ Below w.heap.size w w' := by
  have HB0 := Lib.hid ((Below.refl _ w).alloc (Nat.le_refl _) (.cells #[.string tb, .int .i64 tn, .string fb, .int .i64 fn, .bool tm, .bool fm, .slice a D.length cap, .int .i64 k, .int .i64 nr, .int .i64 ns, .bool pf, .int .i64 pid, .string info] 30))
  have HF0 := Lib.hid (F13.new w w.heap.size rfl (.string tb) (.int .i64 tn) (.string fb) (.int .i64 fn) (.bool tm) (.bool fm) (.slice a D.length cap) (.int .i64 k) (.int .i64 nr) (.int .i64 ns) (.bool pf) (.int .i64 pid) (.string info) 30)
  have HAW := Lib.hid (fun W (h : Below w.heap.size w W) => fawake_any W (hC.below h) (hN.below h))
  have hg := fun W => fgreat_any tb fb tn fn tm fm a D.length cap k nr ns pf pid info W
  rw [show (decide (30 < D.length) || decide (2000 < info.size)) = false from by simp; omega] at hg
  have HG := Lib.hid hg
  have hri := fun W (h : Below w.heap.size w W) => fright_any tb fb tn fn tm fm a cap D k nr ns pf pid info wide W (by omega) (hE.below h)
  rw [decide_eq_false hw] at hri
  have HRI := Lib.hid hri
  clear hg hri hC hN hE hw
  go_enter Tryd.func5, Tryd.ntmps5
  go_wp2_with (first
    | (go_at_call 6; (with_reducible refine (HAW.out _ HB0.out).mono ?_); rintro e w1 ⟨rfl, hb⟩; have HB := Lib.hid (HB0.out.trans (hb.mono HB0.out.size)); have HF := Lib.hid (HF0.out.below hb); clear hb; obtain ⟨⟨p0, -, pl⟩, ⟨p1, -, -⟩, ⟨p2, -, -⟩, ⟨p3, -, -⟩, ⟨p4, -, -⟩, ⟨p5, -, -⟩, ⟨p6, -, -⟩, ⟨p7, -, -⟩, ⟨p8, -, -⟩, ⟨p9, -, -⟩, ⟨p10, -, -⟩, ⟨p11, -, -⟩, ⟨p12, -, -⟩⟩ := HF.out)
    | (go_at_call 7; (with_reducible refine (HG.out _).mono ?_); rintro e w2 ⟨rfl, hb⟩; replace HB := Lib.hid (HB.out.trans (hb.mono HB.out.size)); replace HF := Lib.hid (HF.out.below hb); clear hb; clear p0 pl p1 p2 p3 p4 p5 p6 p7 p8 p9 p10 p11 p12; obtain ⟨⟨p0, -, pl⟩, ⟨p1, -, -⟩, ⟨p2, -, -⟩, ⟨p3, -, -⟩, ⟨p4, -, -⟩, ⟨p5, -, -⟩, ⟨p6, -, -⟩, ⟨p7, -, -⟩, ⟨p8, -, -⟩, ⟨p9, -, -⟩, ⟨p10, -, -⟩, ⟨p11, -, -⟩, ⟨p12, -, -⟩⟩ := HF.out)
    | (go_at_call 11; (with_reducible refine (HRI.out _ HB.out).mono ?_); rintro e w3 ⟨rfl, hb⟩; replace HB := Lib.hid (HB.out.trans (hb.mono HB.out.size)); replace HF := Lib.hid (HF.out.below hb); clear hb; clear p0 pl p1 p2 p3 p4 p5 p6 p7 p8 p9 p10 p11 p12; obtain ⟨⟨p0, -, pl⟩, ⟨p1, -, -⟩, ⟨p2, -, -⟩, ⟨p3, -, -⟩, ⟨p4, -, -⟩, ⟨p5, -, -⟩, ⟨p6, -, -⟩, ⟨p7, -, -⟩, ⟨p8, -, -⟩, ⟨p9, -, -⟩, ⟨p10, -, -⟩, ⟨p11, -, -⟩, ⟨p12, -, -⟩⟩ := HF.out))
  go_ret
  exact ⟨rfl, HB.out⟩
theorem right_sizes {L : List Ent} (h : rightP L = true) : ∀ e ∈ L, e.1.size ≤ 140737488351232 := fun e he => by
  have h3 := (right_path _ h).1 e he
  have := (right_facts _ _ h3).2.1
  omega
set_option maxHeartbeats 1000000 in
theorem fsent_done (tb fb : ByteArray) (tn fn : Int) (tm fm : Bool) (a : Option Addr) (cap : Nat) (D : List Ent) (k nr ns : Int) (pf : Bool) (pid : Int) (info : ByteArray) (wide : Bool) (w : World) (hC : CodesOk w) (hN : NamesOk w) (hD : D.length ≤ 30) (hi : info.size ≤ 2000) (hE : EntsAt w a cap D) (hw : wrongF ((tb, tn, tm) :: (fb, fn, fm) :: D) k nr ns wide pid info.size = 0) (hq : ¬ fstD D < D.length) :
    Calls Tryd.prog 5 #[.agg #[.string tb, .int .i64 tn, .string fb, .int .i64 fn, .bool tm, .bool fm, .slice a D.length cap, .int .i64 k, .int .i64 nr, .int .i64 ns, .bool pf, .int .i64 pid, .string info], .bool wide] w fun e w' => e = .returned (.bool true) ∧ Below w.heap.size w w' := by
  have HB0 := Lib.hid ((Below.refl _ w).alloc (Nat.le_refl _) (.cells #[.string tb, .int .i64 tn, .string fb, .int .i64 fn, .bool tm, .bool fm, .slice a D.length cap, .int .i64 k, .int .i64 nr, .int .i64 ns, .bool pf, .int .i64 pid, .string info] 30))
  have HF0 := Lib.hid (F13.new w w.heap.size rfl (.string tb) (.int .i64 tn) (.string fb) (.int .i64 fn) (.bool tm) (.bool fm) (.slice a D.length cap) (.int .i64 k) (.int .i64 nr) (.int .i64 ns) (.bool pf) (.int .i64 pid) (.string info) 30)
  have HAW := Lib.hid (fun W (h : Below w.heap.size w W) => fawake_any W (hC.below h) (hN.below h))
  have hg := fun W => fgreat_any tb fb tn fn tm fm a D.length cap k nr ns pf pid info W
  rw [show (decide (30 < D.length) || decide (2000 < info.size)) = false from by simp; omega] at hg
  have HG := Lib.hid hg
  have hri := fun W (h : Below w.heap.size w W) => fright_any tb fb tn fn tm fm a cap D k nr ns pf pid info wide W (by omega) (hE.below h)
  rw [decide_eq_true hw] at hri
  have HRI := Lib.hid hri
  have hsz := right_sizes (right_frame hw).1
  have hS : ∀ e ∈ D, e.1.size ≤ 140737488351232 := fun e he => hsz e (List.mem_cons_of_mem _ (List.mem_cons_of_mem _ he))
  have hnx := fun W (h : Below w.heap.size w W) => next_any tb fb tn fn tm fm a cap D W (by omega) (hE.below h) hS
  unfold nextV at hnx
  rw [List.getElem?_eq_none (by omega)] at hnx
  dsimp only at hnx
  have hdn := fun W (h : Below w.heap.size w W) => done_any tb fb tn fn tm fm a cap D k nr ns pf pid info W (by omega) (hE.below h) hS
  rw [decide_eq_true hq] at hdn
  obtain ⟨xb, hxb⟩ : ∃ x : ByteArray, x = ⟨#[]⟩ := ⟨_, rfl⟩
  obtain ⟨xn, hxn⟩ : ∃ x : Int, x = 0 := ⟨_, rfl⟩
  rw [← hxb, ← hxn] at hnx
  have HNX := Lib.hid hnx
  have HDN := Lib.hid hdn
  clear hg hri hnx hdn hC hN hE hw hsz hS hq hxb hxn
  go_enter Tryd.func5, Tryd.ntmps5
  go_wp2_with (first
    | (go_at_call 6; (with_reducible refine (HAW.out _ HB0.out).mono ?_); rintro e w1 ⟨rfl, hb⟩; have HB := Lib.hid (HB0.out.trans (hb.mono HB0.out.size)); have HF := Lib.hid (HF0.out.below hb); clear hb; obtain ⟨⟨p0, -, pl⟩, ⟨p1, -, -⟩, ⟨p2, -, -⟩, ⟨p3, -, -⟩, ⟨p4, -, -⟩, ⟨p5, -, -⟩, ⟨p6, -, -⟩, ⟨p7, -, -⟩, ⟨p8, -, -⟩, ⟨p9, -, -⟩, ⟨p10, -, -⟩, ⟨p11, -, -⟩, ⟨p12, -, -⟩⟩ := HF.out)
    | (go_at_call 7; (with_reducible refine (HG.out _).mono ?_); rintro e w2 ⟨rfl, hb⟩; replace HB := Lib.hid (HB.out.trans (hb.mono HB.out.size)); replace HF := Lib.hid (HF.out.below hb); clear hb; clear p0 pl p1 p2 p3 p4 p5 p6 p7 p8 p9 p10 p11 p12; obtain ⟨⟨p0, -, pl⟩, ⟨p1, -, -⟩, ⟨p2, -, -⟩, ⟨p3, -, -⟩, ⟨p4, -, -⟩, ⟨p5, -, -⟩, ⟨p6, -, -⟩, ⟨p7, -, -⟩, ⟨p8, -, -⟩, ⟨p9, -, -⟩, ⟨p10, -, -⟩, ⟨p11, -, -⟩, ⟨p12, -, -⟩⟩ := HF.out)
    | (go_at_call 11; (with_reducible refine (HRI.out _ HB.out).mono ?_); rintro e w3 ⟨rfl, hb⟩; replace HB := Lib.hid (HB.out.trans (hb.mono HB.out.size)); replace HF := Lib.hid (HF.out.below hb); clear hb; clear p0 pl p1 p2 p3 p4 p5 p6 p7 p8 p9 p10 p11 p12; obtain ⟨⟨p0, -, pl⟩, ⟨p1, -, -⟩, ⟨p2, -, -⟩, ⟨p3, -, -⟩, ⟨p4, -, -⟩, ⟨p5, -, -⟩, ⟨p6, -, -⟩, ⟨p7, -, -⟩, ⟨p8, -, -⟩, ⟨p9, -, -⟩, ⟨p10, -, -⟩, ⟨p11, -, -⟩, ⟨p12, -, -⟩⟩ := HF.out)
    | (go_at_call 17; (with_reducible refine (HNX.out _ HB.out).mono ?_); rintro e w4 ⟨rfl, hb⟩; have hb2 := HB.out.trans (hb.mono HB.out.size); replace HB := Lib.hid (hb2.alloc hb2.size (.cells #[.string xb, .int .i64 xn] 23)); replace HF := Lib.hid ((HF.out.below hb).alloc (.cells #[.string xb, .int .i64 xn] 23)); clear hb hb2; clear p0 pl p1 p2 p3 p4 p5 p6 p7 p8 p9 p10 p11 p12; obtain ⟨⟨p0, -, pl⟩, ⟨p1, -, -⟩, ⟨p2, -, -⟩, ⟨p3, -, -⟩, ⟨p4, -, -⟩, ⟨p5, -, -⟩, ⟨p6, -, -⟩, ⟨p7, -, -⟩, ⟨p8, -, -⟩, ⟨p9, -, -⟩, ⟨p10, -, -⟩, ⟨p11, -, -⟩, ⟨p12, -, -⟩⟩ := HF.out)
    | (go_at_call 18; (with_reducible refine (HDN.out _ HB.out).mono ?_); rintro e w5 ⟨rfl, hb⟩; replace HB := Lib.hid (HB.out.trans (hb.mono HB.out.size)); replace HF := Lib.hid (HF.out.below hb); clear hb; clear p0 pl p1 p2 p3 p4 p5 p6 p7 p8 p9 p10 p11 p12; obtain ⟨⟨p0, -, pl⟩, ⟨p1, -, -⟩, ⟨p2, -, -⟩, ⟨p3, -, -⟩, ⟨p4, -, -⟩, ⟨p5, -, -⟩, ⟨p6, -, -⟩, ⟨p7, -, -⟩, ⟨p8, -, -⟩, ⟨p9, -, -⟩, ⟨p10, -, -⟩, ⟨p11, -, -⟩, ⟨p12, -, -⟩⟩ := HF.out))
  go_ret
  exact ⟨rfl, HB.out⟩
/-- a frame that lies elsewhere stays while seven cells are written -/
theorem F13.other7 {W : World} {g m : Nat} {v0 v1 v2 v3 v4 v5 v6 v7 v8 v9 v10 v11 v12 : Value} (h : F13 W g v0 v1 v2 v3 v4 v5 v6 v7 v8 v9 v10 v11 v12) (hm : m ≠ g) (u0 u1 u2 u3 u4 u5 u6 : Value) : F13 (((((((W.setCell ⟨m, 0, none⟩ u0).setCell ⟨m, 1, none⟩ u1).setCell ⟨m, 2, none⟩ u2).setCell ⟨m, 3, none⟩ u3).setCell ⟨m, 4, none⟩ u4).setCell ⟨m, 5, none⟩ u5).setCell ⟨m, 6, none⟩ u6) g v0 v1 v2 v3 v4 v5 v6 v7 v8 v9 v10 v11 v12 :=
  (((((((h.other u0 hm).other u1 hm).other u2 hm).other u3 hm).other u4 hm).other u5 hm).other u6 hm)
set_option maxHeartbeats 4000000 in
theorem fsent_yes (tb fb : ByteArray) (tn fn : Int) (tm fm : Bool) (a : Option Addr) (cap : Nat) (D : List Ent) (k nr ns : Int) (pf : Bool) (pid : Int) (info : ByteArray) (wide : Bool) (w : World) (hC : CodesOk w) (hN : NamesOk w) (hD : D.length ≤ 30) (hi : info.size ≤ 2000) (hE : EntsAt w a cap D) (hw : wrongF ((tb, tn, tm) :: (fb, fn, fm) :: D) k nr ns wide pid info.size = 0) (hq : fstD D < D.length) :
    Calls Tryd.prog 5 #[.agg #[.string tb, .int .i64 tn, .string fb, .int .i64 fn, .bool tm, .bool fm, .slice a D.length cap, .int .i64 k, .int .i64 nr, .int .i64 ns, .bool pf, .int .i64 pid, .string info], .bool wide] w fun e w' => e = .returned (.bool true) ∧ Below w.heap.size w w' := by
  have HB0 := Lib.hid ((Below.refl _ w).alloc (Nat.le_refl _) (.cells #[.string tb, .int .i64 tn, .string fb, .int .i64 fn, .bool tm, .bool fm, .slice a D.length cap, .int .i64 k, .int .i64 nr, .int .i64 ns, .bool pf, .int .i64 pid, .string info] 30))
  have HF0 := Lib.hid (F13.new w w.heap.size rfl (.string tb) (.int .i64 tn) (.string fb) (.int .i64 fn) (.bool tm) (.bool fm) (.slice a D.length cap) (.int .i64 k) (.int .i64 nr) (.int .i64 ns) (.bool pf) (.int .i64 pid) (.string info) 30)
  have HAW := Lib.hid (fun W (h : Below w.heap.size w W) => fawake_any W (hC.below h) (hN.below h))
  have hg := fun W => fgreat_any tb fb tn fn tm fm a D.length cap k nr ns pf pid info W
  rw [show (decide (30 < D.length) || decide (2000 < info.size)) = false from by simp; omega] at hg
  have HG := Lib.hid hg
  have hri := fun W (h : Below w.heap.size w W) => fright_any tb fb tn fn tm fm a cap D k nr ns pf pid info wide W (by omega) (hE.below h)
  rw [decide_eq_true hw] at hri
  have HRI := Lib.hid hri
  have hsz := right_sizes (right_frame hw).1
  have hS : ∀ e ∈ D, e.1.size ≤ 140737488351232 := fun e he => hsz e (List.mem_cons_of_mem _ (List.mem_cons_of_mem _ he))
  have hnx := fun W (h : Below w.heap.size w W) => next_any tb fb tn fn tm fm a cap D W (by omega) (hE.below h) hS
  unfold nextV at hnx
  rw [List.getElem?_eq_getElem hq] at hnx
  dsimp only at hnx
  generalize D[fstD D] = x at hnx
  obtain ⟨xb, xn, xm⟩ := x
  dsimp only at hnx
  have hdn := fun W (h : Below w.heap.size w W) => done_any tb fb tn fn tm fm a cap D k nr ns pf pid info W (by omega) (hE.below h) hS
  rw [decide_eq_false (fun q => q hq)] at hdn
  have hse := fun W (h : Below w.heap.size w W) => sent_own tb fb tn fn tm fm a cap D W (by omega) (hE.below h) (hsz _ List.mem_cons_self) (hsz _ (List.mem_cons_of_mem _ List.mem_cons_self)) hS
  rw [decide_eq_true hq] at hse
  have hen := fun W (h : Below w.heap.size w W) => enc_yes tb fb tn fn tm fm a cap D k nr ns pf pid info wide W (hC.below h) (by omega) (hE.below h) hw
  obtain ⟨h1, h2, h3, h4⟩ := right_frame hw
  have hw' : wrongF ((tb, tn, tm) :: (fb, fn, fm) :: sentD D) k nr ns wide pid info.size = 0 := by
    rw [wrong_info (sent_right _ _ D hq h1) (by rw [h2, h3]; rfl)]
    exact h4
  have heg := fun da dc W (h : Below w.heap.size w W) (hE' : EntsAt W da dc (sentD D)) => enc_yes tb fb tn fn tm fm da dc (sentD D) k nr ns pf pid info wide W (hC.below h) (by rw [sent_len]; omega) hE' hw'
  rw [sent_len] at heg
  obtain ⟨pre, c, c', post, b1, b2, b3, b4, b5⟩ := sent_bytes _ _ D hq h1
  have hpl := fun W (h : Below w.heap.size w W) => plainP_any tb fb tn fn tm fm a cap D W (by omega) (hE.below h)
  obtain ⟨L, hL⟩ : ∃ L, L = ((tb, tn, tm) :: (fb, fn, fm) :: D) := ⟨_, rfl⟩
  have hll : L.length ≤ 40 ∧ 2 ≤ L.length := by rw [hL]; simp; omega
  have hne : nxtD L = ((2 + fstD D : Nat) : Int) := by
    rw [hL]
    unfold nxtD
    rw [show List.drop 2 ((tb, tn, tm) :: (fb, fn, fm) :: D) = D from rfl, if_pos hq]
  rw [← hL] at hen b1 hpl
  have hrn := fun va vc W (h : EntsAt W va vc L) => rnext_any va vc L W (by omega) hll.2 h
  rw [hne] at hrn
  obtain ⟨S, hSS⟩ : ∃ S : ByteArray, S = ⟨(bytesF L k nr ns pf wide pid info.data.toList).toArray⟩ := ⟨_, rfl⟩
  obtain ⟨T, hTT⟩ : ∃ T : ByteArray, T = ⟨(bytesF ((tb, tn, tm) :: (fb, fn, fm) :: sentD D) k nr ns pf wide pid info.data.toList).toArray⟩ := ⟨_, rfl⟩
  rw [← hSS] at hen
  rw [← hTT] at heg
  obtain ⟨t1, t2, t3, t4, t5⟩ := two_texts S T pre (post ++ (putB k.toNat nr.toNat ns.toNat pf wide ++ (pidB k pid ++ info.data.toList))) c c' (by rw [hSS]; show bytesF _ _ _ _ _ _ _ _ = _; unfold bytesF; rw [b1]; simp) (by rw [hTT]; show bytesF _ _ _ _ _ _ _ _ = _; unfold bytesF; rw [b2]; simp)
  obtain ⟨M, hM⟩ : ∃ M, M = pre.length := ⟨_, rfl⟩
  rw [← hM] at t2 t3 b3
  have t6 : ∀ h : M < S.size, (S[M]'h).toNat < 128 := fun h => by
    subst hM
    rw [t4 h]
    exact b4
  have t7 : ∀ (h : M < S.size) (hk : M < T.size), (T[M]' hk).toNat = (S[M]' h).toNat + 128 := fun h hk => by
    subst hM
    rw [t4 h, t5 hk]
    exact b5
  obtain ⟨I, hI⟩ : ∃ I : Nat, I = 2 + fstD D := ⟨_, rfl⟩
  rw [← hI] at b3 hrn
  have hSz : S.size ≤ 100000 := by
    have hbl := bytesP_len' L L.length (Nat.le_refl _)
    have hpl9 := putB_le k.toNat nr.toNat ns.toNat pf wide
    have hpb : (pidB k pid).length ≤ 1 := by unfold pidB; split <;> simp
    have : S.data.toList.length = S.size := by simp
    rw [← this, hSS]
    show (bytesF _ _ _ _ _ _ _ _).length ≤ _
    unfold bytesF
    rw [List.length_append, List.length_append, List.length_append, hbl]
    have : info.data.toList.length = info.size := by simp
    omega
  have hIb : (I : Int) ≤ 100000 := by omega
  have hwd7 : wrap64 (I : Int) = (I : Int) := IntWalk.wrap64_in _ ⟨by omega, by omega⟩
  have hwd7e : IntKind.i64.wrap (I : Int) = (I : Int) := (IntWalk.i64_left _).trans hwd7
  have hst : ((S.size : Int) != (T.size : Int)) = false := by rw [t1]; simp
  have hst2 : (S.size != T.size) = false := by rw [t1]; simp
  have HNX := Lib.hid hnx
  have HDN := Lib.hid hdn
  have HSE := Lib.hid hse
  have HEN := Lib.hid hen
  have HEG := Lib.hid heg
  have HPL := Lib.hid hpl
  have HRN := Lib.hid hrn
  have HT1 := Lib.hid t1
  have HT2 := Lib.hid t2
  have HT3 := Lib.hid t3
  have HT6 := Lib.hid t6
  have HT7 := Lib.hid t7
  have HM7 := Lib.hid b3
  clear hg hri hnx hdn hse hen heg hpl hrn hC hN hE hw hw' hsz hS hq hne hL hSS hTT hM hI b1 b2 b3 b4 b5 t1 t2 t3 t4 t5 t6 t7 h1 h2 h3 h4
  go_enter Tryd.func5, Tryd.ntmps5
  go_wp2_with (first
    | (go_at_call 6; (with_reducible refine (HAW.out _ HB0.out).mono ?_); rintro e w1 ⟨rfl, hb⟩; have HB := Lib.hid (HB0.out.trans (hb.mono HB0.out.size)); have HF := Lib.hid (HF0.out.below hb); clear hb; obtain ⟨⟨p0, -, pl⟩, ⟨p1, -, -⟩, ⟨p2, -, -⟩, ⟨p3, -, -⟩, ⟨p4, -, -⟩, ⟨p5, -, -⟩, ⟨p6, -, -⟩, ⟨p7, -, -⟩, ⟨p8, -, -⟩, ⟨p9, -, -⟩, ⟨p10, -, -⟩, ⟨p11, -, -⟩, ⟨p12, -, -⟩⟩ := HF.out)
    | (go_at_call 7; (with_reducible refine (HG.out _).mono ?_); rintro e w2 ⟨rfl, hb⟩; replace HB := Lib.hid (HB.out.trans (hb.mono HB.out.size)); replace HF := Lib.hid (HF.out.below hb); clear hb; clear p0 pl p1 p2 p3 p4 p5 p6 p7 p8 p9 p10 p11 p12; obtain ⟨⟨p0, -, pl⟩, ⟨p1, -, -⟩, ⟨p2, -, -⟩, ⟨p3, -, -⟩, ⟨p4, -, -⟩, ⟨p5, -, -⟩, ⟨p6, -, -⟩, ⟨p7, -, -⟩, ⟨p8, -, -⟩, ⟨p9, -, -⟩, ⟨p10, -, -⟩, ⟨p11, -, -⟩, ⟨p12, -, -⟩⟩ := HF.out)
    | (go_at_call 11; (with_reducible refine (HRI.out _ HB.out).mono ?_); rintro e w3 ⟨rfl, hb⟩; replace HB := Lib.hid (HB.out.trans (hb.mono HB.out.size)); replace HF := Lib.hid (HF.out.below hb); clear hb; clear p0 pl p1 p2 p3 p4 p5 p6 p7 p8 p9 p10 p11 p12; obtain ⟨⟨p0, -, pl⟩, ⟨p1, -, -⟩, ⟨p2, -, -⟩, ⟨p3, -, -⟩, ⟨p4, -, -⟩, ⟨p5, -, -⟩, ⟨p6, -, -⟩, ⟨p7, -, -⟩, ⟨p8, -, -⟩, ⟨p9, -, -⟩, ⟨p10, -, -⟩, ⟨p11, -, -⟩, ⟨p12, -, -⟩⟩ := HF.out)
    | (go_at_call 17; (with_reducible refine (HNX.out _ HB.out).mono ?_); rintro e w4 ⟨rfl, hb⟩; have hb2 := HB.out.trans (hb.mono HB.out.size); replace HB := Lib.hid (hb2.alloc hb2.size (.cells #[.string xb, .int .i64 xn] 23)); replace HF := Lib.hid ((HF.out.below hb).alloc (.cells #[.string xb, .int .i64 xn] 23)); clear hb hb2; clear p0 pl p1 p2 p3 p4 p5 p6 p7 p8 p9 p10 p11 p12; obtain ⟨⟨p0, -, pl⟩, ⟨p1, -, -⟩, ⟨p2, -, -⟩, ⟨p3, -, -⟩, ⟨p4, -, -⟩, ⟨p5, -, -⟩, ⟨p6, -, -⟩, ⟨p7, -, -⟩, ⟨p8, -, -⟩, ⟨p9, -, -⟩, ⟨p10, -, -⟩, ⟨p11, -, -⟩, ⟨p12, -, -⟩⟩ := HF.out)
    | (go_at_call 18; (with_reducible refine (HDN.out _ HB.out).mono ?_); rintro e w5 ⟨rfl, hb⟩; have hb2 := HB.out.trans (hb.mono HB.out.size); have hlt := Nat.lt_of_lt_of_le HF.out.k0.lt hb.size; replace HB := Lib.hid (hb2.alloc hb2.size (.cells #[.string tb, .int .i64 tn, .string fb, .int .i64 fn, .bool tm, .bool fm, .slice a D.length cap, .int .i64 k, .int .i64 nr, .int .i64 ns, .bool pf, .int .i64 pid, .string info] 30)); clear p0 pl p1 p2 p3 p4 p5 p6 p7 p8 p9 p10 p11 p12; obtain ⟨⟨p0, -, pl⟩, ⟨p1, -, -⟩, ⟨p2, -, -⟩, ⟨p3, -, -⟩, ⟨p4, -, -⟩, ⟨p5, -, -⟩, ⟨p6, -, -⟩, ⟨p7, -, -⟩, ⟨p8, -, -⟩, ⟨p9, -, -⟩, ⟨p10, -, -⟩, ⟨p11, -, -⟩, ⟨p12, -, -⟩⟩ := HF.out.below hb; replace HF := Lib.hid ((HF.out.below hb).alloc (.cells #[.string tb, .int .i64 tn, .string fb, .int .i64 fn, .bool tm, .bool fm, .slice a D.length cap, .int .i64 k, .int .i64 nr, .int .i64 ns, .bool pf, .int .i64 pid, .string info] 30)); have HGB := Lib.hid (F13.new w5 w5.heap.size rfl (.string tb) (.int .i64 tn) (.string fb) (.int .i64 fn) (.bool tm) (.bool fm) (.slice a D.length cap) (.int .i64 k) (.int .i64 nr) (.int .i64 ns) (.bool pf) (.int .i64 pid) (.string info) 30); clear hb hb2))
  go_at_call 19
  with_reducible refine (HSE.out _ HB.out).mono ?_
  rintro e w7 ⟨⟨da, dc, rfl, hO⟩, hb⟩
  have hb2 := HB.out.trans (hb.mono HB.out.size)
  have hne5 : ¬ w5.heap.size = w.heap.size := (by omega)
  have HB8 := Lib.hid (set7_below (m := w5.heap.size) hb2 (by omega) (.string tb) (.int .i64 tn) (.string fb) (.int .i64 fn) (.bool tm) (.bool fm) (.slice da D.length dc))
  have HF8 := Lib.hid ((HF.out.below hb).other7 hne5 (.string tb) (.int .i64 tn) (.string fb) (.int .i64 fn) (.bool tm) (.bool fm) (.slice da D.length dc))
  have HG8 := Lib.hid ((HGB.out.below hb).path (.string tb) (.int .i64 tn) (.string fb) (.int .i64 fn) (.bool tm) (.bool fm) (.slice da D.length dc))
  have HO8 := Lib.hid (ents_of_own (own7 (m := w5.heap.size) hO (by simp) (.string tb) (.int .i64 tn) (.string fb) (.int .i64 fn) (.bool tm) (.bool fm) (.slice da D.length dc)))
  have hG7 := HGB.out.below hb
  clear p0 pl p1 p2 p3 p4 p5 p6 p7 p8 p9 p10 p11 p12
  obtain ⟨⟨p0, -, pl⟩, ⟨p1, -, -⟩, ⟨p2, -, -⟩, ⟨p3, -, -⟩, ⟨p4, -, -⟩, ⟨p5, -, -⟩, ⟨p6, -, -⟩, ⟨p7, -, -⟩, ⟨p8, -, -⟩, ⟨p9, -, -⟩, ⟨p10, -, -⟩, ⟨p11, -, -⟩, ⟨p12, -, -⟩⟩ := HF.out.below hb
  obtain ⟨⟨g0, z0, gl⟩, ⟨g1, z1, -⟩, ⟨g2, z2, -⟩, ⟨g3, z3, -⟩, ⟨g4, z4, -⟩, ⟨g5, z5, -⟩, ⟨g6, z6, -⟩, ⟨g7, z7, -⟩, ⟨g8, z8, -⟩, ⟨g9, z9, -⟩, ⟨g10, z10, -⟩, ⟨g11, z11, -⟩, ⟨g12, z12, -⟩⟩ := hG7
  clear hb hb2 hO HB HF HGB
  go_wp2_with fail
  clear p0 pl p1 p2 p3 p4 p5 p6 p7 p8 p9 p10 p11 p12
  clear g0 z0 gl g1 z1 g2 z2 g3 z3 g4 z4 g5 z5 g6 z6 g7 z7 g8 z8 g9 z9 g10 z10 g11 z11 g12 z12
  generalize (((((((w7.setCell ⟨w5.heap.size, 0, none⟩ (.string tb)).setCell ⟨w5.heap.size, 1, none⟩ (.int .i64 tn)).setCell ⟨w5.heap.size, 2, none⟩ (.string fb)).setCell ⟨w5.heap.size, 3, none⟩ (.int .i64 fn)).setCell ⟨w5.heap.size, 4, none⟩ (.bool tm)).setCell ⟨w5.heap.size, 5, none⟩ (.bool fm)).setCell ⟨w5.heap.size, 6, none⟩ (.slice da D.length dc)) = W8 at *
  go_at_call 10
  with_reducible refine (HEN.out _ HB8.out).mono ?_
  rintro e w8 ⟨rfl, hb⟩
  have HB := Lib.hid (HB8.out.trans (hb.mono HB8.out.size))
  have HF := Lib.hid (HF8.out.below hb)
  have HGC := Lib.hid (HG8.out.below hb)
  have HO := Lib.hid (HO8.out.below hb)
  clear hb HB8 HF8 HG8 HO8
  obtain ⟨⟨p0, -, pl⟩, ⟨p1, -, -⟩, ⟨p2, -, -⟩, ⟨p3, -, -⟩, ⟨p4, -, -⟩, ⟨p5, -, -⟩, ⟨p6, -, -⟩, ⟨p7, -, -⟩, ⟨p8, -, -⟩, ⟨p9, -, -⟩, ⟨p10, -, -⟩, ⟨p11, -, -⟩, ⟨p12, -, -⟩⟩ := HGC.out
  go_wp2_with fail
  go_at_call 10
  with_reducible refine (HEG.out da dc _ HB.out HO.out).mono ?_
  rintro e w9 ⟨rfl, hb⟩
  replace HB := Lib.hid (HB.out.trans (hb.mono HB.out.size))
  replace HF := Lib.hid (HF.out.below hb)
  clear hb HGC HO
  clear p0 pl p1 p2 p3 p4 p5 p6 p7 p8 p9 p10 p11 p12
  go_wp2_with fail
  go_loopw [12] (fun u wx => ∃ p : Nat, u = .int .i64 (if M < p then 1 else 0) ∧ Hid (SlAt w wx w9.heap.size S p (.string tb) (.int .i64 tn) (.string fb) (.int .i64 fn) (.bool tm) (.bool fm) (.slice a D.length cap) (.int .i64 k) (.int .i64 nr) (.int .i64 ns) (.bool pf) (.int .i64 pid) (.string info))) (fun _ wx => S.size - wx.iterPos w9.heap.size)
  case atStart =>
    refine ⟨0, by rw [if_neg (by omega)], Lib.hid ⟨World.iter_heap w9 S 0, HF.out.alloc (.stringIter S 0), HB.out.alloc HB.out.size (.stringIter S 0), HF.out.k0.lt⟩⟩
  case round =>
    obtain ⟨p, hu, HS⟩ := hrel
    by_cases hlt : p < S.size
    · have hpT : p < T.size := by rw [← HT1.out]; exact hlt
      have hnx : ∀ ty, (Instr.next (.pointer (some ⟨w9.heap.size, 0, none⟩)) true ty).run Tryd.prog wr = .ok (.tuple #[.bool true, .int .i64 (p : Int), .int .i32 ((Utf8.decode S p).1 : Nat)]) (wr.iterAt w9.heap.size S (p + (Utf8.decode S p).2)) := fun ty => run_next_any_at wr _ S p ty HS.out.it hlt
      have hwd := width_one S p hlt
      have hjump := fun j h1 h2 => decode_jump S p j h1 h2
      have hasc := fun h => congrArg Prod.snd (decode_ascii S p hlt h)
      have HSN := Lib.hid (HS.out.step (p + (Utf8.decode S p).2))
      have HPA := Lib.hid (iterPos_at HS.out.it)
      have HPB := Lib.hid (iterPos_at HSN.out.it)
      generalize (Utf8.decode S p).2 = wd at *
      generalize (Utf8.decode S p).1 = rune at *
      generalize wr.iterAt w9.heap.size S (p + wd) = wi at *
      clear HS
      have HSD := Lib.hid (HSN.out.below ((Below.refl _ wi).drew))
      clear HSN
      by_cases hpM : p = M
      · subst hpM
        rw [if_neg (by omega)] at hu
        subst hu
        have hxy := HT7.out hlt hpT
        have hx1 := HT6.out hlt
        have hwd1 : wd = 1 := hasc hx1
        obtain ⟨C, hC⟩ : ∃ C, C = (S[p]'hlt).toNat := ⟨_, rfl⟩
        rw [← hC] at hxy hx1
        have hxo := xor_mark ⟨C, hx1⟩
        dsimp only at hxo
        obtain ⟨X, hX⟩ : ∃ X : Int, X = (C : Int) := ⟨_, rfl⟩
        obtain ⟨Y, hY⟩ : ∃ Y : Int, Y = ((C + 128 : Nat) : Int) := ⟨_, rfl⟩
        rw [← hX, ← hY] at hxo
        have hxs : (((S[p]'hlt).toNat : Nat) : Int) = X := by rw [hX, hC]
        have hxt : (((T[p]'hpT).toNat : Nat) : Int) = Y := by rw [hxy, hY]
        have hxx : (X != Y) = true := by rw [bne_iff_ne]; omega
        have hm7 : (p : Int).tmod 7 = 6 := by rw [Int.tmod_eq_emod_of_nonneg (by omega)]; have := HM7.out; omega
        have hm7e : (p : Int) % 7 = 6 := by have := HM7.out; omega
        have hm7w : IntKind.i64.wrap ((p : Int).tmod 7) = 6 := by rw [hm7]; rfl
        have hd7 : (p : Int).tdiv 7 = (I : Int) := by rw [Int.tdiv_eq_ediv_of_nonneg (by omega)]; have := HM7.out; omega
        have hd7e : (p : Int) / 7 = (I : Int) := by have := HM7.out; omega
        clear hasc hjump hX hY hC hxy
        go_wp2_with fail
        refine wp_region_any (by kernel_rfl) ?_
        try (change wpAny _ _ _ _ _ _ _ (World.drew _))
        refine wpAny_take (i := 0) (v := ?_) rfl (by kernel_rfl) (by kernel_rfl) (by kernel_rfl) (fun _ _ _ h => h) (Or.inl ⟨by rfl, ?_⟩) ?_
        rotate_left
        · intro w; go_simp; with_reducible rfl
        refine wpAny_take (i := 1) (v := ?_) rfl (by kernel_rfl) (by kernel_rfl) (by kernel_rfl) (fun _ _ _ h => h) (Or.inl ⟨by rfl, ?_⟩) ?_
        rotate_left
        · intro w; go_simp; with_reducible rfl
        refine wpAny_take (i := 2) (v := ?_) rfl (by kernel_rfl) (by kernel_rfl) (by kernel_rfl) (fun _ _ _ h => h) (Or.inl ⟨by rfl, ?_⟩) ?_
        rotate_left
        · intro w; go_simp; with_reducible rfl
        refine wpAny_take (i := 3) (v := ?_) rfl (by kernel_rfl) (by kernel_rfl) (by kernel_rfl) (fun _ _ _ h => h) (Or.inl ⟨by rfl, ?_⟩) ?_
        rotate_left
        · intro w; go_simp; with_reducible rfl
        refine wpAny_take (i := 4) (v := ?_) rfl (by kernel_rfl) (by kernel_rfl) (by kernel_rfl) (fun _ _ _ h => h) (Or.inl ⟨by rfl, ?_⟩) ?_
        rotate_left
        · intro w; go_simp; with_reducible rfl
        refine wpAny_take (i := 5) (v := ?_) rfl (by kernel_rfl) (by kernel_rfl) (by kernel_rfl) (fun _ _ _ h => h) (Or.inl ⟨by rfl, ?_⟩) ?_
        rotate_left
        · intro w; go_simp; with_reducible rfl
        refine wpAny_take (i := 6) (v := ?_) rfl (by kernel_rfl) (by kernel_rfl) (by kernel_rfl) (fun _ _ _ h => h) (Or.inl ⟨by rfl, ?_⟩) ?_
        rotate_left
        · intro w; go_simp; with_reducible rfl
        go_simp
        refine wpAny_done (by kernel_rfl) ?_ _
        generalize wi.drew = W1 at *
        have HSE2 := HSD
        obtain ⟨⟨p0, -, pl⟩, ⟨p1, -, -⟩, ⟨p2, -, -⟩, ⟨p3, -, -⟩, ⟨p4, -, -⟩, ⟨p5, -, -⟩, ⟨p6, -, -⟩, ⟨p7, -, -⟩, ⟨p8, -, -⟩, ⟨p9, -, -⟩, ⟨p10, -, -⟩, ⟨p11, -, -⟩, ⟨p12, -, -⟩⟩ := HSD.out.box
        have HB1 := Lib.hid ((Below.refl W1.heap.size W1).drew)
        go_wp2_with fail
        clear HB
        refine wp_region_held (S := fun W' => Below W1.heap.size W1 W') (by kernel_rfl) ?_
        change wpAnyH _ _ _ _ _ _ _ _ W1.drew
        have HB := Lib.hid ((Below.refl W1.heap.size W1).drew)
        refine wpAnyH_take (i := 0) (v := ?_) rfl (by kernel_rfl) (by kernel_rfl) (by kernel_rfl) (fun _ _ _ h => h) (Or.inl ⟨by rfl, ?_⟩) HB.out ?_
        rotate_left
        · intro w' hw'
          go_simp
          with_reducible rfl
        go_simp
        refine wpAnyH_take (i := 1) (v := ?_) rfl (by kernel_rfl) (by kernel_rfl) (by kernel_rfl) (fun _ _ _ h => h) (Or.inl ⟨by rfl, ?_⟩) HB.out ?_
        rotate_left
        · intro w' hw'
          go_simp
          with_reducible rfl
        go_simp
        refine wpAnyH_take (i := 2) (v := ?_) rfl (by kernel_rfl) (by kernel_rfl) (by kernel_rfl) (fun _ _ _ h => h) (Or.inl ⟨by rfl, ?_⟩) HB.out ?_
        rotate_left
        · intro w' hw'
          go_simp
          with_reducible rfl
        go_simp
        refine wpAnyH_take (i := 3) (v := ?_) rfl (by kernel_rfl) (by kernel_rfl) (by kernel_rfl) (fun _ _ _ h => h) (Or.inl ⟨by rfl, ?_⟩) HB.out ?_
        rotate_left
        · intro w' hw'
          go_simp
          with_reducible rfl
        go_simp
        refine wpAnyH_take (i := 4) (v := ?_) rfl (by kernel_rfl) (by kernel_rfl) (by kernel_rfl) (fun _ _ _ h => h) (Or.inl ⟨by rfl, ?_⟩) HB.out ?_
        rotate_left
        · intro w' hw'
          go_simp
          with_reducible rfl
        go_simp
        refine wpAnyH_take (i := 5) (v := ?_) rfl (by kernel_rfl) (by kernel_rfl) (by kernel_rfl) (fun _ _ _ h => h) (Or.inl ⟨by rfl, ?_⟩) HB.out ?_
        rotate_left
        · intro w' hw'
          go_simp
          with_reducible rfl
        go_simp
        refine wpAnyH_take (i := 6) (v := ?_) rfl (by kernel_rfl) (by kernel_rfl) (by kernel_rfl) (fun _ _ _ h => h) (Or.inl ⟨by rfl, ?_⟩) HB.out ?_
        rotate_left
        · intro w' hw'
          go_simp
          with_reducible rfl
        go_simp
        refine wpAnyH_take (i := 7) (v := ?_) rfl (by kernel_rfl) (by kernel_rfl) (by kernel_rfl) (fun _ _ _ h => h) (Or.inl ⟨by rfl, ?_⟩) HB.out ?_
        rotate_left
        · intro w' hw'
          go_simp
          with_reducible rfl
        go_simp
        refine wpAnyH_take (i := 8) (v := ?_) rfl (by kernel_rfl) (by kernel_rfl) (by kernel_rfl) (fun _ _ _ h => h) (Or.inl ⟨by rfl, ?_⟩) HB.out ?_
        rotate_left
        · intro w' hw'
          go_simp
          with_reducible rfl
        go_simp
        refine wpAnyH_take (i := 9) (v := ?_) rfl (by kernel_rfl) (by kernel_rfl) (by kernel_rfl) (fun _ _ _ h => h) (Or.inl ⟨by rfl, ?_⟩) HB.out ?_
        rotate_left
        · intro w' hw'
          go_simp
          with_reducible rfl
        go_simp
        refine wpAnyH_take (i := 10) (v := ?_) rfl (by kernel_rfl) (by kernel_rfl) (by kernel_rfl) (fun _ _ _ h => h) (Or.inl ⟨by rfl, ?_⟩) HB.out ?_
        rotate_left
        · intro w' hw'
          go_simp
          with_reducible rfl
        go_simp
        refine wpAnyH_take (i := 11) (v := ?_) rfl (by kernel_rfl) (by kernel_rfl) (by kernel_rfl) (fun _ _ _ h => h) (Or.inl ⟨by rfl, ?_⟩) HB.out ?_
        rotate_left
        · intro w' hw'
          go_simp
          with_reducible rfl
        go_simp
        refine wpAnyH_take (i := 12) (v := ?_) rfl (by kernel_rfl) (by kernel_rfl) (by kernel_rfl) (fun _ _ _ h => h) (Or.inl ⟨by rfl, ?_⟩) HB.out ?_
        rotate_left
        · intro w' hw'
          go_simp
          with_reducible rfl
        go_simp
        refine wpAnyH_take (i := 13) (v := ?_) rfl (by kernel_rfl) (by kernel_rfl) (by kernel_rfl) (fun _ _ _ h => h) (Or.inl ⟨by rfl, ?_⟩) HB.out ?_
        rotate_left
        · intro w' hw'
          go_simp
          with_reducible rfl
        go_simp
        refine wpAnyH_take (i := 14) (v := ?_) rfl (by kernel_rfl) (by kernel_rfl) (by kernel_rfl) (fun _ _ _ h => h) (Or.inl ⟨by rfl, ?_⟩) HB.out ?_
        rotate_left
        · intro w' hw'
          go_simp
          with_reducible rfl
        go_simp
        refine wpAnyH_take (i := 15) (v := ?_) rfl (by kernel_rfl) (by kernel_rfl) (by kernel_rfl) (fun _ _ _ h => h) (Or.inl ⟨by rfl, ?_⟩) HB.out ?_
        rotate_left
        · intro w' hw'
          go_simp
          with_reducible rfl
        go_simp
        refine wpAnyH_take (i := 16) (v := ?_) rfl (by kernel_rfl) (by kernel_rfl) (by kernel_rfl) (fun _ _ _ h => h) (Or.inl ⟨by rfl, ?_⟩) HB.out ?_
        rotate_left
        · intro w' hw'
          go_simp
          with_reducible rfl
        go_simp
        refine wpAnyH_take (i := 17) (v := ?_) rfl (by kernel_rfl) (by kernel_rfl) (by kernel_rfl) (fun _ _ _ h => h) (Or.inl ⟨by rfl, ?_⟩) HB.out ?_
        rotate_left
        · intro w' hw'
          obtain ⟨⟨p0, -, pl⟩, ⟨p1, -, -⟩, ⟨p2, -, -⟩, ⟨p3, -, -⟩, ⟨p4, -, -⟩, ⟨p5, -, -⟩, ⟨p6, -, -⟩, ⟨p7, -, -⟩, ⟨p8, -, -⟩, ⟨p9, -, -⟩, ⟨p10, -, -⟩, ⟨p11, -, -⟩, ⟨p12, -, -⟩⟩ := HSE2.out.box.below hw'
          go_simp
          with_reducible rfl
        go_simp
        refine wpAnyH_ready (rs := [18]) (by kernel_rfl) (by simp) ?_
        refine AllReadyH.cons rfl (fun K hK => ?_) AllReadyH.nil
        go_simp
        go_at_call 21
        refine (HPL.out _ (HSE2.out.bel.trans (HB1.out.mono HSE2.out.bel.size))).mono ?_
        rintro e w10 ⟨v, rfl, hv, hb⟩
        obtain ⟨va, vc, rfl, hV⟩ := hv.ents
        replace HB := Lib.hid (show Below W1.heap.size W1 w10 from HB1.out.trans (hb.mono (Nat.le_refl _)))
        have HV := Lib.hid hV
        clear hb hv hV
        change K _ _
        refine hK.out _ _ HB.out (fun _ => ?_)
        clear hK K
        refine wpAnyH_ready (rs := [19]) (by kernel_rfl) (by simp) ?_
        refine AllReadyH.cons rfl (fun K hK => ?_) AllReadyH.nil
        go_simp
        go_at_call 20
        refine (HRN.out va vc _ HV.out).mono ?_
        rintro e w11 ⟨rfl, hb⟩
        replace HB := Lib.hid (show Below W1.heap.size W1 w11 from HB.out.trans (hb.mono HB.out.size))
        clear hb
        change K _ _
        refine hK.out _ _ HB.out (fun _ => ?_)
        clear hK K
        refine wpAnyH_take (i := 20) (v := ?_) rfl (by kernel_rfl) (by kernel_rfl) (by kernel_rfl) (fun _ _ _ h => h) (Or.inl ⟨by rfl, ?_⟩) HB.out ?_
        rotate_left
        · intro w' hw'
          go_simp
          with_reducible rfl
        go_simp
        refine wpAnyH_take (i := 21) (v := ?_) rfl (by kernel_rfl) (by kernel_rfl) (by kernel_rfl) (fun _ _ _ h => h) (Or.inl ⟨by rfl, ?_⟩) HB.out ?_
        rotate_left
        · intro w' hw'
          go_simp
          with_reducible rfl
        go_simp
        refine wpAnyH_done (by kernel_rfl) ?_ _
        have HSF := Lib.hid (HSE2.out.below HB.out)
        have HPC := Lib.hid (iterPos_at HSF.out.it)
        go_wp2_with fail
        go_roundw
        case rel => exact ⟨p + wd, by rw [if_pos (by omega)], HSF⟩
        case measure => rw [HPC.out, HPA.out]; omega
      · have hxy : S[p]'hlt = T[p]'hpT := HT3.out p hlt hpT hpM
        obtain ⟨X, hX⟩ : ∃ X : Int, X = (((S[p]'hlt).toNat : Nat) : Int) := ⟨_, rfl⟩
        have hxs : (((S[p]'hlt).toNat : Nat) : Int) = X := hX.symm
        have hxt : (((T[p]'hpT).toNat : Nat) : Int) = X := by rw [← hxy]; exact hX.symm
        have hxx : (X != X) = false := by simp
        have HUP := Lib.hid (show (if M < p then (1 : Int) else 0) = if M < p + wd then 1 else 0 from by
          by_cases h1 : M < p
          · rw [if_pos h1, if_pos (by omega)]
          · by_cases h2 : M < p + wd
            · exfalso
              have h3 := hjump (M - p) (by omega) (by omega)
              rw [show p + (M - p) = M from by omega, get_bang S M HT2.out] at h3
              have := HT6.out HT2.out
              omega
            · rw [if_neg h1, if_neg h2])
        clear hxy hX hjump hasc
        go_wp2_with fail
        refine wp_region_any (by kernel_rfl) ?_
        try (change wpAny _ _ _ _ _ _ _ (World.drew _))
        refine wpAny_take (i := 0) (v := ?_) rfl (by kernel_rfl) (by kernel_rfl) (by kernel_rfl) (fun _ _ _ h => h) (Or.inl ⟨by rfl, ?_⟩) ?_
        rotate_left
        · intro w; go_simp; with_reducible rfl
        refine wpAny_take (i := 1) (v := ?_) rfl (by kernel_rfl) (by kernel_rfl) (by kernel_rfl) (fun _ _ _ h => h) (Or.inl ⟨by rfl, ?_⟩) ?_
        rotate_left
        · intro w; go_simp; with_reducible rfl
        refine wpAny_take (i := 2) (v := ?_) rfl (by kernel_rfl) (by kernel_rfl) (by kernel_rfl) (fun _ _ _ h => h) (Or.inl ⟨by rfl, ?_⟩) ?_
        rotate_left
        · intro w; go_simp; with_reducible rfl
        refine wpAny_take (i := 3) (v := ?_) rfl (by kernel_rfl) (by kernel_rfl) (by kernel_rfl) (fun _ _ _ h => h) (Or.inl ⟨by rfl, ?_⟩) ?_
        rotate_left
        · intro w; go_simp; with_reducible rfl
        refine wpAny_take (i := 4) (v := ?_) rfl (by kernel_rfl) (by kernel_rfl) (by kernel_rfl) (fun _ _ _ h => h) (Or.inl ⟨by rfl, ?_⟩) ?_
        rotate_left
        · intro w; go_simp; with_reducible rfl
        refine wpAny_take (i := 5) (v := ?_) rfl (by kernel_rfl) (by kernel_rfl) (by kernel_rfl) (fun _ _ _ h => h) (Or.inl ⟨by rfl, ?_⟩) ?_
        rotate_left
        · intro w; go_simp; with_reducible rfl
        refine wpAny_take (i := 6) (v := ?_) rfl (by kernel_rfl) (by kernel_rfl) (by kernel_rfl) (fun _ _ _ h => h) (Or.inl ⟨by rfl, ?_⟩) ?_
        rotate_left
        · intro w; go_simp; with_reducible rfl
        go_simp
        refine wpAny_done (by kernel_rfl) ?_ _
        have HPC := Lib.hid (iterPos_at HSD.out.it)
        generalize wi.drew = W1 at *
        go_wp2_with fail
        go_roundw
        case rel => exact ⟨p + wd, by rw [HUP.out], HSD⟩
        case measure => rw [HPC.out, HPA.out]; omega
    · have hM := HT2.out
      have hnx : ∀ ty, (Instr.next (.pointer (some ⟨w9.heap.size, 0, none⟩)) true ty).run Tryd.prog wr = .ok (.tuple #[.bool false]) wr := fun ty => run_next_end_at wr _ S p ty HS.out.it hlt
      rw [if_pos (by omega)] at hu
      subst hu
      go_wp2_with fail
      go_ret
      exact ⟨rfl, HS.out.bel⟩
theorem fsent_any (tb fb : ByteArray) (tn fn : Int) (tm fm : Bool) (a : Option Addr) (cap : Nat) (D : List Ent) (k nr ns : Int) (pf : Bool) (pid : Int) (info : ByteArray) (wide : Bool) (w : World) (hC : CodesOk w) (hN : NamesOk w) (hE : EntsAt w a cap D) :
    Calls Tryd.prog 5 #[.agg #[.string tb, .int .i64 tn, .string fb, .int .i64 fn, .bool tm, .bool fm, .slice a D.length cap, .int .i64 k, .int .i64 nr, .int .i64 ns, .bool pf, .int .i64 pid, .string info], .bool wide] w fun e w' => e = .returned (.bool true) ∧ Below w.heap.size w w' := by
  by_cases h : 30 < D.length ∨ 2000 < info.size
  · exact fsent_great tb fb tn fn tm fm a D.length cap k nr ns pf pid info wide w hC hN h
  · by_cases hw : wrongF ((tb, tn, tm) :: (fb, fn, fm) :: D) k nr ns wide pid info.size = 0
    · by_cases hq : fstD D < D.length
      · exact fsent_yes tb fb tn fn tm fm a cap D k nr ns pf pid info wide w hC hN (by omega) (by omega) hE hw hq
      · exact fsent_done tb fb tn fn tm fm a cap D k nr ns pf pid info wide w hC hN (by omega) (by omega) hE hw hq
    · exact fsent_no tb fb tn fn tm fm a cap D k nr ns pf pid info wide w hC hN (by omega) (by omega) hE hw
end Go.Proofs.YtplandmnmdkjmaaDoor
