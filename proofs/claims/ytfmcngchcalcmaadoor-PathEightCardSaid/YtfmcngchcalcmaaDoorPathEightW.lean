/-
Walk of the statement PathEight.
-/
import Derived.Test.YtfmcngchcalcmaaDoorPathEightM
import Derived.Test.YtfmcngchcalcmaaDoorPathAwake
import Derived.Test.YtfmcngchcalcmaaDoorPathPlain
import Derived.Test.YtfmcngchcalcmaaDoorPathCBack
namespace Go.Proofs.YtfmcngchcalcmaaDoor
open Go.RowKit Go.Sort
set_option maxRecDepth 20000
theorem KeepAt.pair (w : World) (u v : Value) (T : TypeId) : KeepAt (w.alloc (.cells #[u, v] T)) w.heap.size 0 u ∧ KeepAt (w.alloc (.cells #[u, v] T)) w.heap.size 1 v := ⟨⟨World.cell?_alloc_at _ _ _ _ rfl, World.frozen?_alloc_at _ _ _ _ rfl, by simp⟩, ⟨World.cell?_alloc_at _ _ _ _ rfl, World.frozen?_alloc_at _ _ _ _ rfl, by simp⟩⟩
theorem EntsAt.off {W W' : World} {a : Option Addr} {cap m : Nat} {L : List Ent} (h : EntsAt W a cap L) (hg : W.grownBy W' (some m)) (hn : ∀ g o, 0 < L.length → a = some ⟨g, o, none⟩ → g ≠ m) : EntsAt W' a cap L := by
  refine ⟨h.le, h.max, fun k hk => ?_⟩
  obtain ⟨g, o, ha, hl, c0, c1, c2⟩ := h.at_ k hk
  have hb : W'.heap[g]? = W.heap[g]? := hg.block g hl (fun e => hn g o (by omega) ha (Option.some.inj e))
  refine ⟨g, o, ha, Nat.lt_of_lt_of_le hl hg.size, ?_, ?_, ?_⟩
  · unfold World.cell? at c0 ⊢; rw [hb]; exact c0
  · unfold World.cell? at c1 ⊢; rw [hb]; exact c1
  · unfold World.cell? at c2 ⊢; rw [hb]; exact c2
/-- what lies in memory while a path is sent on -/
structure E8 (w W : World) (fb tb : ByteArray) (fn tn : Int) (m7 m9 : Nat) (sv fv : Value) (da : Option Addr) (dc : Nat) (fa : Option Addr) (fc : Nat) (C : List (ByteArray × Int)) (k : Nat) : Prop where
  bel : Below w.heap.size w W
  f0 : KeepAt W w.heap.size 0 (.string fb)
  f1 : KeepAt W w.heap.size 1 (.int .i64 fn)
  t0 : KeepAt W (w.heap.size + 1) 0 (.string tb)
  t1 : KeepAt W (w.heap.size + 1) 1 (.int .i64 tn)
  p : P7 W m7 (.string tb) (.int .i64 tn) (.string fb) (.int .i64 fn) (.bool true) (.bool false) sv
  q : P7 W m9 (.string tb) (.int .i64 tn) (.string fb) (.int .i64 fn) (.bool true) (.bool false) fv
  pe : EntsAt W da dc (goD C k)
  qe : EntsAt W fa fc (freshD C)
  qn : ∀ g o, 0 < C.length → fa = some ⟨g, o, none⟩ → g ≠ m7
  ne : m7 ≠ m9
  h7 : w.heap.size + 1 < m7
theorem E8.below {w W W' : World} {fb tb : ByteArray} {fn tn : Int} {m7 m9 : Nat} {sv fv : Value} {da fa : Option Addr} {dc fc : Nat} {C : List (ByteArray × Int)} {k : Nat} (h : E8 w W fb tb fn tn m7 m9 sv fv da dc fa fc C k) (hb : Below W.heap.size W W') : E8 w W' fb tb fn tn m7 m9 sv fv da dc fa fc C k :=
  ⟨h.bel.trans (hb.mono h.bel.size), h.f0.below hb, h.f1.below hb, h.t0.below hb, h.t1.below hb, h.p.below hb, h.q.below hb, h.pe.below hb, h.qe.below hb, h.qn, h.ne, h.h7⟩
theorem E8.alloc {w W : World} {fb tb : ByteArray} {fn tn : Int} {m7 m9 : Nat} {sv fv : Value} {da fa : Option Addr} {dc fc : Nat} {C : List (ByteArray × Int)} {k : Nat} (h : E8 w W fb tb fn tn m7 m9 sv fv da dc fa fc C k) (o : Obj) : E8 w (W.alloc o) fb tb fn tn m7 m9 sv fv da dc fa fc C k := h.below ((Below.refl _ W).alloc (Nat.le_refl _) _)
theorem E8.store {w W : World} {fb tb : ByteArray} {fn tn : Int} {m7 m9 : Nat} {sv fv : Value} {da fa : Option Addr} {dc fc : Nat} {C : List (ByteArray × Int)} {k : Nat} {B : Nat} {xa : Option Addr} {xn xc j : Nat} (h : E8 w W fb tb fn tn m7 m9 sv fv da dc fa fc C k) (ho : OwnE 82 W B (.slice xa xn xc) (goD C j)) (hB : m7 < B) :
    E8 w (((((((W.setCell ⟨m7, 0, none⟩ (.string tb)).setCell ⟨m7, 1, none⟩ (.int .i64 tn)).setCell ⟨m7, 2, none⟩ (.string fb)).setCell ⟨m7, 3, none⟩ (.int .i64 fn)).setCell ⟨m7, 4, none⟩ (.bool true)).setCell ⟨m7, 5, none⟩ (.bool false)).setCell ⟨m7, 6, none⟩ (.slice xa xn xc)) fb tb fn tn m7 m9 (.slice xa xn xc) fv xa xc fa fc C j := by
  have h7 := h.h7
  have hne := h.ne
  have hg := grown7 (m := m7) (grown_refl W (some m7)) (Or.inr rfl) (.string tb) (.int .i64 tn) (.string fb) (.int .i64 fn) (.bool true) (.bool false) (.slice xa xn xc)
  have oth : ∀ {m o : Nat} {u : Value}, KeepAt W m o u → m ≠ m7 → KeepAt (((((((W.setCell ⟨m7, 0, none⟩ (.string tb)).setCell ⟨m7, 1, none⟩ (.int .i64 tn)).setCell ⟨m7, 2, none⟩ (.string fb)).setCell ⟨m7, 3, none⟩ (.int .i64 fn)).setCell ⟨m7, 4, none⟩ (.bool true)).setCell ⟨m7, 5, none⟩ (.bool false)).setCell ⟨m7, 6, none⟩ (.slice xa xn xc)) m o u := fun hk hm => hk.block (hg.block _ hk.lt (fun e => hm (Option.some.inj e))) hg.size
  exact ⟨set7_below h.bel (by omega) _ _ _ _ _ _ _, oth h.f0 (by omega), oth h.f1 (by omega), oth h.t0 (by omega), oth h.t1 (by omega), stored7 _ _ _ _ _ _ _ h.p,
    ⟨oth h.q.k0 (by omega), oth h.q.k1 (by omega), oth h.q.k2 (by omega), oth h.q.k3 (by omega), oth h.q.k4 (by omega), oth h.q.k5 (by omega), oth h.q.k6 (by omega)⟩,
    ents_of_own (own7 ho hB _ _ _ _ _ _ _), h.qe.off hg (fun g o hl => h.qn g o (by simpa [freshD] using hl)), h.qn, h.ne, h.h7⟩
theorem peight_long (fb tb : ByteArray) (fn tn : Int) (a : Option Addr) (n cap : Nat) (w : World) (h : 30 < n) :
    Calls Tryd.prog 6 #[.agg #[.string fb, .int .i64 fn], .agg #[.string tb, .int .i64 tn], .slice a n cap] w fun e w' => e = .returned (.bool true) ∧ Below w.heap.size w w' := by
  have HB0 := Lib.hid (((Below.refl _ w).alloc (Nat.le_refl _) (.cells #[.string fb, .int .i64 fn] 23)).alloc (by simp) (.cells #[.string tb, .int .i64 tn] 23))
  have HK0 := Lib.hid (show (KeepAt ((w.alloc (.cells #[.string fb, .int .i64 fn] 23)).alloc (.cells #[.string tb, .int .i64 tn] 23)) w.heap.size 0 (.string fb) ∧ KeepAt ((w.alloc (.cells #[.string fb, .int .i64 fn] 23)).alloc (.cells #[.string tb, .int .i64 tn] 23)) w.heap.size 1 (.int .i64 fn)) ∧ (KeepAt ((w.alloc (.cells #[.string fb, .int .i64 fn] 23)).alloc (.cells #[.string tb, .int .i64 tn] 23)) (w.heap.size + 1) 0 (.string tb) ∧ KeepAt ((w.alloc (.cells #[.string fb, .int .i64 fn] 23)).alloc (.cells #[.string tb, .int .i64 tn] 23)) (w.heap.size + 1) 1 (.int .i64 tn)) from by
    have e : w.heap.size + 1 = (w.alloc (.cells #[.string fb, .int .i64 fn] 23)).heap.size := by simp
    obtain ⟨h1, h2⟩ := KeepAt.pair w (.string fb) (.int .i64 fn) 23
    obtain ⟨h3, h4⟩ := KeepAt.pair (w.alloc (.cells #[.string fb, .int .i64 fn] 23)) (.string tb) (.int .i64 tn) 23
    rw [e]
    exact ⟨⟨h1.alloc _, h2.alloc _⟩, h3, h4⟩)
  have d : decide ((30 : Int) < (n : Int)) = true := decide_eq_true (by omega)
  go_enter Tryd.func6, Tryd.ntmps6
  go_wp2_with (go_at_call 13; (with_reducible refine (pawake_any _).mono ?_); rintro e w1 ⟨rfl, hb⟩; have HB1 := Lib.hid (HB0.out.trans (hb.mono HB0.out.size)); have HK1 := Lib.hid (show (_ ∧ _) ∧ (_ ∧ _) from ⟨⟨HK0.out.1.1.below hb, HK0.out.1.2.below hb⟩, HK0.out.2.1.below hb, HK0.out.2.2.below hb⟩); clear hb; obtain ⟨⟨⟨a0, -, al⟩, ⟨a1, -, -⟩⟩, ⟨b0, -, bl⟩, ⟨b1, -, -⟩⟩ := HK1.out)
  go_ret
  exact ⟨rfl, HB1.out⟩
set_option maxHeartbeats 1000000 in
theorem peight_not (fb tb : ByteArray) (fn tn : Int) (a : Option Addr) (cap : Nat) (C : List (ByteArray × Int)) (w : World) (hE : CallsAt w a C) (hf : fb.size ≤ 140737488351232) (ht : tb.size ≤ 140737488351232) (hS : ∀ x ∈ C, x.1.size ≤ 140737488351232) (hn : C.length ≤ 30) (hr : rightP ((tb, tn, true) :: (fb, fn, false) :: freshD C) = false) :
    Calls Tryd.prog 6 #[.agg #[.string fb, .int .i64 fn], .agg #[.string tb, .int .i64 tn], .slice a C.length cap] w fun e w' => e = .returned (.bool true) ∧ Below w.heap.size w w' := by
  have HB0 := Lib.hid (((Below.refl _ w).alloc (Nat.le_refl _) (.cells #[.string fb, .int .i64 fn] 23)).alloc (by simp) (.cells #[.string tb, .int .i64 tn] 23))
  have HK0 := Lib.hid (show (KeepAt ((w.alloc (.cells #[.string fb, .int .i64 fn] 23)).alloc (.cells #[.string tb, .int .i64 tn] 23)) w.heap.size 0 (.string fb) ∧ KeepAt ((w.alloc (.cells #[.string fb, .int .i64 fn] 23)).alloc (.cells #[.string tb, .int .i64 tn] 23)) w.heap.size 1 (.int .i64 fn)) ∧ (KeepAt ((w.alloc (.cells #[.string fb, .int .i64 fn] 23)).alloc (.cells #[.string tb, .int .i64 tn] 23)) (w.heap.size + 1) 0 (.string tb) ∧ KeepAt ((w.alloc (.cells #[.string fb, .int .i64 fn] 23)).alloc (.cells #[.string tb, .int .i64 tn] 23)) (w.heap.size + 1) 1 (.int .i64 tn)) from by
    have e : w.heap.size + 1 = (w.alloc (.cells #[.string fb, .int .i64 fn] 23)).heap.size := by simp
    obtain ⟨h1, h2⟩ := KeepAt.pair w (.string fb) (.int .i64 fn) 23
    obtain ⟨h3, h4⟩ := KeepAt.pair (w.alloc (.cells #[.string fb, .int .i64 fn] 23)) (.string tb) (.int .i64 tn) 23
    rw [e]
    exact ⟨⟨h1.alloc _, h2.alloc _⟩, h3, h4⟩)
  have d : decide ((30 : Int) < (C.length : Int)) = false := decide_eq_false (by omega)
  have HVI := Lib.hid (show ∀ W, Below w.heap.size w W → Calls Tryd.prog 33 #[.agg #[.string fb, .int .i64 fn], .agg #[.string tb, .int .i64 tn], .bool true, .slice a C.length cap] W fun e w' => e = .returned (.tuple #[.agg #[.string ⟨#[]⟩, .int .i64 0, .string ⟨#[]⟩, .int .i64 0, .bool false, .bool false, .slice none 0 0], .int .i64 11]) ∧ Below W.heap.size W w' from fun W h => by
    have k := via_any fb tb fn tn true a cap C W (by omega) (hE.below h) hf ht hS
    rw [show (!true) = false from rfl, hr] at k
    exact k)
  have heq := fun W => run_eq_callP ⟨#[]⟩ ⟨#[]⟩ 0 0 W true (by decide)
  clear hE hf ht hS hr
  go_enter Tryd.func6, Tryd.ntmps6
  go_wp2_with (first
    | (go_at_call 13; (with_reducible refine (pawake_any _).mono ?_); rintro e w1 ⟨rfl, hb⟩; have HB1 := Lib.hid (HB0.out.trans (hb.mono HB0.out.size)); have HK1 := Lib.hid (show (_ ∧ _) ∧ (_ ∧ _) from ⟨⟨HK0.out.1.1.below hb, HK0.out.1.2.below hb⟩, HK0.out.2.1.below hb, HK0.out.2.2.below hb⟩); clear hb; obtain ⟨⟨⟨a0, -, al⟩, ⟨a1, -, -⟩⟩, ⟨b0, -, bl⟩, ⟨b1, -, -⟩⟩ := HK1.out)
    | (go_at_call 33; (with_reducible refine (HVI.out _ HB1.out).mono ?_); rintro e w2 ⟨rfl, hb⟩; have hb1 := HB1.out.trans (hb.mono HB1.out.size); have HB2 := Lib.hid (hb1.alloc hb1.size (.cells #[.string ⟨#[]⟩, .int .i64 0, .string ⟨#[]⟩, .int .i64 0, .bool false, .bool false, .slice none 0 0] 26)); clear hb hb1 a0 al a1 b0 bl b1; obtain ⟨⟨p0, q0, pl⟩, ⟨p1, q1, -⟩, ⟨p2, q2, -⟩, ⟨p3, q3, -⟩, ⟨p4, q4, -⟩, ⟨p5, q5, -⟩, ⟨p6, q6, -⟩⟩ := P7.new w2 w2.heap.size rfl (.string ⟨#[]⟩) (.int .i64 0) (.string ⟨#[]⟩) (.int .i64 0) (.bool false) (.bool false) (.slice none 0 0) 26))
  go_ret
  exact ⟨rfl, HB2.out⟩
set_option maxHeartbeats 4000000 in
theorem peight_yes (fb tb : ByteArray) (fn tn : Int) (a : Option Addr) (cap : Nat) (C : List (ByteArray × Int)) (w : World) (hE : CallsAt w a C) (hf : fb.size ≤ 140737488351232) (ht : tb.size ≤ 140737488351232) (hS : ∀ x ∈ C, x.1.size ≤ 140737488351232) (hr : rightP ((tb, tn, true) :: (fb, fn, false) :: freshD C) = true) :
    Calls Tryd.prog 6 #[.agg #[.string fb, .int .i64 fn], .agg #[.string tb, .int .i64 tn], .slice a C.length cap] w fun e w' => e = .returned (.bool true) ∧ Below w.heap.size w w' := by
  have HB0 := Lib.hid (((Below.refl _ w).alloc (Nat.le_refl _) (.cells #[.string fb, .int .i64 fn] 23)).alloc (by simp) (.cells #[.string tb, .int .i64 tn] 23))
  have HK0 := Lib.hid (show (KeepAt ((w.alloc (.cells #[.string fb, .int .i64 fn] 23)).alloc (.cells #[.string tb, .int .i64 tn] 23)) w.heap.size 0 (.string fb) ∧ KeepAt ((w.alloc (.cells #[.string fb, .int .i64 fn] 23)).alloc (.cells #[.string tb, .int .i64 tn] 23)) w.heap.size 1 (.int .i64 fn)) ∧ (KeepAt ((w.alloc (.cells #[.string fb, .int .i64 fn] 23)).alloc (.cells #[.string tb, .int .i64 tn] 23)) (w.heap.size + 1) 0 (.string tb) ∧ KeepAt ((w.alloc (.cells #[.string fb, .int .i64 fn] 23)).alloc (.cells #[.string tb, .int .i64 tn] 23)) (w.heap.size + 1) 1 (.int .i64 tn)) from by
    have e : w.heap.size + 1 = (w.alloc (.cells #[.string fb, .int .i64 fn] 23)).heap.size := by simp
    obtain ⟨h1, h2⟩ := KeepAt.pair w (.string fb) (.int .i64 fn) 23
    obtain ⟨h3, h4⟩ := KeepAt.pair (w.alloc (.cells #[.string fb, .int .i64 fn] 23)) (.string tb) (.int .i64 tn) 23
    rw [e]
    exact ⟨⟨h1.alloc _, h2.alloc _⟩, h3, h4⟩)
  have h8 := fresh_right _ _ C hr
  have d : decide ((30 : Int) < (C.length : Int)) = false := decide_eq_false (by omega)
  have d8 : decide ((8 : Int) < (C.length : Int)) = false := decide_eq_false (by omega)
  have HVI := Lib.hid (show ∀ W, Below w.heap.size w W → Calls Tryd.prog 33 #[.agg #[.string fb, .int .i64 fn], .agg #[.string tb, .int .i64 tn], .bool true, .slice a C.length cap] W fun e w' => (∃ da dc, e = .returned (.tuple #[.agg #[.string tb, .int .i64 tn, .string fb, .int .i64 fn, .bool true, .bool false, .slice da C.length dc], .int .i64 0]) ∧ EntsAt w' da dc (freshD C)) ∧ Below W.heap.size W w' from fun W h => by
    have k := via_any fb tb fn tn true a cap C W (by omega) (hE.below h) hf ht hS
    rw [show (!true) = false from rfl, hr] at k
    refine k.mono fun e w' hq => ⟨?_, hq.2⟩
    obtain ⟨da, dc, h1, h2⟩ := (show _ from hq.1)
    exact ⟨da, dc, by rw [h1]; simp [freshD], h2⟩)
  have hSz : ∀ k, ∀ e ∈ goD C k, e.1.size ≤ 140737488351232 := fun k e he => by
    unfold goD at he
    rcases List.mem_append.1 he with he | he
    · obtain ⟨c, hc, rfl⟩ := List.mem_map.1 he
      exact hS c (List.mem_of_mem_take hc)
    · obtain ⟨c, hc, rfl⟩ := List.mem_map.1 he
      exact hS c (List.mem_of_mem_drop hc)
  have HNX := Lib.hid (show ∀ k W da dc, EntsAt W da dc (goD C k) → Calls Tryd.prog 25 #[.agg #[.string tb, .int .i64 tn, .string fb, .int .i64 fn, .bool true, .bool false, .slice da C.length dc]] W fun e w' => e = .returned (nextV (goD C k)) ∧ Below W.heap.size W w' from fun k W da dc h => by
    have q := next_any tb fb tn fn true false da dc (goD C k) W (by rw [goD_len]; omega) h (hSz k)
    rw [goD_len] at q
    exact q)
  have HSE := Lib.hid (show ∀ k W da dc, EntsAt W da dc (goD C k) → Calls Tryd.prog 27 #[.agg #[.string tb, .int .i64 tn, .string fb, .int .i64 fn, .bool true, .bool false, .slice da C.length dc]] W fun e w' => (∃ xa xc, e = .returned (.tuple #[.agg #[.string tb, .int .i64 tn, .string fb, .int .i64 fn, .bool true, .bool false, .slice xa C.length xc], .bool (decide (fstD (goD C k) < C.length))]) ∧ OwnE 82 w' W.heap.size (.slice xa C.length xc) (sentD (goD C k))) ∧ Below W.heap.size W w' from fun k W da dc h => by
    have q := sent_own tb fb tn fn true false da dc (goD C k) W (by rw [goD_len]; omega) h ht hf (hSz k)
    rw [goD_len] at q
    exact q)
  have HRI := Lib.hid (show ∀ k W da dc, k ≤ C.length → EntsAt W da dc (goD C k) → Calls Tryd.prog 18 #[.agg #[.string tb, .int .i64 tn, .string fb, .int .i64 fn, .bool true, .bool false, .slice da C.length dc]] W fun e w' => e = .returned (.bool true) ∧ Below W.heap.size W w' from fun k W da dc hk h => by
    have q := pright_any tb fb tn fn true false da dc (goD C k) W (by rw [goD_len]; omega) h
    rw [goD_len, goD_right C k hk, hr] at q
    exact q)
  have HBA := Lib.hid (show ∀ W da dc, EntsAt W da dc (goD C C.length) → Calls Tryd.prog 29 #[.agg #[.string tb, .int .i64 tn, .string fb, .int .i64 fn, .bool true, .bool false, .slice da C.length dc]] W fun e w' => (∃ ba bc, e = .returned (.agg #[.string fb, .int .i64 fn, .string tb, .int .i64 tn, .bool false, .bool true, .slice ba C.length bc]) ∧ EntsAt w' ba bc (freshD C.reverse)) ∧ Below W.heap.size W w' from fun W da dc h => by
    have q := cback_any tb fb tn fn true false da dc (goD C C.length) W (by rw [goD_len]; omega) h ht hf (hSz _)
    rw [goD_len, goD_rev] at q
    refine q.mono fun e w' hq => ?_
    obtain ⟨⟨ba, bc, h1, h2⟩, h3⟩ := hq
    exact ⟨⟨ba, bc, by rw [h1]; simp [freshD], h2⟩, h3⟩)
  have HBB := Lib.hid (show ∀ W da dc, EntsAt W da dc (freshD C.reverse) → Calls Tryd.prog 29 #[.agg #[.string fb, .int .i64 fn, .string tb, .int .i64 tn, .bool false, .bool true, .slice da C.length dc]] W fun e w' => (∃ ba bc, e = .returned (.agg #[.string tb, .int .i64 tn, .string fb, .int .i64 fn, .bool true, .bool false, .slice ba C.length bc]) ∧ EntsAt w' ba bc (freshD C)) ∧ Below W.heap.size W w' from fun W da dc h => by
    have hl : (freshD C.reverse).length = C.length := by simp [freshD]
    have q := cback_any fb tb fn tn false true da dc (freshD C.reverse) W (by omega) h hf ht (fun e he => by
      obtain ⟨c, hc, rfl⟩ := List.mem_map.1 he
      exact hS c (List.mem_reverse.1 hc))
    rw [hl, fresh_rev] at q
    refine q.mono fun e w' hq => ?_
    obtain ⟨⟨ba, bc, h1, h2⟩, h3⟩ := hq
    exact ⟨⟨ba, bc, by rw [h1]; simp [freshD], h2⟩, h3⟩)
  obtain ⟨FL, hFL⟩ : ∃ FL, FL = (tb, tn, true) :: (fb, fn, false) :: freshD C := ⟨_, rfl⟩
  have HFL := Lib.hid (show FL.length ≤ 1000 from by rw [hFL]; simp [freshD]; omega)
  have HPL := Lib.hid (show ∀ W da dc, EntsAt W da dc (freshD C) → Calls Tryd.prog 15 #[.agg #[.string tb, .int .i64 tn, .string fb, .int .i64 fn, .bool true, .bool false, .slice da C.length dc]] W fun e w' => (∃ v, e = .returned (.agg #[v]) ∧ Ents w' v FL) ∧ Below W.heap.size W w' from fun W da dc h => by
    have hl : (freshD C).length = C.length := by simp [freshD]
    have q := plainP_any tb fb tn fn true false da dc (freshD C) W (by omega) h
    rw [hl] at q
    refine q.mono fun e w' hq => ?_
    obtain ⟨v, h1, h2, h3⟩ := hq
    rw [hFL]
    exact ⟨⟨v, h1, h2.ents⟩, h3⟩)
  have HRE := Lib.hid (fun V a n k => response_any fb tb fn tn false true a n k V)
  have HCE := Lib.hid (fun W (h : Below w.heap.size w W) => hE.below h)
  have HSZ := Lib.hid hS
  clear hE hf ht hS hr hSz hFL
  go_enter Tryd.func6, Tryd.ntmps6
  go_wp2_with (first
    | (go_at_call 13; (with_reducible refine (pawake_any _).mono ?_); rintro e w1 ⟨rfl, hb⟩; have HB1 := Lib.hid (HB0.out.trans (hb.mono HB0.out.size)); have HK1 := Lib.hid (show (_ ∧ _) ∧ (_ ∧ _) from ⟨⟨HK0.out.1.1.below hb, HK0.out.1.2.below hb⟩, HK0.out.2.1.below hb, HK0.out.2.2.below hb⟩); clear hb; obtain ⟨⟨⟨a0, -, al⟩, ⟨a1, -, -⟩⟩, ⟨b0, -, bl⟩, ⟨b1, -, -⟩⟩ := HK1.out)
    | (go_at_call 33; (with_reducible refine (HVI.out _ HB1.out).mono ?_); rintro e w2 ⟨⟨fa, fc, rfl, hF⟩, hb⟩; have HB2 := Lib.hid (HB1.out.trans (hb.mono HB1.out.size)); have HK2 := Lib.hid (show (_ ∧ _) ∧ (_ ∧ _) from ⟨⟨HK1.out.1.1.below hb, HK1.out.1.2.below hb⟩, HK1.out.2.1.below hb, HK1.out.2.2.below hb⟩); have HF2 := Lib.hid hF; clear hb hF a0 al a1 b0 bl b1; obtain ⟨⟨p0, q0, pl⟩, ⟨p1, q1, -⟩, ⟨p2, q2, -⟩, ⟨p3, q3, -⟩, ⟨p4, q4, -⟩, ⟨p5, q5, -⟩, ⟨p6, q6, -⟩⟩ := P7.new w2 w2.heap.size rfl (.string tb) (.int .i64 tn) (.string fb) (.int .i64 fn) (.bool true) (.bool false) (.slice fa C.length fc) 26))
  have HE8 := Lib.hid (show E8 w ((w2.alloc (.cells #[.string tb, .int .i64 tn, .string fb, .int .i64 fn, .bool true, .bool false, .slice fa C.length fc] 26)).alloc (.cells #[.string tb, .int .i64 tn, .string fb, .int .i64 fn, .bool true, .bool false, .slice fa C.length fc] 26)) fb tb fn tn w2.heap.size (w2.heap.size + 1) (.slice fa C.length fc) (.slice fa C.length fc) fa fc fa fc C 0 from by
    have hs := HK2.out.2.1.lt
    have hq : P7 ((w2.alloc (.cells #[.string tb, .int .i64 tn, .string fb, .int .i64 fn, .bool true, .bool false, .slice fa C.length fc] 26)).alloc (.cells #[.string tb, .int .i64 tn, .string fb, .int .i64 fn, .bool true, .bool false, .slice fa C.length fc] 26)) (w2.heap.size + 1) (.string tb) (.int .i64 tn) (.string fb) (.int .i64 fn) (.bool true) (.bool false) (.slice fa C.length fc) := P7.new _ _ (by simp) _ _ _ _ _ _ _ _
    refine ⟨(HB2.out.alloc HB2.out.size _).alloc (by have := HB2.out.size; simp; omega) _, (HK2.out.1.1.alloc _).alloc _, (HK2.out.1.2.alloc _).alloc _, (HK2.out.2.1.alloc _).alloc _, (HK2.out.2.2.alloc _).alloc _, (P7.new w2 w2.heap.size rfl _ _ _ _ _ _ _ _).alloc _, hq, (HF2.out.alloc _).alloc _, (HF2.out.alloc _).alloc _, fun g o hl hfa => ?_, by omega, hs⟩
    obtain ⟨g', o', ha, hlt, -⟩ := HF2.out.at_ 0 (by simpa [freshD] using hl)
    rw [hfa] at ha
    simp only [Option.some.injEq, Addr.mk.injEq, and_true] at ha
    omega)
  generalize ((w2.alloc (.cells #[.string tb, .int .i64 tn, .string fb, .int .i64 fn, .bool true, .bool false, .slice fa C.length fc] 26)).alloc (.cells #[.string tb, .int .i64 tn, .string fb, .int .i64 fn, .bool true, .bool false, .slice fa C.length fc] 26)) = W0 at *
  generalize w2.heap.size = m7 at *
  clear p0 q0 pl p1 q1 p2 q2 p3 q3 p4 q4 p5 q5 p6 q6 HB2 HK2 HF2 HB1 HK1 HB0 HK0
  go_loopw [53] (fun i wx => ∃ k : Nat, k ≤ C.length ∧ i = .int .i64 k ∧ ∃ da dc, Hid (E8 w wx fb tb fn tn m7 (m7 + 1) (.slice da C.length dc) (.slice fa C.length fc) da dc fa fc C k)) (fun i _ => C.length - (intOf i).toNat)
  case atStart => exact ⟨0, by omega, rfl, _, _, HE8⟩
  case round =>
    obtain ⟨k, hk, rfl, da, dc, HQ⟩ := hrel
    clear HE8
    by_cases hlt : k < C.length
    · have dk : decide ((k : Int) < (C.length : Int)) = true := decide_eq_true (by omega)
      obtain ⟨g, o, hag, hg, c0, c1⟩ := HCE.out _ HQ.out.bel k hlt
      subst hag
      have hN := goD_next C k hlt
      have hnk := fun W h => HNX.out k W da dc h
      rw [hN] at hnk
      have hsk := fun W h => HSE.out k W da dc h
      rw [goD_fst C k hk, decide_eq_true hlt, goD_sent C k hlt] at hsk
      have HNK := Lib.hid hnk
      have HSK := Lib.hid hsk
      have HRK := Lib.hid (fun W da dc h => HRI.out (k + 1) W da dc (by omega) h)
      clear hnk hsk hN
      generalize C[k] = d at *
      obtain ⟨db, dn⟩ := d
      dsimp only at c0 c1 HNK
      have heq := fun W => run_eq_callP db db dn dn W true (by simp)
      have HQ1 := Lib.hid (HQ.out.alloc (.cells #[.string db, .int .i64 dn] 23))
      have HC1 := Lib.hid (KeepAt.pair wr (.string db) (.int .i64 dn) 23)
      obtain ⟨⟨p0, q0, pl⟩, ⟨p1, q1, -⟩, ⟨p2, q2, -⟩, ⟨p3, q3, -⟩, ⟨p4, q4, -⟩, ⟨p5, q5, -⟩, ⟨p6, q6, -⟩⟩ := HQ1.out.p
      go_wp2_with (first
        | (go_at_call 25; (with_reducible refine (HNK.out _ HQ1.out.pe).mono ?_); rintro e w3 ⟨rfl, hb⟩; have HQ2 := Lib.hid ((HQ1.out.below hb).alloc (.cells #[.string db, .int .i64 dn] 23)); have HC2 := Lib.hid (show _ ∧ _ from ⟨(HC1.out.1.below hb).alloc (.cells #[.string db, .int .i64 dn] 23), (HC1.out.2.below hb).alloc (.cells #[.string db, .int .i64 dn] 23)⟩); have HN2 := Lib.hid (KeepAt.pair w3 (.string db) (.int .i64 dn) 23); clear hb; clear p0 q0 pl p1 q1 p2 q2 p3 q3 p4 q4 p5 q5 p6 q6; obtain ⟨⟨p0, q0, pl⟩, ⟨p1, q1, -⟩, ⟨p2, q2, -⟩, ⟨p3, q3, -⟩, ⟨p4, q4, -⟩, ⟨p5, q5, -⟩, ⟨p6, q6, -⟩⟩ := HQ2.out.p; obtain ⟨⟨x0, -, xl⟩, x1, -, -⟩ := HC2.out; obtain ⟨⟨y0, -, yl⟩, y1, -, -⟩ := HN2.out)
        | (go_at_call 27; (with_reducible refine (HSK.out _ HQ2.out.pe).mono ?_); rintro e w4 ⟨⟨xa, xc, rfl, ho⟩, hb⟩; have HQ3 := Lib.hid (HQ2.out.below hb); have HQ4 := Lib.hid (HQ3.out.store ho HQ2.out.p.k0.lt); clear hb ho; clear p0 q0 pl p1 q1 p2 q2 p3 q3 p4 q4 p5 q5 p6 q6 x0 xl x1 y0 yl y1; obtain ⟨⟨p0, q0, pl⟩, ⟨p1, q1, -⟩, ⟨p2, q2, -⟩, ⟨p3, q3, -⟩, ⟨p4, q4, -⟩, ⟨p5, q5, -⟩, ⟨p6, q6, -⟩⟩ := HQ3.out.p; obtain ⟨⟨t0, u0, tl⟩, ⟨t1, u1, -⟩, ⟨t2, u2, -⟩, ⟨t3, u3, -⟩, ⟨t4, u4, -⟩, ⟨t5, u5, -⟩, ⟨t6, u6, -⟩⟩ := HQ4.out.p)
        | (go_at_call 18; (with_reducible refine (HRK.out _ _ _ HQ4.out.pe).mono ?_); rintro e w5 ⟨rfl, hb⟩; have HQ5 := Lib.hid (HQ4.out.below hb); clear hb))
      go_roundw
      case rel => exact ⟨k + 1, by omega, by go_num, _, _, HQ5⟩
      case measure => simp [intOf]; omega
    · obtain rfl : k = C.length := by omega
      have dk : decide ((C.length : Int) < (C.length : Int)) = false := decide_eq_false (by omega)
      have hnk := fun W h => HNX.out C.length W da dc h
      rw [goD_end] at hnk
      have hsk := fun W h => HSE.out C.length W da dc h
      rw [goD_fst C C.length (Nat.le_refl _), decide_eq_false (Nat.lt_irrefl _), goD_done] at hsk
      have HNK := Lib.hid hnk
      have HSK := Lib.hid hsk
      clear hnk hsk HNX HSE HRI HVI HCE HSZ
      obtain ⟨⟨p0, q0, pl⟩, ⟨p1, q1, -⟩, ⟨p2, q2, -⟩, ⟨p3, q3, -⟩, ⟨p4, q4, -⟩, ⟨p5, q5, -⟩, ⟨p6, q6, -⟩⟩ := HQ.out.p
      go_wp2_with (first
        | (go_at_call 25; (with_reducible refine (HNK.out _ HQ.out.pe).mono ?_); rintro e w6 ⟨rfl, hb⟩; have HQ6 := Lib.hid ((HQ.out.below hb).alloc (.cells #[.string ⟨#[]⟩, .int .i64 0] 23)); clear hb; clear p0 q0 pl p1 q1 p2 q2 p3 q3 p4 q4 p5 q5 p6 q6; obtain ⟨⟨p0, q0, pl⟩, ⟨p1, q1, -⟩, ⟨p2, q2, -⟩, ⟨p3, q3, -⟩, ⟨p4, q4, -⟩, ⟨p5, q5, -⟩, ⟨p6, q6, -⟩⟩ := HQ6.out.p)
        | (go_at_call 27; (with_reducible refine (HSK.out _ HQ6.out.pe).mono ?_); rintro e w7 ⟨⟨xa, xc, rfl, ho⟩, hb⟩; have HQ7 := Lib.hid ((HQ6.out.below hb).alloc (.cells #[.string tb, .int .i64 tn, .string fb, .int .i64 fn, .bool true, .bool false, .slice xa C.length xc] 26)); clear hb ho; clear p0 q0 pl p1 q1 p2 q2 p3 q3 p4 q4 p5 q5 p6 q6; obtain ⟨⟨p0, q0, pl⟩, ⟨p1, q1, -⟩, ⟨p2, q2, -⟩, ⟨p3, q3, -⟩, ⟨p4, q4, -⟩, ⟨p5, q5, -⟩, ⟨p6, q6, -⟩⟩ := HQ7.out.p)
        | (go_at_call 29; (with_reducible refine (HBA.out _ _ _ HQ7.out.pe).mono ?_); rintro e w8 ⟨⟨ba, bc, rfl, hy⟩, hb⟩; have HQ8 := Lib.hid ((HQ7.out.below hb).alloc (.cells #[.string fb, .int .i64 fn, .string tb, .int .i64 tn, .bool false, .bool true, .slice ba C.length bc] 26)); have HY8 := Lib.hid (show P7 (w8.alloc (.cells #[.string fb, .int .i64 fn, .string tb, .int .i64 tn, .bool false, .bool true, .slice ba C.length bc] 26)) w8.heap.size _ _ _ _ _ _ _ ∧ EntsAt (w8.alloc (.cells #[.string fb, .int .i64 fn, .string tb, .int .i64 tn, .bool false, .bool true, .slice ba C.length bc] 26)) ba bc (freshD C.reverse) from ⟨P7.new w8 w8.heap.size rfl (.string fb) (.int .i64 fn) (.string tb) (.int .i64 tn) (.bool false) (.bool true) (.slice ba C.length bc) 26, hy.alloc _⟩); clear hb hy; clear p0 q0 pl p1 q1 p2 q2 p3 q3 p4 q4 p5 q5 p6 q6))
      generalize (w8.alloc (.cells #[.string fb, .int .i64 fn, .string tb, .int .i64 tn, .bool false, .bool true, .slice ba C.length bc] 26)) = W at *
      have heqf := fun W => run_eq_callP fb fb fn fn W true (by simp)
      have heqt := fun W => run_eq_callP tb tb tn tn W true (by simp)
      have HB1' := Lib.hid ((Below.refl W.heap.size W).drew)
      refine wp_region_held (S := fun W' => Below W.heap.size W W') (by kernel_rfl) ?_
      change wpAnyH _ _ _ _ _ _ _ _ W.drew
      have HB := Lib.hid ((Below.refl W.heap.size W).drew)
      refine wpAnyH_take (i := 0) (v := ?_) rfl (by kernel_rfl) (by kernel_rfl) (by kernel_rfl) (fun _ _ _ h => h) (Or.inl ⟨by rfl, ?_⟩) HB.out ?_
      rotate_left
      · intro w' hw'
        go_simp
        with_reducible rfl
      go_simp
      refine wpAnyH_take (i := 1) (v := ?_) rfl (by kernel_rfl) (by kernel_rfl) (by kernel_rfl) (fun _ _ _ h => h) (Or.inl ⟨by rfl, ?_⟩) HB.out ?_
      rotate_left
      · intro w' hw'
        go_simp
        with_reducible rfl
      go_simp
      refine wpAnyH_take (i := 2) (v := ?_) rfl (by kernel_rfl) (by kernel_rfl) (by kernel_rfl) (fun _ _ _ h => h) (Or.inl ⟨by rfl, ?_⟩) HB.out ?_
      rotate_left
      · intro w' hw'
        go_simp
        with_reducible rfl
      go_simp
      refine wpAnyH_take (i := 3) (v := ?_) rfl (by kernel_rfl) (by kernel_rfl) (by kernel_rfl) (fun _ _ _ h => h) (Or.inl ⟨by rfl, ?_⟩) HB.out ?_
      rotate_left
      · intro w' hw'
        go_simp
        with_reducible rfl
      go_simp
      refine wpAnyH_take (i := 4) (v := ?_) rfl (by kernel_rfl) (by kernel_rfl) (by kernel_rfl) (fun _ _ _ h => h) (Or.inl ⟨by rfl, ?_⟩) HB.out ?_
      rotate_left
      · intro w' hw'
        go_simp
        with_reducible rfl
      go_simp
      refine wpAnyH_take (i := 5) (v := ?_) rfl (by kernel_rfl) (by kernel_rfl) (by kernel_rfl) (fun _ _ _ h => h) (Or.inl ⟨by rfl, ?_⟩) HB.out ?_
      rotate_left
      · intro w' hw'
        go_simp
        with_reducible rfl
      go_simp
      refine wpAnyH_take (i := 6) (v := ?_) rfl (by kernel_rfl) (by kernel_rfl) (by kernel_rfl) (fun _ _ _ h => h) (Or.inl ⟨by rfl, ?_⟩) HB.out ?_
      rotate_left
      · intro w' hw'
        go_simp
        with_reducible rfl
      go_simp
      refine wpAnyH_take (i := 7) (v := ?_) rfl (by kernel_rfl) (by kernel_rfl) (by kernel_rfl) (fun _ _ _ h => h) (Or.inl ⟨by rfl, ?_⟩) HB.out ?_
      rotate_left
      · intro w' hw'
        obtain ⟨⟨p0, -, pl⟩, ⟨p1, -, -⟩, ⟨p2, -, -⟩, ⟨p3, -, -⟩, ⟨p4, -, -⟩, ⟨p5, -, -⟩, ⟨p6, -, -⟩⟩ := HY8.out.1.below hw'
        go_simp
        with_reducible rfl
      go_simp
      refine wpAnyH_ready (rs := [8]) (by kernel_rfl) (by simp) ?_
      refine AllReadyH.cons rfl (fun K hK => ?_) AllReadyH.nil
      go_simp
      go_at_call 32
      refine (HRE.out _ ba C.length bc).mono ?_
      rintro e vv ⟨rfl, hb⟩
      have HB := Lib.hid (show Below W.heap.size W vv from HB.out.trans (hb.mono HB.out.size))
      clear hb
      change K _ _
      refine hK.out _ _ HB.out (fun _ => ?_)
      clear hK K
      refine wpAnyH_take (i := 9) (v := ?_) rfl (by kernel_rfl) (by kernel_rfl) (by kernel_rfl) (fun _ _ _ h => h) (Or.inl ⟨by rfl, ?_⟩) HB.out ?_
      rotate_left
      · intro w' hw'
        go_simp
        with_reducible rfl
      go_simp
      refine wpAnyH_take (i := 10) (v := ?_) rfl (by kernel_rfl) (by kernel_rfl) (by kernel_rfl) (fun _ _ _ h => h) (Or.inl ⟨by rfl, ?_⟩) HB.out ?_
      rotate_left
      · intro w' hw'
        go_simp
        with_reducible rfl
      go_simp
      refine wpAnyH_take (i := 11) (v := ?_) rfl (by kernel_rfl) (by kernel_rfl) (by kernel_rfl) (fun _ _ _ h => h) (Or.inl ⟨by rfl, ?_⟩) HB.out ?_
      rotate_left
      · intro w' hw'
        go_simp
        with_reducible rfl
      go_simp
      refine wpAnyH_take (i := 12) (v := ?_) rfl (by kernel_rfl) (by kernel_rfl) (by kernel_rfl) (fun _ _ _ h => h) (Or.inl ⟨by rfl, ?_⟩) HB.out ?_
      rotate_left
      · intro w' hw'
        obtain ⟨⟨p0, -, pl⟩, ⟨p1, -, -⟩, ⟨p2, -, -⟩, ⟨p3, -, -⟩, ⟨p4, -, -⟩, ⟨p5, -, -⟩, ⟨p6, -, -⟩⟩ := HY8.out.1.below hw'
        go_simp
        with_reducible rfl
      go_simp
      refine wpAnyH_take (i := 13) (v := ?_) rfl (by kernel_rfl) (by kernel_rfl) (by kernel_rfl) (fun _ _ _ h => h) (Or.inl ⟨by rfl, ?_⟩) HB.out ?_
      rotate_left
      · intro w' hw'
        obtain ⟨a0, -, al⟩ := HQ8.out.f0.below hw'; obtain ⟨a1, -, -⟩ := HQ8.out.f1.below hw'
        go_simp
        with_reducible rfl
      go_simp
      refine wpAnyH_take (i := 14) (v := ?_) rfl (by kernel_rfl) (by kernel_rfl) (by kernel_rfl) (fun _ _ _ h => h) (Or.inl ⟨by rfl, ?_⟩) HB.out ?_
      rotate_left
      · intro w' hw'
        go_simp
        with_reducible rfl
      go_simp
      refine wpAnyH_take (i := 15) (v := ?_) rfl (by kernel_rfl) (by kernel_rfl) (by kernel_rfl) (fun _ _ _ h => h) (Or.inl ⟨by rfl, ?_⟩) HB.out ?_
      rotate_left
      · intro w' hw'
        go_simp
        with_reducible rfl
      go_simp
      refine wpAnyH_take (i := 16) (v := ?_) rfl (by kernel_rfl) (by kernel_rfl) (by kernel_rfl) (fun _ _ _ h => h) (Or.inl ⟨by rfl, ?_⟩) HB.out ?_
      rotate_left
      · intro w' hw'
        go_simp
        with_reducible rfl
      go_simp
      refine wpAnyH_take (i := 17) (v := ?_) rfl (by kernel_rfl) (by kernel_rfl) (by kernel_rfl) (fun _ _ _ h => h) (Or.inl ⟨by rfl, ?_⟩) HB.out ?_
      rotate_left
      · intro w' hw'
        go_simp
        with_reducible rfl
      go_simp
      refine wpAnyH_take (i := 18) (v := ?_) rfl (by kernel_rfl) (by kernel_rfl) (by kernel_rfl) (fun _ _ _ h => h) (Or.inl ⟨by rfl, ?_⟩) HB.out ?_
      rotate_left
      · intro w' hw'
        obtain ⟨⟨p0, -, pl⟩, ⟨p1, -, -⟩, ⟨p2, -, -⟩, ⟨p3, -, -⟩, ⟨p4, -, -⟩, ⟨p5, -, -⟩, ⟨p6, -, -⟩⟩ := HY8.out.1.below hw'
        go_simp
        with_reducible rfl
      go_simp
      refine wpAnyH_take (i := 19) (v := ?_) rfl (by kernel_rfl) (by kernel_rfl) (by kernel_rfl) (fun _ _ _ h => h) (Or.inl ⟨by rfl, ?_⟩) HB.out ?_
      rotate_left
      · intro w' hw'
        obtain ⟨a0, -, al⟩ := HQ8.out.t0.below hw'; obtain ⟨a1, -, -⟩ := HQ8.out.t1.below hw'
        go_simp
        with_reducible rfl
      go_simp
      refine wpAnyH_take (i := 20) (v := ?_) rfl (by kernel_rfl) (by kernel_rfl) (by kernel_rfl) (fun _ _ _ h => h) (Or.inl ⟨by rfl, ?_⟩) HB.out ?_
      rotate_left
      · intro w' hw'
        go_simp
        with_reducible rfl
      go_simp
      refine wpAnyH_take (i := 21) (v := ?_) rfl (by kernel_rfl) (by kernel_rfl) (by kernel_rfl) (fun _ _ _ h => h) (Or.inl ⟨by rfl, ?_⟩) HB.out ?_
      rotate_left
      · intro w' hw'
        go_simp
        with_reducible rfl
      go_simp
      refine wpAnyH_take (i := 22) (v := ?_) rfl (by kernel_rfl) (by kernel_rfl) (by kernel_rfl) (fun _ _ _ h => h) (Or.inl ⟨by rfl, ?_⟩) HB.out ?_
      rotate_left
      · intro w' hw'
        go_simp
        with_reducible rfl
      go_simp
      refine wpAnyH_take (i := 23) (v := ?_) rfl (by kernel_rfl) (by kernel_rfl) (by kernel_rfl) (fun _ _ _ h => h) (Or.inl ⟨by rfl, ?_⟩) HB.out ?_
      rotate_left
      · intro w' hw'
        obtain ⟨⟨p0, -, pl⟩, ⟨p1, -, -⟩, ⟨p2, -, -⟩, ⟨p3, -, -⟩, ⟨p4, -, -⟩, ⟨p5, -, -⟩, ⟨p6, -, -⟩⟩ := HY8.out.1.below hw'
        go_simp
        with_reducible rfl
      go_simp
      refine wpAnyH_take (i := 26) (v := ?_) rfl (by kernel_rfl) (by kernel_rfl) (by kernel_rfl) (fun _ _ _ h => h) (Or.inl ⟨by rfl, ?_⟩) HB.out ?_
      rotate_left
      · intro w' hw'
        obtain ⟨⟨p0, -, pl⟩, ⟨p1, -, -⟩, ⟨p2, -, -⟩, ⟨p3, -, -⟩, ⟨p4, -, -⟩, ⟨p5, -, -⟩, ⟨p6, -, -⟩⟩ := HQ8.out.q.below hw'
        go_simp
        with_reducible rfl
      go_simp
      refine wpAnyH_ready (rs := [24]) (by kernel_rfl) (by simp) ?_
      refine AllReadyH.cons rfl (fun K hK => ?_) AllReadyH.nil
      go_simp
      go_at_call 29
      refine (HBB.out _ _ _ (HY8.out.2.below HB.out)).mono ?_
      rintro e vv ⟨⟨za, zc, rfl, hz⟩, hb⟩
      have HB := Lib.hid (show Below W.heap.size W vv from HB.out.trans (hb.mono HB.out.size))
      have HZ := Lib.hid hz
      clear hz
      clear hb
      change K _ _
      refine hK.out _ _ HB.out (fun _ => ?_)
      clear hK K
      refine wpAnyH_ready (rs := [25]) (by kernel_rfl) (by simp) ?_
      refine AllReadyH.cons rfl (fun K hK => ?_) AllReadyH.nil
      go_simp
      go_at_call 15
      refine (HPL.out _ _ _ HZ.out).mono ?_
      rintro e vv ⟨⟨pv, rfl, hz⟩, hb⟩
      have HB := Lib.hid (show Below W.heap.size W vv from HB.out.trans (hb.mono HB.out.size))
      have HV1 := Lib.hid hz
      clear hz
      clear hb
      change K _ _
      refine hK.out _ _ HB.out (fun _ => ?_)
      clear hK K
      refine wpAnyH_ready (rs := [27]) (by kernel_rfl) (by simp) ?_
      refine AllReadyH.cons rfl (fun K hK => ?_) AllReadyH.nil
      go_simp
      go_at_call 15
      refine (HPL.out _ _ _ (HQ8.out.qe.below HB.out)).mono ?_
      rintro e vv ⟨⟨pw, rfl, hz⟩, hb⟩
      have HB := Lib.hid (show Below W.heap.size W vv from HB.out.trans (hb.mono HB.out.size))
      have HV2 := Lib.hid hz
      replace HV1 := Lib.hid (HV1.out.below hb)
      clear hz
      clear hb
      change K _ _
      refine hK.out _ _ HB.out (fun _ => ?_)
      clear hK K
      refine wpAnyH_ready (rs := [28]) (by kernel_rfl) (by simp) ?_
      refine AllReadyH.cons rfl (fun K hK => ?_) AllReadyH.nil
      go_simp
      go_at_call 22
      refine (sameP_yes pv pw FL _ HFL.out HV1.out HV2.out).mono ?_
      rintro e vv ⟨rfl, hb⟩
      have HB := Lib.hid (show Below W.heap.size W vv from HB.out.trans (hb.mono HB.out.size))
      clear hb
      change K _ _
      refine hK.out _ _ HB.out (fun _ => ?_)
      clear hK K
      refine wpAnyH_take (i := 29) (v := ?_) rfl (by kernel_rfl) (by kernel_rfl) (by kernel_rfl) (fun _ _ _ h => h) (Or.inl ⟨by rfl, ?_⟩) HB.out ?_
      rotate_left
      · intro w' hw'
        go_simp
        with_reducible rfl
      go_simp
      refine wpAnyH_take (i := 30) (v := ?_) rfl (by kernel_rfl) (by kernel_rfl) (by kernel_rfl) (fun _ _ _ h => h) (Or.inl ⟨by rfl, ?_⟩) HB.out ?_
      rotate_left
      · intro w' hw'
        go_simp
        with_reducible rfl
      go_simp
      refine wpAnyH_done (by kernel_rfl) ?_ _
      go_wp2
      go_ret
      exact ⟨rfl, HQ8.out.bel.trans (HB.out.mono HQ8.out.bel.size)⟩
theorem peight_any (fb tb : ByteArray) (fn tn : Int) (a : Option Addr) (cap : Nat) (C : List (ByteArray × Int)) (w : World) (hE : CallsAt w a C) (hf : fb.size ≤ 140737488351232) (ht : tb.size ≤ 140737488351232) (hS : ∀ x ∈ C, x.1.size ≤ 140737488351232) :
    Calls Tryd.prog 6 #[.agg #[.string fb, .int .i64 fn], .agg #[.string tb, .int .i64 tn], .slice a C.length cap] w fun e w' => e = .returned (.bool true) ∧ Below w.heap.size w w' := by
  by_cases h : 30 < C.length
  · exact peight_long fb tb fn tn a C.length cap w h
  · cases hr : rightP ((tb, tn, true) :: (fb, fn, false) :: freshD C)
    · exact peight_not fb tb fn tn a cap C w hE hf ht hS (by omega) hr
    · exact peight_yes fb tb fn tn a cap C w hE hf ht hS hr
end Go.Proofs.YtfmcngchcalcmaaDoor
