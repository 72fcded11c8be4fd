/-
The landed link: what it answers a frame; UA, DM, FRMR, DISC.
The landed code's anew, ahead, Command and Response.
The landed link: New; what one that is down, or isn't there, answers.
The landed code's backward: the calls of digipeaters from behind, as a range over a function meets them.
-/
import Derived.Test.YtgoaepjjegblnaaGreatDoorMix30
import Derived.Test.YtgoaepjjegblnaaGreatDoorMix04
import Derived.Test.YtgoaepjjegblnaaGreatDoorMix14
import Derived.RangeFuncNested
import Derived.RangeFuncBound
import Derived.RangeFuncCalls
import Derived.RangeFuncLeaves
import Derived.Shelf.Abstract
import Derived.Shelf.RegionOpen
import Derived.WalkKit
import Derived.OwnWalkIn
import Derived.TacticsInMore
import Derived.LoopNIn
import Derived.LoopIn
namespace Go.Proofs.YtgoaepjjegblnaaGreatDoor
open Go.RowKit
set_option maxRecDepth 20000
/-- a frame that came -/
structure Fi where
  tb : ByteArray
  tn : Int
  fb : ByteArray
  fn : Int
  tm : Bool
  fm : Bool
  D : List Ent
  kind : Int
  nr : Int
  ns : Int
  pf : Bool
  pid : Int
  info : ByteArray
abbrev fiCells (f : Fi) (a : Option Addr) (c : Nat) : List Value := [.string f.tb, .int .i64 f.tn, .string f.fb, .int .i64 f.fn, .bool f.tm, .bool f.fm, .slice a f.D.length c, .int .i64 f.kind, .int .i64 f.nr, .int .i64 f.ns, .bool f.pf, .int .i64 f.pid, .string f.info]
abbrev fiV (f : Fi) (a : Option Addr) (c : Nat) : Value := .agg #[.string f.tb, .int .i64 f.tn, .string f.fb, .int .i64 f.fn, .bool f.tm, .bool f.fm, .slice a f.D.length c, .int .i64 f.kind, .int .i64 f.nr, .int .i64 f.ns, .bool f.pf, .int .i64 f.pid, .string f.info]
theorem fit_ok {a c : Xq} (wide : Bool) (hc : c.ok = true) : (fitX a c wide).ok = true := by
  have key : ∀ y : Xq, y.ok = true → (⟨wide, wide && y.srej, y.n1, min y.k (mostD wide (wide && y.srej)), y.t1, y.n2⟩ : Xq).ok = true := fun y hy => by
    unfold Xq.ok rightX at hy ⊢
    simp only [Bool.and_eq_true] at hy ⊢
    refine ⟨hy.1, ?_, hy.2.2⟩
    have h1 := (inD_yes hy.2.1).1
    have h2 : (1 : Int) ≤ mostD wide (wide && y.srej) := by cases wide <;> cases y.srej <;> decide
    simp only [inD, Bool.and_eq_true, decide_eq_true_eq]
    omega
  unfold fitX
  simp only
  split
  · rename_i h
    exact key a h
  · exact key c hc
namespace Lk
def answer (s : Lk) (o : Ot) (f : Fi) (kind : Int) : Ot := s.tellPlain xB o false kind f.pf
end Lk
theorem canswer20 (w : World) (p q : Nat) (s : Lk) (o : Ot) (H : Nat → Prop) (f : Fi) (a : Option Addr) (c : Nat) (kind : Int) (h : LO w p q s o H) (hy : s.way.ok) (hc : s.can.ok = true) (hm : o.frames.length ≤ 1000) :
    Calls Tryz.prog 130 #[ptr20 p, ptr20 q, fiV f a c, .int .i64 kind] w (LOTo w p q H s (s.answer o f kind) (.tuple #[])) := by
  have hb := (Below.refl _ w).alloc (Nat.le_refl _) (.cells #[.string f.tb, .int .i64 f.tn, .string f.fb, .int .i64 f.fn, .bool f.tm, .bool f.fm, .slice a f.D.length c, .int .i64 f.kind, .int .i64 f.nr, .int .i64 f.ns, .bool f.pf, .int .i64 f.pid, .string f.info] 74)
  have HT := Lib.hid (ctellPlain20 _ p q s o H false kind f.pf (h.below hb) hy hc hm)
  have HB := Lib.hid hb
  have c0 := (RowAt.new w w.heap.size rfl (fiCells f a c) 74).cell 10 rfl
  clear h hy hc hm hb
  unfold Lk.answer
  go_enter Tryz.func130, Tryz.ntmps130
  go_wp2_with (go_at_call 166; (with_reducible refine HT.out.mono ?_); rintro e w2 ⟨rfl, hq⟩)
  exact bodyPost_end (v := .tuple #[]) (by simp [results, Tryz.results130, go_sem]) rfl (LOTo.then_ ⟨rfl, hq⟩ (Turn.of_below HB.out) (Grew.refl _ _))
end Go.Proofs.YtgoaepjjegblnaaGreatDoor
namespace Go.Proofs.YtgoaepjjegblnaaGreatDoor
open Go.RowKit Go.Sort
set_option maxRecDepth 20000
theorem command_any (tb fb : ByteArray) (tn fn : Int) (tm fm : Bool) (a : Option Addr) (n c : Nat) (w : World) :
    Calls Tryz.prog 65 #[.agg #[.string tb, .int .i64 tn, .string fb, .int .i64 fn, .bool tm, .bool fm, .slice a n c]] w fun e w' => e = .returned (.bool (tm && !fm)) ∧ Below w.heap.size w w' := by
  cases tm <;> cases fm
  all_goals
    go_enter Tryz.func65, Tryz.ntmps65
    go_wp2_with fail
    go_ret
    exact ⟨rfl, (Below.refl _ w).alloc (Nat.le_refl _) _⟩
end Go.Proofs.YtgoaepjjegblnaaGreatDoor
namespace Go.Proofs.YtgoaepjjegblnaaGreatDoor
open Go.RowKit
set_option maxRecDepth 20000
abbrev pthV20 (tb : ByteArray) (tn : Int) (fb : ByteArray) (fn : Int) (tm fm : Bool) (a : Option Addr) (n c : Nat) : Value := .agg #[.string tb, .int .i64 tn, .string fb, .int .i64 fn, .bool tm, .bool fm, .slice a n c]
section
variable (tb fb : ByteArray) (tn fn : Int) (tm fm : Bool) (a : Option Addr) (cap : Nat) (D : List Ent) (can : Xq) (w : World)
theorem right_fresh {x y : Ent} {D : List Ent} (h : rightP (x :: y :: D) = true) : (⟨x.1, x.2.1, y.1, y.2.1, callsD D⟩ : Wy).ok := by
  unfold Wy.ok
  rw [right_cons, Bool.and_eq_true, Bool.and_eq_true, List.all_eq_true] at h ⊢
  refine ⟨⟨?_, ?_⟩, fun e he => ?_⟩
  · have := of_decide_eq_true h.1.1
    exact decide_eq_true (by simpa [freshD, callsD] using this)
  · unfold ordD
    rw [List.all_eq_true]
    intro e he
    have := List.mem_of_mem_drop he
    simp only [freshD, callsD, List.mem_map] at this
    obtain ⟨c, -, rfl⟩ := this
    rfl
  · rcases List.mem_cons.1 he with rfl | he
    · exact h.2 x (by simp)
    · rcases List.mem_cons.1 he with rfl | he
      · exact h.2 y (by simp)
      · simp only [freshD, callsD, List.mem_map] at he
        obtain ⟨c, ⟨e', he', rfl⟩, rfl⟩ := he
        exact h.2 e' (by simp [he'])
def newX (da : Option Addr) (dc : Nat) : Px := ⟨.pointer none, .pointer none, .pointer none, .map none, .pointer none, .map none, .map none, .pointer none, da, dc⟩
def newP (da : Option Addr) : Nat → Nat → Prop := fun i => if i = 8 then fun k => ∃ q, da = some q ∧ q.block = k else fun _ => False
theorem new_done {w : World} {y : Wy} {can : Xq} {da : Option Addr} {dc : Nat} (hE : EntsAt w da dc (freshD y.D)) (hq : ∀ q, da = some q → q.block < w.heap.size) :
    LkAt (w.alloc (.cells (lkRow (newX da dc) (newK y can)).toArray 149)) w.heap.size (newX da dc) (newK y can) (newP da) := by
  refine ⟨RowAt.new w _ rfl _ _, fun i => ?_, fun i j k hi hj => ?_, fun i hi => ?_⟩
  · match i with
    | 0 | 1 | 2 | 4 | 7 => exact ⟨rfl, fun k hk => hk⟩
    | 3 | 5 | 6 => exact ⟨rfl, fun k hk => hk⟩
    | 8 => exact ⟨hE.alloc _, fun q e => by have := hq q e; simp; omega, rfl⟩
    | i + 9 =>
      have : newP da (i + 9) = fun _ => False := if_neg (by omega)
      show ∀ k, ¬ newP da (i + 9) k
      rw [this]
      exact fun k hk => hk
  · unfold newP at hi hj
    by_cases e1 : i = 8
    · by_cases e2 : j = 8
      · rw [e1, e2]
      · rw [if_neg e2] at hj
        exact hj.elim
    · rw [if_neg e1] at hi
      exact hi.elim
  · unfold newP at hi
    split at hi
    · obtain ⟨q, e, hb⟩ := hi
      have := hq q e
      omega
    · exact hi.elim
set_option maxHeartbeats 2000000 in
theorem cnew20_yes (hD : D.length ≤ 1000) (hE : EntsAt w a cap D) (hn : (rightP ((tb, tn, tm) :: (fb, fn, fm) :: D) && (tm && !fm)) = true) (hx : can.ok = true) :
    Calls Tryz.prog 22 #[pthV20 tb tn fb fn tm fm a D.length cap, xV can] w fun e w' => ∃ q, e = .returned (.tuple #[ptr20 q, .int .i64 0]) ∧ ∃ F, LkL w' q (newK ⟨tb, tn, fb, fn, callsD D⟩ can) F ∧ (∀ k, F k → w.heap.size ≤ k) ∧ Below w.heap.size w w' := by
  obtain ⟨w1, hw1⟩ : ∃ w1, w1 = w.alloc (.cells #[.string tb, .int .i64 tn, .string fb, .int .i64 fn, .bool tm, .bool fm, .slice a D.length cap] 57) := ⟨_, rfl⟩
  obtain ⟨w2, hw2⟩ : ∃ w2, w2 = w1.alloc (.cells #[.bool can.wide, .bool can.srej, .int .i64 can.n1, .int .i64 can.k, .int .i64 can.t1, .int .i64 can.n2] 23) := ⟨_, rfl⟩
  have hb1 : Below w.heap.size w w1 := by rw [hw1]; exact (Below.refl _ w).alloc (Nat.le_refl _) _
  have hb2 : Below w.heap.size w w2 := by rw [hw2]; exact hb1.alloc hb1.size _
  have hs1 : w1.heap.size = w.heap.size + 1 := by rw [hw1]; simp
  have hr1 : RowAt w2 w.heap.size [.string tb, .int .i64 tn, .string fb, .int .i64 fn, .bool tm, .bool fm, .slice a D.length cap] := by rw [hw2, hw1]; exact (RowAt.new w w.heap.size rfl [.string tb, .int .i64 tn, .string fb, .int .i64 fn, .bool tm, .bool fm, .slice a D.length cap] 57).alloc _
  have hr2 : RowAt w2 (w.heap.size + 1) [.bool can.wide, .bool can.srej, .int .i64 can.n1, .int .i64 can.k, .int .i64 can.t1, .int .i64 can.n2] := by rw [hw2]; exact RowAt.new w1 _ hs1.symm [.bool can.wide, .bool can.srej, .int .i64 can.n1, .int .i64 can.k, .int .i64 can.t1, .int .i64 can.n2] 23
  have HR1 := Lib.hid hr1
  have HR2 := Lib.hid hr2
  have HB2 := Lib.hid hb2
  have HPR := Lib.hid (pright_any tb fb tn fn tm fm a cap D w2 hD (hE.below hb2))
  have HPC := Lib.hid (fun W => command_any tb fb tn fn tm fm a D.length cap W)
  have HXR := Lib.hid (fun W => xright_any can.wide can.srej can.n1 can.k can.t1 can.n2 W)
  have hwy : (⟨tb, tn, fb, fn, callsD D⟩ : Wy).ok := right_fresh (x := (tb, tn, tm)) (y := (fb, fn, fm)) (by rw [Bool.and_eq_true] at hn; exact hn.1)
  have HAL := Lib.hid (fun W (h : EntsAt W a cap D) => along_any tb fb tn fn tm fm true a cap D W h hwy)
  have HLC := Lib.hid (show (callsD D).length = D.length by simp [callsD])
  generalize hR : rightP ((tb, tn, tm) :: (fb, fn, fm) :: D) = R at *
  generalize hC : (tm && !fm) = C at *
  have c0 := HR1.out.cell 0 rfl
  have c1 := HR1.out.cell 1 rfl
  have c2 := HR1.out.cell 2 rfl
  have c3 := HR1.out.cell 3 rfl
  have c4 := HR1.out.cell 4 rfl
  have c5 := HR1.out.cell 5 rfl
  have c6 := HR1.out.cell 6 rfl
  obtain ⟨rfl, rfl⟩ : R = true ∧ C = true := by simpa using hn
  have HEE := Lib.hid (hE.below hb2)
  clear hE hD hb1 hb2 hr1 hr2
  unfold Xq.ok at hx
  rw [hx] at HXR
  clear hR hC hn hx hwy
  go_enter Tryz.func22, Tryz.ntmps22
  go_upto_region 1 with fail
  rw [← hw1, ← hw2]
  clear hw1 hw2
  go_upto_region 5 with
    (first
        | (go_at_call 64; (with_reducible refine HPR.out.mono ?_); rintro e w3 ⟨rfl, hb⟩; have HB3 := Lib.hid (HB2.out.trans (hb.mono HB2.out.size)); have HQ := Lib.hid (HR1.out.below hb); have HQ2 := Lib.hid (HR2.out.below hb); have HE3 := Lib.hid (HEE.out.below hb); clear hb c0 c1 c2 c3 c4 c5 c6; have c0 := HQ.out.cell 0 rfl; have c1 := HQ.out.cell 1 rfl; have c2 := HQ.out.cell 2 rfl; have c3 := HQ.out.cell 3 rfl; have c4 := HQ.out.cell 4 rfl; have c5 := HQ.out.cell 5 rfl; have c6 := HQ.out.cell 6 rfl)
        | (go_at_call 65; (with_reducible refine (HPC.out _).mono ?_); rintro e w4 ⟨rfl, hb⟩; have HB4 := Lib.hid (HB3.out.trans (hb.mono HB3.out.size)); have HP4 := Lib.hid (HQ.out.below hb); have HX4 := Lib.hid (HQ2.out.below hb); have HE4 := Lib.hid (HE3.out.below hb); clear hb c0 c1 c2 c3 c4 c5 c6; have e0 := HX4.out.cell 0 rfl; have e1 := HX4.out.cell 1 rfl; have e2 := HX4.out.cell 2 rfl; have e3 := HX4.out.cell 3 rfl; have e4 := HX4.out.cell 4 rfl; have e5 := HX4.out.cell 5 rfl)
        | (go_at_call 66; (with_reducible refine (HXR.out _).mono ?_); rintro e w5 ⟨rfl, hb⟩; have HB5 := Lib.hid (HB4.out.trans (hb.mono HB4.out.size)); have HP5 := Lib.hid (HP4.out.below hb); have HX5 := Lib.hid (HX4.out.below hb); have HE5 := Lib.hid (HE4.out.below hb); clear hb e0 e1 e2 e3 e4 e5))
  refine wp_region_held (S := fun W' => Below w5.heap.size w5 W') (by kernel_rfl) ?_
  change wpAnyH _ _ _ _ _ _ _ _ (World.drew _)
  have HB := Lib.hid (show Below w5.heap.size w5 w5.drew from (Below.refl _ _).drew)
  refine wpAnyH_take (i := 0) (v := ?_) rfl (by kernel_rfl) (by kernel_rfl) (by kernel_rfl) (fun _ _ _ h => h) (Or.inl ⟨by rfl, ?_⟩) HB.out ?_
  rotate_left
  · intro w' hw'
    have x0 := (HP5.out.below hw').cell 0 rfl; have x1 := (HP5.out.below hw').cell 1 rfl; have x2 := (HP5.out.below hw').cell 2 rfl; have x3 := (HP5.out.below hw').cell 3 rfl; have x4 := (HP5.out.below hw').cell 4 rfl; have x5 := (HP5.out.below hw').cell 5 rfl; have x6 := (HP5.out.below hw').cell 6 rfl
    go_simp
    with_reducible rfl
  go_simp
  refine wpAnyH_take (i := 2) (v := ?_) rfl (by kernel_rfl) (by kernel_rfl) (by kernel_rfl) (fun _ _ _ h => h) (Or.inl ⟨by rfl, ?_⟩) HB.out ?_
  rotate_left
  · intro w' hw'
    have x0 := (HX5.out.below hw').cell 0 rfl; have x1 := (HX5.out.below hw').cell 1 rfl; have x2 := (HX5.out.below hw').cell 2 rfl; have x3 := (HX5.out.below hw').cell 3 rfl; have x4 := (HX5.out.below hw').cell 4 rfl; have x5 := (HX5.out.below hw').cell 5 rfl
    go_simp
    with_reducible rfl
  go_simp
  refine wpAnyH_ready (rs := [1]) (by kernel_rfl) (by simp) ?_
  refine AllReadyH.cons rfl (fun K hK => ?_) AllReadyH.nil
  go_simp
  go_at_call 67
  refine (HAL.out _ (HE5.out.below (Below.refl _ _).drew)).mono ?_
  rintro e w6 ⟨⟨da, dc, rfl, hE6, hge⟩, hb6⟩
  rw [← HLC.out]
  have HE6 := Lib.hid hE6
  have HGE := Lib.hid hge
  clear HB
  have HB := Lib.hid (show Below w5.heap.size w5 w6 from (Below.refl _ w5).drew.trans hb6)
  clear hE6 hge hb6
  change K _ _
  refine hK.out _ _ HB.out (fun _ => ?_)
  clear hK K
  refine wpAnyH_take (i := 3) (v := ?_) rfl (by kernel_rfl) (by kernel_rfl) (by kernel_rfl) (fun _ _ _ h => h) (Or.inl ⟨by rfl, ?_⟩) HB.out ?_
  rotate_left
  · intro w' hw'
    go_simp
    with_reducible rfl
  go_simp
  refine wpAnyH_ready (rs := [4]) (by kernel_rfl) (by simp) ?_
  refine AllReadyH.cons rfl (fun K hK => ?_) AllReadyH.nil
  go_simp
  have HL7 := Lib.hid (new_done (y := ⟨tb, tn, fb, fn, callsD D⟩) (can := can) HE6.out fun q e => (HGE.out q e).2)
  have HB7 := Lib.hid (show Below w.heap.size w (w6.alloc (.cells (lkRow (newX da dc) (newK ⟨tb, tn, fb, fn, callsD D⟩ can)).toArray 149)) from ((HB5.out.trans (HB.out.mono HB5.out.size)).alloc (Nat.le_trans HB5.out.size HB.out.size) _))
  have HS7 := Lib.hid (Nat.le_trans HB5.out.size HB.out.size)
  replace HB := Lib.hid (show Below w5.heap.size w5 (w6.alloc (.cells (lkRow (newX da dc) (newK ⟨tb, tn, fb, fn, callsD D⟩ can)).toArray 149)) from HB.out.alloc HB.out.size _)
  refine hK.out _ _ HB.out (fun _ => ?_)
  clear hK K
  refine wpAnyH_take (i := 5) (v := ?_) rfl (by kernel_rfl) (by kernel_rfl) (by kernel_rfl) (fun _ _ _ h => h) (Or.inl ⟨by rfl, ?_⟩) HB.out ?_
  rotate_left
  · intro w' hw'
    go_simp
    with_reducible rfl
  go_simp
  refine wpAnyH_take (i := 6) (v := ?_) rfl (by kernel_rfl) (by kernel_rfl) (by kernel_rfl) (fun _ _ _ h => h) (Or.inl ⟨by rfl, ?_⟩) HB.out ?_
  rotate_left
  · intro w' hw'
    go_simp
    with_reducible rfl
  go_simp
  refine wpAnyH_done (by kernel_rfl) ?_ _
  go_wp2_with fail
  refine bodyPost_ret (v := .tuple #[ptr20 w6.heap.size, .int .i64 0]) (by simp [results, Tryz.results22, go_sem]) rfl ⟨w6.heap.size, rfl, _, ⟨_, _, HL7.out, rfl⟩, ?_, HB7.out⟩
  rintro k (rfl | ⟨i, hi⟩)
  · exact HS7.out
  · unfold newP at hi
    split at hi
    · obtain ⟨q, e, rfl⟩ := hi
      exact Nat.le_trans HB5.out.size (HGE.out q e).1
    · exact hi.elim
end
end Go.Proofs.YtgoaepjjegblnaaGreatDoor
namespace Go.Proofs.YtgoaepjjegblnaaGreatDoor
open Go.RowKit Go.Shelf
attribute [local go_sem] Oper.semAt_some
set_option maxRecDepth 20000
/-- a call whose letters lie within the reach -/
abbrev BC := { c : ByteArray × Int // c.1.size ≤ 140737488351232 }
instance : Inhabited BC := ⟨⟨(ByteArray.empty, 0), by decide⟩⟩
def bcV (x : BC) : Array Value := #[.agg #[.string x.1.1, .int .i64 x.1.2]]
/-- the calls of a slice's entries, from behind -/
def bcOf (D : List Ent) (hS : ∀ e ∈ D, e.1.size ≤ 140737488351232) : List BC := (D.attach.map fun e => (⟨(e.1.1, e.1.2.1), hS e.1 e.2⟩ : BC)).reverse
theorem bcOf_len (D : List Ent) (hS) : (bcOf D hS).length = D.length := by simp [bcOf]
theorem bcOf_at (D : List Ent) (hS) (k : Nat) (h : k < D.length) : (bcOf D hS)[k]'(by rw [bcOf_len]; exact h) = ⟨((D[D.length - 1 - k]'(by omega)).1, (D[D.length - 1 - k]'(by omega)).2.1), hS _ (List.getElem_mem _)⟩ := by
  simp [bcOf]
set_option maxHeartbeats 1000000 in
theorem back1_in (F : Fence) (n : Nat) (h7 : F.fn 211) (hro : F.round = none) (hn : 1 ≤ n) (l Bs : Nat) (Kp : World → World → Prop) (hKt : ∀ {A B C : World}, Kp A B → Kp B C → Kp A C) (a : Option Addr) (cap : Nat) (D : List Ent) (hS : ∀ e ∈ D, e.1.size ≤ 140737488351232) (hD : D.length ≤ 1000) (J Jx : List BC → World → Prop)
    (hY : ∀ pre x W, J pre W → pre.length < D.length → YieldAt F (n - 1) Tryz.prog l (bcV x) W fun e W' =>
      (e = .returned (.bool true) ∧ J (pre ++ [x]) W' ∧ Kp W W') ∨ (e = .returned (.bool false) ∧ Jx (pre ++ [x]) W'))
    (W : World) (hKr : Kp W W) (hc : ∀ W', Kp W W' → EntsAt W' a cap D ∧ W'.cell? ⟨Bs, 0, none⟩ = some (.slice a D.length cap)) (h0 : J [] W) :
    CallsIn F n Tryz.prog 211 #[.func (.yield l) #[] #[], .pointer (some ⟨Bs, 0, none⟩)] W fun e W' => (∃ v, e = .returned v) ∧
      ((∃ ys, ys = bcOf D hS ∧ J ys W') ∨ (∃ pre, (∃ k, pre = (bcOf D hS).take k) ∧ Jx pre W')) := by
  refine callsIn_of_wp Tryz.func211 rfl h7 ?_ hro
  simp only [Tryz.ntmps211, List.size_toArray, List.length_cons, List.length_nil, Nat.reduceAdd, Nat.reduceSub, Array.replicate_succ, Array.replicate_zero, List.push_toArray, List.append_toArray, List.nil_append, List.cons_append]
  have hB0 := (hc W hKr).2
  gi_wp2
  clear hB0
  gi_loopw [3] (fun i wr => ∃ p : Nat, p ≤ D.length ∧ i = .int .i64 ((p : Int) - 1) ∧ J ((bcOf D hS).take (D.length - p)) wr ∧ Kp W wr)
    (fun i _ => (intOf i + 1).toNat)
  case atStart => exact ⟨D.length, Nat.le_refl _, rfl, by rw [Nat.sub_self]; exact h0, hKr⟩
  case round =>
    obtain ⟨p, hp, rfl, hJs, hnx⟩ := hrel
    by_cases hz : p = 0
    · subst hz
      have dk : decide ((0 : Int) ≤ ((0 : Nat) : Int) - 1) = false := by decide
      gi_wp2
      go_end0
      exact ⟨⟨_, rfl⟩, .inl ⟨_, rfl, by rw [Nat.sub_zero, List.take_of_length_le (by rw [bcOf_len]; exact Nat.le_refl _)] at hJs; exact hJs⟩⟩
    · obtain ⟨q, rfl⟩ : ∃ q, p = q + 1 := ⟨p - 1, by omega⟩
      rw [show (((q + 1 : Nat) : Int) - 1) = (q : Int) from by omega]
      have dk : decide ((0 : Int) ≤ (q : Int)) = true := decide_eq_true (by omega)
      obtain ⟨g, o, hag, hg, c0, c1, -⟩ := (hc wr hnx).1.at_ q (by omega)
      subst hag
      have hx : (bcOf D hS)[D.length - (q + 1)]'(by rw [bcOf_len]; omega) = ⟨(D[q].1, D[q].2.1), hS _ (List.getElem_mem _)⟩ := by
        rw [bcOf_at D hS (D.length - (q + 1)) (by omega)]
        have e : D.length - 1 - (D.length - (q + 1)) = q := by omega
        simp only [e]
      have hT : (bcOf D hS).take (D.length - q) = (bcOf D hS).take (D.length - (q + 1)) ++ [⟨(D[q].1, D[q].2.1), hS _ (List.getElem_mem _)⟩] := by
        rw [← hx, show D.length - q = D.length - (q + 1) + 1 from by omega, List.take_succ_eq_append_getElem]
      have hsz : D[q].1.size ≤ 140737488351232 := hS _ (List.getElem_mem _)
      obtain ⟨fn, tmps, assign, body, hy, hR⟩ := hY _ ⟨(D[q].1, D[q].2.1), hsz⟩ wr hJs (by rw [List.length_take]; omega)
      dsimp only [bcV] at hy
      rw [← hT] at hR
      have hbs := (hc wr hnx).2
      have bq : (q : Int) < (D.length : Int) := by omega
      clear hT hx hsz
      generalize D[q].1 = xb at *
      generalize D[q].2.1 = xn at *
      gi_wp2
      refine hR.mono ?_
      rintro e W3 (⟨rfl, hJ3, hk3⟩ | ⟨rfl, hJx3⟩)
      · gi_wp2
        go_roundw
        case rel => exact ⟨q, by omega, rfl, hJ3, hKt hnx hk3⟩
        case measure => simp [intOf]
      · gi_wp2
        refine bodyPost_ret (results_none rfl _ _ _) rfl ?_
        exact ⟨⟨_, rfl⟩, .inr ⟨_, ⟨_, rfl⟩, hJx3⟩⟩
theorem backward_in (F : Fence) (n : Nat) (h5 : F.fn 176) (hro : F.round = none) (a : Option Addr) (k cap : Nat) (w : World) :
    CallsIn F n Tryz.prog 176 #[.slice a k cap] w fun e w' => e = .returned (.func (.func 211) #[] #[.pointer (some ⟨w.heap.size, 0, none⟩)]) ∧ w' = w.alloc (.cells #[.slice a k cap] 55) := by
  refine callsIn_of_wp Tryz.func176 rfl h5 ?_ hro
  simp only [Tryz.ntmps176, List.size_toArray, List.length_cons, List.length_nil, Nat.reduceAdd, Nat.reduceSub, Array.replicate_succ, Array.replicate_zero, List.push_toArray, List.append_toArray, List.nil_append, List.cons_append]
  gi_wp2
  go_ret
  exact ⟨rfl, rfl⟩
/-- what a round keeps: what lay at the call, and the captured slice's box -/
def KB (n₀ Bs : Nat) (W W' : World) : Prop := Below n₀ W W' ∧ W'.heap[Bs]? = W.heap[Bs]?
theorem KB.refl (n₀ Bs : Nat) (W : World) : KB n₀ Bs W W := ⟨Below.refl _ _, rfl⟩
theorem KB.trans {n₀ Bs : Nat} {A B C : World} (h : KB n₀ Bs A B) (h' : KB n₀ Bs B C) : KB n₀ Bs A C := ⟨h.1.trans h'.1, h'.2.trans h.2⟩
theorem back_stops (F : Fence) (n : Nat) (h7 : F.fn 211) (hro : F.round = none) (hn : 1 ≤ n) (Bs n₀ : Nat) (a : Option Addr) (cap : Nat) (D : List Ent) (hS : ∀ e ∈ D, e.1.size ≤ 140737488351232) (hD : D.length ≤ 1000) (w0 w : World) (hBs : Bs < w.heap.size) (h0 : w0.heap.size = n₀) (hE : EntsAt w0 a cap D) (hb : Below n₀ w0 w)
    (hc : w.cell? ⟨Bs, 0, none⟩ = some (.slice a D.length cap)) :
    SeqStopsK F n Tryz.prog 211 #[.pointer (some ⟨Bs, 0, none⟩)] bcV (KB n₀ Bs) (fun ys => ys = bcOf D hS) (fun _ => True) D.length w := fun l J Jx W hW _ _ hY hJ0 => by
  subst h0
  refine (back1_in F n h7 hro hn l Bs (KB w0.heap.size Bs) (fun h h' => h.trans h') a cap D hS hD J Jx hY W (KB.refl _ _ _) (fun W' hk => ⟨hE.below (hb.trans ((hW.mono hb.size).trans hk.1)), ?_⟩) hJ0).mono ?_
  · have h1 := (hW.cell (p := ⟨Bs, 0, none⟩) hBs).trans hc
    unfold World.cell? at h1 ⊢
    rw [hk.2]
    exact h1
  · rintro e W' ⟨he, h⟩
    refine ⟨he, ?_⟩
    rcases h with ⟨ys, hy, hj⟩ | ⟨pre, _, hj⟩
    · exact .inl ⟨ys, hy, hj⟩
    · exact .inr ⟨pre, trivial, hj⟩
end Go.Proofs.YtgoaepjjegblnaaGreatDoor
