/-
How a link lies: its cells in a row, and its parts, each in blocks of its own; an answer of it that grows.
The landed link's timers.
The landed link: what it tells of itself.
-/
import Derived.Test.YtgoaepjjegblnaaGreatDoorMix08
import Derived.Test.YtgoaepjjegblnaaGreatDoorMix09
import Derived.IntWalk
import Derived.Lib.QuietBelow
namespace Go.Proofs.YtgoaepjjegblnaaGreatDoor
open Go.RowKit
set_option maxRecDepth 20000
/-- the pointers in it -/
structure Px where
  an : Value
  bo : Value
  ou : Value
  op : Value
  nn : Value
  ke : Value
  sk : Value
  ga : Value
  wa : Option Addr
  wc : Nat
abbrev xCells (p : Xq) : List Value := [.bool p.wide, .bool p.srej, .int .i64 p.n1, .int .i64 p.k, .int .i64 p.t1, .int .i64 p.n2]
abbrev xV (p : Xq) : Value := .agg #[.bool p.wide, .bool p.srej, .int .i64 p.n1, .int .i64 p.k, .int .i64 p.t1, .int .i64 p.n2]
abbrev wyV (y : Wy) (a : Option Addr) (c : Nat) : Value := .agg #[.string y.tb, .int .i64 y.tn, .string y.fb, .int .i64 y.fn, .bool true, .bool false, .slice a y.D.length c]
def lkRow (x : Px) (s : Lk) : List Value :=
  [x.an, .int .i64 s.t1, .int .i64 s.t3, .int .i64 s.ran, .int .i64 s.tries,
   x.bo, x.ou, x.op, .bool s.busy, .bool s.polling,
   x.nn, x.ke, x.sk, .bool s.rejected, x.ga, .bool s.held,
   .string s.way.tb, .int .i64 s.way.tn, .string s.way.fb, .int .i64 s.way.fn, .bool true, .bool false, .slice x.wa s.way.D.length x.wc,
   .bool s.can.wide, .bool s.can.srej, .int .i64 s.can.n1, .int .i64 s.can.k, .int .i64 s.can.t1, .int .i64 s.can.n2,
   .bool s.agreed.wide, .bool s.agreed.srej, .int .i64 s.agreed.n1, .int .i64 s.agreed.k, .int .i64 s.agreed.t1, .int .i64 s.agreed.n2,
   .bool s.holds.wide, .bool s.holds.srej, .int .i64 s.holds.n1, .int .i64 s.holds.k, .int .i64 s.holds.t1, .int .i64 s.holds.n2,
   .int .i64 s.state, .int .i64 s.asks, .bool s.wasUp,
   .int .i64 s.told, .int .i64 s.again, .int .i64 s.came, .int .i64 s.dropped, .int .i64 s.polls]
abbrev ptr20 (p : Nat) : Value := .pointer (some ⟨p, 0, none⟩)
/-- a part behind a pointer, or none -/
def OptP {α : Type} (R : α → World → Nat → (Nat → Prop) → Prop) (v : Value) (a : Option α) (w : World) (F : Nat → Prop) : Prop :=
  match a with
  | none => v = .pointer none ∧ ∀ k, ¬ F k
  | some a => ∃ p, v = ptr20 p ∧ R a w p F
/-- a map, or none -/
def OptM {α : Type} (E : Melt α) (v : Value) (a : Option (Nat → Option α)) (w : World) (F : Nat → Prop) : Prop :=
  match a with
  | none => v = .map none ∧ ∀ k, ¬ F k
  | some M => ∃ m, v = .map (some m) ∧ MapAt E w m M ∧ F = fun k => k = m
def ansR (a : Sm) (w : World) (p : Nat) (F : Nat → Prop) : Prop := (RowAt w p (smV a) ∧ F = fun k => k = p) ∧ a.ok
def gaR (g : Gs) (w : World) (p : Nat) (F : Nat → Prop) : Prop := (RowAt w p (csV g) ∧ F = fun k => k = p) ∧ GOk g
def WayR (a : Option Addr) (c : Nat) (D : List (ByteArray × Int)) (w : World) (F : Nat → Prop) : Prop := EntsAt w a c (freshD D) ∧ (∀ q, a = some q → q.block < w.heap.size) ∧ F = fun k => ∃ q, a = some q ∧ q.block = k
/-- what lies in which part -/
def Cp (x : Px) (s : Lk) : Nat → World → (Nat → Prop) → Prop
  | 0 => OptP ansR x.an s.ans
  | 1 => OptP (fun b w p F => boL w p s.holds.n1 b F ∧ BOk b) x.bo (s.up.map (·.box))
  | 2 => OptP (fun o w p F => OutL w p (modX s.holds) s.holds.k o F ∧ SoOk (modX s.holds) s.holds.k o) x.ou (s.up.map (·.outs))
  | 3 => OptM eltP x.op (s.up.map (·.opn))
  | 4 => OptP (fun t w p F => InL w p (modX s.holds) (aheadX s.holds) t F ∧ TiOk (modX s.holds) (aheadX s.holds) t) x.nn (s.up.map (·.ins))
  | 5 => OptM eltP x.ke (s.up.map (·.kept))
  | 6 => OptM eltU x.sk (s.up.map (·.asked))
  | 7 => OptP gaR x.ga (s.up.map (·.ga))
  | 8 => WayR x.wa x.wc s.way.D
  | _ => fun _ F => ∀ k, ¬ F k
section
variable {α : Type} {R : α → World → Nat → (Nat → Prop) → Prop} {E : Melt α} {v : Value} {w w' : World} {F : Nat → Prop}
theorem OptP.mem {a : Option α} (hR : ∀ a w p F, R a w p F → ∀ k, F k → k < w.heap.size) (h : OptP R v a w F) : ∀ k, F k → k < w.heap.size := by
  cases a with
  | none => exact fun k hk => absurd hk (h.2 k)
  | some a =>
    obtain ⟨p, -, hr⟩ := h
    exact hR _ _ _ _ hr
theorem OptP.stay {a : Option α} (hR : ∀ a w w' p F, R a w p F → SameOn F w w' → R a w' p F) (h : OptP R v a w F) (hs : SameOn F w w') : OptP R v a w' F := by
  cases a with
  | none => exact h
  | some a =>
    obtain ⟨p, hv, hr⟩ := h
    exact ⟨p, hv, hR _ _ _ _ _ hr hs⟩
theorem OptM.mem {a : Option (Nat → Option α)} (h : OptM E v a w F) : ∀ k, F k → k < w.heap.size := by
  cases a with
  | none => exact fun k hk => absurd hk (h.2 k)
  | some a =>
    obtain ⟨p, -, hr, rfl⟩ := h
    rintro k rfl
    exact hr.lt
theorem OptM.stay {a : Option (Nat → Option α)} (h : OptM E v a w F) (hs : SameOn F w w') : OptM E v a w' F := by
  cases a with
  | none => exact h
  | some a =>
    obtain ⟨p, hv, hr, rfl⟩ := h
    exact ⟨p, hv, hr.same (hs.2 p rfl), rfl⟩
theorem row_stay {L : List Value} {p : Nat} (h : RowAt w p L ∧ F = fun k => k = p) (hs : SameOn F w w') : RowAt w' p L ∧ F = fun k => k = p :=
  ⟨h.1.block (hs.2 p (by rw [h.2])) hs.1, h.2⟩
theorem WayR.stay {a : Option Addr} {c : Nat} {D : List (ByteArray × Int)} (h : WayR a c D w F) (hs : SameOn F w w') : WayR a c D w' F := by
  obtain ⟨h1, h2, rfl⟩ := h
  exact ⟨h1.same (fun q hq => hs.2 _ ⟨q, hq, rfl⟩) hs.1, fun q hq => Nat.lt_of_lt_of_le (h2 q hq) hs.1, rfl⟩
end
section
variable {x x' : Px} {s s' : Lk} {w w' : World} {p : Nat} {P P' : Nat → Nat → Prop}
theorem Cp.mem {i : Nat} {F : Nat → Prop} (h : Cp x s i w F) : ∀ k, F k → k < w.heap.size := by
  unfold Cp at h
  split at h
  · exact OptP.mem (fun a w p F hr k hk => by rw [hr.1.2] at hk; rw [hk]; exact RowAt.lt (v := .int .i64 a.srt) hr.1.1) h
  · exact OptP.mem (fun a w p F hr => bo_mem hr.1) h
  · exact OptP.mem (fun a w p F hr => out_mem hr.1) h
  · exact OptM.mem h
  · exact OptP.mem (fun a w p F hr => in_mem hr.1) h
  · exact OptM.mem h
  · exact OptM.mem h
  · exact OptP.mem (fun a w p F hr k hk => by rw [hr.1.2] at hk; rw [hk]; exact RowAt.lt (v := .int .i64 a.left) hr.1.1) h
  · obtain ⟨h1, h2, rfl⟩ := h
    rintro k ⟨q, hq, rfl⟩
    exact h2 q hq
  · exact fun k hk => absurd hk (h k)
theorem Cp.stay {i : Nat} {F : Nat → Prop} (h : Cp x s i w F) (hs : SameOn F w w') : Cp x s i w' F := by
  unfold Cp at h ⊢
  split at h
  · exact OptP.stay (fun a w w' p F hr hs => ⟨row_stay hr.1 hs, hr.2⟩) h hs
  · exact OptP.stay (fun a w w' p F hr hs => ⟨bo_stay hr.1 hs, hr.2⟩) h hs
  · exact OptP.stay (fun a w w' p F hr hs => ⟨out_stay hr.1 hs, hr.2⟩) h hs
  · exact OptM.stay h hs
  · exact OptP.stay (fun a w w' p F hr hs => ⟨in_stay hr.1 hs, hr.2⟩) h hs
  · exact OptM.stay h hs
  · exact OptM.stay h hs
  · exact OptP.stay (fun a w w' p F hr hs => ⟨row_stay hr.1 hs, hr.2⟩) h hs
  · exact WayR.stay h hs
  · exact h
/-- how a link lies -/
structure LkAt (w : World) (p : Nat) (x : Px) (s : Lk) (P : Nat → Nat → Prop) : Prop where
  row : RowAt w p (lkRow x s)
  comp : ∀ i, Cp x s i w (P i)
  apart : ∀ i j k, P i k → P j k → i = j
  off : ∀ i, ¬ P i p
def footK (p : Nat) (P : Nat → Nat → Prop) : Nat → Prop := fun k => k = p ∨ ∃ i, P i k
theorem LkAt.lt (h : LkAt w p x s P) : p < w.heap.size := RowAt.lt (v := x.an) h.row
theorem LkAt.mem (h : LkAt w p x s P) : ∀ k, footK p P k → k < w.heap.size := by
  rintro k (rfl | ⟨i, hk⟩)
  · exact h.lt
  · exact (h.comp i).mem k hk
theorem LkAt.stay (h : LkAt w p x s P) (hs : SameOn (footK p P) w w') : LkAt w' p x s P :=
  ⟨h.row.block (hs.2 p (Or.inl rfl)) hs.1, fun i => (h.comp i).stay ⟨hs.1, fun k hk => hs.2 k (Or.inr ⟨i, hk⟩)⟩, h.apart, h.off⟩
theorem LkAt.below (h : LkAt w p x s P) (hb : Below w.heap.size w w') : LkAt w' p x s P := h.stay (SameOn.of_below hb h.mem)
/-- parts become other ones -/
theorem LkAt.move (h : LkAt w p x s P) (hr : RowAt w' p (lkRow x' s')) (hc : ∀ i, Cp x' s' i w' (P' i)) (hg : ∀ i, Grew (P i) (P' i) w) (hn : ∀ i j k, w.heap.size ≤ k → P' i k → P' j k → i = j) : LkAt w' p x' s' P' := by
  refine ⟨hr, hc, fun i j k hi hj => ?_, fun i hi => ?_⟩
  · by_cases hk : w.heap.size ≤ k
    · exact hn i j k hk hi hj
    · exact h.apart i j k ((hg i k hi).resolve_right hk) ((hg j k hj).resolve_right hk)
  · have := h.lt
    exact (hg i p hi).elim (h.off i) (fun hge => by omega)
theorem foot_grew (hg : ∀ i, Grew (P i) (P' i) w) : Grew (footK p P) (footK p P') w := by
  rintro k (rfl | ⟨i, hk⟩)
  · exact Or.inl (Or.inl rfl)
  · exact (hg i k hk).imp (fun h => Or.inr ⟨i, h⟩) id
/-- one cell is written -/
theorem LkAt.set (h : LkAt w p x s P) (j : Nat) (v : Value) (hr : lkRow x s' = (lkRow x s).set j v) (hc : ∀ i, Cp x s' i = Cp x s i) : LkAt (w.setCell ⟨p, j, none⟩ v) p x s' P ∧ Turn (footK p P) w (w.setCell ⟨p, j, none⟩ v) :=
  ⟨⟨h.row.put j v _ hr, fun i => by
    rw [hc i]
    exact (h.comp i).stay (SameOn.of_set (p := ⟨p, j, none⟩) (h.off i) v), h.apart, h.off⟩, (Turn.refl _ w).set (p := ⟨p, j, none⟩) (Or.inl (Or.inl rfl)) v⟩
def updP (P : Nat → Nat → Prop) (i : Nat) (F : Nat → Prop) : Nat → Nat → Prop := fun j => if j = i then F else P j
theorem updP_at (i : Nat) (F : Nat → Prop) : updP P i F i = F := if_pos rfl
theorem updP_off {i j : Nat} (F : Nat → Prop) (h : j ≠ i) : updP P i F j = P j := if_neg h
/-- a part becomes a new one, and a cell tells where -/
theorem LkAt.put (h : LkAt w p x s P) (i j : Nat) (v : Value) {w1 : World} (hb : Below w.heap.size w w1) {F' : Nat → Prop} (hr : lkRow x' s' = (lkRow x s).set j v) (hi : Cp x' s' i w1 F') (hF : ∀ k, F' k → w.heap.size ≤ k) (hc : ∀ k, k ≠ i → Cp x' s' k = Cp x s k) :
    LkAt (w1.setCell ⟨p, j, none⟩ v) p x' s' (updP P i F') ∧ Turn (footK p P) w (w1.setCell ⟨p, j, none⟩ v) ∧ Grew (footK p P) (footK p (updP P i F')) w := by
  have hp := h.lt
  have hG : ∀ k, Grew (P k) (updP P i F' k) w := fun k => by
    by_cases e : k = i
    · rw [e, updP_at]; exact fun b hb => Or.inr (hF b hb)
    · rw [updP_off F' e]; exact Grew.refl _ _
  have hs : ∀ (F : Nat → Prop), ¬ F p → SameOn F w1 (w1.setCell ⟨p, j, none⟩ v) := fun F hF => SameOn.of_set (p := ⟨p, j, none⟩) hF v
  refine ⟨h.move ((h.row.below hb).put j v _ hr) (fun k => ?_) hG (fun a b k hk ha hb' => ?_), ((Turn.of_below hb : Turn (footK p P) w w1).set (p := ⟨p, j, none⟩) (Or.inl (Or.inl rfl)) v), foot_grew hG⟩
  · by_cases e : k = i
    · subst e
      rw [updP_at]
      exact hi.stay (hs _ fun hk => by have := hF p hk; omega)
    · rw [updP_off F' e, hc k e]
      exact ((h.comp k).stay (SameOn.of_below hb (h.comp k).mem)).stay (hs _ (h.off k))
  · have old : ∀ c, c ≠ i → ¬ updP P i F' c k := fun c hc' hk' => by
      rw [updP_off F' hc'] at hk'
      have := (h.comp c).mem k hk'
      omega
    by_cases ea : a = i
    · by_cases eb : b = i
      · rw [ea, eb]
      · exact absurd hb' (old b eb)
    · exact absurd ha (old a ea)
/-- the same, its letters closed -/
def LkL (w : World) (p : Nat) (s : Lk) (F : Nat → Prop) : Prop := ∃ x P, LkAt w p x s P ∧ F = footK p P
theorem LkL.mem {F : Nat → Prop} (h : LkL w p s F) : ∀ k, F k → k < w.heap.size := by
  obtain ⟨x, P, h, rfl⟩ := h
  exact h.mem
theorem LkL.stay {F : Nat → Prop} (h : LkL w p s F) (hs : SameOn F w w') : LkL w' p s F := by
  obtain ⟨x, P, h, rfl⟩ := h
  exact ⟨x, P, h.stay hs, rfl⟩
theorem LkL.below {F : Nat → Prop} (h : LkL w p s F) (hb : Below w.heap.size w w') : LkL w' p s F := h.stay (SameOn.of_below hb h.mem)
theorem LkL.drew {F : Nat → Prop} (h : LkL w p s F) : LkL w.drew p s F := h.stay ⟨Nat.le_refl _, fun _ _ => rfl⟩
/-- what a step of the link alone leaves -/
def LkTo (w : World) (p : Nat) (F : Nat → Prop) (s' : Lk) (v : Value) (e : Ending) (w' : World) : Prop := e = .returned v ∧ ∃ F', LkL w' p s' F' ∧ Turn F w w' ∧ Grew F F' w
end
end Go.Proofs.YtgoaepjjegblnaaGreatDoor
namespace Go.Proofs.YtgoaepjjegblnaaGreatDoor
open Go.RowKit
set_option maxRecDepth 20000
theorem clearn20 (w : World) (p : Nat) (s : Lk) (F : Nat → Prop) (t : Int) (h : LkL w p s F) : Calls Tryz.prog 70 #[ptr20 p, .int .i64 t] w (LkTo w p F (s.learn t) (.tuple #[])) := by
  obtain ⟨x, P, h, rfl⟩ := h
  have HN := Lib.hid (fun W => cnew_any t W)
  have hb := (Below.refl w.heap.size w).alloc (Nat.le_refl _) (.cells #[.int .i64 (Sm.new t).srt, .int .i64 (Sm.new t).t1] 241)
  obtain ⟨h1, h2, h3⟩ := h.put (x' := { x with an := ptr20 w.heap.size }) (s' := s.learn t) 0 0 (ptr20 w.heap.size) hb rfl (show Cp _ _ 0 _ (fun k => k = w.heap.size) from ⟨w.heap.size, rfl, ⟨cnew_row t w, rfl⟩, Sm.new_ok t⟩) (fun k hk => by rw [hk]; exact Nat.le_refl _) (fun k hk => by match k, hk with | 0, hk => exact absurd rfl hk | 1, _ | 2, _ | 3, _ | 4, _ | 5, _ | 6, _ | 7, _ | 8, _ | k + 9, _ => rfl)
  obtain ⟨c0, f0, -⟩ := (h.row.below hb).get 0 rfl
  have HE := Lib.hid (show LkTo w p (footK p P) (s.learn t) (.tuple #[]) (.returned (.tuple #[])) _ from ⟨rfl, _, ⟨_, _, h1, rfl⟩, h2, h3⟩)
  clear h1 h2 h3 hb h
  go_enter Tryz.func70, Tryz.ntmps70
  go_wp2_with (go_at_call 119; (with_reducible refine (HN.out _).mono ?_); rintro e w1 ⟨rfl, rfl⟩)
  exact bodyPost_end (v := .tuple #[]) (by simp [results, Tryz.results70, go_sem]) rfl HE.out
theorem cT1_20 {w : World} {p : Nat} {s : Lk} (x : Px) (P : Nat → Nat → Prop) (h : LkAt w p x s P) (W : World) (hs : SameOn (footK p P) w W) : Calls Tryz.prog 165 #[x.an] W fun e w' => e = .returned (.int .i64 (ansT s.ans)) ∧ w' = W := by
  have h0 : OptP ansR x.an s.ans W (P 0) := (h.stay hs).comp 0
  cases ha : s.ans with
  | none =>
    rw [ha] at h0
    rw [h0.1]
    exact ct1_nil W
  | some a =>
    rw [ha] at h0
    obtain ⟨q, hv, ⟨hr, -⟩, hok⟩ := h0
    rw [hv]
    exact ct1_any q a W hr hok
/-- cells of a link are written one behind the other -/
structure Wr (w : World) (p : Nat) (x : Px) (P : Nat → Nat → Prop) (s' : Lk) (W : World) : Prop where
  at_ : LkAt W p x s' P
  turn : Turn (footK p P) w W
theorem Wr.start {w : World} {p : Nat} {x : Px} {P : Nat → Nat → Prop} {s : Lk} (h : LkAt w p x s P) : Wr w p x P s w := ⟨h, Turn.refl _ _⟩
theorem Wr.set {w W : World} {p : Nat} {x : Px} {P : Nat → Nat → Prop} {s s' : Lk} (h : Wr w p x P s W) (j : Nat) (v : Value) (hr : lkRow x s' = (lkRow x s).set j v) (hc : ∀ i, Cp x s' i = Cp x s i) : Wr w p x P s' (W.setCell ⟨p, j, none⟩ v) :=
  ⟨(h.at_.set j v hr hc).1, h.turn.trans (h.at_.set j v hr hc).2 (Grew.refl _ _)⟩
theorem Wr.to {w W : World} {p : Nat} {x : Px} {P : Nat → Nat → Prop} {s' : Lk} (h : Wr w p x P s' W) (v : Value) : LkTo w p (footK p P) s' v (.returned v) W := ⟨rfl, _, ⟨x, P, h.at_, rfl⟩, h.turn, Grew.refl _ _⟩
theorem cstart20 (w : World) (p : Nat) (s : Lk) (F : Nat → Prop) (h : LkL w p s F) : Calls Tryz.prog 113 #[ptr20 p] w (LkTo w p F s.start (.tuple #[])) := by
  obtain ⟨x, P, h, rfl⟩ := h
  have HT := Lib.hid (cT1_20 x P h w ⟨Nat.le_refl _, fun _ _ => rfl⟩)
  have c0 := h.row.cell 0 rfl
  obtain ⟨c1, f1, -⟩ := h.row.get 1 rfl
  obtain ⟨c2, f2, -⟩ := h.row.get 2 rfl
  obtain ⟨c3, f3, -⟩ := h.row.get 3 rfl
  have HE := Lib.hid ((((Wr.start h).set (s' := { s with t1 := ansT s.ans }) 1 (.int .i64 (ansT s.ans)) rfl (fun i => by match i with | 0 | 1 | 2 | 3 | 4 | 5 | 6 | 7 | 8 => rfl | k + 9 => rfl)).set (s' := { s with t1 := ansT s.ans, t3 := 0 }) 2 (.int .i64 0) rfl (fun i => by match i with | 0 | 1 | 2 | 3 | 4 | 5 | 6 | 7 | 8 => rfl | k + 9 => rfl)).set (s' := s.start) 3 (.int .i64 0) rfl (fun i => by match i with | 0 | 1 | 2 | 3 | 4 | 5 | 6 | 7 | 8 => rfl | k + 9 => rfl))
  clear h
  go_enter Tryz.func113, Tryz.ntmps113
  go_wp2_with (go_at_call 165; (with_reducible refine HT.out.mono ?_); rintro e w1 ⟨rfl, rfl⟩)
  exact bodyPost_end (v := .tuple #[]) (by simp [results, Tryz.results113, go_sem]) rfl (HE.out.to _)
theorem cstop20 (w : World) (p : Nat) (s : Lk) (F : Nat → Prop) (h : LkL w p s F) : Calls Tryz.prog 180 #[ptr20 p] w (LkTo w p F s.stop (.tuple #[])) := by
  obtain ⟨x, P, h, rfl⟩ := h
  obtain ⟨c1, f1, -⟩ := h.row.get 1 rfl
  obtain ⟨c2, f2, -⟩ := h.row.get 2 rfl
  obtain ⟨c3, f3, -⟩ := h.row.get 3 rfl
  obtain ⟨c4, f4, -⟩ := h.row.get 4 rfl
  have HE := Lib.hid (((((Wr.start h).set (s' := { s with t1 := 0 }) 1 (.int .i64 0) rfl (fun i => by match i with | 0 | 1 | 2 | 3 | 4 | 5 | 6 | 7 | 8 => rfl | k + 9 => rfl)).set (s' := { s with t1 := 0, t3 := 0 }) 2 (.int .i64 0) rfl (fun i => by match i with | 0 | 1 | 2 | 3 | 4 | 5 | 6 | 7 | 8 => rfl | k + 9 => rfl)).set (s' := { s with t1 := 0, t3 := 0, ran := 0 }) 3 (.int .i64 0) rfl (fun i => by match i with | 0 | 1 | 2 | 3 | 4 | 5 | 6 | 7 | 8 => rfl | k + 9 => rfl)).set (s' := s.stop) 4 (.int .i64 0) rfl (fun i => by match i with | 0 | 1 | 2 | 3 | 4 | 5 | 6 | 7 | 8 => rfl | k + 9 => rfl))
  clear h
  go_enter Tryz.func180, Tryz.ntmps180
  go_wp2_with fail
  exact bodyPost_end (v := .tuple #[]) (by simp [results, Tryz.results180, go_sem]) rfl (HE.out.to _)
theorem crun20 (w : World) (p : Nat) (s : Lk) (F : Nat → Prop) (b : Bool) (h : LkL w p s F) : Calls Tryz.prog 125 #[ptr20 p, .bool b] w (LkTo w p F (s.run b) (.tuple #[])) := by
  have HST := Lib.hid (cstart20 w p s F h)
  obtain ⟨x, P, h, rfl⟩ := h
  have HE0 := Lib.hid ((Wr.start h).to (.tuple #[]))
  have HE3 := Lib.hid ((Wr.start h).set (s' := { s with t3 := 300 }) 2 (.int .i64 300) rfl (fun i => by match i with | 0 | 1 | 2 | 3 | 4 | 5 | 6 | 7 | 8 => rfl | k + 9 => rfl))
  have c1 := h.row.cell 1 rfl
  obtain ⟨c2, f2, -⟩ := h.row.get 2 rfl
  clear h
  obtain ⟨t, ht⟩ : ∃ t, t = s.run b := ⟨_, rfl⟩
  rw [← ht]
  unfold Lk.run at ht
  cases b
  · by_cases h3 : s.t3 = 0
    · have d3 : (s.t3 == 0) = true := by simpa using h3
      simp only [Bool.false_eq_true, false_and, if_false, true_and, if_pos h3] at ht
      subst ht
      clear h3
      go_enter Tryz.func125, Tryz.ntmps125
      go_wp2_with fail
      exact bodyPost_end (v := .tuple #[]) (by simp [results, Tryz.results125, go_sem]) rfl (HE3.out.to _)
    · have d3 : (s.t3 == 0) = false := by simpa using h3
      simp only [Bool.false_eq_true, false_and, if_false, true_and, if_neg h3] at ht
      subst ht
      clear h3
      go_enter Tryz.func125, Tryz.ntmps125
      go_wp2_with fail
      exact bodyPost_end (v := .tuple #[]) (by simp [results, Tryz.results125, go_sem]) rfl HE0.out
  · by_cases h1 : s.t1 = 0
    · have d1 : (s.t1 == 0) = true := by simpa using h1
      simp only [true_and, if_pos h1] at ht
      subst ht
      clear h1
      go_enter Tryz.func125, Tryz.ntmps125
      go_wp2_with (go_at_call 113; (with_reducible refine HST.out.mono ?_); rintro e w1 ⟨rfl, hq⟩)
      exact bodyPost_end (v := .tuple #[]) (by simp [results, Tryz.results125, go_sem]) rfl ⟨rfl, hq⟩
    · have d1 : (s.t1 == 0) = false := by simpa using h1
      simp only [true_and, if_neg h1, Bool.true_eq_false, false_and, if_false] at ht
      subst ht
      clear h1
      go_enter Tryz.func125, Tryz.ntmps125
      go_wp2_with fail
      exact bodyPost_end (v := .tuple #[]) (by simp [results, Tryz.results125, go_sem]) rfl HE0.out
theorem LkTo.then_ {w w1 : World} {p : Nat} {F F1 : Nat → Prop} {s' : Lk} {v : Value} {e : Ending} {w' : World} (h : LkTo w1 p F1 s' v e w') (ht : Turn F w w1) (hg : Grew F F1 w) : LkTo w p F s' v e w' := by
  obtain ⟨he, F', h1, h2, h3⟩ := h
  exact ⟨he, F', h1, ht.trans h2 hg, hg.trans h3 ht.size⟩
end Go.Proofs.YtgoaepjjegblnaaGreatDoor
namespace Go.Proofs.YtgoaepjjegblnaaGreatDoor
open Go.RowKit
set_option maxRecDepth 20000
variable {w : World} {p : Nat} {s : Lk} {F : Nat → Prop}
theorem cstate20 (h : LkL w p s F) : Calls Tryz.prog 29 #[ptr20 p] w fun e w' => e = .returned (.int .i64 s.state) ∧ w' = w := by
  obtain ⟨x, P, h, rfl⟩ := h
  have c := h.row.cell 41 rfl
  clear h
  go_enter Tryz.func29, Tryz.ntmps29
  go_wp2_with fail
  exact bodyPost_ret (v := .int .i64 s.state) (by simp [results, Tryz.results29, go_sem]) rfl ⟨rfl, rfl⟩
theorem cwide20 (h : LkL w p s F) : Calls Tryz.prog 36 #[ptr20 p] w fun e w' => e = .returned (.bool s.isWide) ∧ w' = w := by
  have HS := Lib.hid (cstate20 h)
  obtain ⟨x, P, h, rfl⟩ := h
  have c := h.row.cell 35 rfl
  clear h
  obtain ⟨b, hb⟩ : ∃ b, b = s.isWide := ⟨_, rfl⟩
  rw [← hb]
  unfold Lk.isWide at hb
  by_cases h3 : s.state = 3
  · have d3 : (s.state == 3) = true := by simpa using h3
    rw [decide_eq_true h3, Bool.true_and] at hb
    rw [← hb] at c
    clear h3 hb
    go_enter Tryz.func36, Tryz.ntmps36
    go_wp2_with (go_at_call 29; (with_reducible refine HS.out.mono ?_); rintro e w ⟨rfl, rfl⟩)
    exact bodyPost_ret (v := .bool b) (by simp [results, Tryz.results36, go_sem]) rfl ⟨rfl, rfl⟩
  · have d3 : (s.state == 3) = false := by simpa using h3
    rw [decide_eq_false h3, Bool.false_and] at hb
    subst hb
    clear h3
    go_enter Tryz.func36, Tryz.ntmps36
    go_wp2_with (go_at_call 29; (with_reducible refine HS.out.mono ?_); rintro e w ⟨rfl, rfl⟩)
    exact bodyPost_ret (v := .bool false) (by simp [results, Tryz.results36, go_sem]) rfl ⟨rfl, rfl⟩
theorem RowAt.set6 {W : World} {m : Nat} {x0 x1 x2 x3 x4 x5 : Value} (h : RowAt W m [x0, x1, x2, x3, x4, x5]) (u0 u1 u2 u3 u4 u5 : Value) : RowAt ((((((W.setCell ⟨m, 0, none⟩ u0).setCell ⟨m, 1, none⟩ u1).setCell ⟨m, 2, none⟩ u2).setCell ⟨m, 3, none⟩ u3).setCell ⟨m, 4, none⟩ u4).setCell ⟨m, 5, none⟩ u5) m [u0, u1, u2, u3, u4, u5] :=
  (((((h.put 0 u0 [u0, x1, x2, x3, x4, x5] rfl).put 1 u1 [u0, u1, x2, x3, x4, x5] rfl).put 2 u2 [u0, u1, u2, x3, x4, x5] rfl).put 3 u3 [u0, u1, u2, u3, x4, x5] rfl).put 4 u4 [u0, u1, u2, u3, u4, x5] rfl).put 5 u5 _ rfl
theorem opn_len {x : Px} {P : Nat → Nat → Prop} (h : LkAt w p x s P) (ty : TypeId) : (Builtin.len_ #[140] ty #[x.op]).run Tryz.prog w = .ok (.int .i64 (s.nOpn : Nat)) w := by
  have h3 : OptM eltP x.op (s.up.map (·.opn)) w (P 3) := h.comp 3
  unfold Lk.nOpn
  cases hu : s.up with
  | none =>
    rw [hu] at h3
    rw [h3.1]
    rfl
  | some u =>
    rw [hu] at h3
    obtain ⟨m, hv, hm, -⟩ := h3
    rw [hv]
    exact hm.len Tryz.underlying140 ty
theorem cawaits20 (h : LkL w p s F) : Calls Tryz.prog 126 #[.pointer (some ⟨p, 5, none⟩)] w fun e w' => e = .returned (.bool s.awaits) ∧ w' = w := by
  obtain ⟨x, P, h, rfl⟩ := h
  have HL := Lib.hid (fun ty => opn_len h ty)
  have c1 := h.row.cell 9 rfl
  have c2 := h.row.cell 7 rfl
  clear h
  unfold Lk.awaits
  generalize s.nOpn = n at *
  have hop : ∀ ty, (Builtin.len_ #[140] ty #[x.op]).run Tryz.prog w = .ok (.int .i64 (n : Nat)) w := HL.out
  have dk : decide ((0 : Int) < (n : Int)) = decide (0 < n) := by
    by_cases e : 0 < n
    · rw [decide_eq_true e, decide_eq_true (by omega)]
    · rw [decide_eq_false e, decide_eq_false (by omega)]
  generalize s.polling = b at *
  cases b
  · go_enter Tryz.func126, Tryz.ntmps126
    go_wp2_with fail
    exact bodyPost_ret (v := .bool (decide (0 < n))) (by simp [results, Tryz.results126, go_sem]) rfl ⟨by rw [Bool.false_or], rfl⟩
  · go_enter Tryz.func126, Tryz.ntmps126
    go_wp2_with fail
    exact bodyPost_ret (v := .bool true) (by simp [results, Tryz.results126, go_sem]) rfl ⟨by rw [Bool.true_or], rfl⟩
end Go.Proofs.YtgoaepjjegblnaaGreatDoor
