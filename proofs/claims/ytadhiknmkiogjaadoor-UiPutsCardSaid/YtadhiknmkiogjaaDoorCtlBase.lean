/-
Controls as plain facts; the landed code's reading of controls.
-/
import Derived.Test.YtadhiknmkiogjaaDoorProg
import Derived.Test.YtadhiknmkiogjaaDoorCallBase
import Derived.WalkKit
import Derived.WalkSpells
import Derived.WalkLawsBesides
import Derived.Laws.BitsAllLaws
import Derived.Laws.ShiftsVarLaws
import Derived.Lib.Hide
import Derived.Lib.LaidTab
import Derived.BigQuiet
import Derived.Deep.QuietTactic
import Derived.BigRegion
import Derived.IntWalk
namespace Go.Proofs.YtadhiknmkiogjaaDoor
open Go.RowKit
def codeL : List Int := [0, 0, 1, 5, 9, 13, 47, 111, 67, 15, 99, 135, 3, 175, 227]
def codeD (k : Nat) : Int := codeL.getD k 0
def supD (k : Int) : Bool := decide (2 ≤ k) && decide (k ≤ 5)
def hasD (k : Int) : Bool := decide (k = 1) || supD k
def kindD (k : Int) : Bool := decide (1 ≤ k) && decide (k ≤ 14)
def belowD (n m : Int) : Bool := decide (0 ≤ n) && decide (n < m)
def modD (w : Bool) : Int := if w then 128 else 8
def rightC (k nr ns : Int) (w : Bool) : Bool := kindD k && belowD nr (if hasD k then modD w else 1) && belowD ns (if k = 1 then modD w else 1)
def infoC (k : Int) : Bool := decide (k = 1) || decide (k = 11) || decide (k = 12) || decide (k = 13) || decide (k = 14)
def pidD (k : Int) : Bool := decide (k = 1) || decide (k = 12)
theorem isKind_any (k : Int) (w : World) : Calls Tryd.prog 63 #[.int .i64 k] w fun e w' => e = .returned (.bool (kindD k)) ∧ w' = w := by
  by_cases h1 : 1 ≤ k
  · have d1 : decide (1 ≤ k) = true := decide_eq_true h1
    by_cases h2 : k ≤ 14
    · have d2 : decide (k ≤ 14) = true := decide_eq_true h2
      go_enter Tryd.func63, Tryd.ntmps63
      go_wp2
      go_ret
      exact ⟨by rw [kindD, d1, d2]; rfl, rfl⟩
    · have d2 : decide (k ≤ 14) = false := decide_eq_false h2
      go_enter Tryd.func63, Tryd.ntmps63
      go_wp2
      go_ret
      exact ⟨by rw [kindD, d1, d2]; rfl, rfl⟩
  · have d1 : decide (1 ≤ k) = false := decide_eq_false h1
    go_enter Tryd.func63, Tryd.ntmps63
    go_wp2
    go_ret
    exact ⟨by rw [kindD, d1]; rfl, rfl⟩
theorem sup_any (k : Int) (w : World) : Calls Tryd.prog 65 #[.int .i64 k] w fun e w' => e = .returned (.bool (supD k)) ∧ w' = w := by
  by_cases h1 : 2 ≤ k
  · have d1 : decide (2 ≤ k) = true := decide_eq_true h1
    by_cases h2 : k ≤ 5
    · have d2 : decide (k ≤ 5) = true := decide_eq_true h2
      go_enter Tryd.func65, Tryd.ntmps65
      go_wp2
      go_ret
      exact ⟨by rw [supD, d1, d2]; rfl, rfl⟩
    · have d2 : decide (k ≤ 5) = false := decide_eq_false h2
      go_enter Tryd.func65, Tryd.ntmps65
      go_wp2
      go_ret
      exact ⟨by rw [supD, d1, d2]; rfl, rfl⟩
  · have d1 : decide (2 ≤ k) = false := decide_eq_false h1
    go_enter Tryd.func65, Tryd.ntmps65
    go_wp2
    go_ret
    exact ⟨by rw [supD, d1]; rfl, rfl⟩
theorem hasNr_any (k : Int) (w : World) : Calls Tryd.prog 53 #[.int .i64 k] w fun e w' => e = .returned (.bool (hasD k)) ∧ w' = w := by
  have HS := Lib.hid (fun W => sup_any k W)
  by_cases h1 : k = 1
  · subst h1
    go_enter Tryd.func53, Tryd.ntmps53
    go_wp2
    go_ret
    exact ⟨by simp [hasD], rfl⟩
  · have d1 : (k == 1) = false := by simpa using h1
    go_enter Tryd.func53, Tryd.ntmps53
    go_wp2_with (go_at_call 65; (with_reducible refine (HS.out _).mono ?_); rintro e w1 ⟨rfl, rfl⟩)
    go_ret
    exact ⟨by simp [hasD, h1], rfl⟩
theorem isBelow_any (n m : Int) (w : World) : Calls Tryd.prog 64 #[.int .i64 n, .int .i64 m] w fun e w' => e = .returned (.bool (belowD n m)) ∧ w' = w := by
  by_cases h1 : 0 ≤ n
  · have d1 : decide (0 ≤ n) = true := decide_eq_true h1
    by_cases h2 : n < m
    · have d2 : decide (n < m) = true := decide_eq_true h2
      go_enter Tryd.func64, Tryd.ntmps64
      go_wp2
      go_ret
      exact ⟨by rw [belowD, d1, d2]; rfl, rfl⟩
    · have d2 : decide (n < m) = false := decide_eq_false h2
      go_enter Tryd.func64, Tryd.ntmps64
      go_wp2
      go_ret
      exact ⟨by rw [belowD, d1, d2]; rfl, rfl⟩
  · have d1 : decide (0 ≤ n) = false := decide_eq_false h1
    go_enter Tryd.func64, Tryd.ntmps64
    go_wp2
    go_ret
    exact ⟨by rw [belowD, d1]; rfl, rfl⟩
theorem bit_any (on : Bool) (b : Int) (w : World) : Calls Tryd.prog 54 #[.bool on, .int .u8 b] w fun e w' => e = .returned (.int .u8 (if on then b else 0)) ∧ w' = w := by
  cases on
  all_goals
    go_enter Tryd.func54, Tryd.ntmps54
    go_wp2
    go_ret
    exact ⟨rfl, rfl⟩
def maskD (k : Int) (w : Bool) : Int := if k = 1 then 1 else if supD k then (if w then 255 else 15) else 239
theorem mask_any (k : Int) (wide : Bool) (w : World) : Calls Tryd.prog 72 #[.int .i64 k, .bool wide] w fun e w' => e = .returned (.int .u8 (maskD k wide)) ∧ w' = w := by
  have HS := Lib.hid (fun W => sup_any k W)
  by_cases h1 : k = 1
  · subst h1
    go_enter Tryd.func72, Tryd.ntmps72
    go_wp2
    go_ret
    exact ⟨by simp [maskD], rfl⟩
  · have d1 : (k == 1) = false := by simpa using h1
    have hm : maskD k wide = if supD k then (if wide then 255 else 15) else 239 := by rw [maskD, if_neg h1]
    rw [hm]
    generalize supD k = S at *
    clear hm
    cases S <;> cases wide
    all_goals
      go_enter Tryd.func72, Tryd.ntmps72
      go_wp2_with (go_at_call 65; (with_reducible refine (HS.out _).mono ?_); rintro e w1 ⟨rfl, rfl⟩)
      go_ret
      exact ⟨rfl, rfl⟩
def lenD (b : Int) (w : Bool) : Int := if w && (bits BinOp.and .u8 b 3 != 3) then 2 else 1
theorem length_any (b : Int) (wide : Bool) (w : World) : Calls Tryd.prog 68 #[.int .u8 b, .bool wide] w fun e w' => e = .returned (.int .i64 (lenD b wide)) ∧ w' = w := by
  unfold lenD
  cases wide
  · go_enter Tryd.func68, Tryd.ntmps68
    go_wp2
    go_ret
    exact ⟨rfl, rfl⟩
  · cases hb : (bits BinOp.and .u8 b 3 != 3)
    all_goals
      go_enter Tryd.func68, Tryd.ntmps68
      go_wp2
      go_ret
      exact ⟨rfl, rfl⟩
theorem info_any (k : Int) (w : World) : Calls Tryd.prog 60 #[.int .i64 k] w fun e w' => e = .returned (.bool (infoC k)) ∧ w' = w := by
  by_cases h : k = 1 ∨ k = 11 ∨ k = 12 ∨ k = 13 ∨ k = 14
  · rcases h with rfl | rfl | rfl | rfl | rfl
    all_goals
      go_enter Tryd.func60, Tryd.ntmps60
      go_wp2
      go_ret
      exact ⟨rfl, rfl⟩
  · have d1 : (k == 1) = false := by simp; omega
    have d2 : (k == 11) = false := by simp; omega
    have d3 : (k == 12) = false := by simp; omega
    have d4 : (k == 13) = false := by simp; omega
    have d5 : (k == 14) = false := by simp; omega
    go_enter Tryd.func60, Tryd.ntmps60
    go_wp2
    go_ret
    exact ⟨by simp [infoC]; omega, rfl⟩
theorem pid_any (k : Int) (w : World) : Calls Tryd.prog 34 #[.int .i64 k] w fun e w' => e = .returned (.bool (pidD k)) ∧ w' = w := by
  by_cases h : k = 1 ∨ k = 12
  · rcases h with rfl | rfl
    all_goals
      go_enter Tryd.func34, Tryd.ntmps34
      go_wp2
      go_ret
      exact ⟨rfl, rfl⟩
  · have d1 : (k == 1) = false := by simp; omega
    have d3 : (k == 12) = false := by simp; omega
    go_enter Tryd.func34, Tryd.ntmps34
    go_wp2
    go_ret
    exact ⟨by simp [pidD]; omega, rfl⟩
end Go.Proofs.YtadhiknmkiogjaaDoor
namespace Go.Proofs.YtadhiknmkiogjaaDoor
open Go.RowKit
structure C4 (W : World) (m : Nat) (v0 v1 v2 v3 : Value) : Prop where
  c0 : W.cell? ⟨m, 0, none⟩ = some v0
  c1 : W.cell? ⟨m, 1, none⟩ = some v1
  c2 : W.cell? ⟨m, 2, none⟩ = some v2
  c3 : W.cell? ⟨m, 3, none⟩ = some v3
  f0 : W.frozen? ⟨m, 0, none⟩ = false
  f1 : W.frozen? ⟨m, 1, none⟩ = false
  f2 : W.frozen? ⟨m, 2, none⟩ = false
  f3 : W.frozen? ⟨m, 3, none⟩ = false
  lt : m < W.heap.size
theorem C4.new (w : World) (m : Nat) (hm : m = w.heap.size) (v0 v1 v2 v3 : Value) (T : TypeId) : C4 (w.alloc (.cells #[v0, v1, v2, v3] T)) m v0 v1 v2 v3 := by
  subst hm
  exact ⟨World.cell?_alloc_at _ _ _ _ rfl, World.cell?_alloc_at _ _ _ _ rfl, World.cell?_alloc_at _ _ _ _ rfl, World.cell?_alloc_at _ _ _ _ rfl, World.frozen?_alloc_at _ _ _ _ rfl, World.frozen?_alloc_at _ _ _ _ rfl, World.frozen?_alloc_at _ _ _ _ rfl, World.frozen?_alloc_at _ _ _ _ rfl, by simp⟩
theorem C4.below {W W' : World} {m : Nat} {v0 v1 v2 v3 : Value} (h : C4 W m v0 v1 v2 v3) (hb : Below W.heap.size W W') : C4 W' m v0 v1 v2 v3 := by
  obtain ⟨c0, c1, c2, c3, f0, f1, f2, f3, hl⟩ := h
  exact ⟨(hb.cell (p := ⟨m, 0, none⟩) hl).trans c0, (hb.cell (p := ⟨m, 1, none⟩) hl).trans c1, (hb.cell (p := ⟨m, 2, none⟩) hl).trans c2, (hb.cell (p := ⟨m, 3, none⟩) hl).trans c3,
    (hb.frozen (p := ⟨m, 0, none⟩) hl).trans f0, (hb.frozen (p := ⟨m, 1, none⟩) hl).trans f1, (hb.frozen (p := ⟨m, 2, none⟩) hl).trans f2, (hb.frozen (p := ⟨m, 3, none⟩) hl).trans f3, Nat.lt_of_lt_of_le hl hb.size⟩
theorem C4.alloc {W : World} {m : Nat} {v0 v1 v2 v3 : Value} (h : C4 W m v0 v1 v2 v3) (x : Obj) : C4 (W.alloc x) m v0 v1 v2 v3 := h.below ((Below.refl _ W).alloc (Nat.le_refl _) _)
theorem C4.drew {W : World} {m : Nat} {v0 v1 v2 v3 : Value} (h : C4 W m v0 v1 v2 v3) : C4 W.drew m v0 v1 v2 v3 := ⟨h.c0, h.c1, h.c2, h.c3, h.f0, h.f1, h.f2, h.f3, h.lt⟩
theorem C4.drewN {W : World} {m : Nat} {v0 v1 v2 v3 : Value} (h : C4 W m v0 v1 v2 v3) (n : Nat) : C4 (W.drewN n) m v0 v1 v2 v3 := ⟨h.c0, h.c1, h.c2, h.c3, h.f0, h.f1, h.f2, h.f3, h.lt⟩
theorem C4.other {W : World} {m g : Nat} {v0 v1 v2 v3 : Value} (h : C4 W m v0 v1 v2 v3) (p : Nat) (v : Value) (hg : g ≠ m) : C4 (W.setCell ⟨g, p, none⟩ v) m v0 v1 v2 v3 := by
  obtain ⟨c0, c1, c2, c3, f0, f1, f2, f3, hl⟩ := h
  exact ⟨(set_block _ _ _ _ _ _ hg).trans c0, (set_block _ _ _ _ _ _ hg).trans c1, (set_block _ _ _ _ _ _ hg).trans c2, (set_block _ _ _ _ _ _ hg).trans c3,
    by rw [World.frozen?_setCell]; exact f0, by rw [World.frozen?_setCell]; exact f1, by rw [World.frozen?_setCell]; exact f2, by rw [World.frozen?_setCell]; exact f3, by simpa [World.setCell] using hl⟩
theorem below_drewC {B : Nat} {a w : World} (h : Below B a w) (n : Nat) : Below B a (w.drewN n) := ⟨h.os, h.tape, h.output, h.size, h.block⟩
/-- its third cell is written anew -/
theorem C4.put2 {W : World} {m : Nat} {v0 v1 v2 v3 : Value} (h : C4 W m v0 v1 v2 v3) (v : Value) : C4 (W.setCell ⟨m, 2, none⟩ v) m v0 v1 v v3 := by
  obtain ⟨c0, c1, c2, c3, f0, f1, f2, f3, hl⟩ := h
  exact ⟨(set_off _ _ _ _ _ (by omega)).trans c0, (set_off _ _ _ _ _ (by omega)).trans c1, set_here c2, (set_off _ _ _ _ _ (by omega)).trans c3,
    by rw [World.frozen?_setCell]; exact f0, by rw [World.frozen?_setCell]; exact f1, by rw [World.frozen?_setCell]; exact f2, by rw [World.frozen?_setCell]; exact f3, by simpa [World.setCell] using hl⟩
/-- four cells written anew -/
theorem stored4 {W : World} {m : Nat} {x0 x1 x2 x3 : Value} (u0 u1 u2 u3 : Value) (h : C4 W m x0 x1 x2 x3) :
    C4 ((((W.setCell ⟨m, 0, none⟩ u0).setCell ⟨m, 1, none⟩ u1).setCell ⟨m, 2, none⟩ u2).setCell ⟨m, 3, none⟩ u3) m u0 u1 u2 u3 := by
  obtain ⟨c0, c1, c2, c3, f0, f1, f2, f3, hl⟩ := h
  have e0 : (W.setCell ⟨m, 0, none⟩ u0).cell? ⟨m, 0, none⟩ = some u0 := set_here c0
  have e1 : ((W.setCell ⟨m, 0, none⟩ u0).setCell ⟨m, 1, none⟩ u1).cell? ⟨m, 1, none⟩ = some u1 := set_here ((set_off _ _ _ _ _ (by omega)).trans c1)
  have e2 : (((W.setCell ⟨m, 0, none⟩ u0).setCell ⟨m, 1, none⟩ u1).setCell ⟨m, 2, none⟩ u2).cell? ⟨m, 2, none⟩ = some u2 := set_here ((set_off _ _ _ _ _ (by omega)).trans ((set_off _ _ _ _ _ (by omega)).trans c2))
  refine ⟨?_, ?_, ?_, ?_, ?_, ?_, ?_, ?_, ?_⟩
  · exact (set_off _ _ _ _ _ (by omega)).trans ((set_off _ _ _ _ _ (by omega)).trans ((set_off _ _ _ _ _ (by omega)).trans e0))
  · exact (set_off _ _ _ _ _ (by omega)).trans ((set_off _ _ _ _ _ (by omega)).trans e1)
  · exact (set_off _ _ _ _ _ (by omega)).trans e2
  · exact set_here ((set_off _ _ _ _ _ (by omega)).trans ((set_off _ _ _ _ _ (by omega)).trans ((set_off _ _ _ _ _ (by omega)).trans c3)))
  · simp only [World.frozen?_setCell]; exact f0
  · simp only [World.frozen?_setCell]; exact f1
  · simp only [World.frozen?_setCell]; exact f2
  · simp only [World.frozen?_setCell]; exact f3
  · simpa [World.setCell] using hl
theorem set4_below {B m : Nat} {a W : World} (h : Below B a W) (hm : B ≤ m) (u0 u1 u2 u3 : Value) :
    Below B a ((((W.setCell ⟨m, 0, none⟩ u0).setCell ⟨m, 1, none⟩ u1).setCell ⟨m, 2, none⟩ u2).setCell ⟨m, 3, none⟩ u3) :=
  (((h.setCell (p := ⟨m, 0, none⟩) hm u0).setCell (p := ⟨m, 1, none⟩) hm u1).setCell (p := ⟨m, 2, none⟩) hm u2).setCell (p := ⟨m, 3, none⟩) hm u3
end Go.Proofs.YtadhiknmkiogjaaDoor
namespace Go.Proofs.YtadhiknmkiogjaaDoor
open Go.RowKit
/-- the table of the kinds' bytes -/
structure CodesOk (w : World) : Prop where
  at_ : ∀ k, k < 15 → w.cell? ⟨0, k, none⟩ = some (.int .u8 (codeD k))
theorem CodesOk.below {w W : World} (h : CodesOk w) (hb : Below w.heap.size w W) : CodesOk W :=
  ⟨fun k hk => (hb.cell (p := ⟨0, k, none⟩) (World.block_lt_of_cell? w ⟨0, k, none⟩ (h.at_ k hk))).trans (h.at_ k hk)⟩
theorem CodesOk.lt {w : World} (h : CodesOk w) : 0 < w.heap.size := World.block_lt_of_cell? w ⟨0, 0, none⟩ (h.at_ 0 (by omega))
set_option maxHeartbeats 1000000 in
theorem ccright_any (k nr ns : Int) (pf wide : Bool) (w : World) :
    Calls Tryd.prog 50 #[.agg #[.int .i64 k, .int .i64 nr, .int .i64 ns, .bool pf], .bool wide] w fun e w' => e = .returned (.bool (rightC k nr ns wide)) ∧ Below w.heap.size w w' := by
  have HN := Lib.hid (fun W => hasNr_any k W)
  have HK := Lib.hid (fun W => isKind_any k W)
  have HB := Lib.hid (fun n m W => isBelow_any n m W)
  have hb0 := Lib.hid ((Below.refl _ w).alloc (Nat.le_refl _) (.cells #[.int .i64 k, .int .i64 nr, .int .i64 ns, .bool pf] 63))
  have hR : rightC k nr ns wide = (kindD k && belowD nr (if hasD k then modD wide else 1) && belowD ns (if k == 1 then modD wide else 1)) := by simp [rightC]
  rw [hR]
  clear hR
  have hH1 : (k == 1) = true → hasD k = true := fun h => by simp at h; subst h; rfl
  generalize hasD k = H at *
  generalize hk1 : (k == 1) = K1 at *
  generalize kindD k = KK at *
  have key : ∀ A B : Int, A = (if H then modD wide else 1) → B = (if K1 then modD wide else 1) →
      Calls Tryd.prog 50 #[.agg #[.int .i64 k, .int .i64 nr, .int .i64 ns, .bool pf], .bool wide] w fun e w' => e = .returned (.bool (KK && belowD nr A && belowD ns B)) ∧ Below w.heap.size w w' := by
    intro A B hA hB
    have h1 := Lib.hid (fun W => HB.out nr A W)
    have h2 := Lib.hid (fun W => HB.out ns B W)
    generalize belowD nr A = b1 at *
    generalize belowD ns B = b2 at *
    clear HB
    cases K1
    · cases H
      all_goals
        cases wide
        all_goals
          simp only [modD, if_true, if_false, Bool.false_eq_true] at hA hB
          subst hA hB
          cases KK
          · go_enter Tryd.func50, Tryd.ntmps50
            go_wp2_with (first | (go_at_call 53; (with_reducible refine (HN.out _).mono ?_); rintro e w1 ⟨rfl, rfl⟩) | (go_at_call 63; (with_reducible refine (HK.out _).mono ?_); rintro e w1 ⟨rfl, rfl⟩))
            go_ret
            exact ⟨rfl, hb0.out⟩
          · cases b1
            all_goals
              go_enter Tryd.func50, Tryd.ntmps50
              go_wp2_with (first | (go_at_call 53; (with_reducible refine (HN.out _).mono ?_); rintro e w1 ⟨rfl, rfl⟩) | (go_at_call 63; (with_reducible refine (HK.out _).mono ?_); rintro e w1 ⟨rfl, rfl⟩) | (go_at_call 64; (with_reducible refine (h1.out _).mono ?_); rintro e w1 ⟨rfl, rfl⟩) | (go_at_call 64; (with_reducible refine (h2.out _).mono ?_); rintro e w1 ⟨rfl, rfl⟩))
              go_ret
              exact ⟨rfl, hb0.out⟩
    · obtain rfl := hH1 rfl
      obtain rfl : k = 1 := by simpa using hk1
      cases wide
      all_goals
        simp only [modD, if_true, if_false, Bool.false_eq_true] at hA hB
        subst hA hB
        cases KK
        · go_enter Tryd.func50, Tryd.ntmps50
          go_wp2_with (first | (go_at_call 53; (with_reducible refine (HN.out _).mono ?_); rintro e w1 ⟨rfl, rfl⟩) | (go_at_call 63; (with_reducible refine (HK.out _).mono ?_); rintro e w1 ⟨rfl, rfl⟩))
          go_ret
          exact ⟨rfl, hb0.out⟩
        · cases b1
          all_goals
            go_enter Tryd.func50, Tryd.ntmps50
            go_wp2_with (first | (go_at_call 53; (with_reducible refine (HN.out _).mono ?_); rintro e w1 ⟨rfl, rfl⟩) | (go_at_call 63; (with_reducible refine (HK.out _).mono ?_); rintro e w1 ⟨rfl, rfl⟩) | (go_at_call 64; (with_reducible refine (h1.out _).mono ?_); rintro e w1 ⟨rfl, rfl⟩) | (go_at_call 64; (with_reducible refine (h2.out _).mono ?_); rintro e w1 ⟨rfl, rfl⟩))
            go_ret
            exact ⟨rfl, hb0.out⟩
  exact key _ _ rfl rfl
end Go.Proofs.YtadhiknmkiogjaaDoor
namespace Go.Proofs.YtadhiknmkiogjaaDoor
open Go.RowKit
def findG (b : Int) (w : Bool) : Nat → Nat → Nat
  | 0, _ => 0
  | f + 1, k => if bits BinOp.and .u8 b (maskD k w) == codeD k then k else findG b w f (k + 1)
def findD (b : Int) (w : Bool) : Nat := findG b w 14 1
theorem findG_hit (b : Int) (w : Bool) (k : Nat) (h : k ≤ 14) (e : (bits BinOp.and .u8 b (maskD k w) == codeD k) = true) : findG b w (15 - k) k = k := by
  obtain ⟨f, hf⟩ : ∃ f, 15 - k = f + 1 := ⟨14 - k, by omega⟩
  rw [hf, findG, if_pos e]
theorem findG_miss (b : Int) (w : Bool) (k : Nat) (h : k ≤ 14) (e : (bits BinOp.and .u8 b (maskD k w) == codeD k) = false) : findG b w (15 - k) k = findG b w (15 - (k + 1)) (k + 1) := by
  obtain ⟨f, hf⟩ : ∃ f, 15 - k = f + 1 := ⟨14 - k, by omega⟩
  rw [hf, findG, if_neg (by simp [e]), show 15 - (k + 1) = f from by omega]
set_option maxHeartbeats 1000000 in
theorem find_any (b : Int) (wide : Bool) (w : World) (hC : CodesOk w) : Calls Tryd.prog 69 #[.int .u8 b, .bool wide] w fun e w' => e = .returned (.int .i64 (findD b wide : Nat)) ∧ ∃ n, w' = w.drewN n := by
  have HM := Lib.hid (fun (k : Nat) W => mask_any k wide W)
  have HC := Lib.hid hC
  have HH := Lib.hid (findG_hit b wide)
  have HF := Lib.hid (findG_miss b wide)
  have h0 : findD b wide = findG b wide (15 - 1) 1 := rfl
  generalize findD b wide = R at *
  have HR := Lib.hid h0
  clear hC h0
  go_enter Tryd.func69, Tryd.ntmps69
  go_wp2
  go_loopw [5] (fun i wx => ∃ k : Nat, 1 ≤ k ∧ k ≤ 15 ∧ i = .int .i64 k ∧ Hid (R = findG b wide (15 - k) k) ∧ ∃ n, wx = w.drewN n) (fun i _ => 15 - (intOf i).toNat)
  case atStart => exact ⟨1, by omega, by omega, rfl, HR, 0, rfl⟩
  case round =>
    obtain ⟨k, hk1, hk, rfl, HQ, n, hwx⟩ := hrel
    clear HR
    by_cases hlt : k < 15
    · have dk : decide ((k : Int) ≤ 14) = true := decide_eq_true (by omega)
      have hcc : wr.cell? ⟨0, k, none⟩ = some (.int .u8 (codeD k)) := by rw [hwx]; exact HC.out.at_ k hlt
      have HW := Lib.hid hwx
      have HMK := Lib.hid (fun W => HM.out k W)
      have hh := HH.out k (by omega)
      have hf := HF.out k (by omega)
      generalize maskD k wide = M at *
      generalize codeD k = C at *
      have hi : (k : Int) < 15 := by omega
      clear hwx HM HH HF HC
      cases hb : (bits BinOp.and .u8 b M == C)
      · have HN := Lib.hid (hf hb)
        clear hh hf
        go_wp2
        go_quiet ((go_at_call 72; exact Calls.quiet_of_same (HMK.out _)))
        go_wp2
        go_roundw
        case rel => exact ⟨k + 1, by omega, by omega, by go_num, Lib.hid (HQ.out.trans HN.out), n + nq, by rw [HW.out]; simp⟩
        case measure => simp [intOf]; omega
      · have HN := Lib.hid (hh hb)
        clear hh hf
        go_wp2
        go_quiet ((go_at_call 72; exact Calls.quiet_of_same (HMK.out _)))
        go_wp2
        go_ret
        exact ⟨by rw [HQ.out, HN.out]; rfl, n + nq, by rw [HW.out]; simp⟩
    · obtain rfl : k = 15 := by omega
      have dk : decide ((15 : Int) ≤ 14) = false := by decide
      go_wp2
      go_ret
      exact ⟨by rw [HQ.out]; rfl, n, rfl⟩
end Go.Proofs.YtadhiknmkiogjaaDoor
namespace Go.Proofs.YtadhiknmkiogjaaDoor
open Go.RowKit
set_option maxRecDepth 20000
def codeN (k : Nat) : Nat := [0, 0, 1, 5, 9, 13, 47, 111, 67, 15, 99, 135, 3, 175, 227].getD k 0
theorem codeD_nat (k : Nat) (h : k < 15) : codeD k = (codeN k : Int) ∧ codeN k < 256 := by
  have : ∀ k : Fin 15, codeD k.1 = (codeN k.1 : Int) ∧ codeN k.1 < 256 := by decide
  exact this ⟨k, h⟩
/-- the one byte -/
def oneN (k nr ns : Nat) (pf : Bool) : Nat := (codeN k ||| ns * 2) ||| (nr * 32 ||| (if pf then 16 else 0))
/-- the first of two bytes -/
def firN (k ns : Nat) : Nat := codeN k ||| ns * 2
/-- the second of two bytes -/
def secN (nr : Nat) (pf : Bool) : Nat := nr * 2 ||| (if pf then 1 else 0)
theorem or8 {a b : Nat} (ha : a < 256) (hb : b < 256) : a ||| b < 256 := Nat.or_lt_two_pow (n := 8) ha hb
theorem one_bits (k nr ns : Nat) (pf : Bool) (hk : k < 15) (hnr : nr < 8) (hns : ns < 128) :
    bits BinOp.or .u8 (bits BinOp.or .u8 (codeD k) ((ns : Int) * 2)) (bits BinOp.or .u8 ((nr : Int) * 32) (if pf then 16 else 0)) = (oneN k nr ns pf : Int) ∧ oneN k nr ns pf < 256 := by
  obtain ⟨e, h⟩ := codeD_nat k hk
  have hp : (if pf then 16 else 0 : Int) = ((if pf then 16 else 0 : Nat) : Int) ∧ (if pf then 16 else 0 : Nat) < 256 := by cases pf <;> decide
  have e1 : (ns : Int) * 2 = ((ns * 2 : Nat) : Int) := by omega
  have e2 : (nr : Int) * 32 = ((nr * 32 : Nat) : Int) := by omega
  unfold oneN
  rw [e, e1, e2, hp.1, u8_or_nat _ _ h (by omega), u8_or_nat _ _ (by omega) hp.2, u8_or_nat _ _ (or8 h (by omega)) (or8 (by omega) hp.2)]
  exact ⟨rfl, or8 (or8 h (by omega)) (or8 (by omega) hp.2)⟩
theorem fir_bits (k ns : Nat) (hk : k < 15) (hns : ns < 128) : bits BinOp.or .u8 (codeD k) ((ns : Int) * 2) = (firN k ns : Int) ∧ firN k ns < 256 := by
  obtain ⟨e, h⟩ := codeD_nat k hk
  have e1 : (ns : Int) * 2 = ((ns * 2 : Nat) : Int) := by omega
  unfold firN
  rw [e, e1, u8_or_nat _ _ h (by omega)]
  exact ⟨rfl, or8 h (by omega)⟩
theorem sec_bits (nr : Nat) (pf : Bool) (hnr : nr < 128) : bits BinOp.or .u8 ((nr : Int) * 2) (if pf then 1 else 0) = (secN nr pf : Int) ∧ secN nr pf < 256 := by
  have hp : (if pf then 1 else 0 : Int) = ((if pf then 1 else 0 : Nat) : Int) ∧ (if pf then 1 else 0 : Nat) < 256 := by cases pf <;> decide
  have e1 : (nr : Int) * 2 = ((nr * 2 : Nat) : Int) := by omega
  unfold secN
  rw [e1, hp.1, u8_or_nat _ _ (by omega) hp.2]
  exact ⟨rfl, or8 (by omega) hp.2⟩
/-- a right control's bytes -/
def putB (k nr ns : Nat) (pf wide : Bool) : List UInt8 := if wide && hasD k then [UInt8.ofNat (firN k ns), UInt8.ofNat (secN nr pf)] else [UInt8.ofNat (oneN k nr ns pf)]
theorem rightC_facts {k nr ns : Int} {w : Bool} (h : rightC k nr ns w = true) : ∃ K R S : Nat, k = K ∧ nr = R ∧ ns = S ∧ 1 ≤ K ∧ K < 15 ∧ (hasD K = false → R = 0) ∧ (K ≠ 1 → S = 0) ∧ (w = false → R < 8 ∧ S < 8) ∧ R < 128 ∧ S < 128 := by
  simp only [rightC, Bool.and_eq_true, kindD, belowD, decide_eq_true_eq] at h
  obtain ⟨⟨⟨h1, h2⟩, h3, h4⟩, h5, h6⟩ := h
  have hm : modD w ≤ 128 ∧ (w = false → modD w = 8) := by cases w <;> decide
  have r1 : nr < 128 := by split at h4 <;> omega
  have s1 : ns < 128 := by split at h6 <;> omega
  refine ⟨k.toNat, nr.toNat, ns.toNat, by omega, by omega, by omega, by omega, by omega, ?_, ?_, ?_, by omega, by omega⟩
  · intro hh
    rw [show ((k.toNat : Nat) : Int) = k from by omega] at hh
    rw [hh] at h4
    simp at h4
    omega
  · intro hk
    rw [if_neg (by omega)] at h6
    omega
  · intro hw
    have := hm.2 hw
    refine ⟨?_, ?_⟩
    · split at h4 <;> omega
    · split at h6 <;> omega
end Go.Proofs.YtadhiknmkiogjaaDoor
namespace Go.Proofs.YtadhiknmkiogjaaDoor
open Go.RowKit
set_option maxRecDepth 20000
theorem ix1 (x : UInt8) (h : 0 < (⟨#[x]⟩ : ByteArray).size) : (⟨#[x]⟩ : ByteArray)[0]'h = x := rfl
/-- what read makes of one byte -/
def read1V (k : Int) (x : UInt8) : Value := .agg #[.int .i64 k, .int .i64 (if hasD k then wrap64 ((x.toNat : Int) / 32) else 0), .int .i64 (if k == 1 then (wrap64 ((x.toNat : Int) / 2)).tmod 8 else 0), .bool (bits BinOp.and .u8 (x.toNat : Int) 16 != 0)]
/-- what read makes of two bytes -/
def read2V (k : Int) (x y : UInt8) : Value := .agg #[.int .i64 k, .int .i64 (wrap64 ((y.toNat : Int) / 2)), .int .i64 (if k == 1 then wrap64 ((x.toNat : Int) / 2) else 0), .bool (bits BinOp.and .u8 (y.toNat : Int) 1 != 0)]
set_option maxHeartbeats 1000000 in
theorem read1_any (k : Int) (x : UInt8) (w : World) : Calls Tryd.prog 70 #[.int .i64 k, .string ⟨#[x]⟩] w fun e w' => e = .returned (read1V k x) ∧ Below w.heap.size w w' := by
  have HH := Lib.hid (fun W => hasNr_any k W)
  unfold read1V
  generalize hasD k = H at *
  generalize hk1 : (k == 1) = K1 at *
  cases H <;> cases K1
  all_goals
    simp only [if_true, if_false, Bool.false_eq_true]
    go_enter Tryd.func70, Tryd.ntmps70
    go_wp2_with (go_at_call 53; (with_reducible refine (HH.out _).mono ?_); rintro e w1 ⟨rfl, rfl⟩)
    exact bodyPost_ret (by simp [results, Tryd.results70, go_sem, ix1]) rfl ⟨rfl, ((Below.refl _ w).alloc (Nat.le_refl _) _).alloc (by simp) _⟩
set_option maxHeartbeats 1000000 in
theorem read2_at (k : Int) (s : ByteArray) (w : World) (hs : s.size = 2) (n0 : 0 < s.size) (n1 : 1 < s.size) : Calls Tryd.prog 70 #[.int .i64 k, .string s] w fun e w' => e = .returned (read2V k (s[0]'n0) (s[1]'n1)) ∧ Below w.heap.size w w' := by
  have d2 : ((s.size : Int) == 2) = true := by simp [hs]
  have b0 : (0 : Int) < (s.size : Int) := by omega
  have b1 : (1 : Int) < (s.size : Int) := by omega
  unfold read2V
  clear hs
  generalize hk1 : (k == 1) = K1 at *
  have hNR : IntKind.i64.wrap (((s[1]'n1).toNat : Int) / 2) = wrap64 (((s[1]'n1).toNat : Int) / 2) := Go.IntWalk.i64_left _
  cases K1
  · simp only [if_false, Bool.false_eq_true]
    go_enter Tryd.func70, Tryd.ntmps70
    go_wp2
    refine wp_region_any (by kernel_rfl) ?_
    try (change wpAny _ _ _ _ _ _ _ (World.drew _))
    refine wpAny_take (i := 0) (v := ?_) rfl (by kernel_rfl) (by kernel_rfl) (by kernel_rfl) (fun _ _ _ h => h) (Or.inl ⟨by rfl, ?_⟩) ?_
    rotate_left
    · intro w; go_simp; with_reducible rfl
    refine wpAny_take (i := 1) (v := ?_) rfl (by kernel_rfl) (by kernel_rfl) (by kernel_rfl) (fun _ _ _ h => h) (Or.inl ⟨by rfl, ?_⟩) ?_
    rotate_left
    · intro w; go_simp; with_reducible rfl
    refine wpAny_take (i := 2) (v := ?_) rfl (by kernel_rfl) (by kernel_rfl) (by kernel_rfl) (fun _ _ _ h => h) (Or.inl ⟨by rfl, ?_⟩) ?_
    rotate_left
    · intro w; go_simp; with_reducible rfl
    refine wpAny_take (i := 3) (v := ?_) rfl (by kernel_rfl) (by kernel_rfl) (by kernel_rfl) (fun _ _ _ h => h) (Or.inl ⟨by rfl, ?_⟩) ?_
    rotate_left
    · intro w; go_simp; with_reducible rfl
    refine wpAny_take (i := 4) (v := ?_) rfl (by kernel_rfl) (by kernel_rfl) (by kernel_rfl) (fun _ _ _ h => h) (Or.inl ⟨by rfl, ?_⟩) ?_
    rotate_left
    · intro w; go_simp; with_reducible rfl
    refine wpAny_take (i := 5) (v := ?_) rfl (by kernel_rfl) (by kernel_rfl) (by kernel_rfl) (fun _ _ _ h => h) (Or.inl ⟨by rfl, ?_⟩) ?_
    rotate_left
    · intro w; go_simp; with_reducible rfl
    refine wpAny_take (i := 6) (v := ?_) rfl (by kernel_rfl) (by kernel_rfl) (by kernel_rfl) (fun _ _ _ h => h) (Or.inl ⟨by rfl, ?_⟩) ?_
    rotate_left
    · intro w; go_simp; with_reducible rfl
    refine wpAny_take (i := 7) (v := ?_) rfl (by kernel_rfl) (by kernel_rfl) (by kernel_rfl) (fun _ _ _ h => h) (Or.inl ⟨by rfl, ?_⟩) ?_
    rotate_left
    · intro w; go_simp; with_reducible rfl
    refine wpAny_take (i := 8) (v := ?_) rfl (by kernel_rfl) (by kernel_rfl) (by kernel_rfl) (fun _ _ _ h => h) (Or.inl ⟨by rfl, ?_⟩) ?_
    rotate_left
    · intro w; go_simp; with_reducible rfl
    refine wpAny_take (i := 9) (v := ?_) rfl (by kernel_rfl) (by kernel_rfl) (by kernel_rfl) (fun _ _ _ h => h) (Or.inl ⟨by rfl, ?_⟩) ?_
    rotate_left
    · intro w; go_simp; with_reducible rfl
    refine wpAny_ready (rs := [10]) (by kernel_rfl) (by simp) ?_
    refine AllReady.cons rfl (fun K hK => ?_) AllReady.nil
    go_simp
    refine hK _ _ ?_
    clear hK K
    refine wpAny_ready (rs := [11]) (by kernel_rfl) (by simp) ?_
    refine AllReady.cons rfl (fun K hK => ?_) AllReady.nil
    go_simp
    refine hK _ _ ?_
    clear hK K
    refine wpAny_done (by kernel_rfl) ?_ _
    clear hNR
    generalize hNR : wrap64 (((s[1]'n1).toNat : Int) / 2) = NR at *
    generalize hPF : (bits BinOp.and .u8 ((s[1]'n1).toNat : Int) 1 != 0) = PF at *
    have HNR := Lib.hid hNR
    have HPF := Lib.hid hPF
    clear hNR hPF
    have HR := Lib.hid (((C4.new w w.heap.size rfl (.int .i64 0) (.int .i64 0) (.int .i64 0) (.bool false) 63).alloc (.cells #[.int .i64 k, .int .i64 NR, .int .i64 0, .bool PF] 63)).drew)
    have HC := Lib.hid ((C4.new (w.alloc (.cells #[.int .i64 0, .int .i64 0, .int .i64 0, .bool false] 63)) (w.heap.size + 1) (by simp) (.int .i64 k) (.int .i64 NR) (.int .i64 0) (.bool PF) 63).drew)
    have HB := Lib.hid ((((Below.refl _ w).alloc (Nat.le_refl _) (.cells #[.int .i64 0, .int .i64 0, .int .i64 0, .bool false] 63)).alloc (by simp) (.cells #[.int .i64 k, .int .i64 NR, .int .i64 0, .bool PF] 63)).drew)
    generalize ((w.alloc (.cells #[.int .i64 0, .int .i64 0, .int .i64 0, .bool false] 63)).alloc (.cells #[.int .i64 k, .int .i64 NR, .int .i64 0, .bool PF] 63)).drew = W at *
    obtain ⟨c0, c1, c2, c3, -, -, -, -, cl⟩ := HC.out
    obtain ⟨r0, r1, r2, r3, g0, g1, g2, g3, rl⟩ := HR.out
    go_wp2
    have S4 := stored4 (.int .i64 k) (.int .i64 NR) (.int .i64 0) (.bool PF) HR.out
    exact bodyPost_ret (v := .agg #[.int .i64 k, .int .i64 NR, .int .i64 0, .bool PF]) (by simp [results, Tryd.results70, go_sem, S4.c0, S4.c1, S4.c2, S4.c3]) rfl ⟨by rw [HNR.out, HPF.out], set4_below HB.out (Nat.le_refl _) _ _ _ _⟩
  · simp only [if_true]
    go_enter Tryd.func70, Tryd.ntmps70
    go_wp2
    refine wp_region_any (by kernel_rfl) ?_
    try (change wpAny _ _ _ _ _ _ _ (World.drew _))
    refine wpAny_take (i := 0) (v := ?_) rfl (by kernel_rfl) (by kernel_rfl) (by kernel_rfl) (fun _ _ _ h => h) (Or.inl ⟨by rfl, ?_⟩) ?_
    rotate_left
    · intro w; go_simp; with_reducible rfl
    refine wpAny_take (i := 1) (v := ?_) rfl (by kernel_rfl) (by kernel_rfl) (by kernel_rfl) (fun _ _ _ h => h) (Or.inl ⟨by rfl, ?_⟩) ?_
    rotate_left
    · intro w; go_simp; with_reducible rfl
    refine wpAny_take (i := 2) (v := ?_) rfl (by kernel_rfl) (by kernel_rfl) (by kernel_rfl) (fun _ _ _ h => h) (Or.inl ⟨by rfl, ?_⟩) ?_
    rotate_left
    · intro w; go_simp; with_reducible rfl
    refine wpAny_take (i := 3) (v := ?_) rfl (by kernel_rfl) (by kernel_rfl) (by kernel_rfl) (fun _ _ _ h => h) (Or.inl ⟨by rfl, ?_⟩) ?_
    rotate_left
    · intro w; go_simp; with_reducible rfl
    refine wpAny_take (i := 4) (v := ?_) rfl (by kernel_rfl) (by kernel_rfl) (by kernel_rfl) (fun _ _ _ h => h) (Or.inl ⟨by rfl, ?_⟩) ?_
    rotate_left
    · intro w; go_simp; with_reducible rfl
    refine wpAny_take (i := 5) (v := ?_) rfl (by kernel_rfl) (by kernel_rfl) (by kernel_rfl) (fun _ _ _ h => h) (Or.inl ⟨by rfl, ?_⟩) ?_
    rotate_left
    · intro w; go_simp; with_reducible rfl
    refine wpAny_take (i := 6) (v := ?_) rfl (by kernel_rfl) (by kernel_rfl) (by kernel_rfl) (fun _ _ _ h => h) (Or.inl ⟨by rfl, ?_⟩) ?_
    rotate_left
    · intro w; go_simp; with_reducible rfl
    refine wpAny_take (i := 7) (v := ?_) rfl (by kernel_rfl) (by kernel_rfl) (by kernel_rfl) (fun _ _ _ h => h) (Or.inl ⟨by rfl, ?_⟩) ?_
    rotate_left
    · intro w; go_simp; with_reducible rfl
    refine wpAny_take (i := 8) (v := ?_) rfl (by kernel_rfl) (by kernel_rfl) (by kernel_rfl) (fun _ _ _ h => h) (Or.inl ⟨by rfl, ?_⟩) ?_
    rotate_left
    · intro w; go_simp; with_reducible rfl
    refine wpAny_take (i := 9) (v := ?_) rfl (by kernel_rfl) (by kernel_rfl) (by kernel_rfl) (fun _ _ _ h => h) (Or.inl ⟨by rfl, ?_⟩) ?_
    rotate_left
    · intro w; go_simp; with_reducible rfl
    refine wpAny_ready (rs := [10]) (by kernel_rfl) (by simp) ?_
    refine AllReady.cons rfl (fun K hK => ?_) AllReady.nil
    go_simp
    refine hK _ _ ?_
    clear hK K
    refine wpAny_ready (rs := [11]) (by kernel_rfl) (by simp) ?_
    refine AllReady.cons rfl (fun K hK => ?_) AllReady.nil
    go_simp
    refine hK _ _ ?_
    clear hK K
    refine wpAny_done (by kernel_rfl) ?_ _
    clear hNR
    generalize hNR : wrap64 (((s[1]'n1).toNat : Int) / 2) = NR at *
    generalize hPF : (bits BinOp.and .u8 ((s[1]'n1).toNat : Int) 1 != 0) = PF at *
    have HNR := Lib.hid hNR
    have HPF := Lib.hid hPF
    clear hNR hPF
    have HR := Lib.hid (((C4.new w w.heap.size rfl (.int .i64 0) (.int .i64 0) (.int .i64 0) (.bool false) 63).alloc (.cells #[.int .i64 k, .int .i64 NR, .int .i64 0, .bool PF] 63)).drew)
    have HC := Lib.hid ((C4.new (w.alloc (.cells #[.int .i64 0, .int .i64 0, .int .i64 0, .bool false] 63)) (w.heap.size + 1) (by simp) (.int .i64 k) (.int .i64 NR) (.int .i64 0) (.bool PF) 63).drew)
    have HB := Lib.hid ((((Below.refl _ w).alloc (Nat.le_refl _) (.cells #[.int .i64 0, .int .i64 0, .int .i64 0, .bool false] 63)).alloc (by simp) (.cells #[.int .i64 k, .int .i64 NR, .int .i64 0, .bool PF] 63)).drew)
    generalize ((w.alloc (.cells #[.int .i64 0, .int .i64 0, .int .i64 0, .bool false] 63)).alloc (.cells #[.int .i64 k, .int .i64 NR, .int .i64 0, .bool PF] 63)).drew = W at *
    obtain ⟨c0, c1, c2, c3, h0, h1, h2, h3, cl⟩ := HC.out
    obtain ⟨r0, r1, r2, r3, g0, g1, g2, g3, rl⟩ := HR.out
    generalize hNS : wrap64 (((s[0]'n0).toNat : Int) / 2) = NS at *
    go_wp2
    have S4 := stored4 (.int .i64 k) (.int .i64 NR) (.int .i64 NS) (.bool PF) (HR.out.other (g := w.heap.size + 1) 2 (.int .i64 NS) (by omega))
    exact bodyPost_ret (v := .agg #[.int .i64 k, .int .i64 NR, .int .i64 NS, .bool PF]) (by simp [results, Tryd.results70, go_sem, hNS, S4.c0, S4.c1, S4.c2, S4.c3]) rfl ⟨by rw [HNR.out, HPF.out, hNS], set4_below (HB.out.setCell (p := ⟨w.heap.size + 1, 2, none⟩) (by show w.heap.size ≤ w.heap.size + 1; omega) _) (Nat.le_refl _) _ _ _ _⟩
theorem read2_any (k : Int) (x y : UInt8) (w : World) : Calls Tryd.prog 70 #[.int .i64 k, .string ⟨#[x, y]⟩] w fun e w' => e = .returned (read2V k x y) ∧ Below w.heap.size w w' := read2_at k ⟨#[x, y]⟩ w rfl (show 0 < 2 by omega) (show 1 < 2 by omega)
end Go.Proofs.YtadhiknmkiogjaaDoor
namespace Go.Proofs.YtadhiknmkiogjaaDoor
open Go.RowKit
set_option maxRecDepth 20000
/-- the zero control with a number and an error -/
def noneV (e : Int) : Value := .tuple #[.agg #[.int .i64 0, .int .i64 0, .int .i64 0, .bool false], .int .i64 0, .int .i64 e]
theorem lenD_two (b : Int) (w : Bool) : lenD b w = 1 ∨ lenD b w = 2 := by
  unfold lenD
  split
  · exact Or.inr rfl
  · exact Or.inl rfl
theorem cget_nil (wide : Bool) (w : World) : Calls Tryd.prog 59 #[.string ⟨#[]⟩, .bool wide] w fun e w' => e = .returned (noneV 4) ∧ Below w.heap.size w w' := by
  go_enter Tryd.func59, Tryd.ntmps59
  go_wp2
  exact bodyPost_ret (v := noneV 4) (by simp [results, Tryd.results59, go_sem, noneV]) rfl ⟨rfl, (Below.refl _ w).alloc (Nat.le_refl _) _⟩
set_option maxHeartbeats 1000000 in
theorem cget_at (s : ByteArray) (wide : Bool) (w : World) (hC : CodesOk w) (n0 : 0 < s.size) (L K : Nat) (hL : lenD ((s[0]'n0).toNat : Int) wide = (L : Int)) (hK : findD ((s[0]'n0).toNat : Int) wide = K) (hl : 1 ≤ L) (rv : Value) (t : ByteArray) (r0 r1 r2 : Int) (rb : Bool) (hx : rv = .agg #[.int .i64 r0, .int .i64 r1, .int .i64 r2, .bool rb])
    (ht : L ≤ s.size → s.extract 0 L = t) (hrd : ∀ W, Calls Tryd.prog 70 #[.int .i64 (K : Int), .string t] W fun e w' => e = .returned rv ∧ Below W.heap.size W w') :
    Calls Tryd.prog 59 #[.string s, .bool wide] w fun e w' => e = .returned (if s.size < L then noneV 4 else if K = 0 then noneV 2 else .tuple #[rv, .int .i64 (L : Int), .int .i64 0]) ∧ Below w.heap.size w w' := by
  subst hx
  have b0 : (0 : Int) < (s.size : Int) := by omega
  have de : (s.toList == []) = false := by
    rw [ByteArray.toList_eq]
    cases h : s.data.toList with
    | nil => have : s.data.size = 0 := by simpa using congrArg List.length h
             have : s.size = s.data.size := rfl
             omega
    | cons a l => rfl
  have de2 : s.toList.isEmpty = false := by
    cases h : s.toList with
    | nil => rw [h] at de; cases de
    | cons a l => rfl
  have hLE := fun W => length_any ((s[0]'n0).toNat : Int) wide W
  have hFI := fun W hW => find_any ((s[0]'n0).toNat : Int) wide W hW
  rw [hL] at hLE
  rw [hK] at hFI
  have HLE := Lib.hid hLE
  have HFI := Lib.hid hFI
  have HRD := Lib.hid hrd
  have HC := Lib.hid hC
  have HA := Lib.hid (C4.new w w.heap.size rfl (.int .i64 0) (.int .i64 0) (.int .i64 0) (.bool false) 63)
  have HB := Lib.hid ((Below.refl _ w).alloc (Nat.le_refl _) (.cells #[.int .i64 0, .int .i64 0, .int .i64 0, .bool false] 63))
  clear hLE hFI hC hrd
  by_cases h1 : s.size < L
  · rw [if_pos h1]
    have d1 : decide ((s.size : Int) < (L : Int)) = true := decide_eq_true (by omega)
    go_enter Tryd.func59, Tryd.ntmps59
    go_wp2_with (go_at_call 68; (with_reducible refine (HLE.out _).mono ?_); rintro e w1 ⟨rfl, rfl⟩)
    exact bodyPost_ret (v := noneV 4) (by simp [results, Tryd.results59, go_sem, noneV]) rfl ⟨rfl, HB.out⟩
  · rw [if_neg h1]
    have d1 : decide ((s.size : Int) < (L : Int)) = false := decide_eq_false (by omega)
    have he := ht (by omega)
    by_cases h2 : K = 0
    · rw [if_pos h2]
      have d2 : ((K : Int) == 0) = true := by simp [h2]
      clear h2 hK
      go_enter Tryd.func59, Tryd.ntmps59
      go_wp2_with (first | (go_at_call 68; (with_reducible refine (HLE.out _).mono ?_); rintro e w1 ⟨rfl, rfl⟩) | (go_at_call 69; (with_reducible refine (HFI.out _ (HC.out.below HB.out)).mono ?_); rintro e w2 ⟨rfl, n, rfl⟩))
      have S4 := stored4 (.int .i64 0) (.int .i64 0) (.int .i64 0) (.bool false) (HA.out.drewN n)
      exact bodyPost_ret (v := noneV 2) (by simp [results, Tryd.results59, go_sem, noneV, S4.c0, S4.c1, S4.c2, S4.c3]) rfl ⟨rfl, set4_below (below_drewC HB.out n) (Nat.le_refl _) _ _ _ _⟩
    · rw [if_neg h2]
      have d2 : ((K : Int) == 0) = false := by simp [h2]
      clear h2 hK
      go_enter Tryd.func59, Tryd.ntmps59
      go_wp2_with (first | (go_at_call 68; (with_reducible refine (HLE.out _).mono ?_); rintro e w1 ⟨rfl, rfl⟩) | (go_at_call 69; (with_reducible refine (HFI.out _ (HC.out.below HB.out)).mono ?_); rintro e w2 ⟨rfl, n, rfl⟩) | (go_at_call 70; (with_reducible refine (HRD.out _).mono ?_); rintro e w3 ⟨rfl, hb⟩; have HA3 := Lib.hid ((HA.out.drewN n).below hb); have HB3 := Lib.hid ((below_drewC HB.out n).trans (hb.mono HB.out.size)); clear hb; obtain ⟨c0, c1, c2, c3, f0, f1, f2, f3, fl⟩ := HA3.out))
      have S4 := stored4 (.int .i64 r0) (.int .i64 r1) (.int .i64 r2) (.bool rb) HA3.out
      exact bodyPost_ret (v := .tuple #[.agg #[.int .i64 r0, .int .i64 r1, .int .i64 r2, .bool rb], .int .i64 (L : Int), .int .i64 0]) (by simp [results, Tryd.results59, go_sem, S4.c0, S4.c1, S4.c2, S4.c3]) rfl ⟨rfl, set4_below HB3.out (Nat.le_refl _) _ _ _ _⟩
/-- what Get answers -/
def cgetE (s : List UInt8) (wide : Bool) : Value := match s with
  | [] => noneV 4
  | x :: t => if lenD (x.toNat : Int) wide = 2 then (match t with
      | [] => noneV 4
      | y :: _ => if findD (x.toNat : Int) wide = 0 then noneV 2 else .tuple #[read2V (findD (x.toNat : Int) wide : Nat) x y, .int .i64 2, .int .i64 0])
    else if findD (x.toNat : Int) wide = 0 then noneV 2 else .tuple #[read1V (findD (x.toNat : Int) wide : Nat) x, .int .i64 1, .int .i64 0]
theorem extract_one (x : UInt8) (t : List UInt8) : ByteArray.extract ⟨(x :: t).toArray⟩ 0 1 = ⟨#[x]⟩ := by
  apply bytes_ext'
  simp
theorem extract_two (x y : UInt8) (t : List UInt8) : ByteArray.extract ⟨(x :: y :: t).toArray⟩ 0 2 = ⟨#[x, y]⟩ := by
  apply bytes_ext'
  simp
theorem ctlget_any (s : List UInt8) (wide : Bool) (w : World) (hC : CodesOk w) :
    Calls Tryd.prog 59 #[.string ⟨s.toArray⟩, .bool wide] w fun e w' => e = .returned (cgetE s wide) ∧ Below w.heap.size w w' := by
  cases s with
  | nil => exact cget_nil wide w
  | cons x t =>
    dsimp only [cgetE]
    have n0 : 0 < (⟨(x :: t).toArray⟩ : ByteArray).size := by show 0 < (x :: t).toArray.size; simp
    by_cases h2 : lenD (x.toNat : Int) wide = 2
    · rw [if_pos h2]
      cases t with
      | nil =>
        have k := cget_at ⟨[x].toArray⟩ wide w hC n0 2 _ h2 rfl (by omega) _ ⟨#[x, x]⟩ _ _ _ _ rfl (fun h => absurd h (by show ¬ 2 ≤ 1; omega)) (fun W => read2_any _ x x W)
        exact k.mono fun e w' hq => ⟨hq.1.trans (congrArg Ending.returned (if_pos (show 1 < 2 by omega))), hq.2⟩
      | cons y t =>
        have k := cget_at ⟨(x :: y :: t).toArray⟩ wide w hC n0 2 _ h2 rfl (by omega) _ ⟨#[x, y]⟩ _ _ _ _ rfl (fun h => extract_two x y t) (fun W => read2_any _ x y W)
        exact k.mono fun e w' hq => ⟨hq.1.trans (congrArg Ending.returned (if_neg (show ¬ (x :: y :: t).toArray.size < 2 by simp))), hq.2⟩
    · have h1 : lenD (x.toNat : Int) wide = 1 := (lenD_two _ _).resolve_right h2
      rw [if_neg h2]
      have k := cget_at ⟨(x :: t).toArray⟩ wide w hC n0 1 _ h1 rfl (by omega) _ ⟨#[x]⟩ _ _ _ _ rfl (fun h => extract_one x t) (fun W => read1_any _ x W)
      exact k.mono fun e w' hq => ⟨hq.1.trans (congrArg Ending.returned (if_neg (show ¬ (x :: t).toArray.size < 1 by simp))), hq.2⟩
end Go.Proofs.YtadhiknmkiogjaaDoor
namespace Go.Proofs.YtadhiknmkiogjaaDoor
open Go.RowKit
set_option maxRecDepth 20000
theorem rightC_iff (k nr ns : Int) (w : Bool) : rightC k nr ns w = true ↔ 1 ≤ k ∧ k ≤ 14 ∧ 0 ≤ nr ∧ 0 ≤ ns ∧ nr < modD w ∧ ns < modD w ∧ (k = 1 ∨ ns = 0) ∧ (k ≤ 5 ∨ nr = 0) := by
  have hm : modD w = 8 ∨ modD w = 128 := by cases w <;> decide
  simp only [rightC, Bool.and_eq_true, kindD, belowD, hasD, supD, Bool.or_eq_true, decide_eq_true_eq]
  constructor
  · rintro ⟨⟨⟨h1, h2⟩, h3, h4⟩, h5, h6⟩
    refine ⟨h1, h2, h3, h5, ?_, ?_, ?_, ?_⟩
    · split at h4 <;> omega
    · split at h6 <;> omega
    · split at h6 <;> omega
    · split at h4 <;> omega
  · rintro ⟨h1, h2, h3, h4, h5, h6, h7, h8⟩
    refine ⟨⟨⟨h1, h2⟩, h3, ?_⟩, h4, ?_⟩
    · split <;> omega
    · split <;> omega
/-- the document's bytes as numbers -/
def docN (k nr ns : Nat) (pf wide : Bool) : List Nat :=
  if 5 < k then [codeN k + (if pf then 16 else 0)]
  else if wide then [if 1 < k then codeN k else 2 * ns, 2 * nr + (if pf then 1 else 0)]
  else [32 * nr + (if pf then 16 else 0) + (if 1 < k then codeN k else 2 * ns)]
theorem one_facts : ∀ k : Fin 15, ∀ nr : Fin 8, ∀ ns : Fin 8, ∀ pf : Bool, rightC k.1 nr.1 ns.1 false = true →
    docN k.1 nr.1 ns.1 pf false = [oneN k.1 nr.1 ns.1 pf] ∧ lenD (oneN k.1 nr.1 ns.1 pf) false = 1 ∧ findD (oneN k.1 nr.1 ns.1 pf) false = k.1 ∧
    (if hasD (k.1 : Nat) then wrap64 ((oneN k.1 nr.1 ns.1 pf : Int) / 32) else 0) = (nr.1 : Int) ∧ (if ((k.1 : Nat) : Int) == 1 then (wrap64 ((oneN k.1 nr.1 ns.1 pf : Int) / 2)).tmod 8 else 0) = (ns.1 : Int) ∧ (bits BinOp.and .u8 (oneN k.1 nr.1 ns.1 pf : Int) 16 != 0) = pf := by decide +kernel
theorem high_facts : ∀ k : Fin 15, ∀ pf : Bool, 5 < k.1 →
    docN k.1 0 0 pf true = [oneN k.1 0 0 pf] ∧ lenD (oneN k.1 0 0 pf) true = 1 ∧ findD (oneN k.1 0 0 pf) true = k.1 ∧ hasD (k.1 : Nat) = false ∧ (((k.1 : Nat) : Int) == 1) = false ∧ (bits BinOp.and .u8 (oneN k.1 0 0 pf : Int) 16 != 0) = pf := by decide +kernel
theorem fir_facts : ∀ k : Fin 6, ∀ ns : Fin 128, 1 ≤ k.1 → (k.1 = 1 ∨ ns.1 = 0) →
    (if 1 < k.1 then codeN k.1 else 2 * ns.1) = firN k.1 ns.1 ∧ lenD (firN k.1 ns.1) true = 2 ∧ findD (firN k.1 ns.1) true = k.1 ∧ hasD (k.1 : Nat) = true ∧ (if ((k.1 : Nat) : Int) == 1 then wrap64 ((firN k.1 ns.1 : Int) / 2) else 0) = (ns.1 : Int) := by decide +kernel
theorem sec_facts : ∀ nr : Fin 128, ∀ pf : Bool, 2 * nr.1 + (if pf then 1 else 0) = secN nr.1 pf ∧ wrap64 ((secN nr.1 pf : Int) / 2) = (nr.1 : Int) ∧ (bits BinOp.and .u8 (secN nr.1 pf : Int) 1 != 0) = pf := by decide +kernel
theorem one_lt (k nr ns : Nat) (pf : Bool) (hk : k < 15) (hnr : nr < 8) (hns : ns < 128) : oneN k nr ns pf < 256 := (one_bits k nr ns pf hk hnr hns).2
theorem u8nn (N : Nat) (h : N < 256) : (N : Int) = (((UInt8.ofNat N).toNat : Nat) : Int) := by
  have e : (UInt8.ofNat N).toNat = N % 256 := rfl
  omega
theorem u8to (N : Nat) (h : N < 256) : (((UInt8.ofNat N).toNat : Nat) : Int) = (N : Int) := (u8nn N h).symm
/-- what Get answers of a right control's bytes -/
def gotV (k nr ns : Nat) (pf : Bool) (n : Nat) : Value := .tuple #[.agg #[.int .i64 (k : Int), .int .i64 (nr : Int), .int .i64 (ns : Int), .bool pf], .int .i64 (n : Int), .int .i64 0]
theorem get_one (k nr ns N : Nat) (pf w : Bool) (t : List UInt8) (hN : N < 256) (hk : 1 ≤ k) (h1 : lenD (N : Int) w = 1) (h2 : findD (N : Int) w = k) (h3 : (if hasD k then wrap64 ((N : Int) / 32) else 0) = (nr : Int)) (h4 : (if (k : Int) == 1 then (wrap64 ((N : Int) / 2)).tmod 8 else 0) = (ns : Int)) (h5 : (bits BinOp.and .u8 (N : Int) 16 != 0) = pf) :
    cgetE ([UInt8.ofNat N] ++ t) w = gotV k nr ns pf 1 := by
  show cgetE (UInt8.ofNat N :: t) w = _
  dsimp only [cgetE]
  rw [u8to N hN, h1, if_neg (by decide), h2, if_neg (by omega)]
  unfold read1V gotV
  rw [u8to N hN, h3, h4, h5]
  rfl
theorem get_two (k nr ns N M : Nat) (pf : Bool) (t : List UInt8) (hN : N < 256) (hM : M < 256) (hk : 1 ≤ k) (h1 : lenD (N : Int) true = 2) (h2 : findD (N : Int) true = k) (h3 : wrap64 ((M : Int) / 2) = (nr : Int)) (h4 : (if (k : Int) == 1 then wrap64 ((N : Int) / 2) else 0) = (ns : Int)) (h5 : (bits BinOp.and .u8 (M : Int) 1 != 0) = pf) :
    cgetE ([UInt8.ofNat N, UInt8.ofNat M] ++ t) true = gotV k nr ns pf 2 := by
  show cgetE (UInt8.ofNat N :: UInt8.ofNat M :: t) true = _
  dsimp only [cgetE]
  rw [u8to N hN, h1, if_pos rfl, h2, if_neg (by omega)]
  unfold read2V gotV
  rw [u8to N hN, u8to M hM, h3, h4, h5]
  rfl
theorem cget_put (k nr ns : Nat) (pf w : Bool) (t : List UInt8) (h : rightC k nr ns w = true) :
    cgetE (putB k nr ns pf w ++ t) w = gotV k nr ns pf (putB k nr ns pf w).length ∧ (docN k nr ns pf w).map UInt8.ofNat = putB k nr ns pf w ∧ (∀ x ∈ docN k nr ns pf w, x < 256) := by
  obtain ⟨g1, g2, g3, g4, g5, g6, g7, g8⟩ := (rightC_iff k nr ns w).1 h
  cases w
  · have hm : modD false = 8 := rfl
    rw [hm] at g5 g6
    obtain ⟨f1, f2, f3, f4, f5, f6⟩ := one_facts ⟨k, by omega⟩ ⟨nr, by omega⟩ ⟨ns, by omega⟩ pf h
    dsimp only at f1 f2 f3 f4 f5 f6
    have hl := one_lt k nr ns pf (by omega) (by omega) (by omega)
    have hp : putB k nr ns pf false = [UInt8.ofNat (oneN k nr ns pf)] := rfl
    rw [hp, f1]
    exact ⟨get_one k nr ns _ pf false t hl (by omega) f2 f3 f4 f5 f6, rfl, fun x hx => by rw [List.mem_singleton.1 hx]; exact hl⟩
  · have hm : modD true = 128 := rfl
    rw [hm] at g5 g6
    by_cases h5 : 5 < k
    · have e1 : nr = 0 := by omega
      have e2 : ns = 0 := by omega
      subst e1 e2
      obtain ⟨f1, f2, f3, f4, f5, f6⟩ := high_facts ⟨k, by omega⟩ pf h5
      dsimp only at f1 f2 f3 f4 f5 f6
      have hl := one_lt k 0 0 pf (by omega) (by omega) (by omega)
      have hp : putB k 0 0 pf true = [UInt8.ofNat (oneN k 0 0 pf)] := if_neg (by rw [f4]; simp)
      rw [hp, f1]
      exact ⟨get_one k 0 0 _ pf true t hl (by omega) f2 f3 (by rw [f4]; rfl) (by rw [f5]; rfl) f6, rfl, fun x hx => by rw [List.mem_singleton.1 hx]; exact hl⟩
    · have hl := (fir_bits k ns (by omega) (by omega)).2
      have hl2 := (sec_bits nr pf (by omega)).2
      have hk1 : 1 ≤ k := by omega
      obtain ⟨f1, f2, f3, f4, f5⟩ := fir_facts ⟨k, by omega⟩ ⟨ns, by omega⟩ (by show 1 ≤ k; omega) (by show k = 1 ∨ ns = 0; omega)
      obtain ⟨s1, s2, s3⟩ := sec_facts ⟨nr, by omega⟩ pf
      dsimp only at f1 f2 f3 f4 f5 s1 s2 s3
      have hp : putB k nr ns pf true = [UInt8.ofNat (firN k ns), UInt8.ofNat (secN nr pf)] := if_pos (by rw [f4]; rfl)
      have hd : docN k nr ns pf true = [firN k ns, secN nr pf] := by unfold docN; rw [if_neg h5, if_pos rfl, f1, s1]
      rw [hp, hd]
      exact ⟨get_two k nr ns _ _ pf t hl hl2 hk1 f2 f3 s2 f5 s3, rfl, fun x hx => by
        rcases List.mem_cons.1 hx with rfl | hx
        · exact hl
        · rw [List.mem_singleton.1 hx]; exact hl2⟩
/-- unlike controls, unlike bytes -/
theorem put_inj (k nr ns k' nr' ns' : Nat) (pf pf' w : Bool) (h : rightC k nr ns w = true) (h' : rightC k' nr' ns' w = true) (e : putB k nr ns pf w = putB k' nr' ns' pf' w) : k = k' ∧ nr = nr' ∧ ns = ns' ∧ pf = pf' := by
  have a := (cget_put k nr ns pf w [] h).1
  have b := (cget_put k' nr' ns' pf' w [] h').1
  rw [e] at a
  have c := a.symm.trans b
  simp only [gotV, Value.tuple.injEq, Array.mk.injEq, List.cons.injEq, Value.agg.injEq, Value.int.injEq, Value.bool.injEq, true_and, and_true] at c
  obtain ⟨c1, c2, c3, c4⟩ := c
  exact ⟨by omega, by omega, by omega, c4⟩
end Go.Proofs.YtadhiknmkiogjaaDoor
