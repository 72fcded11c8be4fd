/-
Controls as plain facts; the landed code's reading of controls.
A frame's thirteen cells.
Walk of the statement PathReads.
What the document's own Get of controls answers, as plain facts.
The landed code's reading of a path and a control; the kind of bytes.
-/
import Derived.Test.YtmgfpnemamedoaaDoorProg
import Derived.Test.YtmgfpnemamedoaaDoorMix01
import Derived.WalkKit
import Derived.WalkSpells
import Derived.WalkLawsBesides
import Derived.Laws.BitsAllLaws
import Derived.Laws.ShiftsVarLaws
import Derived.Lib.Hide
import Derived.Lib.LaidTab
import Derived.BigQuiet
import Derived.Deep.QuietTactic
import Derived.BigRegion
import Derived.IntWalk
import Derived.Test.YtmgfpnemamedoaaDoorMix05
import Derived.Scope
import Derived.WalkMore
import Derived.Lib.LazyBuf
import Derived.Lib.SmallJoins
import Derived.Lib.ItoaNum
import Derived.Lib.QuietBelow
import Derived.Lib.IndexBytes
import Derived.OrdersHeld
import Derived.Deep.RegionHeld
import Derived.Test.YtmgfpnemamedoaaDoorMix06
namespace Go.Proofs.YtmgfpnemamedoaaDoor
open Go.RowKit
def codeL : List Int := [0, 0, 1, 5, 9, 13, 47, 111, 67, 15, 99, 135, 3, 175, 227]
def codeD (k : Nat) : Int := codeL.getD k 0
def supD (k : Int) : Bool := decide (2 ≤ k) && decide (k ≤ 5)
def hasD (k : Int) : Bool := decide (k = 1) || supD k
def kindD (k : Int) : Bool := decide (1 ≤ k) && decide (k ≤ 14)
def belowD (n m : Int) : Bool := decide (0 ≤ n) && decide (n < m)
def modD (w : Bool) : Int := if w then 128 else 8
def rightC (k nr ns : Int) (w : Bool) : Bool := kindD k && belowD nr (if hasD k then modD w else 1) && belowD ns (if k = 1 then modD w else 1)
def infoC (k : Int) : Bool := decide (k = 1) || decide (k = 11) || decide (k = 12) || decide (k = 13) || decide (k = 14)
def pidD (k : Int) : Bool := decide (k = 1) || decide (k = 12)
theorem isKind_any (k : Int) (w : World) : Calls Tryd.prog 42 #[.int .i64 k] w fun e w' => e = .returned (.bool (kindD k)) ∧ w' = w := by
  by_cases h1 : 1 ≤ k
  · have d1 : decide (1 ≤ k) = true := decide_eq_true h1
    by_cases h2 : k ≤ 14
    · have d2 : decide (k ≤ 14) = true := decide_eq_true h2
      go_enter Tryd.func42, Tryd.ntmps42
      go_wp2
      go_ret
      exact ⟨by rw [kindD, d1, d2]; rfl, rfl⟩
    · have d2 : decide (k ≤ 14) = false := decide_eq_false h2
      go_enter Tryd.func42, Tryd.ntmps42
      go_wp2
      go_ret
      exact ⟨by rw [kindD, d1, d2]; rfl, rfl⟩
  · have d1 : decide (1 ≤ k) = false := decide_eq_false h1
    go_enter Tryd.func42, Tryd.ntmps42
    go_wp2
    go_ret
    exact ⟨by rw [kindD, d1]; rfl, rfl⟩
theorem sup_any (k : Int) (w : World) : Calls Tryd.prog 45 #[.int .i64 k] w fun e w' => e = .returned (.bool (supD k)) ∧ w' = w := by
  by_cases h1 : 2 ≤ k
  · have d1 : decide (2 ≤ k) = true := decide_eq_true h1
    by_cases h2 : k ≤ 5
    · have d2 : decide (k ≤ 5) = true := decide_eq_true h2
      go_enter Tryd.func45, Tryd.ntmps45
      go_wp2
      go_ret
      exact ⟨by rw [supD, d1, d2]; rfl, rfl⟩
    · have d2 : decide (k ≤ 5) = false := decide_eq_false h2
      go_enter Tryd.func45, Tryd.ntmps45
      go_wp2
      go_ret
      exact ⟨by rw [supD, d1, d2]; rfl, rfl⟩
  · have d1 : decide (2 ≤ k) = false := decide_eq_false h1
    go_enter Tryd.func45, Tryd.ntmps45
    go_wp2
    go_ret
    exact ⟨by rw [supD, d1]; rfl, rfl⟩
theorem hasNr_any (k : Int) (w : World) : Calls Tryd.prog 33 #[.int .i64 k] w fun e w' => e = .returned (.bool (hasD k)) ∧ w' = w := by
  have HS := Lib.hid (fun W => sup_any k W)
  by_cases h1 : k = 1
  · subst h1
    go_enter Tryd.func33, Tryd.ntmps33
    go_wp2
    go_ret
    exact ⟨by simp [hasD], rfl⟩
  · have d1 : (k == 1) = false := by simpa using h1
    go_enter Tryd.func33, Tryd.ntmps33
    go_wp2_with (go_at_call 45; (with_reducible refine (HS.out _).mono ?_); rintro e w1 ⟨rfl, rfl⟩)
    go_ret
    exact ⟨by simp [hasD, h1], rfl⟩
theorem isBelow_any (n m : Int) (w : World) : Calls Tryd.prog 43 #[.int .i64 n, .int .i64 m] w fun e w' => e = .returned (.bool (belowD n m)) ∧ w' = w := by
  by_cases h1 : 0 ≤ n
  · have d1 : decide (0 ≤ n) = true := decide_eq_true h1
    by_cases h2 : n < m
    · have d2 : decide (n < m) = true := decide_eq_true h2
      go_enter Tryd.func43, Tryd.ntmps43
      go_wp2
      go_ret
      exact ⟨by rw [belowD, d1, d2]; rfl, rfl⟩
    · have d2 : decide (n < m) = false := decide_eq_false h2
      go_enter Tryd.func43, Tryd.ntmps43
      go_wp2
      go_ret
      exact ⟨by rw [belowD, d1, d2]; rfl, rfl⟩
  · have d1 : decide (0 ≤ n) = false := decide_eq_false h1
    go_enter Tryd.func43, Tryd.ntmps43
    go_wp2
    go_ret
    exact ⟨by rw [belowD, d1]; rfl, rfl⟩
theorem bit_any (on : Bool) (b : Int) (w : World) : Calls Tryd.prog 34 #[.bool on, .int .u8 b] w fun e w' => e = .returned (.int .u8 (if on then b else 0)) ∧ w' = w := by
  cases on
  all_goals
    go_enter Tryd.func34, Tryd.ntmps34
    go_wp2
    go_ret
    exact ⟨rfl, rfl⟩
def maskD (k : Int) (w : Bool) : Int := if k = 1 then 1 else if supD k then (if w then 255 else 15) else 239
def lenD (b : Int) (w : Bool) : Int := if w && (bits BinOp.and .u8 b 3 != 3) then 2 else 1
theorem info_any (k : Int) (w : World) : Calls Tryd.prog 44 #[.int .i64 k] w fun e w' => e = .returned (.bool (infoC k)) ∧ w' = w := by
  by_cases h : k = 1 ∨ k = 11 ∨ k = 12 ∨ k = 13 ∨ k = 14
  · rcases h with rfl | rfl | rfl | rfl | rfl
    all_goals
      go_enter Tryd.func44, Tryd.ntmps44
      go_wp2
      go_ret
      exact ⟨rfl, rfl⟩
  · have d1 : (k == 1) = false := by simp; omega
    have d2 : (k == 11) = false := by simp; omega
    have d3 : (k == 12) = false := by simp; omega
    have d4 : (k == 13) = false := by simp; omega
    have d5 : (k == 14) = false := by simp; omega
    go_enter Tryd.func44, Tryd.ntmps44
    go_wp2
    go_ret
    exact ⟨by simp [infoC]; omega, rfl⟩
theorem pid_any (k : Int) (w : World) : Calls Tryd.prog 19 #[.int .i64 k] w fun e w' => e = .returned (.bool (pidD k)) ∧ w' = w := by
  by_cases h : k = 1 ∨ k = 12
  · rcases h with rfl | rfl
    all_goals
      go_enter Tryd.func19, Tryd.ntmps19
      go_wp2
      go_ret
      exact ⟨rfl, rfl⟩
  · have d1 : (k == 1) = false := by simp; omega
    have d3 : (k == 12) = false := by simp; omega
    go_enter Tryd.func19, Tryd.ntmps19
    go_wp2
    go_ret
    exact ⟨by simp [pidD]; omega, rfl⟩
end Go.Proofs.YtmgfpnemamedoaaDoor
namespace Go.Proofs.YtmgfpnemamedoaaDoor
open Go.RowKit
structure C4 (W : World) (m : Nat) (v0 v1 v2 v3 : Value) : Prop where
  c0 : W.cell? ⟨m, 0, none⟩ = some v0
  c1 : W.cell? ⟨m, 1, none⟩ = some v1
  c2 : W.cell? ⟨m, 2, none⟩ = some v2
  c3 : W.cell? ⟨m, 3, none⟩ = some v3
  f0 : W.frozen? ⟨m, 0, none⟩ = false
  f1 : W.frozen? ⟨m, 1, none⟩ = false
  f2 : W.frozen? ⟨m, 2, none⟩ = false
  f3 : W.frozen? ⟨m, 3, none⟩ = false
  lt : m < W.heap.size
theorem C4.new (w : World) (m : Nat) (hm : m = w.heap.size) (v0 v1 v2 v3 : Value) (T : TypeId) : C4 (w.alloc (.cells #[v0, v1, v2, v3] T)) m v0 v1 v2 v3 := by
  subst hm
  exact ⟨World.cell?_alloc_at _ _ _ _ rfl, World.cell?_alloc_at _ _ _ _ rfl, World.cell?_alloc_at _ _ _ _ rfl, World.cell?_alloc_at _ _ _ _ rfl, World.frozen?_alloc_at _ _ _ _ rfl, World.frozen?_alloc_at _ _ _ _ rfl, World.frozen?_alloc_at _ _ _ _ rfl, World.frozen?_alloc_at _ _ _ _ rfl, by simp⟩
theorem C4.below {W W' : World} {m : Nat} {v0 v1 v2 v3 : Value} (h : C4 W m v0 v1 v2 v3) (hb : Below W.heap.size W W') : C4 W' m v0 v1 v2 v3 := by
  obtain ⟨c0, c1, c2, c3, f0, f1, f2, f3, hl⟩ := h
  exact ⟨(hb.cell (p := ⟨m, 0, none⟩) hl).trans c0, (hb.cell (p := ⟨m, 1, none⟩) hl).trans c1, (hb.cell (p := ⟨m, 2, none⟩) hl).trans c2, (hb.cell (p := ⟨m, 3, none⟩) hl).trans c3,
    (hb.frozen (p := ⟨m, 0, none⟩) hl).trans f0, (hb.frozen (p := ⟨m, 1, none⟩) hl).trans f1, (hb.frozen (p := ⟨m, 2, none⟩) hl).trans f2, (hb.frozen (p := ⟨m, 3, none⟩) hl).trans f3, Nat.lt_of_lt_of_le hl hb.size⟩
theorem C4.alloc {W : World} {m : Nat} {v0 v1 v2 v3 : Value} (h : C4 W m v0 v1 v2 v3) (x : Obj) : C4 (W.alloc x) m v0 v1 v2 v3 := h.below ((Below.refl _ W).alloc (Nat.le_refl _) _)
theorem C4.drew {W : World} {m : Nat} {v0 v1 v2 v3 : Value} (h : C4 W m v0 v1 v2 v3) : C4 W.drew m v0 v1 v2 v3 := ⟨h.c0, h.c1, h.c2, h.c3, h.f0, h.f1, h.f2, h.f3, h.lt⟩
theorem C4.drewN {W : World} {m : Nat} {v0 v1 v2 v3 : Value} (h : C4 W m v0 v1 v2 v3) (n : Nat) : C4 (W.drewN n) m v0 v1 v2 v3 := ⟨h.c0, h.c1, h.c2, h.c3, h.f0, h.f1, h.f2, h.f3, h.lt⟩
theorem C4.other {W : World} {m g : Nat} {v0 v1 v2 v3 : Value} (h : C4 W m v0 v1 v2 v3) (p : Nat) (v : Value) (hg : g ≠ m) : C4 (W.setCell ⟨g, p, none⟩ v) m v0 v1 v2 v3 := by
  obtain ⟨c0, c1, c2, c3, f0, f1, f2, f3, hl⟩ := h
  exact ⟨(set_block _ _ _ _ _ _ hg).trans c0, (set_block _ _ _ _ _ _ hg).trans c1, (set_block _ _ _ _ _ _ hg).trans c2, (set_block _ _ _ _ _ _ hg).trans c3,
    by rw [World.frozen?_setCell]; exact f0, by rw [World.frozen?_setCell]; exact f1, by rw [World.frozen?_setCell]; exact f2, by rw [World.frozen?_setCell]; exact f3, by simpa [World.setCell] using hl⟩
theorem below_drewC {B : Nat} {a w : World} (h : Below B a w) (n : Nat) : Below B a (w.drewN n) := ⟨h.os, h.tape, h.output, h.size, h.block⟩
/-- its third cell is written anew -/
theorem C4.put2 {W : World} {m : Nat} {v0 v1 v2 v3 : Value} (h : C4 W m v0 v1 v2 v3) (v : Value) : C4 (W.setCell ⟨m, 2, none⟩ v) m v0 v1 v v3 := by
  obtain ⟨c0, c1, c2, c3, f0, f1, f2, f3, hl⟩ := h
  exact ⟨(set_off _ _ _ _ _ (by omega)).trans c0, (set_off _ _ _ _ _ (by omega)).trans c1, set_here c2, (set_off _ _ _ _ _ (by omega)).trans c3,
    by rw [World.frozen?_setCell]; exact f0, by rw [World.frozen?_setCell]; exact f1, by rw [World.frozen?_setCell]; exact f2, by rw [World.frozen?_setCell]; exact f3, by simpa [World.setCell] using hl⟩
/-- four cells written anew -/
theorem stored4 {W : World} {m : Nat} {x0 x1 x2 x3 : Value} (u0 u1 u2 u3 : Value) (h : C4 W m x0 x1 x2 x3) :
    C4 ((((W.setCell ⟨m, 0, none⟩ u0).setCell ⟨m, 1, none⟩ u1).setCell ⟨m, 2, none⟩ u2).setCell ⟨m, 3, none⟩ u3) m u0 u1 u2 u3 := by
  obtain ⟨c0, c1, c2, c3, f0, f1, f2, f3, hl⟩ := h
  have e0 : (W.setCell ⟨m, 0, none⟩ u0).cell? ⟨m, 0, none⟩ = some u0 := set_here c0
  have e1 : ((W.setCell ⟨m, 0, none⟩ u0).setCell ⟨m, 1, none⟩ u1).cell? ⟨m, 1, none⟩ = some u1 := set_here ((set_off _ _ _ _ _ (by omega)).trans c1)
  have e2 : (((W.setCell ⟨m, 0, none⟩ u0).setCell ⟨m, 1, none⟩ u1).setCell ⟨m, 2, none⟩ u2).cell? ⟨m, 2, none⟩ = some u2 := set_here ((set_off _ _ _ _ _ (by omega)).trans ((set_off _ _ _ _ _ (by omega)).trans c2))
  refine ⟨?_, ?_, ?_, ?_, ?_, ?_, ?_, ?_, ?_⟩
  · exact (set_off _ _ _ _ _ (by omega)).trans ((set_off _ _ _ _ _ (by omega)).trans ((set_off _ _ _ _ _ (by omega)).trans e0))
  · exact (set_off _ _ _ _ _ (by omega)).trans ((set_off _ _ _ _ _ (by omega)).trans e1)
  · exact (set_off _ _ _ _ _ (by omega)).trans e2
  · exact set_here ((set_off _ _ _ _ _ (by omega)).trans ((set_off _ _ _ _ _ (by omega)).trans ((set_off _ _ _ _ _ (by omega)).trans c3)))
  · simp only [World.frozen?_setCell]; exact f0
  · simp only [World.frozen?_setCell]; exact f1
  · simp only [World.frozen?_setCell]; exact f2
  · simp only [World.frozen?_setCell]; exact f3
  · simpa [World.setCell] using hl
theorem set4_below {B m : Nat} {a W : World} (h : Below B a W) (hm : B ≤ m) (u0 u1 u2 u3 : Value) :
    Below B a ((((W.setCell ⟨m, 0, none⟩ u0).setCell ⟨m, 1, none⟩ u1).setCell ⟨m, 2, none⟩ u2).setCell ⟨m, 3, none⟩ u3) :=
  (((h.setCell (p := ⟨m, 0, none⟩) hm u0).setCell (p := ⟨m, 1, none⟩) hm u1).setCell (p := ⟨m, 2, none⟩) hm u2).setCell (p := ⟨m, 3, none⟩) hm u3
end Go.Proofs.YtmgfpnemamedoaaDoor
namespace Go.Proofs.YtmgfpnemamedoaaDoor
open Go.RowKit
/-- the table of the kinds' bytes -/
structure CodesOk (w : World) : Prop where
  at_ : ∀ k, k < 15 → w.cell? ⟨0, k, none⟩ = some (.int .u8 (codeD k))
theorem CodesOk.below {w W : World} (h : CodesOk w) (hb : Below w.heap.size w W) : CodesOk W :=
  ⟨fun k hk => (hb.cell (p := ⟨0, k, none⟩) (World.block_lt_of_cell? w ⟨0, k, none⟩ (h.at_ k hk))).trans (h.at_ k hk)⟩
theorem CodesOk.lt {w : World} (h : CodesOk w) : 0 < w.heap.size := World.block_lt_of_cell? w ⟨0, 0, none⟩ (h.at_ 0 (by omega))
set_option maxHeartbeats 1000000 in
theorem ccright_any (k nr ns : Int) (pf wide : Bool) (w : World) :
    Calls Tryd.prog 29 #[.agg #[.int .i64 k, .int .i64 nr, .int .i64 ns, .bool pf], .bool wide] w fun e w' => e = .returned (.bool (rightC k nr ns wide)) ∧ Below w.heap.size w w' := by
  have HN := Lib.hid (fun W => hasNr_any k W)
  have HK := Lib.hid (fun W => isKind_any k W)
  have HB := Lib.hid (fun n m W => isBelow_any n m W)
  have hb0 := Lib.hid ((Below.refl _ w).alloc (Nat.le_refl _) (.cells #[.int .i64 k, .int .i64 nr, .int .i64 ns, .bool pf] 37))
  have hR : rightC k nr ns wide = (kindD k && belowD nr (if hasD k then modD wide else 1) && belowD ns (if k == 1 then modD wide else 1)) := by simp [rightC]
  rw [hR]
  clear hR
  have hH1 : (k == 1) = true → hasD k = true := fun h => by simp at h; subst h; rfl
  generalize hasD k = H at *
  generalize hk1 : (k == 1) = K1 at *
  generalize kindD k = KK at *
  have key : ∀ A B : Int, A = (if H then modD wide else 1) → B = (if K1 then modD wide else 1) →
      Calls Tryd.prog 29 #[.agg #[.int .i64 k, .int .i64 nr, .int .i64 ns, .bool pf], .bool wide] w fun e w' => e = .returned (.bool (KK && belowD nr A && belowD ns B)) ∧ Below w.heap.size w w' := by
    intro A B hA hB
    have h1 := Lib.hid (fun W => HB.out nr A W)
    have h2 := Lib.hid (fun W => HB.out ns B W)
    generalize belowD nr A = b1 at *
    generalize belowD ns B = b2 at *
    clear HB
    cases K1
    · cases H
      all_goals
        cases wide
        all_goals
          simp only [modD, if_true, if_false, Bool.false_eq_true] at hA hB
          subst hA hB
          cases KK
          · go_enter Tryd.func29, Tryd.ntmps29
            go_wp2_with (first | (go_at_call 33; (with_reducible refine (HN.out _).mono ?_); rintro e w1 ⟨rfl, rfl⟩) | (go_at_call 42; (with_reducible refine (HK.out _).mono ?_); rintro e w1 ⟨rfl, rfl⟩))
            go_ret
            exact ⟨rfl, hb0.out⟩
          · cases b1
            all_goals
              go_enter Tryd.func29, Tryd.ntmps29
              go_wp2_with (first | (go_at_call 33; (with_reducible refine (HN.out _).mono ?_); rintro e w1 ⟨rfl, rfl⟩) | (go_at_call 42; (with_reducible refine (HK.out _).mono ?_); rintro e w1 ⟨rfl, rfl⟩) | (go_at_call 43; (with_reducible refine (h1.out _).mono ?_); rintro e w1 ⟨rfl, rfl⟩) | (go_at_call 43; (with_reducible refine (h2.out _).mono ?_); rintro e w1 ⟨rfl, rfl⟩))
              go_ret
              exact ⟨rfl, hb0.out⟩
    · obtain rfl := hH1 rfl
      obtain rfl : k = 1 := by simpa using hk1
      cases wide
      all_goals
        simp only [modD, if_true, if_false, Bool.false_eq_true] at hA hB
        subst hA hB
        cases KK
        · go_enter Tryd.func29, Tryd.ntmps29
          go_wp2_with (first | (go_at_call 33; (with_reducible refine (HN.out _).mono ?_); rintro e w1 ⟨rfl, rfl⟩) | (go_at_call 42; (with_reducible refine (HK.out _).mono ?_); rintro e w1 ⟨rfl, rfl⟩))
          go_ret
          exact ⟨rfl, hb0.out⟩
        · cases b1
          all_goals
            go_enter Tryd.func29, Tryd.ntmps29
            go_wp2_with (first | (go_at_call 33; (with_reducible refine (HN.out _).mono ?_); rintro e w1 ⟨rfl, rfl⟩) | (go_at_call 42; (with_reducible refine (HK.out _).mono ?_); rintro e w1 ⟨rfl, rfl⟩) | (go_at_call 43; (with_reducible refine (h1.out _).mono ?_); rintro e w1 ⟨rfl, rfl⟩) | (go_at_call 43; (with_reducible refine (h2.out _).mono ?_); rintro e w1 ⟨rfl, rfl⟩))
            go_ret
            exact ⟨rfl, hb0.out⟩
  exact key _ _ rfl rfl
end Go.Proofs.YtmgfpnemamedoaaDoor
namespace Go.Proofs.YtmgfpnemamedoaaDoor
open Go.RowKit
def findG (b : Int) (w : Bool) : Nat → Nat → Nat
  | 0, _ => 0
  | f + 1, k => if bits BinOp.and .u8 b (maskD k w) == codeD k then k else findG b w f (k + 1)
def findD (b : Int) (w : Bool) : Nat := findG b w 14 1
theorem findG_hit (b : Int) (w : Bool) (k : Nat) (h : k ≤ 14) (e : (bits BinOp.and .u8 b (maskD k w) == codeD k) = true) : findG b w (15 - k) k = k := by
  obtain ⟨f, hf⟩ : ∃ f, 15 - k = f + 1 := ⟨14 - k, by omega⟩
  rw [hf, findG, if_pos e]
theorem findG_miss (b : Int) (w : Bool) (k : Nat) (h : k ≤ 14) (e : (bits BinOp.and .u8 b (maskD k w) == codeD k) = false) : findG b w (15 - k) k = findG b w (15 - (k + 1)) (k + 1) := by
  obtain ⟨f, hf⟩ : ∃ f, 15 - k = f + 1 := ⟨14 - k, by omega⟩
  rw [hf, findG, if_neg (by simp [e]), show 15 - (k + 1) = f from by omega]
end Go.Proofs.YtmgfpnemamedoaaDoor
namespace Go.Proofs.YtmgfpnemamedoaaDoor
open Go.RowKit
set_option maxRecDepth 20000
def codeN (k : Nat) : Nat := [0, 0, 1, 5, 9, 13, 47, 111, 67, 15, 99, 135, 3, 175, 227].getD k 0
theorem codeD_nat (k : Nat) (h : k < 15) : codeD k = (codeN k : Int) ∧ codeN k < 256 := by
  have : ∀ k : Fin 15, codeD k.1 = (codeN k.1 : Int) ∧ codeN k.1 < 256 := by decide
  exact this ⟨k, h⟩
/-- the one byte -/
def oneN (k nr ns : Nat) (pf : Bool) : Nat := (codeN k ||| ns * 2) ||| (nr * 32 ||| (if pf then 16 else 0))
/-- the first of two bytes -/
def firN (k ns : Nat) : Nat := codeN k ||| ns * 2
/-- the second of two bytes -/
def secN (nr : Nat) (pf : Bool) : Nat := nr * 2 ||| (if pf then 1 else 0)
theorem or8 {a b : Nat} (ha : a < 256) (hb : b < 256) : a ||| b < 256 := Nat.or_lt_two_pow (n := 8) ha hb
theorem one_bits (k nr ns : Nat) (pf : Bool) (hk : k < 15) (hnr : nr < 8) (hns : ns < 128) :
    bits BinOp.or .u8 (bits BinOp.or .u8 (codeD k) ((ns : Int) * 2)) (bits BinOp.or .u8 ((nr : Int) * 32) (if pf then 16 else 0)) = (oneN k nr ns pf : Int) ∧ oneN k nr ns pf < 256 := by
  obtain ⟨e, h⟩ := codeD_nat k hk
  have hp : (if pf then 16 else 0 : Int) = ((if pf then 16 else 0 : Nat) : Int) ∧ (if pf then 16 else 0 : Nat) < 256 := by cases pf <;> decide
  have e1 : (ns : Int) * 2 = ((ns * 2 : Nat) : Int) := by omega
  have e2 : (nr : Int) * 32 = ((nr * 32 : Nat) : Int) := by omega
  unfold oneN
  rw [e, e1, e2, hp.1, u8_or_nat _ _ h (by omega), u8_or_nat _ _ (by omega) hp.2, u8_or_nat _ _ (or8 h (by omega)) (or8 (by omega) hp.2)]
  exact ⟨rfl, or8 (or8 h (by omega)) (or8 (by omega) hp.2)⟩
theorem fir_bits (k ns : Nat) (hk : k < 15) (hns : ns < 128) : bits BinOp.or .u8 (codeD k) ((ns : Int) * 2) = (firN k ns : Int) ∧ firN k ns < 256 := by
  obtain ⟨e, h⟩ := codeD_nat k hk
  have e1 : (ns : Int) * 2 = ((ns * 2 : Nat) : Int) := by omega
  unfold firN
  rw [e, e1, u8_or_nat _ _ h (by omega)]
  exact ⟨rfl, or8 h (by omega)⟩
theorem sec_bits (nr : Nat) (pf : Bool) (hnr : nr < 128) : bits BinOp.or .u8 ((nr : Int) * 2) (if pf then 1 else 0) = (secN nr pf : Int) ∧ secN nr pf < 256 := by
  have hp : (if pf then 1 else 0 : Int) = ((if pf then 1 else 0 : Nat) : Int) ∧ (if pf then 1 else 0 : Nat) < 256 := by cases pf <;> decide
  have e1 : (nr : Int) * 2 = ((nr * 2 : Nat) : Int) := by omega
  unfold secN
  rw [e1, hp.1, u8_or_nat _ _ (by omega) hp.2]
  exact ⟨rfl, or8 (by omega) hp.2⟩
/-- a right control's bytes -/
def putB (k nr ns : Nat) (pf wide : Bool) : List UInt8 := if wide && hasD k then [UInt8.ofNat (firN k ns), UInt8.ofNat (secN nr pf)] else [UInt8.ofNat (oneN k nr ns pf)]
theorem rightC_facts {k nr ns : Int} {w : Bool} (h : rightC k nr ns w = true) : ∃ K R S : Nat, k = K ∧ nr = R ∧ ns = S ∧ 1 ≤ K ∧ K < 15 ∧ (hasD K = false → R = 0) ∧ (K ≠ 1 → S = 0) ∧ (w = false → R < 8 ∧ S < 8) ∧ R < 128 ∧ S < 128 := by
  simp only [rightC, Bool.and_eq_true, kindD, belowD, decide_eq_true_eq] at h
  obtain ⟨⟨⟨h1, h2⟩, h3, h4⟩, h5, h6⟩ := h
  have hm : modD w ≤ 128 ∧ (w = false → modD w = 8) := by cases w <;> decide
  have r1 : nr < 128 := by split at h4 <;> omega
  have s1 : ns < 128 := by split at h6 <;> omega
  refine ⟨k.toNat, nr.toNat, ns.toNat, by omega, by omega, by omega, by omega, by omega, ?_, ?_, ?_, by omega, by omega⟩
  · intro hh
    rw [show ((k.toNat : Nat) : Int) = k from by omega] at hh
    rw [hh] at h4
    simp at h4
    omega
  · intro hk
    rw [if_neg (by omega)] at h6
    omega
  · intro hw
    have := hm.2 hw
    refine ⟨?_, ?_⟩
    · split at h4 <;> omega
    · split at h6 <;> omega
end Go.Proofs.YtmgfpnemamedoaaDoor
namespace Go.Proofs.YtmgfpnemamedoaaDoor
open Go.RowKit
set_option maxRecDepth 20000
theorem ix1 (x : UInt8) (h : 0 < (⟨#[x]⟩ : ByteArray).size) : (⟨#[x]⟩ : ByteArray)[0]'h = x := rfl
/-- what read makes of one byte -/
def read1V (k : Int) (x : UInt8) : Value := .agg #[.int .i64 k, .int .i64 (if hasD k then wrap64 ((x.toNat : Int) / 32) else 0), .int .i64 (if k == 1 then (wrap64 ((x.toNat : Int) / 2)).tmod 8 else 0), .bool (bits BinOp.and .u8 (x.toNat : Int) 16 != 0)]
/-- what read makes of two bytes -/
def read2V (k : Int) (x y : UInt8) : Value := .agg #[.int .i64 k, .int .i64 (wrap64 ((y.toNat : Int) / 2)), .int .i64 (if k == 1 then wrap64 ((x.toNat : Int) / 2) else 0), .bool (bits BinOp.and .u8 (y.toNat : Int) 1 != 0)]
end Go.Proofs.YtmgfpnemamedoaaDoor
namespace Go.Proofs.YtmgfpnemamedoaaDoor
open Go.RowKit
set_option maxRecDepth 20000
/-- the zero control with a number and an error -/
def noneV (e : Int) : Value := .tuple #[.agg #[.int .i64 0, .int .i64 0, .int .i64 0, .bool false], .int .i64 0, .int .i64 e]
theorem lenD_two (b : Int) (w : Bool) : lenD b w = 1 ∨ lenD b w = 2 := by
  unfold lenD
  split
  · exact Or.inr rfl
  · exact Or.inl rfl
/-- what Get answers -/
def cgetE (s : List UInt8) (wide : Bool) : Value := match s with
  | [] => noneV 4
  | x :: t => if lenD (x.toNat : Int) wide = 2 then (match t with
      | [] => noneV 4
      | y :: _ => if findD (x.toNat : Int) wide = 0 then noneV 2 else .tuple #[read2V (findD (x.toNat : Int) wide : Nat) x y, .int .i64 2, .int .i64 0])
    else if findD (x.toNat : Int) wide = 0 then noneV 2 else .tuple #[read1V (findD (x.toNat : Int) wide : Nat) x, .int .i64 1, .int .i64 0]
theorem extract_one (x : UInt8) (t : List UInt8) : ByteArray.extract ⟨(x :: t).toArray⟩ 0 1 = ⟨#[x]⟩ := by
  apply bytes_ext'
  simp
theorem extract_two (x y : UInt8) (t : List UInt8) : ByteArray.extract ⟨(x :: y :: t).toArray⟩ 0 2 = ⟨#[x, y]⟩ := by
  apply bytes_ext'
  simp
end Go.Proofs.YtmgfpnemamedoaaDoor
namespace Go.Proofs.YtmgfpnemamedoaaDoor
open Go.RowKit
set_option maxRecDepth 20000
theorem rightC_iff (k nr ns : Int) (w : Bool) : rightC k nr ns w = true ↔ 1 ≤ k ∧ k ≤ 14 ∧ 0 ≤ nr ∧ 0 ≤ ns ∧ nr < modD w ∧ ns < modD w ∧ (k = 1 ∨ ns = 0) ∧ (k ≤ 5 ∨ nr = 0) := by
  have hm : modD w = 8 ∨ modD w = 128 := by cases w <;> decide
  simp only [rightC, Bool.and_eq_true, kindD, belowD, hasD, supD, Bool.or_eq_true, decide_eq_true_eq]
  constructor
  · rintro ⟨⟨⟨h1, h2⟩, h3, h4⟩, h5, h6⟩
    refine ⟨h1, h2, h3, h5, ?_, ?_, ?_, ?_⟩
    · split at h4 <;> omega
    · split at h6 <;> omega
    · split at h6 <;> omega
    · split at h4 <;> omega
  · rintro ⟨h1, h2, h3, h4, h5, h6, h7, h8⟩
    refine ⟨⟨⟨h1, h2⟩, h3, ?_⟩, h4, ?_⟩
    · split <;> omega
    · split <;> omega
/-- the document's bytes as numbers -/
def docN (k nr ns : Nat) (pf wide : Bool) : List Nat :=
  if 5 < k then [codeN k + (if pf then 16 else 0)]
  else if wide then [if 1 < k then codeN k else 2 * ns, 2 * nr + (if pf then 1 else 0)]
  else [32 * nr + (if pf then 16 else 0) + (if 1 < k then codeN k else 2 * ns)]
theorem one_facts : ∀ k : Fin 15, ∀ nr : Fin 8, ∀ ns : Fin 8, ∀ pf : Bool, rightC k.1 nr.1 ns.1 false = true →
    docN k.1 nr.1 ns.1 pf false = [oneN k.1 nr.1 ns.1 pf] ∧ lenD (oneN k.1 nr.1 ns.1 pf) false = 1 ∧ findD (oneN k.1 nr.1 ns.1 pf) false = k.1 ∧
    (if hasD (k.1 : Nat) then wrap64 ((oneN k.1 nr.1 ns.1 pf : Int) / 32) else 0) = (nr.1 : Int) ∧ (if ((k.1 : Nat) : Int) == 1 then (wrap64 ((oneN k.1 nr.1 ns.1 pf : Int) / 2)).tmod 8 else 0) = (ns.1 : Int) ∧ (bits BinOp.and .u8 (oneN k.1 nr.1 ns.1 pf : Int) 16 != 0) = pf := by decide +kernel
theorem high_facts : ∀ k : Fin 15, ∀ pf : Bool, 5 < k.1 →
    docN k.1 0 0 pf true = [oneN k.1 0 0 pf] ∧ lenD (oneN k.1 0 0 pf) true = 1 ∧ findD (oneN k.1 0 0 pf) true = k.1 ∧ hasD (k.1 : Nat) = false ∧ (((k.1 : Nat) : Int) == 1) = false ∧ (bits BinOp.and .u8 (oneN k.1 0 0 pf : Int) 16 != 0) = pf := by decide +kernel
theorem fir_facts : ∀ k : Fin 6, ∀ ns : Fin 128, 1 ≤ k.1 → (k.1 = 1 ∨ ns.1 = 0) →
    (if 1 < k.1 then codeN k.1 else 2 * ns.1) = firN k.1 ns.1 ∧ lenD (firN k.1 ns.1) true = 2 ∧ findD (firN k.1 ns.1) true = k.1 ∧ hasD (k.1 : Nat) = true ∧ (if ((k.1 : Nat) : Int) == 1 then wrap64 ((firN k.1 ns.1 : Int) / 2) else 0) = (ns.1 : Int) := by decide +kernel
theorem sec_facts : ∀ nr : Fin 128, ∀ pf : Bool, 2 * nr.1 + (if pf then 1 else 0) = secN nr.1 pf ∧ wrap64 ((secN nr.1 pf : Int) / 2) = (nr.1 : Int) ∧ (bits BinOp.and .u8 (secN nr.1 pf : Int) 1 != 0) = pf := by decide +kernel
theorem one_lt (k nr ns : Nat) (pf : Bool) (hk : k < 15) (hnr : nr < 8) (hns : ns < 128) : oneN k nr ns pf < 256 := (one_bits k nr ns pf hk hnr hns).2
theorem u8nn (N : Nat) (h : N < 256) : (N : Int) = (((UInt8.ofNat N).toNat : Nat) : Int) := by
  have e : (UInt8.ofNat N).toNat = N % 256 := rfl
  omega
theorem u8to (N : Nat) (h : N < 256) : (((UInt8.ofNat N).toNat : Nat) : Int) = (N : Int) := (u8nn N h).symm
/-- what Get answers of a right control's bytes -/
def gotV (k nr ns : Nat) (pf : Bool) (n : Nat) : Value := .tuple #[.agg #[.int .i64 (k : Int), .int .i64 (nr : Int), .int .i64 (ns : Int), .bool pf], .int .i64 (n : Int), .int .i64 0]
theorem get_one (k nr ns N : Nat) (pf w : Bool) (t : List UInt8) (hN : N < 256) (hk : 1 ≤ k) (h1 : lenD (N : Int) w = 1) (h2 : findD (N : Int) w = k) (h3 : (if hasD k then wrap64 ((N : Int) / 32) else 0) = (nr : Int)) (h4 : (if (k : Int) == 1 then (wrap64 ((N : Int) / 2)).tmod 8 else 0) = (ns : Int)) (h5 : (bits BinOp.and .u8 (N : Int) 16 != 0) = pf) :
    cgetE ([UInt8.ofNat N] ++ t) w = gotV k nr ns pf 1 := by
  show cgetE (UInt8.ofNat N :: t) w = _
  dsimp only [cgetE]
  rw [u8to N hN, h1, if_neg (by decide), h2, if_neg (by omega)]
  unfold read1V gotV
  rw [u8to N hN, h3, h4, h5]
  rfl
theorem get_two (k nr ns N M : Nat) (pf : Bool) (t : List UInt8) (hN : N < 256) (hM : M < 256) (hk : 1 ≤ k) (h1 : lenD (N : Int) true = 2) (h2 : findD (N : Int) true = k) (h3 : wrap64 ((M : Int) / 2) = (nr : Int)) (h4 : (if (k : Int) == 1 then wrap64 ((N : Int) / 2) else 0) = (ns : Int)) (h5 : (bits BinOp.and .u8 (M : Int) 1 != 0) = pf) :
    cgetE ([UInt8.ofNat N, UInt8.ofNat M] ++ t) true = gotV k nr ns pf 2 := by
  show cgetE (UInt8.ofNat N :: UInt8.ofNat M :: t) true = _
  dsimp only [cgetE]
  rw [u8to N hN, h1, if_pos rfl, h2, if_neg (by omega)]
  unfold read2V gotV
  rw [u8to N hN, u8to M hM, h3, h4, h5]
  rfl
theorem cget_put (k nr ns : Nat) (pf w : Bool) (t : List UInt8) (h : rightC k nr ns w = true) :
    cgetE (putB k nr ns pf w ++ t) w = gotV k nr ns pf (putB k nr ns pf w).length ∧ (docN k nr ns pf w).map UInt8.ofNat = putB k nr ns pf w ∧ (∀ x ∈ docN k nr ns pf w, x < 256) := by
  obtain ⟨g1, g2, g3, g4, g5, g6, g7, g8⟩ := (rightC_iff k nr ns w).1 h
  cases w
  · have hm : modD false = 8 := rfl
    rw [hm] at g5 g6
    obtain ⟨f1, f2, f3, f4, f5, f6⟩ := one_facts ⟨k, by omega⟩ ⟨nr, by omega⟩ ⟨ns, by omega⟩ pf h
    dsimp only at f1 f2 f3 f4 f5 f6
    have hl := one_lt k nr ns pf (by omega) (by omega) (by omega)
    have hp : putB k nr ns pf false = [UInt8.ofNat (oneN k nr ns pf)] := rfl
    rw [hp, f1]
    exact ⟨get_one k nr ns _ pf false t hl (by omega) f2 f3 f4 f5 f6, rfl, fun x hx => by rw [List.mem_singleton.1 hx]; exact hl⟩
  · have hm : modD true = 128 := rfl
    rw [hm] at g5 g6
    by_cases h5 : 5 < k
    · have e1 : nr = 0 := by omega
      have e2 : ns = 0 := by omega
      subst e1 e2
      obtain ⟨f1, f2, f3, f4, f5, f6⟩ := high_facts ⟨k, by omega⟩ pf h5
      dsimp only at f1 f2 f3 f4 f5 f6
      have hl := one_lt k 0 0 pf (by omega) (by omega) (by omega)
      have hp : putB k 0 0 pf true = [UInt8.ofNat (oneN k 0 0 pf)] := if_neg (by rw [f4]; simp)
      rw [hp, f1]
      exact ⟨get_one k 0 0 _ pf true t hl (by omega) f2 f3 (by rw [f4]; rfl) (by rw [f5]; rfl) f6, rfl, fun x hx => by rw [List.mem_singleton.1 hx]; exact hl⟩
    · have hl := (fir_bits k ns (by omega) (by omega)).2
      have hl2 := (sec_bits nr pf (by omega)).2
      have hk1 : 1 ≤ k := by omega
      obtain ⟨f1, f2, f3, f4, f5⟩ := fir_facts ⟨k, by omega⟩ ⟨ns, by omega⟩ (by show 1 ≤ k; omega) (by show k = 1 ∨ ns = 0; omega)
      obtain ⟨s1, s2, s3⟩ := sec_facts ⟨nr, by omega⟩ pf
      dsimp only at f1 f2 f3 f4 f5 s1 s2 s3
      have hp : putB k nr ns pf true = [UInt8.ofNat (firN k ns), UInt8.ofNat (secN nr pf)] := if_pos (by rw [f4]; rfl)
      have hd : docN k nr ns pf true = [firN k ns, secN nr pf] := by unfold docN; rw [if_neg h5, if_pos rfl, f1, s1]
      rw [hp, hd]
      exact ⟨get_two k nr ns _ _ pf t hl hl2 hk1 f2 f3 s2 f5 s3, rfl, fun x hx => by
        rcases List.mem_cons.1 hx with rfl | hx
        · exact hl
        · rw [List.mem_singleton.1 hx]; exact hl2⟩
/-- unlike controls, unlike bytes -/
theorem put_inj (k nr ns k' nr' ns' : Nat) (pf pf' w : Bool) (h : rightC k nr ns w = true) (h' : rightC k' nr' ns' w = true) (e : putB k nr ns pf w = putB k' nr' ns' pf' w) : k = k' ∧ nr = nr' ∧ ns = ns' ∧ pf = pf' := by
  have a := (cget_put k nr ns pf w [] h).1
  have b := (cget_put k' nr' ns' pf' w [] h').1
  rw [e] at a
  have c := a.symm.trans b
  simp only [gotV, Value.tuple.injEq, Array.mk.injEq, List.cons.injEq, Value.agg.injEq, Value.int.injEq, Value.bool.injEq, true_and, and_true] at c
  obtain ⟨c1, c2, c3, c4⟩ := c
  exact ⟨by omega, by omega, by omega, c4⟩
end Go.Proofs.YtmgfpnemamedoaaDoor
namespace Go.Proofs.YtmgfpnemamedoaaDoor
open Go.RowKit Go.Sort
set_option maxRecDepth 20000
structure F13 (W : World) (m : Nat) (v0 v1 v2 v3 v4 v5 v6 v7 v8 v9 v10 v11 v12 : Value) : Prop where
  k0 : KeepAt W m 0 v0
  k1 : KeepAt W m 1 v1
  k2 : KeepAt W m 2 v2
  k3 : KeepAt W m 3 v3
  k4 : KeepAt W m 4 v4
  k5 : KeepAt W m 5 v5
  k6 : KeepAt W m 6 v6
  k7 : KeepAt W m 7 v7
  k8 : KeepAt W m 8 v8
  k9 : KeepAt W m 9 v9
  k10 : KeepAt W m 10 v10
  k11 : KeepAt W m 11 v11
  k12 : KeepAt W m 12 v12
theorem F13.new (w : World) (m : Nat) (hm : m = w.heap.size) (v0 v1 v2 v3 v4 v5 v6 v7 v8 v9 v10 v11 v12 : Value) (T : TypeId) : F13 (w.alloc (.cells #[v0, v1, v2, v3, v4, v5, v6, v7, v8, v9, v10, v11, v12] T)) m v0 v1 v2 v3 v4 v5 v6 v7 v8 v9 v10 v11 v12 := by
  subst hm
  have hl : w.heap.size < (w.alloc (.cells #[v0, v1, v2, v3, v4, v5, v6, v7, v8, v9, v10, v11, v12] T)).heap.size := by simp
  exact ⟨⟨World.cell?_alloc_at _ _ _ _ rfl, World.frozen?_alloc_at _ _ _ _ rfl, hl⟩, ⟨World.cell?_alloc_at _ _ _ _ rfl, World.frozen?_alloc_at _ _ _ _ rfl, hl⟩, ⟨World.cell?_alloc_at _ _ _ _ rfl, World.frozen?_alloc_at _ _ _ _ rfl, hl⟩, ⟨World.cell?_alloc_at _ _ _ _ rfl, World.frozen?_alloc_at _ _ _ _ rfl, hl⟩, ⟨World.cell?_alloc_at _ _ _ _ rfl, World.frozen?_alloc_at _ _ _ _ rfl, hl⟩, ⟨World.cell?_alloc_at _ _ _ _ rfl, World.frozen?_alloc_at _ _ _ _ rfl, hl⟩, ⟨World.cell?_alloc_at _ _ _ _ rfl, World.frozen?_alloc_at _ _ _ _ rfl, hl⟩, ⟨World.cell?_alloc_at _ _ _ _ rfl, World.frozen?_alloc_at _ _ _ _ rfl, hl⟩, ⟨World.cell?_alloc_at _ _ _ _ rfl, World.frozen?_alloc_at _ _ _ _ rfl, hl⟩, ⟨World.cell?_alloc_at _ _ _ _ rfl, World.frozen?_alloc_at _ _ _ _ rfl, hl⟩, ⟨World.cell?_alloc_at _ _ _ _ rfl, World.frozen?_alloc_at _ _ _ _ rfl, hl⟩, ⟨World.cell?_alloc_at _ _ _ _ rfl, World.frozen?_alloc_at _ _ _ _ rfl, hl⟩, ⟨World.cell?_alloc_at _ _ _ _ rfl, World.frozen?_alloc_at _ _ _ _ rfl, hl⟩⟩
theorem F13.block {W W' : World} {m : Nat} {v0 v1 v2 v3 v4 v5 v6 v7 v8 v9 v10 v11 v12 : Value} (h : F13 W m v0 v1 v2 v3 v4 v5 v6 v7 v8 v9 v10 v11 v12) (hb : W'.heap[m]? = W.heap[m]?) (hs : W.heap.size ≤ W'.heap.size) : F13 W' m v0 v1 v2 v3 v4 v5 v6 v7 v8 v9 v10 v11 v12 :=
  ⟨h.k0.block hb hs, h.k1.block hb hs, h.k2.block hb hs, h.k3.block hb hs, h.k4.block hb hs, h.k5.block hb hs, h.k6.block hb hs, h.k7.block hb hs, h.k8.block hb hs, h.k9.block hb hs, h.k10.block hb hs, h.k11.block hb hs, h.k12.block hb hs⟩
theorem F13.below {W W' : World} {m : Nat} {v0 v1 v2 v3 v4 v5 v6 v7 v8 v9 v10 v11 v12 : Value} (h : F13 W m v0 v1 v2 v3 v4 v5 v6 v7 v8 v9 v10 v11 v12) (hb : Below W.heap.size W W') : F13 W' m v0 v1 v2 v3 v4 v5 v6 v7 v8 v9 v10 v11 v12 := h.block (hb.block _ h.k0.lt) hb.size
theorem F13.alloc {W : World} {m : Nat} {v0 v1 v2 v3 v4 v5 v6 v7 v8 v9 v10 v11 v12 : Value} (h : F13 W m v0 v1 v2 v3 v4 v5 v6 v7 v8 v9 v10 v11 v12) (x : Obj) : F13 (W.alloc x) m v0 v1 v2 v3 v4 v5 v6 v7 v8 v9 v10 v11 v12 := h.below ((Below.refl _ W).alloc (Nat.le_refl _) _)
theorem F13.drew {W : World} {m : Nat} {v0 v1 v2 v3 v4 v5 v6 v7 v8 v9 v10 v11 v12 : Value} (h : F13 W m v0 v1 v2 v3 v4 v5 v6 v7 v8 v9 v10 v11 v12) : F13 W.drew m v0 v1 v2 v3 v4 v5 v6 v7 v8 v9 v10 v11 v12 := ⟨h.k0.drew, h.k1.drew, h.k2.drew, h.k3.drew, h.k4.drew, h.k5.drew, h.k6.drew, h.k7.drew, h.k8.drew, h.k9.drew, h.k10.drew, h.k11.drew, h.k12.drew⟩
theorem F13.other {W : World} {m g p : Nat} {v0 v1 v2 v3 v4 v5 v6 v7 v8 v9 v10 v11 v12 : Value} (h : F13 W m v0 v1 v2 v3 v4 v5 v6 v7 v8 v9 v10 v11 v12) (v : Value) (hg : g ≠ m) : F13 (W.setCell ⟨g, p, none⟩ v) m v0 v1 v2 v3 v4 v5 v6 v7 v8 v9 v10 v11 v12 := ⟨h.k0.other v hg, h.k1.other v hg, h.k2.other v hg, h.k3.other v hg, h.k4.other v hg, h.k5.other v hg, h.k6.other v hg, h.k7.other v hg, h.k8.other v hg, h.k9.other v hg, h.k10.other v hg, h.k11.other v hg, h.k12.other v hg⟩
/-- all thirteen written anew -/
theorem F13.stored {W : World} {m : Nat} {v0 v1 v2 v3 v4 v5 v6 v7 v8 v9 v10 v11 v12 : Value} (h : F13 W m v0 v1 v2 v3 v4 v5 v6 v7 v8 v9 v10 v11 v12) (u0 u1 u2 u3 u4 u5 u6 u7 u8 u9 u10 u11 u12 : Value) : F13 (((((((((((((W.setCell ⟨m, 0, none⟩ u0).setCell ⟨m, 1, none⟩ u1).setCell ⟨m, 2, none⟩ u2).setCell ⟨m, 3, none⟩ u3).setCell ⟨m, 4, none⟩ u4).setCell ⟨m, 5, none⟩ u5).setCell ⟨m, 6, none⟩ u6).setCell ⟨m, 7, none⟩ u7).setCell ⟨m, 8, none⟩ u8).setCell ⟨m, 9, none⟩ u9).setCell ⟨m, 10, none⟩ u10).setCell ⟨m, 11, none⟩ u11).setCell ⟨m, 12, none⟩ u12) m u0 u1 u2 u3 u4 u5 u6 u7 u8 u9 u10 u11 u12 :=
  ⟨(((((((((((((h.k0.put _).set _ (by omega)).set _ (by omega)).set _ (by omega)).set _ (by omega)).set _ (by omega)).set _ (by omega)).set _ (by omega)).set _ (by omega)).set _ (by omega)).set _ (by omega)).set _ (by omega)).set _ (by omega)), (((((((((((((h.k1.set _ (by omega)).put _).set _ (by omega)).set _ (by omega)).set _ (by omega)).set _ (by omega)).set _ (by omega)).set _ (by omega)).set _ (by omega)).set _ (by omega)).set _ (by omega)).set _ (by omega)).set _ (by omega)), (((((((((((((h.k2.set _ (by omega)).set _ (by omega)).put _).set _ (by omega)).set _ (by omega)).set _ (by omega)).set _ (by omega)).set _ (by omega)).set _ (by omega)).set _ (by omega)).set _ (by omega)).set _ (by omega)).set _ (by omega)), (((((((((((((h.k3.set _ (by omega)).set _ (by omega)).set _ (by omega)).put _).set _ (by omega)).set _ (by omega)).set _ (by omega)).set _ (by omega)).set _ (by omega)).set _ (by omega)).set _ (by omega)).set _ (by omega)).set _ (by omega)), (((((((((((((h.k4.set _ (by omega)).set _ (by omega)).set _ (by omega)).set _ (by omega)).put _).set _ (by omega)).set _ (by omega)).set _ (by omega)).set _ (by omega)).set _ (by omega)).set _ (by omega)).set _ (by omega)).set _ (by omega)), (((((((((((((h.k5.set _ (by omega)).set _ (by omega)).set _ (by omega)).set _ (by omega)).set _ (by omega)).put _).set _ (by omega)).set _ (by omega)).set _ (by omega)).set _ (by omega)).set _ (by omega)).set _ (by omega)).set _ (by omega)), (((((((((((((h.k6.set _ (by omega)).set _ (by omega)).set _ (by omega)).set _ (by omega)).set _ (by omega)).set _ (by omega)).put _).set _ (by omega)).set _ (by omega)).set _ (by omega)).set _ (by omega)).set _ (by omega)).set _ (by omega)), (((((((((((((h.k7.set _ (by omega)).set _ (by omega)).set _ (by omega)).set _ (by omega)).set _ (by omega)).set _ (by omega)).set _ (by omega)).put _).set _ (by omega)).set _ (by omega)).set _ (by omega)).set _ (by omega)).set _ (by omega)), (((((((((((((h.k8.set _ (by omega)).set _ (by omega)).set _ (by omega)).set _ (by omega)).set _ (by omega)).set _ (by omega)).set _ (by omega)).set _ (by omega)).put _).set _ (by omega)).set _ (by omega)).set _ (by omega)).set _ (by omega)), (((((((((((((h.k9.set _ (by omega)).set _ (by omega)).set _ (by omega)).set _ (by omega)).set _ (by omega)).set _ (by omega)).set _ (by omega)).set _ (by omega)).set _ (by omega)).put _).set _ (by omega)).set _ (by omega)).set _ (by omega)), (((((((((((((h.k10.set _ (by omega)).set _ (by omega)).set _ (by omega)).set _ (by omega)).set _ (by omega)).set _ (by omega)).set _ (by omega)).set _ (by omega)).set _ (by omega)).set _ (by omega)).put _).set _ (by omega)).set _ (by omega)), (((((((((((((h.k11.set _ (by omega)).set _ (by omega)).set _ (by omega)).set _ (by omega)).set _ (by omega)).set _ (by omega)).set _ (by omega)).set _ (by omega)).set _ (by omega)).set _ (by omega)).set _ (by omega)).put _).set _ (by omega)), (((((((((((((h.k12.set _ (by omega)).set _ (by omega)).set _ (by omega)).set _ (by omega)).set _ (by omega)).set _ (by omega)).set _ (by omega)).set _ (by omega)).set _ (by omega)).set _ (by omega)).set _ (by omega)).set _ (by omega)).put _)⟩
/-- its path -/
theorem F13.path {W : World} {m : Nat} {v0 v1 v2 v3 v4 v5 v6 v7 v8 v9 v10 v11 v12 : Value} (h : F13 W m v0 v1 v2 v3 v4 v5 v6 v7 v8 v9 v10 v11 v12) (u0 u1 u2 u3 u4 u5 u6 : Value) : F13 (((((((W.setCell ⟨m, 0, none⟩ u0).setCell ⟨m, 1, none⟩ u1).setCell ⟨m, 2, none⟩ u2).setCell ⟨m, 3, none⟩ u3).setCell ⟨m, 4, none⟩ u4).setCell ⟨m, 5, none⟩ u5).setCell ⟨m, 6, none⟩ u6) m u0 u1 u2 u3 u4 u5 u6 v7 v8 v9 v10 v11 v12 :=
  ⟨(((((((h.k0.put _).set _ (by omega)).set _ (by omega)).set _ (by omega)).set _ (by omega)).set _ (by omega)).set _ (by omega)), (((((((h.k1.set _ (by omega)).put _).set _ (by omega)).set _ (by omega)).set _ (by omega)).set _ (by omega)).set _ (by omega)), (((((((h.k2.set _ (by omega)).set _ (by omega)).put _).set _ (by omega)).set _ (by omega)).set _ (by omega)).set _ (by omega)), (((((((h.k3.set _ (by omega)).set _ (by omega)).set _ (by omega)).put _).set _ (by omega)).set _ (by omega)).set _ (by omega)), (((((((h.k4.set _ (by omega)).set _ (by omega)).set _ (by omega)).set _ (by omega)).put _).set _ (by omega)).set _ (by omega)), (((((((h.k5.set _ (by omega)).set _ (by omega)).set _ (by omega)).set _ (by omega)).set _ (by omega)).put _).set _ (by omega)), (((((((h.k6.set _ (by omega)).set _ (by omega)).set _ (by omega)).set _ (by omega)).set _ (by omega)).set _ (by omega)).put _), (((((((h.k7.set _ (by omega)).set _ (by omega)).set _ (by omega)).set _ (by omega)).set _ (by omega)).set _ (by omega)).set _ (by omega)), (((((((h.k8.set _ (by omega)).set _ (by omega)).set _ (by omega)).set _ (by omega)).set _ (by omega)).set _ (by omega)).set _ (by omega)), (((((((h.k9.set _ (by omega)).set _ (by omega)).set _ (by omega)).set _ (by omega)).set _ (by omega)).set _ (by omega)).set _ (by omega)), (((((((h.k10.set _ (by omega)).set _ (by omega)).set _ (by omega)).set _ (by omega)).set _ (by omega)).set _ (by omega)).set _ (by omega)), (((((((h.k11.set _ (by omega)).set _ (by omega)).set _ (by omega)).set _ (by omega)).set _ (by omega)).set _ (by omega)).set _ (by omega)), (((((((h.k12.set _ (by omega)).set _ (by omega)).set _ (by omega)).set _ (by omega)).set _ (by omega)).set _ (by omega)).set _ (by omega))⟩
/-- its number -/
theorem F13.pid {W : World} {m : Nat} {v0 v1 v2 v3 v4 v5 v6 v7 v8 v9 v10 v11 v12 : Value} (h : F13 W m v0 v1 v2 v3 v4 v5 v6 v7 v8 v9 v10 v11 v12) (u11 : Value) : F13 (W.setCell ⟨m, 11, none⟩ u11) m v0 v1 v2 v3 v4 v5 v6 v7 v8 v9 v10 u11 v12 :=
  ⟨(h.k0.set _ (by omega)), (h.k1.set _ (by omega)), (h.k2.set _ (by omega)), (h.k3.set _ (by omega)), (h.k4.set _ (by omega)), (h.k5.set _ (by omega)), (h.k6.set _ (by omega)), (h.k7.set _ (by omega)), (h.k8.set _ (by omega)), (h.k9.set _ (by omega)), (h.k10.set _ (by omega)), (h.k11.put _), (h.k12.set _ (by omega))⟩
/-- its information -/
theorem F13.info {W : World} {m : Nat} {v0 v1 v2 v3 v4 v5 v6 v7 v8 v9 v10 v11 v12 : Value} (h : F13 W m v0 v1 v2 v3 v4 v5 v6 v7 v8 v9 v10 v11 v12) (u12 : Value) : F13 (W.setCell ⟨m, 12, none⟩ u12) m v0 v1 v2 v3 v4 v5 v6 v7 v8 v9 v10 v11 u12 :=
  ⟨(h.k0.set _ (by omega)), (h.k1.set _ (by omega)), (h.k2.set _ (by omega)), (h.k3.set _ (by omega)), (h.k4.set _ (by omega)), (h.k5.set _ (by omega)), (h.k6.set _ (by omega)), (h.k7.set _ (by omega)), (h.k8.set _ (by omega)), (h.k9.set _ (by omega)), (h.k10.set _ (by omega)), (h.k11.set _ (by omega)), (h.k12.put _)⟩
theorem set13_below {B m : Nat} {a W : World} (h : Below B a W) (hm : B ≤ m) (u0 u1 u2 u3 u4 u5 u6 u7 u8 u9 u10 u11 u12 : Value) :
    Below B a (((((((((((((W.setCell ⟨m, 0, none⟩ u0).setCell ⟨m, 1, none⟩ u1).setCell ⟨m, 2, none⟩ u2).setCell ⟨m, 3, none⟩ u3).setCell ⟨m, 4, none⟩ u4).setCell ⟨m, 5, none⟩ u5).setCell ⟨m, 6, none⟩ u6).setCell ⟨m, 7, none⟩ u7).setCell ⟨m, 8, none⟩ u8).setCell ⟨m, 9, none⟩ u9).setCell ⟨m, 10, none⟩ u10).setCell ⟨m, 11, none⟩ u11).setCell ⟨m, 12, none⟩ u12) :=
  (((((((((((((h.setCell (p := ⟨m, 0, none⟩) hm u0).setCell (p := ⟨m, 1, none⟩) hm u1).setCell (p := ⟨m, 2, none⟩) hm u2).setCell (p := ⟨m, 3, none⟩) hm u3).setCell (p := ⟨m, 4, none⟩) hm u4).setCell (p := ⟨m, 5, none⟩) hm u5).setCell (p := ⟨m, 6, none⟩) hm u6).setCell (p := ⟨m, 7, none⟩) hm u7).setCell (p := ⟨m, 8, none⟩) hm u8).setCell (p := ⟨m, 9, none⟩) hm u9).setCell (p := ⟨m, 10, none⟩) hm u10).setCell (p := ⟨m, 11, none⟩) hm u11).setCell (p := ⟨m, 12, none⟩) hm u12)
/-- a slice of the call's own that was made behind block m stays where it is -/
theorem own13 {T : TypeId} {w : World} {B m : Nat} {v : Value} {L : List Ent} (h : OwnE T w B v L) (hm : m < B) (u0 u1 u2 u3 u4 u5 u6 u7 u8 u9 u10 u11 u12 : Value) :
    OwnE T (((((((((((((w.setCell ⟨m, 0, none⟩ u0).setCell ⟨m, 1, none⟩ u1).setCell ⟨m, 2, none⟩ u2).setCell ⟨m, 3, none⟩ u3).setCell ⟨m, 4, none⟩ u4).setCell ⟨m, 5, none⟩ u5).setCell ⟨m, 6, none⟩ u6).setCell ⟨m, 7, none⟩ u7).setCell ⟨m, 8, none⟩ u8).setCell ⟨m, 9, none⟩ u9).setCell ⟨m, 10, none⟩ u10).setCell ⟨m, 11, none⟩ u11).setCell ⟨m, 12, none⟩ u12) B v L :=
  h.grown (grown_set ((grown_set ((grown_set ((grown_set ((grown_set ((grown_set ((grown_set ((grown_set ((grown_set ((grown_set ((grown_set ((grown_set ((grown_set (grown_refl w (some m)) (o := 0) u0)) (o := 1) u1)) (o := 2) u2)) (o := 3) u3)) (o := 4) u4)) (o := 5) u5)) (o := 6) u6)) (o := 7) u7)) (o := 8) u8)) (o := 9) u9)) (o := 10) u10)) (o := 11) u11)) (o := 12) u12) (fun g hv e => by have := (h.ge hv).1; have := Option.some.inj e; omega)
end Go.Proofs.YtmgfpnemamedoaaDoor
namespace Go.Proofs.YtmgfpnemamedoaaDoor
open Go.RowKit Go.Sort
set_option maxRecDepth 20000
theorem getP_yes : ∀ (k : Nat) (l : List Ent) (s : List UInt8), (getP k l s).1 ≤ 11
  | 0, l, s => by unfold getP; split; · simp
                  · split <;> simp
  | k + 1, l, s => by
    unfold getP
    split
    · simp
    · split
      · split
        · split
          · simp
          · split <;> simp
        · exact getP_yes k _ _
      · simp
theorem getP_none : ∀ (k : Nat) (l : List Ent) (s : List UInt8), (getP k l s).1 ≠ 0 → (getP k l s).2 = []
  | 0, l, s, h => by unfold getP; split; · rfl
                     · split <;> rfl
  | k + 1, l, s, h => by
    unfold getP at h ⊢
    split
    · rfl
    · rename_i h7
      rw [if_neg h7] at h
      split
      · rename_i hg
        rw [if_pos hg] at h
        split
        · rename_i hla
          rw [if_pos hla] at h
          split
          · rfl
          · rename_i hl
            rw [if_neg hl] at h
            split
            · rename_i ho
              rw [if_pos ho] at h
              exact absurd rfl h
            · rfl
        · rename_i hla
          rw [if_neg hla] at h
          exact getP_none k _ _ h
      · rfl
end Go.Proofs.YtmgfpnemamedoaaDoor
namespace Go.Proofs.YtmgfpnemamedoaaDoor
open Go.RowKit
set_option maxRecDepth 20000
/-- the control of kind k with a mark that bytes b, y .. could be (y: the second one, if it is there) -/
def tryNs (k b : Nat) (w : Bool) : Nat := if k = 1 then (if w then b / 2 else b % 16 / 2) else 0
def tryNr (k b y : Nat) (w : Bool) : Nat := if k ≤ 5 then (if w then y / 2 else b / 32) else 0
/-- do its bytes stand ahead? -/
def hitD (k : Nat) (p w : Bool) (b : Nat) (t : List UInt8) : Bool :=
  match t with
  | [] => !(w && decide (k ≤ 5)) && decide (docN k (tryNr k b 0 w) (tryNs k b w) p w = [b])
  | y :: _ => let l := docN k (tryNr k b y.toNat w) (tryNs k b w) p w
      decide (l = [b] ∨ l = [b, y.toNat])
/-- the first kind and mark from number j on (two for each kind) -/
def seekD (w : Bool) (b : Nat) (t : List UInt8) : Nat → Nat → Option (Nat × Bool)
  | 0, _ => none
  | f + 1, j => if hitD (j / 2 + 1) (j % 2 == 1) w b t then some (j / 2 + 1, j % 2 == 1) else seekD w b t f (j + 1)
/-- kind, numbers, mark, bytes, error -/
def refGet (s : List UInt8) (w : Bool) : Nat × Nat × Nat × Bool × Nat × Nat :=
  match s with
  | [] => (0, 0, 0, false, 0, 4)
  | b :: t => if w && b.toNat % 4 != 3 && t.isEmpty then (0, 0, 0, false, 0, 4) else
    match seekD w b.toNat t 28 0 with
    | none => (0, 0, 0, false, 0, 2)
    | some (k, p) => (k, tryNr k b.toNat (match t with | [] => 0 | y :: _ => y.toNat) w, tryNs k b.toNat w, p, (if w && decide (k ≤ 5) then 2 else 1), 0)
theorem narrow_seek : ∀ b : Fin 256, seekD false b.1 [] 28 0 = (if findD (b.1 : Nat) false = 0 then none else some (findD (b.1 : Nat) false, (bits BinOp.and .u8 (b.1 : Nat) 16 != 0))) := by decide +kernel
theorem narrow_read : ∀ b : Fin 256, findD (b.1 : Nat) false ≠ 0 → (if hasD (findD (b.1 : Nat) false : Nat) then wrap64 (((b.1 : Nat) : Int) / 32) else 0) = (tryNr (findD (b.1 : Nat) false) b.1 0 false : Int) ∧
    (if ((findD (b.1 : Nat) false : Nat) : Int) == 1 then (wrap64 (((b.1 : Nat) : Int) / 2)).tmod 8 else 0) = (tryNs (findD (b.1 : Nat) false) b.1 false : Int) := by decide +kernel
theorem hit_high (k : Nat) (p w : Bool) (b : Nat) (t : List UInt8) (h : 5 < k) : hitD k p w b t = hitD k p w b [] := by
  have e : ∀ nr ns, docN k nr ns p w = [codeN k + (if p then 16 else 0)] := fun nr ns => by unfold docN; rw [if_pos h]
  cases t with
  | nil => rfl
  | cons y t =>
    simp only [hitD, e]
    have d : decide (k ≤ 5) = false := decide_eq_false (by omega)
    rw [d]
    simp
theorem hit_narrow (k : Nat) (p : Bool) (b : Nat) (t : List UInt8) : hitD k p false b t = hitD k p false b [] := by
  cases t with
  | nil => rfl
  | cons y t =>
    simp only [hitD, tryNr, tryNs, docN]
    split <;> simp
theorem seek_congr (w : Bool) (b : Nat) (t t' : List UInt8) (h : ∀ k p, 1 ≤ k → hitD k p w b t = hitD k p w b t') : ∀ f j, seekD w b t f j = seekD w b t' f j
  | 0, _ => rfl
  | f + 1, j => by
    unfold seekD
    rw [h _ _ (by omega), seek_congr w b t t' h f (j + 1)]
/-- where just one number hits -/
theorem seek_one (w : Bool) (b : Nat) (t : List UInt8) (J : Nat) (h : ∀ j, j < 28 → hitD (j / 2 + 1) (j % 2 == 1) w b t = decide (j = J)) : ∀ f j, j + f = 28 → seekD w b t f j = if j ≤ J ∧ J < 28 then some (J / 2 + 1, J % 2 == 1) else none
  | 0, j, hj => by unfold seekD; rw [if_neg (by omega)]
  | f + 1, j, hj => by
    unfold seekD
    rw [h j (by omega)]
    by_cases e : j = J
    · subst e
      rw [decide_eq_true rfl, if_pos rfl, if_pos (by omega)]
    · rw [decide_eq_false e, if_neg (by simp), seek_one w b t J h f (j + 1) (by omega)]
      by_cases q : j ≤ J ∧ J < 28
      · rw [if_pos q, if_pos (by omega)]
      · rw [if_neg q, if_neg (by omega)]
theorem hit_wide1 (k : Nat) (p : Bool) (b : Nat) (t : List UInt8) (hk : 1 ≤ k) (h3 : b % 4 = 3) : hitD k p true b t = hitD k p true b [] := by
  by_cases h : 5 < k
  · exact hit_high k p true b t h
  · have d : decide (k ≤ 5) = true := decide_eq_true (by omega)
    cases t with
    | nil => rfl
    | cons y t =>
      have hc : (if 1 < k then codeN k else 2 * tryNs k b true) ≠ b := by
        obtain rfl | rfl | rfl | rfl | rfl : k = 1 ∨ k = 2 ∨ k = 3 ∨ k = 4 ∨ k = 5 := by omega
        · show 2 * (b / 2) ≠ b
          omega
        all_goals
          intro e
          rw [if_pos (by decide)] at e
          rw [← e] at h3
          exact absurd h3 (by decide)
      have e : ∀ nr ns, docN k nr ns p true = [if 1 < k then codeN k else 2 * ns, 2 * nr + (if p then 1 else 0)] := fun nr ns => by unfold docN; rw [if_neg h, if_pos rfl]
      simp only [hitD, e, d]
      simp only [List.cons.injEq]
      simp [hc]
theorem wide_seek1 : ∀ b : Fin 256, b.1 % 4 = 3 → seekD true b.1 [] 28 0 = (if findD (b.1 : Nat) true = 0 then none else some (findD (b.1 : Nat) true, (bits BinOp.and .u8 (b.1 : Nat) 16 != 0))) ∧ (findD (b.1 : Nat) true ≠ 0 → 5 < findD (b.1 : Nat) true) ∧ lenD (b.1 : Nat) true = 1 := by decide +kernel
theorem wide_seek2 : ∀ b : Fin 256, b.1 % 4 ≠ 3 → lenD (b.1 : Nat) true = 2 ∧ findD (b.1 : Nat) true ≤ 5 ∧ (∀ k : Fin 15, ∀ p : Bool, 5 < k.1 → docN k.1 0 0 p true ≠ [b.1]) ∧
    (∀ k : Fin 6, 1 ≤ k.1 → (decide ((if 1 < k.1 then codeN k.1 else 2 * tryNs k.1 b.1 true) = b.1) = decide (findD (b.1 : Nat) true = k.1))) := by decide +kernel
end Go.Proofs.YtmgfpnemamedoaaDoor
namespace Go.Proofs.YtmgfpnemamedoaaDoor
open Go.RowKit
set_option maxRecDepth 20000
def gotU (r : Nat × Nat × Nat × Bool × Nat × Nat) : Value := .tuple #[.agg #[.int .i64 (r.1 : Int), .int .i64 (r.2.1 : Int), .int .i64 (r.2.2.1 : Int), .bool r.2.2.2.1], .int .i64 (r.2.2.2.2.1 : Int), .int .i64 (r.2.2.2.2.2 : Int)]
theorem find_le : ∀ b : Fin 256, ∀ w : Bool, findD (b.1 : Nat) w ≤ 14 := by decide +kernel
theorem has_high : ∀ k : Fin 15, 5 < k.1 → hasD (k.1 : Nat) = false := by decide +kernel
theorem ref_get_narrow (x : UInt8) (t : List UInt8) : cgetE (x :: t) false = gotU (refGet (x :: t) false) := by
  have hl : lenD (x.toNat : Int) false = 1 := rfl
  have e1 : seekD false x.toNat t 28 0 = seekD false x.toNat [] 28 0 := seek_congr false x.toNat t [] (fun k p _ => hit_narrow k p x.toNat t) 28 0
  have e2 := narrow_seek ⟨x.toNat, x.toNat_lt⟩
  have e3 := narrow_read ⟨x.toNat, x.toNat_lt⟩
  dsimp only at e2 e3
  dsimp only [cgetE, refGet]
  rw [hl, if_neg (show ¬ ((1 : Int) = 2) by decide), Bool.false_and, Bool.false_and, if_neg (show ¬ (false = true) by decide), e1, e2]
  by_cases h0 : findD (x.toNat : Int) false = 0
  · rw [if_pos h0, if_pos h0]
    rfl
  · rw [if_neg h0, if_neg h0]
    obtain ⟨a, b⟩ := e3 h0
    unfold read1V gotU
    dsimp only
    rw [a, b]
    rfl
theorem ref_get_wide1 (x : UInt8) (t : List UInt8) (h3 : x.toNat % 4 = 3) : cgetE (x :: t) true = gotU (refGet (x :: t) true) := by
  have e1 : seekD true x.toNat t 28 0 = seekD true x.toNat [] 28 0 := seek_congr true x.toNat t [] (fun k p hk => hit_wide1 k p x.toNat t hk h3) 28 0
  obtain ⟨e2, e4, hl⟩ := wide_seek1 ⟨x.toNat, x.toNat_lt⟩ h3
  dsimp only at e2 e4 hl
  have n3 : (x.toNat % 4 != 3) = false := by rw [h3]; rfl
  dsimp only [cgetE, refGet]
  rw [hl, if_neg (show ¬ ((1 : Int) = 2) by decide), n3, Bool.and_false, Bool.false_and, if_neg (show ¬ (false = true) by decide), e1, e2]
  by_cases h0 : findD (x.toNat : Int) true = 0
  · rw [if_pos h0, if_pos h0]
    rfl
  · rw [if_neg h0, if_neg h0]
    have h5 := e4 h0
    have hs := has_high ⟨findD (x.toNat : Int) true, by have := find_le ⟨x.toNat, x.toNat_lt⟩ true; dsimp only at this; omega⟩ h5
    dsimp only at hs
    have n1 : (((findD (x.toNat : Int) true : Nat) : Int) == 1) = false := by rw [beq_eq_false_iff_ne]; omega
    have d5 : decide (findD (x.toNat : Int) true ≤ 5) = false := decide_eq_false (by omega)
    unfold read1V gotU
    dsimp only
    rw [hs, n1, d5, Bool.and_false]
    unfold tryNr tryNs
    rw [if_neg (show ¬ findD (x.toNat : Int) true ≤ 5 by omega), if_neg (show ¬ findD (x.toNat : Int) true = 1 by omega)]
    rfl
theorem hit_wide2 (k : Nat) (p : Bool) (x y : UInt8) (t : List UInt8) (hk : 1 ≤ k) (hk' : k ≤ 14) (h3 : x.toNat % 4 ≠ 3) :
    hitD k p true x.toNat (y :: t) = decide (findD (x.toNat : Int) true = k ∧ p = (y.toNat % 2 == 1)) := by
  obtain ⟨_, hf, hh, hc⟩ := wide_seek2 ⟨x.toNat, x.toNat_lt⟩ h3
  dsimp only at hf hh hc
  by_cases h : 5 < k
  · have e : ∀ nr ns, docN k nr ns p true = [codeN k + (if p then 16 else 0)] := fun nr ns => by unfold docN; rw [if_pos h]
    have n := hh ⟨k, by omega⟩ p h
    dsimp only at n
    rw [e] at n
    rw [decide_eq_false (fun q => by omega)]
    simp only [hitD, e]
    apply decide_eq_false
    rintro (q | q)
    · exact n q
    · simp at q
  · have e : ∀ nr ns, docN k nr ns p true = [if 1 < k then codeN k else 2 * ns, 2 * nr + (if p then 1 else 0)] := fun nr ns => by unfold docN; rw [if_neg h, if_pos rfl]
    have c := hc ⟨k, by omega⟩ hk
    dsimp only at c
    have c' : ((if 1 < k then codeN k else 2 * tryNs k x.toNat true) = x.toNat) ↔ findD (x.toNat : Int) true = k := decide_eq_decide.mp c
    simp only [hitD, e]
    apply decide_eq_decide.mpr
    rw [← c']
    have en : tryNr k x.toNat y.toNat true = y.toNat / 2 := by unfold tryNr; rw [if_pos (by omega), if_pos rfl]
    rw [en]
    simp only [List.cons.injEq, and_true, reduceCtorEq, and_false, false_or]
    apply and_congr_right
    intro _
    cases p
    · rw [if_neg (by decide)]
      constructor
      · intro q; symm; rw [beq_eq_false_iff_ne]; omega
      · intro q; have := beq_eq_false_iff_ne.mp q.symm; omega
    · rw [if_pos rfl]
      constructor
      · intro q; symm; rw [beq_iff_eq]; omega
      · intro q; have := beq_iff_eq.mp q.symm; omega
theorem sec_all : ∀ y : Fin 256, wrap64 ((y.1 : Int) / 2) = ((y.1 / 2 : Nat) : Int) ∧ (bits BinOp.and .u8 (y.1 : Nat) 1 != 0) = (y.1 % 2 == 1) := by decide +kernel
theorem wide_read : ∀ b : Fin 256, b.1 % 4 ≠ 3 → (if ((findD (b.1 : Nat) true : Nat) : Int) == 1 then wrap64 (((b.1 : Nat) : Int) / 2) else 0) = (tryNs (findD (b.1 : Nat) true) b.1 true : Int) := by decide +kernel
theorem ref_get_wide2 (x y : UInt8) (t : List UInt8) (h3 : x.toNat % 4 ≠ 3) : cgetE (x :: y :: t) true = gotU (refGet (x :: y :: t) true) := by
  obtain ⟨hl, hf, _, _⟩ := wide_seek2 ⟨x.toNat, x.toNat_lt⟩ h3
  dsimp only at hf hl
  have sk := seek_one true x.toNat (y :: t) (if findD (x.toNat : Int) true = 0 then 28 else 2 * (findD (x.toNat : Int) true - 1) + y.toNat % 2) (fun j hj => by
    rw [hit_wide2 _ _ _ _ _ (by omega) (by omega) h3]
    apply decide_eq_decide.mpr
    by_cases h0 : findD (x.toNat : Int) true = 0
    · rw [if_pos h0]
      constructor
      · intro q; omega
      · intro q; omega
    · rw [if_neg h0]
      have b2 : ((j % 2 == 1) = (y.toNat % 2 == 1)) ↔ j % 2 = y.toNat % 2 := by
        obtain a | a : j % 2 = 0 ∨ j % 2 = 1 := by omega
        · obtain c | c : y.toNat % 2 = 0 ∨ y.toNat % 2 = 1 := by omega
          · simp [a, c]
          · simp [a, c]
        · obtain c | c : y.toNat % 2 = 0 ∨ y.toNat % 2 = 1 := by omega
          · simp [a, c]
          · simp [a, c]
      rw [b2]
      constructor
      · intro q; omega
      · intro q; omega) 28 0 rfl
  dsimp only [cgetE, refGet]
  rw [hl, if_pos (show (2 : Int) = 2 from rfl), List.isEmpty_cons, Bool.and_false, if_neg (show ¬ (false = true) by decide), sk]
  by_cases h0 : findD (x.toNat : Int) true = 0
  · rw [if_pos h0, if_pos h0, if_neg (by omega)]
    rfl
  · rw [if_neg h0, if_neg h0, if_pos (by omega)]
    have hj : (2 * (findD (x.toNat : Int) true - 1) + y.toNat % 2) / 2 + 1 = findD (x.toNat : Int) true := by omega
    have hm : (2 * (findD (x.toNat : Int) true - 1) + y.toNat % 2) % 2 = y.toNat % 2 := by omega
    have d5 : decide (findD (x.toNat : Int) true ≤ 5) = true := decide_eq_true hf
    have s := sec_all ⟨y.toNat, y.toNat_lt⟩
    have r := wide_read ⟨x.toNat, x.toNat_lt⟩ h3
    dsimp only at s r
    unfold read2V gotU
    dsimp only
    rw [hj, hm, d5, r, s.1, s.2]
    unfold tryNr
    rw [if_pos hf, if_pos rfl]
    rfl
theorem ref_get (s : List UInt8) (w : Bool) : cgetE s w = gotU (refGet s w) := by
  cases s with
  | nil => rfl
  | cons x t =>
    cases w
    · exact ref_get_narrow x t
    · by_cases h3 : x.toNat % 4 = 3
      · exact ref_get_wide1 x t h3
      · cases t with
        | cons y t => exact ref_get_wide2 x y t h3
        | nil =>
          obtain ⟨hl, _⟩ := wide_seek2 ⟨x.toNat, x.toNat_lt⟩ h3
          dsimp only at hl
          dsimp only [cgetE, refGet]
          rw [hl, if_pos rfl, if_pos (by simp [h3])]
          rfl
end Go.Proofs.YtmgfpnemamedoaaDoor
namespace Go.Proofs.YtmgfpnemamedoaaDoor
open Go.RowKit Go.Sort
set_option maxRecDepth 20000
/-- how many bytes a path takes at least -/
theorem getP_need : ∀ (k : Nat) (l : List Ent) (s : List UInt8), (getP k l s).1 = 0 → 7 * (getP k l s).2.length ≤ 7 * l.length + s.length
  | 0, l, s, h => by
    unfold getP at h
    split at h
    · cases h
    · split at h <;> cases h
  | k + 1, l, s, h => by
    unfold getP at h ⊢
    split
    · simp
    · rename_i h7
      rw [if_neg h7] at h
      split
      · rename_i hg
        rw [if_pos hg] at h
        split
        · rename_i hla
          rw [if_pos hla] at h
          split
          · simp
          · split
            · simp; omega
            · simp
        · rename_i hla
          rw [if_neg hla] at h
          have ih := getP_need k (l ++ [entD (s.take 7)]) (s.drop 7) h
          rw [List.length_append, List.length_drop] at ih
          simp only [List.length_cons, List.length_nil] at ih
          omega
      · simp
theorem ref_len (s : List UInt8) (w : Bool) : (refGet s w).2.2.2.2.1 ≤ 2 := by
  cases s with
  | nil => simp [refGet]
  | cons b t =>
    unfold refGet
    dsimp only
    split
    · simp
    · split
      · simp
      · dsimp only; split <;> omega
theorem getP_bytes (s : List UInt8) (h : (getP 10 [] s).1 = 0) : 7 * (getP 10 [] s).2.length ≤ s.length := by
  have k := getP_need 10 [] s h
  simpa using k
/-- the control behind the path -/
def ctlOf (s : List UInt8) (wide : Bool) : Nat × Nat × Nat × Bool × Nat × Nat := refGet (s.drop (7 * (getP 10 [] s).2.length)) wide
/-- what is wrong -/
def begE (s : List UInt8) (wide : Bool) : Nat := if (getP 10 [] s).1 ≠ 0 then (getP 10 [] s).1 else (ctlOf s wide).2.2.2.2.2
def zeroF : Value := .agg #[.string ⟨#[]⟩, .int .i64 0, .string ⟨#[]⟩, .int .i64 0, .bool false, .bool false, .slice none 0 0, .int .i64 0, .int .i64 0, .int .i64 0, .bool false, .int .i64 0, .string ⟨#[]⟩]
/-- what it answers -/
def BegTo (s : List UInt8) (wide : Bool) (w : World) (e : Ending) (w' : World) : Prop :=
  (begE s wide ≠ 0 → e = .returned (.tuple #[zeroF, .int .i64 0, .int .i64 (begE s wide : Nat)])) ∧
  (begE s wide = 0 → ∃ (x y : Ent) (D : List Ent) (da : Option Addr) (dc : Nat), (getP 10 [] s).2 = x :: y :: D ∧ e = .returned (.tuple #[.agg #[.string x.1, .int .i64 x.2.1, .string y.1, .int .i64 y.2.1, .bool x.2.2, .bool y.2.2, .slice da D.length dc, .int .i64 ((ctlOf s wide).1 : Nat), .int .i64 ((ctlOf s wide).2.1 : Nat), .int .i64 ((ctlOf s wide).2.2.1 : Nat), .bool (ctlOf s wide).2.2.2.1, .int .i64 0, .string ⟨#[]⟩], .int .i64 ((7 * (getP 10 [] s).2.length + (ctlOf s wide).2.2.2.2.1 : Nat) : Int), .int .i64 0]) ∧ OwnE 55 w' w.heap.size (.slice da D.length dc) D) ∧ Below w.heap.size w w'
end Go.Proofs.YtmgfpnemamedoaaDoor
