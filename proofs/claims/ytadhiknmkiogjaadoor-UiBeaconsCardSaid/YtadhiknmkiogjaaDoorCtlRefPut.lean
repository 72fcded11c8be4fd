/-
The document's own Put of right controls, and its Text.
-/
import Derived.Test.YtadhiknmkiogjaaDoorCtlBase
namespace Go.Proofs.YtadhiknmkiogjaaDoor
open Go.RowKit
set_option maxRecDepth 20000
/-- numbers in a row, in block g -/
def IntsAt (w : World) (g : Nat) (L : List Nat) : Prop := g < w.heap.size ∧ ∀ i (h : i < L.length), w.cell? ⟨g, i, none⟩ = some (.int .i64 (L[i] : Int))
theorem IntsAt.below {w w' : World} {g : Nat} {L : List Nat} (h : IntsAt w g L) (hb : Below w.heap.size w w') : IntsAt w' g L := ⟨Nat.lt_of_lt_of_le h.1 hb.size, fun i hi => (hb.cell (p := ⟨g, i, none⟩) h.1).trans (h.2 i hi)⟩
theorem ints_one (w : World) (g : Nat) (F : Int) (L : List Nat) (hg : g = w.heap.size) (hL : ∃ N : Nat, F = N ∧ L = [N]) : IntsAt (w.alloc (.cells #[.int .i64 F] 3)) g L := by
  obtain ⟨N, rfl, rfl⟩ := hL
  subst hg
  refine ⟨by simp, fun i hi => ?_⟩
  obtain rfl : i = 0 := by simpa using hi
  exact World.cell?_alloc_at _ _ _ _ rfl
theorem ints_two (w : World) (g : Nat) (F G : Int) (L : List Nat) (hg : g = w.heap.size) (hL : ∃ N M : Nat, F = N ∧ G = M ∧ L = [N, M]) : IntsAt (w.alloc (.cells #[.int .i64 F, .int .i64 G] 3)) g L := by
  obtain ⟨N, M, rfl, rfl, rfl⟩ := hL
  subst hg
  refine ⟨by simp, fun i hi => ?_⟩
  have hi2 : i < 2 := hi
  obtain rfl | rfl : i = 0 ∨ i = 1 := by omega
  · exact World.cell?_alloc_at _ _ _ _ rfl
  · exact World.cell?_alloc_at _ _ _ _ rfl
def Put6To (w : World) (L : List Nat) (e : Ending) (w' : World) : Prop := (∃ g c, e = .returned (.slice (some ⟨g, 0, none⟩) L.length c) ∧ IntsAt w' g L) ∧ Below w.heap.size w w'
set_option maxHeartbeats 1000000 in
theorem rput6_high (k : Nat) (pf wide : Bool) (w : World) (h : 5 < k) (hk : k < 15) : Calls Tryd.prog 41 #[.agg #[.int .i64 (k : Int), .int .i64 0, .int .i64 0, .bool pf], .bool wide] w fun e w' => Put6To w (docN k 0 0 pf wide) e w' := by
  have hb0 := Lib.hid ((Below.refl _ w).alloc (Nat.le_refl _) (.cells #[.int .i64 (k : Int), .int .i64 0, .int .i64 0, .bool pf] 71))
  obtain rfl | rfl | rfl | rfl | rfl | rfl | rfl | rfl | rfl : k = 6 ∨ k = 7 ∨ k = 8 ∨ k = 9 ∨ k = 10 ∨ k = 11 ∨ k = 12 ∨ k = 13 ∨ k = 14 := by omega
  all_goals
    cases pf
    all_goals
      go_enter Tryd.func41, Tryd.ntmps41
      go_wp2
      go_ret
      exact ⟨⟨_, _, rfl, ints_one _ _ _ _ (by simp) ⟨_, rfl, rfl⟩⟩, (hb0.out.alloc (by simp) _).alloc (by simp; omega) _⟩
set_option maxHeartbeats 1000000 in
theorem rput6_sup (k nr : Nat) (pf wide : Bool) (w : World) (h : 1 < k) (hk : k < 6) (hr : nr < 128) : Calls Tryd.prog 41 #[.agg #[.int .i64 (k : Int), .int .i64 (nr : Int), .int .i64 0, .bool pf], .bool wide] w fun e w' => Put6To w (docN k nr 0 pf wide) e w' := by
  have hb0 := Lib.hid ((Below.refl _ w).alloc (Nat.le_refl _) (.cells #[.int .i64 (k : Int), .int .i64 (nr : Int), .int .i64 0, .bool pf] 71))
  obtain rfl | rfl | rfl | rfl : k = 2 ∨ k = 3 ∨ k = 4 ∨ k = 5 := by omega
  all_goals
    cases pf <;> cases wide
    all_goals
      go_enter Tryd.func41, Tryd.ntmps41
      go_wp2
      go_ret
      first
        | exact ⟨⟨_, _, rfl, ints_one _ _ _ _ (by simp) ⟨_, by first | rfl | omega | (simp <;> omega) | (simp [codeN] <;> omega), rfl⟩⟩, (hb0.out.alloc (by simp) _).alloc (by simp; omega) _⟩
        | exact ⟨⟨_, _, rfl, ints_two _ _ _ _ _ (by simp) ⟨_, _, by first | rfl | omega | (simp <;> omega) | (simp [codeN] <;> omega), by first | rfl | omega | (simp <;> omega) | (simp [codeN] <;> omega), rfl⟩⟩, (hb0.out.alloc (by simp) _).alloc (by simp; omega) _⟩
set_option maxHeartbeats 1000000 in
theorem rput6_i (nr ns : Nat) (pf wide : Bool) (w : World) (hr : nr < 128) (hs : ns < 128) : Calls Tryd.prog 41 #[.agg #[.int .i64 (1 : Int), .int .i64 (nr : Int), .int .i64 (ns : Int), .bool pf], .bool wide] w fun e w' => Put6To w (docN 1 nr ns pf wide) e w' := by
  have hb0 := Lib.hid ((Below.refl _ w).alloc (Nat.le_refl _) (.cells #[.int .i64 (1 : Int), .int .i64 (nr : Int), .int .i64 (ns : Int), .bool pf] 71))
  cases pf <;> cases wide
  all_goals
    go_enter Tryd.func41, Tryd.ntmps41
    go_wp2
    go_ret
    first
      | exact ⟨⟨_, _, rfl, ints_one _ _ _ _ (by simp) ⟨_, by first | rfl | omega | (simp <;> omega) | (simp [codeN] <;> omega), rfl⟩⟩, hb0.out.alloc (by simp) _⟩
      | exact ⟨⟨_, _, rfl, ints_two _ _ _ _ _ (by simp) ⟨_, _, by first | rfl | omega | (simp <;> omega) | (simp [codeN] <;> omega), by first | rfl | omega | (simp <;> omega) | (simp [codeN] <;> omega), rfl⟩⟩, hb0.out.alloc (by simp) _⟩
end Go.Proofs.YtadhiknmkiogjaaDoor
