/-
The code's own Wins.
-/
import Derived.Test.YtofodlaebhjneaaTncRight
namespace Go.Proofs.Ytofodlaebhjneaa
open Go.RowKit Go.Sort
theorem wins_no (a b c d : Int) (f : Bool) (n : Int) (w : World) (hok : Par.ok ⟨a, b, c, d, f⟩ = false) :
    Calls Try.prog 16 #[.agg #[.int .i64 a, .int .i64 b, .int .i64 c, .int .i64 d, .bool f], .int .i64 n] w fun e w' => e = .returned (.bool false) ∧ Below w.heap.size w w' := by
  have HR := Lib.hid (fun W => right_ok ⟨a, b, c, d, f⟩ W)
  rw [hok] at HR
  simp only [Par.v] at HR
  clear hok
  go_enter Try.func16, Try.ntmps16
  go_wp2_with (go_at_call 15; (with_reducible refine (HR.out _).mono ?_; rintro e w1 ⟨rfl, hb⟩))
  go_ret
  exact ⟨rfl, ((Below.refl _ w).alloc (Nat.le_refl _) _).trans (hb.mono (by simp))⟩
theorem wins_yes (a b c d : Int) (f : Bool) (n : Int) (w : World) (hok : Par.ok ⟨a, b, c, d, f⟩ = true) :
    Calls Try.prog 16 #[.agg #[.int .i64 a, .int .i64 b, .int .i64 c, .int .i64 d, .bool f], .int .i64 n] w fun e w' => e = .returned (.bool (decide (n % 256 ≤ b))) ∧ Below w.heap.size w w' := by
  have HR := Lib.hid (fun W => right_ok ⟨a, b, c, d, f⟩ W)
  rw [hok] at HR
  simp only [Par.v] at HR
  have HP := Lib.hid (show ParAt _ _ ⟨a, b, c, d, f⟩ from par_cells ⟨a, b, c, d, f⟩ w 27)
  have hand := and_255 n
  clear hok
  go_enter Try.func16, Try.ntmps16
  go_wp2_with (go_at_call 15; go_loud (refine (HR.out _).mono ?_; rintro e w1 ⟨rfl, hb⟩; obtain ⟨y0, y1, y2, y3, y4⟩ := HP.out.below (by simp) hb; try simp only at y0 y1 y2 y3 y4; have HB := Lib.hid (((Below.refl _ w).alloc (Nat.le_refl _) _).trans (hb.mono (by simp))); clear hb))
  go_ret
  exact ⟨rfl, HB.out⟩
theorem wins_ok : WinsOk := by
  intro p n w
  obtain ⟨a, b, c, d, f⟩ := p
  cases hok : Par.ok ⟨a, b, c, d, f⟩
  · have e : winD ⟨a, b, c, d, f⟩ n = false := by simp [winD, hok]
    rw [e]
    exact wins_no a b c d f n w hok
  · have e : winD ⟨a, b, c, d, f⟩ n = decide (n % 256 ≤ b) := by simp [winD, hok]
    rw [e]
    exact wins_yes a b c d f n w hok
end Go.Proofs.Ytofodlaebhjneaa
