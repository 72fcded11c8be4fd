/-
The landed code's Right of controls; its two tables as they lie in memory.
-/
import Derived.Test.YtfmcngchcalcmaaDoorCtlPlain
import Derived.Lib.LaidTab
namespace Go.Proofs.YtfmcngchcalcmaaDoor
open Go.RowKit
/-- the table of the kinds' bytes -/
structure CodesOk (w : World) : Prop where
  at_ : ∀ k, k < 15 → w.cell? ⟨0, k, none⟩ = some (.int .u8 (codeD k))
theorem CodesOk.below {w W : World} (h : CodesOk w) (hb : Below w.heap.size w W) : CodesOk W :=
  ⟨fun k hk => (hb.cell (p := ⟨0, k, none⟩) (World.block_lt_of_cell? w ⟨0, k, none⟩ (h.at_ k hk))).trans (h.at_ k hk)⟩
theorem CodesOk.lt {w : World} (h : CodesOk w) : 0 < w.heap.size := World.block_lt_of_cell? w ⟨0, 0, none⟩ (h.at_ 0 (by omega))
set_option maxHeartbeats 1000000 in
theorem ccright_any (k nr ns : Int) (pf wide : Bool) (w : World) :
    Calls Tryd.prog 39 #[.agg #[.int .i64 k, .int .i64 nr, .int .i64 ns, .bool pf], .bool wide] w fun e w' => e = .returned (.bool (rightC k nr ns wide)) ∧ Below w.heap.size w w' := by
  have HN := Lib.hid (fun W => hasNr_any k W)
  have HK := Lib.hid (fun W => isKind_any k W)
  have HB := Lib.hid (fun n m W => isBelow_any n m W)
  have hb0 := Lib.hid ((Below.refl _ w).alloc (Nat.le_refl _) (.cells #[.int .i64 k, .int .i64 nr, .int .i64 ns, .bool pf] 65))
  have hR : rightC k nr ns wide = (kindD k && belowD nr (if hasD k then modD wide else 1) && belowD ns (if k == 1 then modD wide else 1)) := by simp [rightC]
  rw [hR]
  clear hR
  have hH1 : (k == 1) = true → hasD k = true := fun h => by simp at h; subst h; rfl
  generalize hasD k = H at *
  generalize hk1 : (k == 1) = K1 at *
  generalize kindD k = KK at *
  have key : ∀ A B : Int, A = (if H then modD wide else 1) → B = (if K1 then modD wide else 1) →
      Calls Tryd.prog 39 #[.agg #[.int .i64 k, .int .i64 nr, .int .i64 ns, .bool pf], .bool wide] w fun e w' => e = .returned (.bool (KK && belowD nr A && belowD ns B)) ∧ Below w.heap.size w w' := by
    intro A B hA hB
    have h1 := Lib.hid (fun W => HB.out nr A W)
    have h2 := Lib.hid (fun W => HB.out ns B W)
    generalize belowD nr A = b1 at *
    generalize belowD ns B = b2 at *
    clear HB
    cases K1
    · cases H
      all_goals
        cases wide
        all_goals
          simp only [modD, if_true, if_false, Bool.false_eq_true] at hA hB
          subst hA hB
          cases KK
          · go_enter Tryd.func39, Tryd.ntmps39
            go_wp2_with (first | (go_at_call 68; (with_reducible refine (HN.out _).mono ?_); rintro e w1 ⟨rfl, rfl⟩) | (go_at_call 70; (with_reducible refine (HK.out _).mono ?_); rintro e w1 ⟨rfl, rfl⟩))
            go_ret
            exact ⟨rfl, hb0.out⟩
          · cases b1
            all_goals
              go_enter Tryd.func39, Tryd.ntmps39
              go_wp2_with (first | (go_at_call 68; (with_reducible refine (HN.out _).mono ?_); rintro e w1 ⟨rfl, rfl⟩) | (go_at_call 70; (with_reducible refine (HK.out _).mono ?_); rintro e w1 ⟨rfl, rfl⟩) | (go_at_call 71; (with_reducible refine (h1.out _).mono ?_); rintro e w1 ⟨rfl, rfl⟩) | (go_at_call 71; (with_reducible refine (h2.out _).mono ?_); rintro e w1 ⟨rfl, rfl⟩))
              go_ret
              exact ⟨rfl, hb0.out⟩
    · obtain rfl := hH1 rfl
      obtain rfl : k = 1 := by simpa using hk1
      cases wide
      all_goals
        simp only [modD, if_true, if_false, Bool.false_eq_true] at hA hB
        subst hA hB
        cases KK
        · go_enter Tryd.func39, Tryd.ntmps39
          go_wp2_with (first | (go_at_call 68; (with_reducible refine (HN.out _).mono ?_); rintro e w1 ⟨rfl, rfl⟩) | (go_at_call 70; (with_reducible refine (HK.out _).mono ?_); rintro e w1 ⟨rfl, rfl⟩))
          go_ret
          exact ⟨rfl, hb0.out⟩
        · cases b1
          all_goals
            go_enter Tryd.func39, Tryd.ntmps39
            go_wp2_with (first | (go_at_call 68; (with_reducible refine (HN.out _).mono ?_); rintro e w1 ⟨rfl, rfl⟩) | (go_at_call 70; (with_reducible refine (HK.out _).mono ?_); rintro e w1 ⟨rfl, rfl⟩) | (go_at_call 71; (with_reducible refine (h1.out _).mono ?_); rintro e w1 ⟨rfl, rfl⟩) | (go_at_call 71; (with_reducible refine (h2.out _).mono ?_); rintro e w1 ⟨rfl, rfl⟩))
            go_ret
            exact ⟨rfl, hb0.out⟩
  exact key _ _ rfl rfl
end Go.Proofs.YtfmcngchcalcmaaDoor
