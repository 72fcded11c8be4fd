/-
The landed code's Next.
-/
import Derived.Test.YtplandmnmdkjmaaDoorPathCAnew
import Derived.Test.YtplandmnmdkjmaaDoorPathBase
import Derived.Lib.SmallJoins
import Derived.Lib.ItoaNum
import Derived.Lib.QuietBelow
import Derived.Lib.IndexBytes
import Derived.IntWalk
namespace Go.Proofs.YtplandmnmdkjmaaDoor
open Go.RowKit Go.Sort
set_option maxRecDepth 20000
/-- what Next answers -/
def nextV (D : List Ent) : Value := match D[fstD D]? with | some e => .tuple #[.agg #[.string e.1, .int .i64 e.2.1], .bool true] | none => .tuple #[.agg #[.string ⟨#[]⟩, .int .i64 0], .bool false]
set_option maxHeartbeats 1000000 in
theorem next_any (tb fb : ByteArray) (tn fn : Int) (tm fm : Bool) (a : Option Addr) (cap : Nat) (D : List Ent) (w : World) (hD : D.length ≤ 1000) (hE : EntsAt w a cap D) (hS : ∀ e ∈ D, e.1.size ≤ 140737488351232) :
    Calls Tryd.prog 17 #[.agg #[.string tb, .int .i64 tn, .string fb, .int .i64 fn, .bool tm, .bool fm, .slice a D.length cap]] w fun e w' => e = .returned (nextV D) ∧ Below w.heap.size w w' := by
  obtain ⟨W1, hW1⟩ : ∃ W1, W1 = w.alloc (.cells #[.string tb, .int .i64 tn, .string fb, .int .i64 fn, .bool tm, .bool fm, .slice a D.length cap] 26) := ⟨_, rfl⟩
  have hs1 : w.heap.size + 1 = W1.heap.size := by rw [hW1]; simp
  have HP := Lib.hid (show P7 (W1.alloc (.cells #[.string ⟨#[]⟩, .int .i64 0] 23)) w.heap.size _ _ _ _ _ _ _ from by rw [hW1]; exact (P7.new w _ rfl _ _ _ _ _ _ _ _).alloc _)
  have HR := Lib.hid (show KeepAt (W1.alloc (.cells #[.string ⟨#[]⟩, .int .i64 0] 23)) (w.heap.size + 1) 0 (.string ⟨#[]⟩) ∧ KeepAt (W1.alloc (.cells #[.string ⟨#[]⟩, .int .i64 0] 23)) (w.heap.size + 1) 1 (.int .i64 0) from by
    rw [hs1]
    exact ⟨⟨World.cell?_alloc_at _ _ _ _ rfl, World.frozen?_alloc_at _ _ _ _ rfl, by simp⟩, ⟨World.cell?_alloc_at _ _ _ _ rfl, World.frozen?_alloc_at _ _ _ _ rfl, by simp⟩⟩)
  have HB0 := Lib.hid (show Below w.heap.size w (W1.alloc (.cells #[.string ⟨#[]⟩, .int .i64 0] 23)) from by rw [hW1]; exact ((Below.refl _ w).alloc (Nat.le_refl _) _).alloc (by simp) _)
  have HFI := Lib.hid (fun W (h : Below w.heap.size w W) => first_any a cap D W hD (hE.below h))
  have HE := Lib.hid (fun W (h : Below w.heap.size w W) => hE.below h)
  have hle := fstD_le D
  have HSS := Lib.hid hS
  clear hE hs1 hS
  subst hW1
  obtain ⟨f, hf⟩ : ∃ f, f = fstD D := ⟨_, rfl⟩
  obtain ⟨V, hV⟩ : ∃ V, V = nextV D := ⟨_, rfl⟩
  have hVV := hV
  unfold nextV at hVV
  rw [← hf] at HFI hle hVV
  rw [← hV]
  clear hf hV
  by_cases hlt : f < D.length
  · rw [List.getElem?_eq_getElem hlt] at hVV
    have HSK := Lib.hid (HSS.out D[f] (List.getElem_mem hlt))
    have HCK := Lib.hid (fun W (h : Below w.heap.size w W) => (HE.out W h).at_ f hlt)
    have ef : ((f : Int) == (D.length : Int)) = false := by rw [beq_eq_false_iff_ne]; omega
    generalize D[f] = d at *
    obtain ⟨db, dn, dm⟩ := d
    simp only at hVV HSK HCK
    subst hVV
    obtain ⟨g, o, rfl, -, -, -, -⟩ := HCK.out w (Below.refl _ _)
    have HAN := Lib.hid (fun W => anew_any db dn W HSK.out)
    go_enter Tryd.func17, Tryd.ntmps17
    go_wp2_with (first
      | (go_at_call 41; (with_reducible refine (HFI.out _ HB0.out).mono ?_); rintro e w1 ⟨rfl, hb⟩; have HB := Lib.hid (HB0.out.trans (hb.mono HB0.out.size)); have HP1 := Lib.hid (HP.out.below hb); have HR1 := Lib.hid (And.intro (HR.out.1.below hb) (HR.out.2.below hb)); clear hb; obtain ⟨p6, -, pl⟩ := HP1.out.k6; obtain ⟨g', o', ha, hg, c0, c1, -⟩ := HCK.out _ HB.out; simp only [Option.some.injEq, Addr.mk.injEq, and_true] at ha; obtain ⟨rfl, rfl⟩ := ha)
      | (go_at_call 42; (with_reducible refine (HAN.out _).mono ?_); rintro e w2 ⟨rfl, hb⟩; replace HB := Lib.hid (HB.out.trans (hb.mono HB.out.size)); have HR2 := Lib.hid (And.intro (HR1.out.1.below hb) (HR1.out.2.below hb)); clear hb; obtain ⟨⟨r0, s0, rl⟩, ⟨r1, s1, -⟩⟩ := HR2.out))
    obtain ⟨z0, z1⟩ := stored2 (W := w2) (.string db) (.int .i64 dn) r0 r1
    exact bodyPost_ret (v := .tuple #[.agg #[.string db, .int .i64 dn], .bool true]) (by simp [results, Tryd.results17, go_sem, z0, z1]) rfl ⟨rfl, set2_below HB.out (by omega) _ _⟩
  · obtain rfl : f = D.length := by omega
    rw [List.getElem?_eq_none (Nat.le_refl _)] at hVV
    simp only at hVV
    subst hVV
    have ef : ((D.length : Int) == (D.length : Int)) = true := beq_self_eq_true _
    go_enter Tryd.func17, Tryd.ntmps17
    go_wp2_with (go_at_call 41; (with_reducible refine (HFI.out _ HB0.out).mono ?_); rintro e w1 ⟨rfl, hb⟩; have HB := Lib.hid (HB0.out.trans (hb.mono HB0.out.size)); have HP1 := Lib.hid (HP.out.below hb); have HR1 := Lib.hid (And.intro (HR.out.1.below hb) (HR.out.2.below hb)); clear hb; obtain ⟨p6, -, pl⟩ := HP1.out.k6; obtain ⟨⟨r0, s0, rl⟩, ⟨r1, s1, -⟩⟩ := HR1.out)
    obtain ⟨z0, z1⟩ := stored2 (W := w1) (.string ⟨#[]⟩) (.int .i64 0) r0 r1
    exact bodyPost_ret (v := .tuple #[.agg #[.string ⟨#[]⟩, .int .i64 0], .bool false]) (by simp [results, Tryd.results17, go_sem, z0, z1]) rfl ⟨rfl, set2_below HB.out (by omega) _ _⟩
end Go.Proofs.YtplandmnmdkjmaaDoor
