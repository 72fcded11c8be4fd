/-
The landed code's reading of a number.
-/
import Derived.Test.YteiappicdnekoaaDoorCallCGreat
import Derived.Test.YteiappicdnekoaaDoorCallVars
import Derived.Lib.AtoiAllCases
namespace Go.Proofs.YteiappicdnekoaaDoor
open Go.RowKit Go.Sort
set_option maxRecDepth 20000
/-- what is told of a number's word: the number, and whether it is written so -/
def numD (r : List UInt8) : Int × Bool :=
  match Lib.atoiAll r with
  | .ok v => (v, Lib.itoa v == r)
  | .range => (Lib.atoiSat r, false)
  | _ => (0, false)
theorem below_grow' (w : World) (k : Nat) (os : Array Obj) : Below w.heap.size w (grow (w.drewN k) os) :=
  ⟨rfl, rfl, rfl, by show w.heap.size ≤ (w.heap ++ os).size; rw [Array.size_append]; omega, fun j hj => by show (w.heap ++ os)[j]? = w.heap[j]?; exact Array.getElem?_append_left hj⟩
/-- a word that is no number -/
theorem atoi_none (s : ByteArray) (h : s.size ≤ 300) (h1 : ∀ v, Lib.atoiAll s.data.toList ≠ .ok v) (h2 : Lib.atoiAll s.data.toList ≠ .range) (t : TypeId) (p : Value) (w : World) (hc : w.cell? ⟨2, 0, none⟩ = some (.iface t p)) :
    Calls Tryd.prog 67 #[.string s] w fun e w' => ∃ u q, e = .returned (.tuple #[.int .i64 0, .iface u q]) ∧ Below w.heap.size w w' :=
  (Any.strconv_Atoi_syntax Tryd.laysC172 s (by omega) (by
    cases hA : Lib.atoiAll s.data.toList
    · exact absurd hA (h1 _)
    · rfl
    · exact absurd hA h2) (.iface t p) w hc (Or.inr ⟨t, p, rfl⟩)).mono fun _ _ ⟨_, he, _, _, hb⟩ => ⟨_, _, he, hb⟩
set_option maxHeartbeats 1000000 in
theorem cnum_any (s : ByteArray) (w : World) (hV : VarsOk w) (h : s.size ≤ 300) :
    Calls Tryd.prog 61 #[.string s] w fun e w' => e = .returned (.tuple #[.int .i64 (numD s.data.toList).1, .bool (numD s.data.toList).2]) ∧ Below w.heap.size w w' := by
  unfold numD
  have h1 := fun (hn : ∀ v, Lib.atoiAll s.data.toList ≠ .ok v) (hr : Lib.atoiAll s.data.toList ≠ .range) => atoi_none s h hn hr
  cases hA : Lib.atoiAll s.data.toList
  · rename_i v
    clear h1
    simp only
    obtain ⟨b0, b1⟩ := Lib.atoiAll_bounds hA
    have HA := Lib.hid (show Calls Tryd.prog 67 #[.string s] w (fun e w' => e = .returned (.tuple #[.int .i64 v, .nilIface]) ∧ Below w.heap.size w w') from (Tryd.strconv_Atoi_ok s (by omega) v hA w).mono fun e w' ⟨he, hw⟩ => ⟨he, by
      rcases hw with rfl | ⟨t, rfl⟩
      · exact Below.refl _ _
      · exact Lib.bytesWorld_below w _ t⟩)
    have HI := Lib.hid (fun W (hb : Below w.heap.size w W) => show Calls Tryd.prog 55 #[.int .i64 v] W (fun e w' => e = .returned (.string ⟨(Lib.itoa v).toArray⟩) ∧ Below W.heap.size W w') from (Tryd.strconv_Itoa v b0 b1 W (hV.below hb).pow).mono fun e w' ⟨he, k, os, hw⟩ => ⟨he, by rw [hw]; exact below_grow' W k os⟩)
    obtain ⟨g, hg⟩ : ∃ g : ByteArray, g = ⟨(Lib.itoa v).toArray⟩ := ⟨_, rfl⟩
    rw [← hg] at HI
    have he : (g.toList == s.toList) = (Lib.itoa v == s.data.toList) := by rw [Lib.toList_data, Lib.toList_data, hg]
    rw [← he]
    clear he hg hA hV h
    go_enter Tryd.func61, Tryd.ntmps61
    go_wp2_with (first
      | (go_at_call 67; (with_reducible refine HA.out.mono ?_); rintro e w1 ⟨rfl, hb⟩; have HB := Lib.hid hb; clear hb)
      | (go_at_call 55; (with_reducible refine (HI.out _ HB.out).mono ?_); rintro e w2 ⟨rfl, hb⟩; replace HB := Lib.hid (HB.out.trans (hb.mono HB.out.size)); clear hb))
    go_ret2
    exact ⟨rfl, HB.out⟩
  · simp only
    obtain ⟨t, p, hv⟩ := hV.syn
    have hc : w.cell? ⟨2, 0, none⟩ = some (.iface t p) := by simpa using World.var?_cell g_syn hv 0
    have HA := Lib.hid (h1 (fun v e => by rw [hA] at e; cases e) (fun e => by rw [hA] at e; cases e) t p w hc)
    clear hA hV h hc hv h1
    go_enter Tryd.func61, Tryd.ntmps61
    go_wp2_with (go_at_call 67; (with_reducible refine HA.out.mono ?_); rintro e w1 ⟨u, q, rfl, hb⟩; have HB := Lib.hid hb; clear hb)
    go_ret2
    exact ⟨rfl, HB.out⟩
  · clear h1
    simp only
    obtain ⟨t, p, hv⟩ := hV.rng
    have hc : w.cell? ⟨3, 0, none⟩ = some (.iface t p) := by simpa using World.var?_cell g_rng hv 0
    have HA := Lib.hid (Tryd.strconv_Atoi_range s (by omega) hA (.iface t p) w hc (Or.inr ⟨t, p, rfl⟩))
    generalize Lib.atoiSat s.data.toList = z at HA ⊢
    clear hA hV h hc hv
    go_enter Tryd.func61, Tryd.ntmps61
    go_wp2_with (go_at_call 67; (with_reducible refine HA.out.mono ?_); rintro e w1 ⟨N, rfl, _, _, hb⟩; have HB := Lib.hid hb; clear hb)
    go_ret2
    exact ⟨rfl, HB.out⟩
end Go.Proofs.YteiappicdnekoaaDoor
