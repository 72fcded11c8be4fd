/-
The document's Same, of two lists that are alike.
-/
import Derived.Test.YtmokibjeanbabaaSeqRFar
namespace Go.Proofs.Ytmokibjeanbabaa
open Go.RowKit
set_option maxRecDepth 20000
set_option maxHeartbeats 1000000 in
theorem isame_yes (v u : Value) (L : List Int) (w : World) (hv : SeeL encI w v L) (hu : SeeL encI w u L) (hl : L.length ≤ 1000) : Calls Try.prog 20 #[v, u] w fun e w' => e = .returned (.bool true) ∧ Below w.heap.size w w' := by
  obtain ⟨a, c, rfl, hA⟩ := hv
  obtain ⟨b, d, rfl, hB⟩ := hu
  have HA := Lib.hid hA
  have HB := Lib.hid hB
  clear hA hB
  obtain ⟨n, hn⟩ : ∃ n, n = L.length := ⟨_, rfl⟩
  rw [← hn] at hl ⊢
  have HN := Lib.hid hn
  clear hn
  go_enter Try.func20, Try.ntmps20
  go_wp2_with fail
  go_loopw [5] (fun i wx => ∃ k : Nat, k ≤ n ∧ i = .int .i64 k ∧ Hid (Below w.heap.size w wx)) (fun i _ => n - (intOf i).toNat)
  case atStart => exact ⟨0, by omega, rfl, Below.refl _ _⟩
  case round =>
    obtain ⟨k, hk, rfl, HK⟩ := hrel
    by_cases hlt : k < n
    · have hL : k < L.length := by rw [← HN.out]; exact hlt
      obtain ⟨g, o, rfl, _⟩ := HA.out.some_ (by omega)
      obtain ⟨g', o', rfl, _⟩ := HB.out.some_ (by omega)
      have x0 := int_at (HA.out.below HK.out).drew k hL
      have y0 := int_at (HB.out.below HK.out).drew k hL
      generalize L[k] = P at *
      have HD := Lib.hid HK.out.drew
      clear HK hL
      go_wp2_with fail
      go_region
      go_wp2_with fail
      go_roundw
      case rel => exact ⟨k + 1, by omega, by go_num, HD.out⟩
      case measure => simp [intOf]; omega
    · go_wp2_with fail
      exact bodyPost_ret (v := .bool true) (by simp [results, Try.results20, go_sem]) rfl ⟨rfl, HK.out⟩
end Go.Proofs.Ytmokibjeanbabaa
