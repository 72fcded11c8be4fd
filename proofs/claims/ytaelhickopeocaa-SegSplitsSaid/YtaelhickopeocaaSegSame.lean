/-
The document's Same, of two lists that are alike; the statements' plain.
-/
import Derived.Test.YtaelhickopeocaaSegCells
namespace Go.Proofs.Ytaelhickopeocaa
open Go.RowKit
set_option maxRecDepth 20000
set_option maxHeartbeats 1000000 in
theorem rsame_yes (v u : Value) (L : List Pc) (w : World) (hv : SeeL encP w v L) (hu : SeeL encP w u L) (hl : L.length ≤ 1000) : Calls Try.prog 10 #[v, u] w fun e w' => e = .returned (.bool true) ∧ Below w.heap.size w w' := by
  obtain ⟨a, c, rfl, hA⟩ := hv
  obtain ⟨b, d, rfl, hB⟩ := hu
  have HA := Lib.hid hA
  have HB := Lib.hid hB
  clear hA hB
  obtain ⟨n, hn⟩ : ∃ n, n = L.length := ⟨_, rfl⟩
  rw [← hn] at hl ⊢
  have HN := Lib.hid hn
  clear hn
  go_enter Try.func10, Try.ntmps10
  go_wp2_with fail
  go_loopw [5] (fun i wx => ∃ k : Nat, k ≤ n ∧ i = .int .i64 k ∧ Hid (Below w.heap.size w wx)) (fun i _ => n - (intOf i).toNat)
  case atStart => exact ⟨0, by omega, rfl, Below.refl _ _⟩
  case round =>
    obtain ⟨k, hk, rfl, HK⟩ := hrel
    by_cases hlt : k < n
    · have hL : k < L.length := by rw [← HN.out]; exact hlt
      obtain ⟨g, o, rfl, _⟩ := HA.out.some_ (by omega)
      obtain ⟨g', o', rfl, _⟩ := HB.out.some_ (by omega)
      have ⟨x0, x1⟩ := pc_at (HA.out.below HK.out).drew k hL
      have ⟨y0, y1⟩ := pc_at (HB.out.below HK.out).drew k hL
      generalize L[k].pid = P at *
      generalize L[k].info = I at *
      have HD := Lib.hid HK.out.drew
      clear HK hL
      go_wp2_with fail
      go_region
      go_wp2_with fail
      go_roundw
      case rel => exact ⟨k + 1, by omega, by go_num, HD.out⟩
      case measure => simp [intOf]; omega
    · go_wp2_with fail
      exact bodyPost_ret (v := .bool true) (by simp [results, Try.results10, go_sem]) rfl ⟨rfl, HK.out⟩
set_option maxHeartbeats 1000000 in
theorem segplain_any (v : Value) (L : List Pc) (w : World) (hv : SeeL encP w v L) (hl : L.length ≤ 1000) : Calls Try.prog 11 #[v] w fun e w' => (∃ u, e = .returned u ∧ OwnL encP 45 w' w.heap.size u L) ∧ Below w.heap.size w w' := by
  obtain ⟨a, c, rfl, hA⟩ := hv
  have HA := Lib.hid hA
  clear hA
  obtain ⟨n, hn⟩ : ∃ n, n = L.length := ⟨_, rfl⟩
  rw [← hn] at hl ⊢
  have HN := Lib.hid hn
  clear hn
  have HO := Lib.hid (OwnL.nil encP 45 w w.heap.size)
  go_enter Try.func11, Try.ntmps11
  go_wp2_with fail
  go_loopw [3, 5, 8] (fun v p i wx => ∃ k : Nat, k ≤ n ∧ i = .int .i64 k ∧ ∃ tv : Value, tv = v ∧ Hid (OwnL encP 45 wx w.heap.size tv (L.take k) ∧ Below w.heap.size w wx)) (fun _ _ i _ => n - (intOf i).toNat)
  case atStart => exact ⟨0, by omega, rfl, _, rfl, HO.out, Below.refl _ _⟩
  case round =>
    obtain ⟨k, hk, rfl, tv, rfl, HK⟩ := hrel
    clear HO
    by_cases hlt : k < n
    · have hL : k < L.length := by rw [← HN.out]; exact hlt
      obtain ⟨g, o, rfl, _⟩ := HA.out.some_ (by omega)
      have ⟨x0, x1⟩ := pc_at (HA.out.below HK.out.2) k hL
      have HT := Lib.hid (List.take_succ_eq_append_getElem hL)
      have hp : L[k] = ⟨L[k].pid, L[k].info⟩ := rfl
      have HO1 := Lib.hid HK.out.1
      have HB1 := Lib.hid HK.out.2
      have hlen : (L.take k).length ≤ 1000 := by simp; omega
      clear HK
      generalize L[k] = e at *
      obtain ⟨P, I⟩ := e
      simp only at x0 x1
      clear hp
      go_upto_region 5 with (fail)
      have HO2 := Lib.hid ((HO1.out.alloc (.cells #[.int .i64 P, .string I] 33)).alloc (.cells #[.int .i64 P, .string I] 45))
      have HB2 := Lib.hid (((HB1.out.alloc HB1.out.size (.cells #[.int .i64 P, .string I] 33))).alloc (by simp; have := HB1.out.size; omega) (.cells #[.int .i64 P, .string I] 45))
      have HM := Lib.hid (AtL.made encP 45 (wr.alloc (.cells #[.int .i64 P, .string I] 33)) (wr.heap.size + 1) ⟨P, I⟩ [.int .i64 P, .string I] rfl (by simp))
      go_wp2_with (at_builtin; go_loud (refine wpList_append_one encP 45 27 Try.underlying27 infoP rfl (by decide) _ rfl (.tmp 12) (.tmp 14) rfl w.heap.size tv (L.take k) rfl HO2.out (wr.heap.size + 1) 1 rfl ⟨P, I⟩ HM.out (by omega) (by have := HB2.out.size; exact this) ?_; intro v' w2 hown hgr hwh; have HB3 := Lib.hid (HO2.out.appended HB2.out (Nat.le_refl _) HB2.out.size hgr); have HO3 := Lib.hid hown; clear hown hgr hwh))
      go_roundw
      case rel => exact ⟨k + 1, by omega, by go_num, _, rfl, HT.out ▸ HO3.out, HB3.out⟩
      case measure => simp [intOf]; omega
    · go_wp2_with fail
      have e : L.take k = L := List.take_of_length_le (by rw [← HN.out]; omega)
      exact bodyPost_ret (v := tv) (by simp [results, Try.results11, go_sem]) rfl ⟨⟨tv, rfl, e ▸ HK.out.1⟩, HK.out.2⟩
end Go.Proofs.Ytaelhickopeocaa
