/-
The document's queue: Take; Same.
-/
import Derived.Test.YtliamhphpnifaaaTxqRefD
namespace Go.Proofs.Ytliamhphpnifaaa
open Go.RowKit
set_option maxRecDepth 20000
theorem infoS16 : (Try.prog.info? 9).map (fun i => (i.zero, i.size, i.bytes)) = some (some (.string ⟨#[]⟩), 1, 16) := by kernel_rfl
theorem text_at16 {w : World} {g o : Nat} {L : List ByteArray} (h : AtL encS w (some ⟨g, o, none⟩) L) (k : Nat) (hk : k < L.length) : w.cell? ⟨g, o + k, none⟩ = some (.string L[k]) := by
  have := h.get k hk 0 (u := .string L[k]) rfl
  simpa [encS] using this
set_option maxHeartbeats 1000000 in
/-- alike lists of texts -/
theorem rsame_yes (a b : Option Addr) (n c d : Nat) (L : List ByteArray) (w : World) (hn : L.length = n) (hA : AtL encS w a L) (hB : AtL encS w b L) (hl : n ≤ 1000) : Calls Try.prog 11 #[.slice a n c, .slice b n d] w fun e w' => e = .returned (.bool true) ∧ Below w.heap.size w w' := by
  have HN := Lib.hid hn
  have HA := Lib.hid hA
  have HB := Lib.hid hB
  clear hn hA hB
  go_enter Try.func11, Try.ntmps11
  go_wp2_with fail
  go_loopw [5] (fun v wx => ∃ i : Nat, i ≤ n ∧ v = .int .i64 i ∧ Hid (Below w.heap.size w wx)) (fun v _ => n - (intOf v).toNat)
  case atStart => exact ⟨0, Nat.zero_le _, rfl, Lib.hid (Below.refl _ _)⟩
  case round =>
    obtain ⟨i, hi, rfl, HK⟩ := hrel
    have HZ2 := Lib.hid (show wrap64 ((i : Int) + 1) = (i : Int) + 1 from IntWalk.wrap64_in _ (by omega))
    by_cases hlt : i < n
    · have hL : i < L.length := by rw [HN.out]; exact hlt
      obtain ⟨g, o, rfl, -⟩ := HA.out.some_ (by omega)
      obtain ⟨g2, o2, rfl, -⟩ := HB.out.some_ (by omega)
      have HX := Lib.hid (fun W (hb : Below w.heap.size w W) => And.intro (text_at16 (HA.out.below hb) i hL) (text_at16 (HB.out.below hb) i hL))
      have HBW := Lib.hid HK.out
      generalize L[i] = s at *
      go_upto_region 6 with fail
      refine wp_region_held (S := fun W' => Below wr.heap.size wr W') (by kernel_rfl) ?_
      change wpAnyH _ _ _ _ _ _ _ _ wr.drew
      have HB := Lib.hid ((Below.refl wr.heap.size wr).drew)
      refine wpAnyH_take (i := 0) (v := ?_) rfl (by kernel_rfl) (by kernel_rfl) (by kernel_rfl) (fun _ _ _ h => h) (Or.inl ⟨by rfl, ?_⟩) HB.out ?_
      rotate_left
      · intro w' hw'
        go_simp
        with_reducible rfl
      go_simp
      refine wpAnyH_take (i := 1) (v := ?_) rfl (by kernel_rfl) (by kernel_rfl) (by kernel_rfl) (fun _ _ _ h => h) (Or.inl ⟨by rfl, ?_⟩) HB.out ?_
      rotate_left
      · intro w' hw'
        go_simp
        with_reducible rfl
      go_simp
      refine wpAnyH_take (i := 2) (v := ?_) rfl (by kernel_rfl) (by kernel_rfl) (by kernel_rfl) (fun _ _ _ h => h) (Or.inl ⟨by rfl, ?_⟩) HB.out ?_
      rotate_left
      · intro w' hw'
        go_simp
        with_reducible rfl
      go_simp
      refine wpAnyH_take (i := 4) (v := ?_) rfl (by kernel_rfl) (by kernel_rfl) (by kernel_rfl) (fun _ _ _ h => h) (Or.inl ⟨by rfl, ?_⟩) HB.out ?_
      rotate_left
      · intro w' hw'
        go_simp
        with_reducible rfl
      go_simp
      refine wpAnyH_take (i := 5) (v := ?_) rfl (by kernel_rfl) (by kernel_rfl) (by kernel_rfl) (fun _ _ _ h => h) (Or.inl ⟨by rfl, ?_⟩) HB.out ?_
      rotate_left
      · intro w' hw'
        go_simp
        with_reducible rfl
      go_simp
      refine wpAnyH_take (i := 6) (v := ?_) rfl (by kernel_rfl) (by kernel_rfl) (by kernel_rfl) (fun _ _ _ h => h) (Or.inl ⟨by rfl, ?_⟩) HB.out ?_
      rotate_left
      · intro w' hw'
        go_simp
        with_reducible rfl
      go_simp
      refine wpAnyH_take (i := 3) (v := ?_) rfl (by kernel_rfl) (by kernel_rfl) (by kernel_rfl) (fun _ _ _ h => h) (Or.inl ⟨by rfl, ?_⟩) HB.out ?_
      rotate_left
      · intro w' hw'
        have xx := (HX.out _ (HBW.out.trans (hw'.mono HBW.out.size))).1
        go_simp
        with_reducible rfl
      go_simp
      refine wpAnyH_take (i := 7) (v := ?_) rfl (by kernel_rfl) (by kernel_rfl) (by kernel_rfl) (fun _ _ _ h => h) (Or.inl ⟨by rfl, ?_⟩) HB.out ?_
      rotate_left
      · intro w' hw'
        have xx := (HX.out _ (HBW.out.trans (hw'.mono HBW.out.size))).2
        go_simp
        with_reducible rfl
      go_simp
      refine wpAnyH_take (i := 8) (v := ?_) rfl (by kernel_rfl) (by kernel_rfl) (by kernel_rfl) (fun _ _ _ h => h) (Or.inl ⟨by rfl, ?_⟩) HB.out ?_
      rotate_left
      · intro w' hw'
        go_simp
        with_reducible rfl
      go_simp
      refine wpAnyH_done (by kernel_rfl) ?_ _
      have HE := Lib.hid (HBW.out.drew)
      go_wp2_with fail
      go_roundw
      case rel => exact ⟨i + 1, by omega, by (try rw [HZ2.out]); rfl, HE⟩
      case measure =>
        try rw [HZ2.out]
        simp [intOf]
        omega
    · go_wp2_with fail
      exact bodyPost_ret (v := .bool true) (by simp [results, Try.results11, go_sem]) rfl ⟨rfl, HK.out⟩
end Go.Proofs.Ytliamhphpnifaaa
