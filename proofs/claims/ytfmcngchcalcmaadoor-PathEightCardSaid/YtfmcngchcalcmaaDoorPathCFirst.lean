/-
The landed code's first and inOrder.
-/
import Derived.Test.YtfmcngchcalcmaaDoorPathOrd
namespace Go.Proofs.YtfmcngchcalcmaaDoor
open Go.RowKit Go.Sort
set_option maxRecDepth 20000
set_option maxHeartbeats 1000000 in
theorem first_any (a : Option Addr) (cap : Nat) (D : List Ent) (w : World) (hD : D.length ≤ 1000) (hE : EntsAt w a cap D) :
    Calls Tryd.prog 54 #[.slice a D.length cap] w fun e w' => e = .returned (.int .i64 (fstD D : Nat)) ∧ Below w.heap.size w w' := by
  have HE := Lib.hid hE
  have HS := Lib.hid (fst_stop D)
  have HA := Lib.hid (fst_all D)
  obtain ⟨R, hR⟩ : ∃ R : Nat, R = fstD D := ⟨_, rfl⟩
  rw [← hR] at HS HA ⊢
  clear hE hR
  go_enter Tryd.func54, Tryd.ntmps54
  go_wp2
  go_loopw [7] (fun i wx => ∃ k : Nat, k ≤ D.length ∧ i = .int .i64 k ∧ Hid ((∀ j (hj : j < k), ∀ hl : j < D.length, D[j].2.2 = true) ∧ Below w.heap.size w wx)) (fun i _ => D.length - (intOf i).toNat)
  case atStart => exact ⟨0, by omega, rfl, Lib.hid ⟨fun j hj => by omega, Below.refl _ w⟩⟩
  case round =>
    obtain ⟨k, hk, rfl, HR⟩ := hrel
    by_cases hlt : k < D.length
    · have dk : decide ((k : Int) < (D.length : Int)) = true := decide_eq_true (by omega)
      obtain ⟨g, o, rfl, hg, c0, c1, c2⟩ := (HE.out.below HR.out.2).at_ k hlt
      have HM := Lib.hid (show ∀ b, b = D[k].2.2 → D[k].2.2 = b from fun b h => h.symm)
      generalize hd : D[k] = d at *
      obtain ⟨db, dn, dm⟩ := d
      simp only at c0 c1 c2 HM
      have HB := Lib.hid (HR.out.2.alloc HR.out.2.size (.cells #[.string db, .int .i64 dn, .bool dm] 82))
      have HD := Lib.hid hd
      clear hd HM
      cases dm
      · have hf := HS.out k hlt (fun j hj => HR.out.1 j hj (by omega)) (by rw [HD.out])
        subst hf
        go_wp2
        go_ret
        exact ⟨rfl, HB.out⟩
      · go_wp2
        go_roundw
        case rel =>
          refine ⟨k + 1, by omega, by go_num, Lib.hid ⟨fun j hj hl => ?_, HB.out⟩⟩
          by_cases hjk : j = k
          · subst hjk; rw [HD.out]
          · exact HR.out.1 j (by omega) hl
        case measure => simp [intOf]; omega
    · obtain rfl : k = D.length := by omega
      have dk : decide ((D.length : Int) < (D.length : Int)) = false := decide_eq_false (by omega)
      have hf := HA.out (fun j hj => HR.out.1 j hj hj)
      subst hf
      go_wp2
      go_ret
      exact ⟨rfl, HR.out.2⟩
theorem ord_false (M : List Ent) (j : Nat) (h1 : fstD M ≤ j) (h2 : j < M.length) (h3 : M[j].2.2 = true) : ordD M = false := by
  unfold ordD
  rw [List.all_eq_false]
  refine ⟨M[j], ?_, by rw [h3]; simp⟩
  have : (M.drop (fstD M))[j - fstD M]'(by rw [List.length_drop]; omega) = M[j] := by
    rw [List.getElem_drop]
    congr 1
    omega
  rw [← this]
  exact List.getElem_mem _
theorem ord_true (M : List Ent) (h : ∀ j (h2 : j < M.length), fstD M ≤ j → M[j].2.2 = false) : ordD M = true := by
  unfold ordD
  rw [List.all_eq_true]
  intro x hx
  obtain ⟨i, hi, rfl⟩ := List.getElem_of_mem hx
  rw [List.getElem_drop, h _ _ (by omega)]
  rfl
set_option maxHeartbeats 1000000 in
theorem inOrder_any (a : Option Addr) (cap : Nat) (D : List Ent) (w : World) (hD : D.length ≤ 1000) (hE : EntsAt w a cap D) :
    Calls Tryd.prog 51 #[.slice a D.length cap] w fun e w' => e = .returned (.bool (ordD D)) ∧ Below w.heap.size w w' := by
  have HF := Lib.hid (first_any a cap D w hD hE)
  have hle := fstD_le D
  have HN := Lib.hid (ord_false D)
  have HY := Lib.hid (ord_true D)
  obtain ⟨f, hf⟩ : ∃ f, f = fstD D := ⟨_, rfl⟩
  rw [← hf] at HF hle HN HY
  obtain ⟨a', hs, hE'⟩ := slice_from Tryd.underlying24 sizeD hE f hle
  obtain ⟨R, hR⟩ : ∃ R, R = ordD D := ⟨_, rfl⟩
  rw [← hR] at HN HY ⊢
  have HE := Lib.hid hE'
  have hlen : (D.drop f).length = D.length - f := by simp
  obtain ⟨M, hM⟩ : ∃ M, M = D.drop f := ⟨_, rfl⟩
  rw [← hM] at HE hlen hs
  have HM := Lib.hid hM
  have HLE := Lib.hid hlen
  have HLF := Lib.hid hle
  have hMl : M.length ≤ 1000 := by omega
  clear hE hE' hf hM hR hlen hle
  go_enter Tryd.func51, Tryd.ntmps51
  go_wp2_with (go_at_call 54; (with_reducible refine HF.out.mono ?_); rintro e w1 ⟨rfl, hb⟩; have HB := Lib.hid hb; clear hb HF)
  go_loopw [10] (fun i wx => ∃ k : Nat, k ≤ M.length ∧ i = .int .i64 k ∧ Hid ((∀ j (hj : j < k), ∀ hl : j < M.length, M[j].2.2 = false) ∧ Below w.heap.size w wx)) (fun i _ => M.length - (intOf i).toNat)
  case atStart => exact ⟨0, by omega, rfl, Lib.hid ⟨fun j hj => by omega, HB.out⟩⟩
  case round =>
    obtain ⟨k, hk, rfl, HR⟩ := hrel
    by_cases hlt : k < M.length
    · have dk : decide ((k : Int) < (M.length : Int)) = true := decide_eq_true (by omega)
      obtain ⟨g, o, rfl, hg, c0, c1, c2⟩ := (HE.out.below HR.out.2).at_ k hlt
      generalize hd : M[k] = d at *
      obtain ⟨db, dn, dm⟩ := d
      simp only at c0 c1 c2
      have HB2 := Lib.hid (HR.out.2.alloc HR.out.2.size (.cells #[.string db, .int .i64 dn, .bool dm] 82))
      have HD := Lib.hid hd
      clear hd
      cases dm
      · go_wp2
        go_roundw
        case rel =>
          refine ⟨k + 1, by omega, by go_num, Lib.hid ⟨fun j hj hl => ?_, HB2.out⟩⟩
          by_cases hjk : j = k
          · subst hjk; rw [HD.out]
          · exact HR.out.1 j (by omega) hl
        case measure => simp [intOf]; omega
      · have hf := HN.out (f + k) (by omega) (by have := HLE.out; omega) (by
          have q := HD.out
          have h1 := HM.out
          subst h1
          rw [List.getElem_drop] at q
          rw [q])
        subst hf
        go_wp2
        go_ret
        exact ⟨rfl, HB2.out⟩
    · obtain rfl : k = M.length := by omega
      have dk : decide ((M.length : Int) < (M.length : Int)) = false := decide_eq_false (by omega)
      have hf := HY.out (fun j hj hfj => by
        have q := HR.out.1 (j - f) (by have := HLE.out; omega) (by have := HLE.out; omega)
        have h1 := HM.out
        subst h1
        rw [List.getElem_drop] at q
        rw [← q]
        congr 3
        omega)
      subst hf
      go_wp2
      go_ret
      exact ⟨rfl, HR.out.2⟩
end Go.Proofs.YtfmcngchcalcmaaDoor
