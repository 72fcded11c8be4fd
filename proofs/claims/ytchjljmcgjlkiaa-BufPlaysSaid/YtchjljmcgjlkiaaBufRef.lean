/-
The document's box: how it lies; its New, Len.
-/
import Derived.Test.YtchjljmcgjlkiaaBufPure
import Derived.Test.YtchjljmcgjlkiaaSegCells
import Derived.Test.YtchjljmcgjlkiaaRowOwn
import Derived.Test.YtchjljmcgjlkiaaInts
import Derived.BigQuiet
namespace Go.Proofs.Ytchjljmcgjlkiaa
open Go.RowKit
set_option maxRecDepth 20000
/-- a piece behind its message's number -/
def encT19 : Enc (Int × Pc) := ⟨3, by omega, fun x => [.int .i64 x.1, .int .i64 x.2.pid, .string x.2.info], fun _ => rfl, fun _ u hu => by
  simp only [List.mem_cons, List.not_mem_nil, or_false] at hu
  rcases hu with rfl | rfl | rfl <;> rfl⟩
theorem infoT19 : (Try.prog.info? 63).map (fun i => (i.zero, i.size, i.bytes)) = some (some (.agg #[.int .i64 0, .int .i64 0, .string ⟨#[]⟩]), 3, 32) := by kernel_rfl
abbrev OwnT19 (w : World) (v : Value) (L : List (Int × Pc)) : Prop := OwnL encT19 63 w 0 v L
theorem AtL.part19 {w : World} {g o : Nat} {L : List (Int × Pc)} (h : AtL encT19 w (some ⟨g, o, none⟩) L) (i : Nat) (hi : i < L.length) :
    w.cell? ⟨g, o + i * 3, none⟩ = some (.int .i64 L[i].1) ∧ w.cell? ⟨g, o + i * 3 + 1, none⟩ = some (.int .i64 L[i].2.pid) ∧ w.cell? ⟨g, o + i * 3 + 2, none⟩ = some (.string L[i].2.info) := by
  have h0 := h.get i hi 0 (u := .int .i64 L[i].1) rfl
  have h1 := h.get i hi 1 (u := .int .i64 L[i].2.pid) rfl
  have h2 := h.get i hi 2 (u := .string L[i].2.info) rfl
  simp only [Nat.add_zero] at h0 h1 h2
  exact ⟨h0, h1, h2⟩
/-- how it lies: at p, in these blocks -/
def RbL (w : World) (p : Nat) (n1 cnt : Int) (D : List (Int × Pc)) (F : Nat → Prop) : Prop :=
  ∃ v, RowAt w p [.int .i64 n1, .int .i64 cnt, v] ∧ OwnT19 w v D ∧ v.ownBlock ≠ some p ∧ F = fun k => k = p ∨ v.ownBlock = some k
section
variable {w w' : World} {p : Nat} {n1 cnt : Int} {D : List (Int × Pc)} {F : Nat → Prop}
theorem RbL.mem (h : RbL w p n1 cnt D F) : ∀ b, F b → b < w.heap.size := by
  obtain ⟨v, hr, ho, -, rfl⟩ := h
  rintro b (rfl | e)
  · exact hr.lt
  · exact (ho.ge e).2
theorem RbL.stay (h : RbL w p n1 cnt D F) (hs : SameOn F w w') : RbL w' p n1 cnt D F := by
  obtain ⟨v, hr, ho, hn, rfl⟩ := h
  exact ⟨v, hr.block (hs.2 p (Or.inl rfl)) hs.1, ho.same (fun g e => hs.2 g (Or.inr e)), hn, rfl⟩
theorem RbL.below (h : RbL w p n1 cnt D F) (hb : Below w.heap.size w w') : RbL w' p n1 cnt D F := h.stay (SameOn.of_below hb h.mem)
end
theorem rnew19_no (n1 : Int) (w : World) (h : n1 < 16 ∨ 256 < n1) : Calls Try.prog 9 #[.int .i64 n1] w fun e w' => e = .returned (.pointer none) ∧ w' = w := by
  by_cases h1 : n1 < 16
  · clear h
    go_enter Try.func9, Try.ntmps9
    go_wp2_with fail
    exact bodyPost_ret (v := .pointer none) (by simp [results, Try.results9, go_sem]) rfl ⟨rfl, rfl⟩
  · have h2 : 256 < n1 := by omega
    clear h
    go_enter Try.func9, Try.ntmps9
    go_wp2_with fail
    exact bodyPost_ret (v := .pointer none) (by simp [results, Try.results9, go_sem]) rfl ⟨rfl, rfl⟩
theorem rnew19_yes (n1 : Int) (w : World) (h : ¬ (n1 < 16 ∨ 256 < n1)) : Calls Try.prog 9 #[.int .i64 n1] w fun e w' => ∃ p F, e = .returned (.pointer (some ⟨p, 0, none⟩)) ∧ RbL w' p n1 0 [] F ∧ (∀ b, F b → w.heap.size ≤ b) ∧ Below w.heap.size w w' := by
  have HR := Lib.hid (RowAt.new w w.heap.size rfl [.int .i64 n1, .int .i64 0, .slice none 0 0] 45)
  have HB := Lib.hid ((Below.refl w.heap.size w).alloc (Nat.le_refl _) (.cells #[.int .i64 n1, .int .i64 0, .slice none 0 0] 45))
  have h1 : ¬ n1 < 16 := by omega
  have h2 : ¬ 256 < n1 := by omega
  clear h
  go_enter Try.func9, Try.ntmps9
  go_wp2_with fail
  exact bodyPost_ret (v := .pointer (some ⟨w.heap.size, 0, none⟩)) (by simp [results, Try.results9, go_sem]) rfl ⟨w.heap.size, rfl, fun k => k = w.heap.size ∨ (Value.slice none 0 0).ownBlock = some k, ⟨_, HR.out, OwnL.nil _ _ _ _, (fun e => by cases e), rfl⟩, (fun b hb => by
    rcases hb with rfl | e
    · exact Nat.le_refl _
    · cases e), HB.out⟩
theorem run_next (D : List (Int × Pc)) (i j : Nat) (hj : j + 1 = i) (hi : i < D.length) : runF D (i + 1) = runF D i + if (D[i].1 != (D[j]'(by omega)).1) = true then 1 else 0 := by
  subst hj
  rw [runF_succ]
  congr 1
  rw [List.getElem?_eq_getElem hi, Nat.add_sub_cancel, List.getElem?_eq_getElem (show j < D.length by omega)]
  simp
set_option maxHeartbeats 2000000 in
theorem rlen19 (p : Nat) (n1 cnt : Int) (D : List (Int × Pc)) (F : Nat → Prop) (w : World) (h : RbL w p n1 cnt D F) (hl : D.length ≤ 1000) :
    Calls Try.prog 15 #[.pointer (some ⟨p, 0, none⟩)] w fun e w' => e = .returned (.int .i64 (runF D D.length : Nat)) ∧ Below w.heap.size w w' := by
  obtain ⟨v, hr, ho, -, -⟩ := h
  obtain ⟨ad, c, rfl, hA⟩ := ho.see
  obtain ⟨n, hn⟩ : ∃ n, n = D.length := ⟨_, rfl⟩
  rw [← hn] at hr hl
  have HA := Lib.hid hA
  have HR := Lib.hid hr
  have HN := Lib.hid hn
  rw [← hn]
  clear hr hA ho hn
  go_enter Try.func15, Try.ntmps15
  go_wp2_with fail
  go_loopw [3, 4] (fun nv iv wx => ∃ i : Nat, i ≤ n ∧ iv = .int .i64 i ∧ nv = .int .i64 (runF D i : Nat) ∧ Hid (Below w.heap.size w wx)) (fun _ iv _ => n - (intOf iv).toNat)
  case atStart => exact ⟨0, Nat.zero_le _, rfl, rfl, Lib.hid (Below.refl _ _)⟩
  case round =>
    obtain ⟨i, hi, rfl, rfl, HK⟩ := hrel
    have c2 := (HR.out.below HK.out).cell 2 rfl
    by_cases hlt : i < n
    · have hL : i < D.length := by rw [← HN.out]; exact hlt
      obtain ⟨g, o, rfl, -⟩ := HA.out.some_ (by omega)
      have hle := runF_le D i
      have HZ := Lib.hid (show wrap64 ((runF D i : Nat) + 1) = ((runF D i : Nat) : Int) + 1 from IntWalk.wrap64_in _ (by omega))
      have HZ2 := Lib.hid (show wrap64 ((i : Int) + 1) = (i : Int) + 1 from IntWalk.wrap64_in _ (by omega))
      by_cases h0 : i = 0
      · subst h0
        have HX : Hid (runF D 1 = runF D 0 + 1) := Lib.hid (by rw [show (1 : Nat) = 0 + 1 from rfl, runF_succ, if_pos (Or.inl rfl)])
        go_wp2_with fail
        go_big_quiet (fail)
        go_wp2_with fail
        go_roundw
        case rel => exact ⟨1, by omega, rfl, by rw [HX.out]; rfl, Lib.hid (belowN HK.out _)⟩
        case measure => simp [intOf]; omega
      · obtain ⟨j, hj⟩ : ∃ j, j + 1 = i := ⟨i - 1, by omega⟩
        have hz0 : wrap64 ((i : Int) - 1) = (j : Int) := by rw [IntWalk.wrap64_in _ (by omega)]; omega
        have hz1 : (i : Int) - 1 = (j : Int) := by omega
        have d0 : ((i : Int) == 0) = false := by rw [beq_eq_false_iff_ne]; omega
        have HX := Lib.hid (run_next D i j hj hL)
        obtain ⟨e0, -⟩ := (HA.out.below HK.out).part19 i hL
        obtain ⟨f0, -⟩ := (HA.out.below HK.out).part19 j (by omega)
        have hjn : j < n := by omega
        obtain ⟨m, hm⟩ : ∃ m, m = runF D i := ⟨_, rfl⟩
        rw [← hm] at HX HZ hle ⊢
        generalize D[i].1 = x at *
        generalize D[j].1 = y at *
        clear hj hm h0
        cases hq : (x != y) with
        | true =>
          rw [hq, if_pos rfl] at HX
          go_wp2_with fail
          go_big_quiet (fail)
          go_wp2_with fail
          go_roundw
          case rel => exact ⟨i + 1, by omega, by (try rw [HZ2.out]); rfl, by rw [HX.out]; (try rw [HZ.out]); rfl, Lib.hid (belowN HK.out _)⟩
          case measure =>
            try rw [HZ2.out]
            simp [intOf]
            omega
        | false =>
          rw [hq, if_neg (by decide), Nat.add_zero] at HX
          go_wp2_with fail
          go_big_quiet (fail)
          go_wp2_with fail
          go_roundw
          case rel => exact ⟨i + 1, by omega, by (try rw [HZ2.out]); rfl, by rw [HX.out, Nat.add_zero], Lib.hid (belowN HK.out _)⟩
          case measure =>
            try rw [HZ2.out]
            simp [intOf]
            omega
    · obtain rfl : i = n := by omega
      go_wp2_with fail
      exact bodyPost_ret (v := .int .i64 (runF D i : Nat)) (by simp [results, Try.results15, go_sem]) rfl ⟨rfl, HK.out⟩
end Go.Proofs.Ytchjljmcgjlkiaa
