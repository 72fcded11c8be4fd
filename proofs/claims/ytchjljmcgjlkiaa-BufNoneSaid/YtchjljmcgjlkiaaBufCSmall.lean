/-
The landed box: New, Len, Left, Total, Reset; what one that isn't there answers.
-/
import Derived.Test.YtchjljmcgjlkiaaBufMem
namespace Go.Proofs.Ytchjljmcgjlkiaa
open Go.RowKit
set_option maxRecDepth 20000
theorem cnew19_no (n1 : Int) (w : World) (h : n1 < 16 ∨ 256 < n1) : Calls Try.prog 8 #[.int .i64 n1] w fun e w' => e = .returned (.tuple #[.pointer none, .int .i64 1]) ∧ Below w.heap.size w w' := by
  by_cases h1 : n1 < 16
  · clear h
    go_enter Try.func8, Try.ntmps8
    go_wp2_with fail
    exact bodyPost_ret (v := .tuple #[.pointer none, .int .i64 1]) (by simp [results, Try.results8, go_sem]) rfl ⟨rfl, Below.refl _ _⟩
  · have h2 : 256 < n1 := by omega
    clear h
    go_enter Try.func8, Try.ntmps8
    go_wp2_with fail
    exact bodyPost_ret (v := .tuple #[.pointer none, .int .i64 1]) (by simp [results, Try.results8, go_sem]) rfl ⟨rfl, Below.refl _ _⟩
theorem boL_new (n1 : Int) (w : World) : BoL (w.alloc (.cells #[.int .i64 n1, .slice none 0 0, .int .i64 0] 56)) w.heap.size n1 noB (footB w.heap.size (.slice none 0 0) []) :=
  ⟨.slice none 0 0, [], ⟨RowAt.new w w.heap.size rfl [.int .i64 n1, .slice none 0 0, .int .i64 0] 56, OwnL.nil _ _ _ _, (fun m hm => by cases hm), List.nodup_nil, (fun e => by cases e), (fun m hm => by cases hm), fun m hm => by cases hm⟩, rfl, rfl⟩
theorem cnew19_yes (n1 : Int) (w : World) (h : ¬ (n1 < 16 ∨ 256 < n1)) : Calls Try.prog 8 #[.int .i64 n1] w fun e w' => ∃ q, e = .returned (.tuple #[ptrB q, .int .i64 0]) ∧ ∃ F, BoL w' q n1 noB F ∧ (∀ k, F k → w.heap.size ≤ k) ∧ Below w.heap.size w w' := by
  have HR := Lib.hid (boL_new n1 w)
  have HB := Lib.hid ((Below.refl w.heap.size w).alloc (Nat.le_refl _) (.cells #[.int .i64 n1, .slice none 0 0, .int .i64 0] 56))
  have h1 : ¬ n1 < 16 := by omega
  have h2 : ¬ 256 < n1 := by omega
  clear h
  go_enter Try.func8, Try.ntmps8
  go_wp2_with fail
  exact bodyPost_ret (v := .tuple #[ptrB w.heap.size, .int .i64 0]) (by simp [results, Try.results8, go_sem]) rfl ⟨w.heap.size, rfl, _, HR.out, (fun b hb => by
    rcases hb with rfl | e | ⟨m, hm, -⟩
    · exact Nat.le_refl _
    · cases e
    · cases hm), HB.out⟩
/-- a box that isn't there -/
theorem clen19_nil (w : World) : Calls Try.prog 16 #[.pointer none] w fun e w' => e = .returned (.int .i64 0) ∧ w' = w := by
  go_enter Try.func16, Try.ntmps16
  go_wp2_with fail
  exact bodyPost_ret (v := .int .i64 0) (by simp [results, Try.results16, go_sem]) rfl ⟨rfl, rfl⟩
theorem cleft19_nil (w : World) : Calls Try.prog 17 #[.pointer none] w fun e w' => e = .returned (.int .i64 0) ∧ Below w.heap.size w w' := by
  go_enter Try.func17, Try.ntmps17
  go_wp2_with fail
  exact bodyPost_ret (v := .int .i64 0) (by simp [results, Try.results17, go_sem]) rfl ⟨rfl, Below.refl _ _⟩
theorem ctotal19_nil (w : World) : Calls Try.prog 18 #[.pointer none] w fun e w' => e = .returned (.int .i64 0) ∧ Below w.heap.size w w' := by
  go_enter Try.func18, Try.ntmps18
  go_wp2_with fail
  exact bodyPost_ret (v := .int .i64 0) (by simp [results, Try.results18, go_sem]) rfl ⟨rfl, Below.refl _ _⟩
theorem creset19_nil (w : World) : Calls Try.prog 14 #[.pointer none] w fun e w' => e = .returned (.int .i64 0) ∧ Below w.heap.size w w' := by
  go_enter Try.func14, Try.ntmps14
  go_wp2_with fail
  exact bodyPost_ret (v := .int .i64 0) (by simp [results, Try.results14, go_sem]) rfl ⟨rfl, Below.refl _ _⟩
theorem cput19_nil (w : World) (pid : Int) (text : ByteArray) : Calls Try.prog 10 #[.pointer none, .int .i64 pid, .string text] w fun e w' => e = .returned (.int .i64 1) ∧ Below w.heap.size w w' := by
  go_enter Try.func10, Try.ntmps10
  go_wp2_with fail
  exact bodyPost_ret (v := .int .i64 1) (by simp [results, Try.results10, go_sem]) rfl ⟨rfl, Below.refl _ _⟩
theorem cnext19_nil (w : World) : Calls Try.prog 12 #[.pointer none] w fun e w' => e = .returned (.tuple #[pcV zeroP, .bool false]) ∧ Below w.heap.size w w' := by
  have HL := Lib.hid (fun W => clen19_nil W)
  have HB := Lib.hid ((Below.refl w.heap.size w).alloc (Nat.le_refl _) (.cells #[.int .i64 0, .string ⟨#[]⟩] 36))
  have HZ := Lib.hid (show pcV zeroP = .agg #[.int .i64 0, .string ⟨#[]⟩] from rfl)
  rw [HZ.out]
  go_enter Try.func12, Try.ntmps12
  go_wp2_with (go_at_call 16; (with_reducible refine (HL.out _).mono ?_); rintro e w ⟨rfl, rfl⟩)
  exact bodyPost_ret (v := .tuple #[.agg #[.int .i64 0, .string ⟨#[]⟩], .bool false]) (by simp [results, Try.results12, go_sem]) rfl ⟨rfl, HB.out⟩
section
variable {w : World} {q : Nat} {n1 : Int} {b : Bx} {F : Nat → Prop}
theorem clen19 (w : World) (q : Nat) (n1 : Int) (b : Bx) (F : Nat → Prop) (h : BoL w q n1 b F) : Calls Try.prog 16 #[ptrB q] w fun e w' => e = .returned (.int .i64 (b.M.length : Nat)) ∧ w' = w := by
  obtain ⟨v, Z, hA, hM, -⟩ := h
  rw [← BoAt.lens hM]
  obtain ⟨a, c, rfl, -⟩ := hA.own.see
  have c1 := hA.row.cell 1 rfl
  clear hA hM
  go_enter Try.func16, Try.ntmps16
  go_wp2_with fail
  exact bodyPost_ret (v := .int .i64 (Z.length : Nat)) (by simp [results, Try.results16, go_sem]) rfl ⟨rfl, rfl⟩
theorem ctotal19 (w : World) (q : Nat) (n1 : Int) (b : Bx) (F : Nat → Prop) (h : BoL w q n1 b F) : Calls Try.prog 18 #[ptrB q] w fun e w' => e = .returned (.int .i64 b.cnt) ∧ Below w.heap.size w w' := by
  obtain ⟨v, Z, hA, hM, -⟩ := h
  have c1 := hA.row.cell 2 rfl
  generalize b.cnt = k at *
  clear hA hM
  go_enter Try.func18, Try.ntmps18
  go_wp2_with fail
  exact bodyPost_ret (v := .int .i64 k) (by simp [results, Try.results18, go_sem]) rfl ⟨rfl, Below.refl _ _⟩
/-- how many pieces the first ones have -/
def leftZ (Z : List Ms) (i : Nat) : Nat := ((Z.take i).map fun m => m.ps.length).sum
theorem leftZ_succ (Z : List Ms) (i : Nat) (hi : i < Z.length) : leftZ Z (i + 1) = leftZ Z i + Z[i].ps.length := by
  unfold leftZ
  rw [List.take_succ_eq_append_getElem hi, List.map_append, List.sum_append]
  simp
theorem leftZ_all (Z : List Ms) : leftZ Z Z.length = leftM (Z.map Ms.ps) := by
  unfold leftZ leftM
  rw [List.take_length, List.map_map]
  rfl
theorem ms_at {w : World} {g o : Nat} {Z : List Ms} (h : AtL encM w (some ⟨g, o, none⟩) Z) (i : Nat) (hi : i < Z.length) : w.cell? ⟨g, o + i, none⟩ = some (.slice (some ⟨Z[i].g, 0, none⟩) Z[i].ps.length Z[i].c) := by
  have h0 := h.get i hi 0 (u := Z[i].v) rfl
  simpa [encM, Ms.v] using h0
set_option maxHeartbeats 2000000 in
theorem cleft19 (w : World) (q : Nat) (n1 : Int) (b : Bx) (F : Nat → Prop) (h : BoL w q n1 b F) (hb : BOk b) : Calls Try.prog 17 #[ptrB q] w fun e w' => e = .returned (.int .i64 (leftM b.M : Nat)) ∧ Below w.heap.size w w' := by
  obtain ⟨v, Z, hA, hM, -⟩ := h
  have hfew : ∀ i (hi : i < Z.length), Z[i].ps.length ≤ 45 := fun i hi => hb.few _ (by rw [← hM]; exact List.mem_map_of_mem (List.getElem_mem hi))
  have h8 : Z.length ≤ 8 := by rw [BoAt.lens hM]; exact hb.many
  rw [← hM, ← leftZ_all]
  obtain ⟨ad, c, rfl, hL⟩ := hA.own.see
  have c1 := hA.row.cell 1 rfl
  clear hA hM hb
  obtain ⟨n, hn⟩ : ∃ n, n = Z.length := ⟨_, rfl⟩
  rw [← hn] at c1 h8 ⊢
  have HL := Lib.hid hL
  have HN := Lib.hid hn
  have HF := Lib.hid hfew
  have HB8 : ∀ i, i ≤ n → leftZ Z i ≤ i * 45 := by
    intro i
    induction i with
    | zero => intro _; simp [leftZ]
    | succ i ih =>
      intro hi
      have := ih (by omega)
      have h2 := hfew i (by omega)
      rw [leftZ_succ Z i (by omega)]
      omega
  have H8 := Lib.hid HB8
  clear hL hn hfew HB8
  go_enter Try.func17, Try.ntmps17
  go_wp2_with fail
  go_loopw [3, 13] (fun nv iv wx => ∃ i : Nat, i ≤ n ∧ iv = .int .i64 i ∧ nv = .int .i64 (leftZ Z i : Nat) ∧ Hid (Below w.heap.size w wx)) (fun _ iv _ => n - (intOf iv).toNat)
  case atStart => exact ⟨0, Nat.zero_le _, rfl, rfl, Lib.hid (Below.refl _ _)⟩
  case round =>
    obtain ⟨i, hi, rfl, rfl, HK⟩ := hrel
    by_cases hlt : i < n
    · have hL : i < Z.length := by rw [← HN.out]; exact hlt
      obtain ⟨g, o, rfl, -⟩ := HL.out.some_ (by omega)
      have e0 := ms_at (HL.out.below HK.out) i hL
      have hz := H8.out i hi
      have hf := HF.out i hL
      have HX := Lib.hid (leftZ_succ Z i hL)
      generalize Z[i].ps.length = k at *
      generalize Z[i].g = zg at *
      generalize Z[i].c = zc at *
      have HZ := Lib.hid (show wrap64 (((leftZ Z i : Nat) : Int) + (k : Int)) = ((leftZ Z i : Nat) : Int) + (k : Int) from IntWalk.wrap64_in _ (by omega))
      have HZ2 := Lib.hid (show wrap64 ((i : Int) + 1) = (i : Int) + 1 from IntWalk.wrap64_in _ (by omega))
      clear hz hf
      go_wp2_with fail
      go_roundw
      case rel => exact ⟨i + 1, by omega, by (try rw [HZ2.out]); rfl, by (try rw [HZ.out]); rw [HX.out]; rfl, HK⟩
      case measure =>
        try rw [HZ2.out]
        simp [intOf]
        omega
    · obtain rfl : i = n := by omega
      go_wp2_with fail
      exact bodyPost_ret (v := .int .i64 (leftZ Z i : Nat)) (by simp [results, Try.results17, go_sem]) rfl ⟨rfl, HK.out⟩
set_option maxHeartbeats 2000000 in
theorem creset19 (w : World) (q : Nat) (n1 : Int) (b : Bx) (F : Nat → Prop) (h : BoL w q n1 b F) : Calls Try.prog 14 #[ptrB q] w fun e w' => e = .returned (.int .i64 (b.M.length : Nat)) ∧ ∃ F', BoL w' q n1 noB F' ∧ Turn F w w' ∧ Grew F F' w := by
  have HL := Lib.hid (clen19 w q n1 b F h)
  obtain ⟨v, Z, hA, hM, rfl⟩ := h
  have c0 := hA.row.cell 0 rfl
  have c1 := hA.row.cell 1 rfl
  have c2 := hA.row.cell 2 rfl
  have f0 := (hA.row.get 0 rfl).free
  have f1 := (hA.row.get 1 rfl).free
  have f2 := (hA.row.get 2 rfl).free
  have hr := ((hA.row.put 0 (.int .i64 n1) [.int .i64 n1, v, .int .i64 b.cnt] rfl).put 1 (.slice none 0 0) [.int .i64 n1, .slice none 0 0, .int .i64 b.cnt] rfl).put 2 (.int .i64 0) [.int .i64 n1, .slice none 0 0, .int .i64 0] rfl
  have ht := (((Turn.refl (footB q v Z) w).set (p := ⟨q, 0, none⟩) (Or.inl (Or.inl rfl)) (.int .i64 n1)).set (p := ⟨q, 1, none⟩) (Or.inl (Or.inl rfl)) (.slice none 0 0)).set (p := ⟨q, 2, none⟩) (Or.inl (Or.inl rfl)) (.int .i64 0)
  have HE : Hid (∃ F', BoL (((w.setCell ⟨q, 0, none⟩ (.int .i64 n1)).setCell ⟨q, 1, none⟩ (.slice none 0 0)).setCell ⟨q, 2, none⟩ (.int .i64 0)) q n1 noB F' ∧ Turn (footB q v Z) w (((w.setCell ⟨q, 0, none⟩ (.int .i64 n1)).setCell ⟨q, 1, none⟩ (.slice none 0 0)).setCell ⟨q, 2, none⟩ (.int .i64 0)) ∧ Grew (footB q v Z) F' w) := Lib.hid ⟨footB q (.slice none 0 0) [], ⟨.slice none 0 0, [], ⟨hr, OwnL.nil _ _ _ _, (fun m hm => by cases hm), List.nodup_nil, (fun e => by cases e), (fun m hm => by cases hm), fun m hm => by cases hm⟩, rfl, rfl⟩, ht, fun k hk => by
    rcases hk with rfl | e | ⟨m, hm, -⟩
    · exact Or.inl (Or.inl rfl)
    · cases e
    · cases hm⟩
  generalize b.M.length = n at *
  generalize b.cnt = k at *
  clear hA hM hr ht
  go_enter Try.func14, Try.ntmps14
  go_wp2_with (go_at_call 16; (with_reducible refine HL.out.mono ?_); rintro e w1 ⟨rfl, rfl⟩)
  exact bodyPost_ret (v := .int .i64 n) (by simp [results, Try.results14, go_sem]) rfl ⟨rfl, HE.out⟩
end
end Go.Proofs.Ytchjljmcgjlkiaa
