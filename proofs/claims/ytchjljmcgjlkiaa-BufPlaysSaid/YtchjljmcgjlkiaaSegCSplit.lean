/-
The landed code's Split: of any message.
-/
import Derived.Test.YtchjljmcgjlkiaaSegCCut
import Derived.Test.YtchjljmcgjlkiaaSegCTake
namespace Go.Proofs.Ytchjljmcgjlkiaa
open Go.RowKit
set_option maxRecDepth 20000
/-- what it answers -/
def CSplitTo (w : World) (r : List Pc × Int) : Ending → World → Prop := fun e w' => (∃ v, e = .returned (.tuple #[v, .int .i64 r.2]) ∧ OwnL encP 36 w' w.heap.size v r.1) ∧ Below w.heap.size w w'
theorem csplit_bad (pid n1 : Int) (text : ByteArray) (w : World) (h : pid < 0 ∨ 255 < pid ∨ n1 < 16 ∨ 256 < n1) : Calls Try.prog 23 #[.int .i64 pid, .string text, .int .i64 n1] w (CSplitTo w (splitD pid text n1)) := by
  have HE := Lib.hid (show splitD pid text n1 = ([], 1) from by unfold splitD; rw [if_pos h])
  have HPI := Lib.hid (fun W => cpid_any pid W)
  unfold CSplitTo
  by_cases hp : pid < 0 ∨ 255 < pid
  · have hv : (decide (0 ≤ pid) && decide (pid ≤ 255)) = false := by
      rcases hp with hp | hp <;> simp <;> omega
    rw [hv] at HPI
    clear hp h
    go_enter Try.func23, Try.ntmps23
    go_wp2_with (go_at_call 27; (with_reducible refine (HPI.out _).mono ?_); rintro e w ⟨rfl, rfl⟩)
    exact bodyPost_ret (v := .tuple #[.slice none 0 0, .int .i64 1]) (by simp [results, Try.results23, go_sem]) rfl ⟨⟨.slice none 0 0, by rw [HE.out], by rw [HE.out]; exact OwnL.nil _ _ _ _⟩, Below.refl _ _⟩
  · have hv : (decide (0 ≤ pid) && decide (pid ≤ 255)) = true := by
      simp
      omega
    rw [hv] at HPI
    by_cases h3 : n1 < 16
    · clear h
      go_enter Try.func23, Try.ntmps23
      go_wp2_with (go_at_call 27; (with_reducible refine (HPI.out _).mono ?_); rintro e w ⟨rfl, rfl⟩)
      exact bodyPost_ret (v := .tuple #[.slice none 0 0, .int .i64 1]) (by simp [results, Try.results23, go_sem]) rfl ⟨⟨.slice none 0 0, by rw [HE.out], by rw [HE.out]; exact OwnL.nil _ _ _ _⟩, Below.refl _ _⟩
    · have h4 : 256 < n1 := by omega
      clear h
      go_enter Try.func23, Try.ntmps23
      go_wp2_with (go_at_call 27; (with_reducible refine (HPI.out _).mono ?_); rintro e w ⟨rfl, rfl⟩)
      exact bodyPost_ret (v := .tuple #[.slice none 0 0, .int .i64 1]) (by simp [results, Try.results23, go_sem]) rfl ⟨⟨.slice none 0 0, by rw [HE.out], by rw [HE.out]; exact OwnL.nil _ _ _ _⟩, Below.refl _ _⟩
theorem csplit_long (pid n1 : Int) (text : ByteArray) (w : World) (h : ¬ (pid < 0 ∨ 255 < pid ∨ n1 < 16 ∨ 256 < n1)) (hz : 600 < text.size) : Calls Try.prog 23 #[.int .i64 pid, .string text, .int .i64 n1] w (CSplitTo w (splitD pid text n1)) := by
  have HE := Lib.hid (show splitD pid text n1 = ([], 5) from by unfold splitD; rw [if_neg h, if_pos hz])
  have HPI := Lib.hid (fun W => cpid_any pid W)
  unfold CSplitTo
  have hv : (decide (0 ≤ pid) && decide (pid ≤ 255)) = true := by
    simp
    omega
  rw [hv] at HPI
  have d3 : decide (n1 < 16) = false := decide_eq_false (by omega)
  have d4 : decide (256 < n1) = false := decide_eq_false (by omega)
  clear h hv
  go_enter Try.func23, Try.ntmps23
  go_wp2_with (go_at_call 27; (with_reducible refine (HPI.out _).mono ?_); rintro e w ⟨rfl, rfl⟩)
  exact bodyPost_ret (v := .tuple #[.slice none 0 0, .int .i64 5]) (by simp [results, Try.results23, go_sem]) rfl ⟨⟨.slice none 0 0, by rw [HE.out], by rw [HE.out]; exact OwnL.nil _ _ _ _⟩, Below.refl _ _⟩
theorem csplit_one (pid n1 : Int) (text : ByteArray) (w : World) (h : ¬ (pid < 0 ∨ 255 < pid ∨ n1 < 16 ∨ 256 < n1)) (hz : ¬ 600 < text.size) (h5 : (text.size : Int) ≤ n1 ∧ pid ≠ 8) : Calls Try.prog 23 #[.int .i64 pid, .string text, .int .i64 n1] w (CSplitTo w (splitD pid text n1)) := by
  have HE := Lib.hid (show splitD pid text n1 = ([⟨pid, text⟩], 0) from by unfold splitD; rw [if_neg h, if_neg hz, if_pos h5])
  have HPI := Lib.hid (fun W => cpid_any pid W)
  have HAL := Lib.hid (fun W => calone_any ⟨pid, text⟩ W (by simp only; omega))
  unfold CSplitTo
  have hv : (decide (0 ≤ pid) && decide (pid ≤ 255)) = true := by
    simp
    omega
  rw [hv] at HPI
  have d3 : decide (n1 < 16) = false := decide_eq_false (by omega)
  have d4 : decide (256 < n1) = false := decide_eq_false (by omega)
  obtain ⟨h6, h7⟩ := h5
  have d5 : decide ((600 : Int) < (text.size : Int)) = false := decide_eq_false (by omega)
  have d6 : decide (n1 < (text.size : Int)) = false := decide_eq_false (by omega)
  have d7 : (pid == 8) = false := by rw [beq_eq_false_iff_ne]; exact h7
  clear h hv h6 h7 hz
  go_enter Try.func23, Try.ntmps23
  go_wp2_with (first | (go_at_call 27; (with_reducible refine (HPI.out _).mono ?_); rintro e w ⟨rfl, rfl⟩) | (go_at_call 30; (with_reducible refine (HAL.out _).mono ?_); rintro e w2 ⟨rfl, hb⟩; have HO := Lib.hid (OwnL.lit encP 36 w2 w.heap.size [⟨pid, text⟩] [.int .i64 pid, .string text] rfl hb.size (by simp) 1 rfl); have HB := Lib.hid (hb.alloc hb.size (.cells #[.int .i64 pid, .string text] 36)); clear hb; unfold pcV))
  exact bodyPost_ret (v := .tuple #[.slice (some ⟨w2.heap.size, 0, none⟩) 1 1, .int .i64 0]) (by simp [results, Try.results23, go_sem]) rfl ⟨⟨_, by rw [HE.out], by rw [HE.out]; exact HO.out⟩, HB.out⟩
theorem csplit_many (pid n1 : Int) (text : ByteArray) (w : World) (h : ¬ (pid < 0 ∨ 255 < pid ∨ n1 < 16 ∨ 256 < n1)) (hz : ¬ 600 < text.size) (h5 : ¬ ((text.size : Int) ≤ n1 ∧ pid ≠ 8)) : Calls Try.prog 23 #[.int .i64 pid, .string text, .int .i64 n1] w (CSplitTo w (splitD pid text n1)) := by
  have HE := Lib.hid (show splitD pid text n1 = (heads true (chunk (n1.toNat - 1) (byteI pid :: text.data.toList)), 0) from by unfold splitD; rw [if_neg h, if_neg hz, if_neg h5])
  obtain ⟨m, hm⟩ : ∃ m, m = n1.toNat - 1 := ⟨_, rfl⟩
  rw [← hm] at HE
  have HPI := Lib.hid (fun W => cpid_any pid W)
  have HCU := Lib.hid (fun W => ccut_any pid text m W (by omega) (by omega) (by omega) (by omega) (by omega))
  unfold CSplitTo
  have hv : (decide (0 ≤ pid) && decide (pid ≤ 255)) = true := by
    simp
    omega
  rw [hv] at HPI
  have d3 : decide (n1 < 16) = false := decide_eq_false (by omega)
  have d4 : decide (256 < n1) = false := decide_eq_false (by omega)
  have hn : (m : Int) = n1 - 1 := by omega
  rw [hn] at HCU
  have Hz := Lib.hid (show wrap64 (n1 - 1) = n1 - 1 from IntWalk.wrap64_in _ (by omega))
  have hpick : ((text.size : Int) ≤ n1 ∧ pid = 8) ∨ n1 < (text.size : Int) := by
    by_cases h6 : (text.size : Int) ≤ n1
    · exact Or.inl ⟨h6, Classical.byContradiction fun hn => h5 ⟨h6, hn⟩⟩
    · exact Or.inr (by omega)
  have d5 : decide ((600 : Int) < (text.size : Int)) = false := decide_eq_false (by omega)
  clear h hv h5 hm hn hz
  have hwz := Hz.out
  rcases hpick with ⟨h6, h7⟩ | h6
  · subst h7
    have d6 : decide (n1 < (text.size : Int)) = false := decide_eq_false (by omega)
    clear h6
    go_enter Try.func23, Try.ntmps23
    go_wp2_with (first | (go_at_call 27; (with_reducible refine (HPI.out _).mono ?_); rintro e w ⟨rfl, rfl⟩) | (go_at_call 37; (with_reducible refine (HCU.out _).mono ?_); rintro e w2 ⟨⟨v, rfl, ho⟩, hb⟩; have HO := Lib.hid ho; have HB := Lib.hid hb; clear ho hb))
    exact bodyPost_ret (v := .tuple #[v, .int .i64 0]) (by simp [results, Try.results23, go_sem]) rfl ⟨⟨v, by rw [HE.out], by rw [HE.out]; exact HO.out⟩, HB.out⟩
  · have d6 : decide (n1 < (text.size : Int)) = true := decide_eq_true h6
    clear h6
    go_enter Try.func23, Try.ntmps23
    go_wp2_with (first | (go_at_call 27; (with_reducible refine (HPI.out _).mono ?_); rintro e w ⟨rfl, rfl⟩) | (go_at_call 37; (with_reducible refine (HCU.out _).mono ?_); rintro e w2 ⟨⟨v, rfl, ho⟩, hb⟩; have HO := Lib.hid ho; have HB := Lib.hid hb; clear ho hb))
    exact bodyPost_ret (v := .tuple #[v, .int .i64 0]) (by simp [results, Try.results23, go_sem]) rfl ⟨⟨v, by rw [HE.out], by rw [HE.out]; exact HO.out⟩, HB.out⟩
theorem csplit_any (pid n1 : Int) (text : ByteArray) (w : World) : Calls Try.prog 23 #[.int .i64 pid, .string text, .int .i64 n1] w (CSplitTo w (splitD pid text n1)) := by
  by_cases h : pid < 0 ∨ 255 < pid ∨ n1 < 16 ∨ 256 < n1
  · exact csplit_bad pid n1 text w h
  · by_cases hz : 600 < text.size
    · exact csplit_long pid n1 text w h hz
    · by_cases h5 : (text.size : Int) ≤ n1 ∧ pid ≠ 8
      · exact csplit_one pid n1 text w h hz h5
      · exact csplit_many pid n1 text w h hz h5
end Go.Proofs.Ytchjljmcgjlkiaa
