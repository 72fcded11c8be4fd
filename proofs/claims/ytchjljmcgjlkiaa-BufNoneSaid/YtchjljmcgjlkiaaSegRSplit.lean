/-
The document's Split: of any message.
-/
import Derived.Test.YtchjljmcgjlkiaaSegCells
import Derived.Test.YtchjljmcgjlkiaaFactsUpto
namespace Go.Proofs.Ytchjljmcgjlkiaa
open Go.RowKit
set_option maxRecDepth 20000
/-- what the document's Split answers -/
def RSplitTo (w : World) (r : List Pc × Int) : Ending → World → Prop := fun e w' => (∃ v, e = .returned (.tuple #[v, .int .i64 r.2]) ∧ OwnL encP 39 w' w.heap.size v r.1) ∧ Below w.heap.size w w'
theorem rsplit_bad (pid n1 : Int) (text : ByteArray) (w : World) (h : pid < 0 ∨ 255 < pid ∨ n1 < 16 ∨ 256 < n1) : Calls Try.prog 24 #[.int .i64 pid, .string text, .int .i64 n1] w (RSplitTo w (splitD pid text n1)) := by
  have HE := Lib.hid (show splitD pid text n1 = ([], 1) from by unfold splitD; rw [if_pos h])
  unfold RSplitTo
  by_cases h1 : pid < 0
  · go_enter Try.func24, Try.ntmps24
    go_wp2
    exact bodyPost_ret (v := .tuple #[.slice none 0 0, .int .i64 1]) (by simp [results, Try.results24, go_sem]) rfl ⟨⟨.slice none 0 0, by rw [HE.out], by rw [HE.out]; exact OwnL.nil _ _ _ _⟩, Below.refl _ _⟩
  by_cases h2 : 255 < pid
  · go_enter Try.func24, Try.ntmps24
    go_wp2
    exact bodyPost_ret (v := .tuple #[.slice none 0 0, .int .i64 1]) (by simp [results, Try.results24, go_sem]) rfl ⟨⟨.slice none 0 0, by rw [HE.out], by rw [HE.out]; exact OwnL.nil _ _ _ _⟩, Below.refl _ _⟩
  by_cases h3 : n1 < 16
  · go_enter Try.func24, Try.ntmps24
    go_wp2
    exact bodyPost_ret (v := .tuple #[.slice none 0 0, .int .i64 1]) (by simp [results, Try.results24, go_sem]) rfl ⟨⟨.slice none 0 0, by rw [HE.out], by rw [HE.out]; exact OwnL.nil _ _ _ _⟩, Below.refl _ _⟩
  have h4 : 256 < n1 := by omega
  go_enter Try.func24, Try.ntmps24
  go_wp2
  exact bodyPost_ret (v := .tuple #[.slice none 0 0, .int .i64 1]) (by simp [results, Try.results24, go_sem]) rfl ⟨⟨.slice none 0 0, by rw [HE.out], by rw [HE.out]; exact OwnL.nil _ _ _ _⟩, Below.refl _ _⟩
theorem rsplit_long (pid n1 : Int) (text : ByteArray) (w : World) (h : ¬ (pid < 0 ∨ 255 < pid ∨ n1 < 16 ∨ 256 < n1)) (hz : 600 < text.size) : Calls Try.prog 24 #[.int .i64 pid, .string text, .int .i64 n1] w (RSplitTo w (splitD pid text n1)) := by
  have HE := Lib.hid (show splitD pid text n1 = ([], 5) from by unfold splitD; rw [if_neg h, if_pos hz])
  unfold RSplitTo
  have h1 : ¬ pid < 0 := by omega
  have h2 : ¬ 255 < pid := by omega
  have h3 : ¬ n1 < 16 := by omega
  have h4 : ¬ 256 < n1 := by omega
  clear h
  go_enter Try.func24, Try.ntmps24
  go_wp2
  exact bodyPost_ret (v := .tuple #[.slice none 0 0, .int .i64 5]) (by simp [results, Try.results24, go_sem]) rfl ⟨⟨.slice none 0 0, by rw [HE.out], by rw [HE.out]; exact OwnL.nil _ _ _ _⟩, Below.refl _ _⟩
theorem rsplit_one (pid n1 : Int) (text : ByteArray) (w : World) (h : ¬ (pid < 0 ∨ 255 < pid ∨ n1 < 16 ∨ 256 < n1)) (hz : ¬ 600 < text.size) (h5 : (text.size : Int) ≤ n1 ∧ pid ≠ 8) : Calls Try.prog 24 #[.int .i64 pid, .string text, .int .i64 n1] w (RSplitTo w (splitD pid text n1)) := by
  have HE := Lib.hid (show splitD pid text n1 = ([⟨pid, text⟩], 0) from by unfold splitD; rw [if_neg h, if_neg hz, if_pos h5])
  have HO := Lib.hid (OwnL.lit encP 39 w w.heap.size [⟨pid, text⟩] [.int .i64 pid, .string text] rfl (Nat.le_refl _) (by simp) 1 rfl)
  have HB := Lib.hid ((Below.refl _ w).alloc (Nat.le_refl _) (.cells #[.int .i64 pid, .string text] 39))
  unfold RSplitTo
  have h1 : ¬ pid < 0 := by omega
  have h2 : ¬ 255 < pid := by omega
  have h3 : ¬ n1 < 16 := by omega
  have h4 : ¬ 256 < n1 := by omega
  obtain ⟨h6, h7⟩ := h5
  clear h
  go_enter Try.func24, Try.ntmps24
  go_wp2
  exact bodyPost_ret (v := .tuple #[.slice (some ⟨w.heap.size, 0, none⟩) 1 1, .int .i64 0]) (by simp [results, Try.results24, go_sem]) rfl ⟨⟨_, by rw [HE.out], by rw [HE.out]; exact HO.out⟩, HB.out⟩
def strLen : Value → Nat
  | .string b => b.size
  | _ => 0
def bt (l : List UInt8) : ByteArray := ⟨l.toArray⟩
theorem infoS : (Try.prog.info? 9).map (fun i => (i.zero, i.size, i.bytes)) = some (some (.string ⟨#[]⟩), 1, 16) := by kernel_rfl
/-- slices of a text at a number -/
theorem cut_at (b : ByteArray) (x : Int) (h0 : 0 ≤ x) (h1 : x ≤ b.size) : (∀ W, (Instr.slice 9 (.string b) none (some (.int .i64 x)) none).run Try.prog W = .ok (.string (bt (b.data.toList.take x.toNat))) W) ∧
    (∀ W, (Instr.slice 9 (.string b) (some (.int .i64 x)) none none).run Try.prog W = .ok (.string (bt (b.data.toList.drop x.toNat))) W) := by
  have e : x = ((x.toNat : Nat) : Int) := by omega
  constructor
  · intro W
    have := slice_text b x.toNat (by omega) W
    rwa [← e] at this
  · intro W
    have := slice_behind b x.toNat (by omega) W
    rwa [← e] at this
/-- what holds ahead of a round: what is cut off, and what is left -/
def CutAt (m : Nat) (pid : Int) (text : ByteArray) (w : World) (D : List (List UInt8)) (b : ByteArray) (tv : Value) (wx : World) : Prop :=
  (b.size ≤ 600 ∧ D.length ≤ 601 - b.size ∧ (D = [] → b = text) ∧ (D ≠ [] → D ++ chunk m b.data.toList = chunk m (byteI pid :: text.data.toList))) ∧ OwnL encS 9 wx w.heap.size tv (D.map bt) ∧ Below w.heap.size w wx
theorem bt_size (l : List UInt8) : (bt l).size = l.length := by show l.toArray.size = _; simp
theorem bt_list (l : List UInt8) : (bt l).data.toList = l := by simp [bt]
theorem size_list (b : ByteArray) : b.data.toList.length = b.size := by simp
/-- the first one cut off -/
theorem cut_first {m : Nat} (hm : 0 < m) {pid : Int} {text : ByteArray} (r : Nat) (hz : text.size ≤ 600) (hr : r = m - 1 ∧ m - 1 ≤ text.size ∨ r = text.size ∧ text.size < m - 1) :
    ((bt (text.data.toList.drop r)).size ≤ 600 ∧ ([byteI pid :: text.data.toList.take r] : List (List UInt8)).length ≤ 601 - (bt (text.data.toList.drop r)).size ∧ ([byteI pid :: text.data.toList.take r] = [] → bt (text.data.toList.drop r) = text) ∧
      ([byteI pid :: text.data.toList.take r] ≠ [] → [byteI pid :: text.data.toList.take r] ++ chunk m (bt (text.data.toList.drop r)).data.toList = chunk m (byteI pid :: text.data.toList))) := by
  have hl := size_list text
  obtain ⟨n, rfl⟩ : ∃ n, m = n + 1 := ⟨m - 1, by omega⟩
  refine ⟨by rw [bt_size]; simp; omega, by rw [bt_size]; simp; omega, fun h => by simp at h, fun _ => ?_⟩
  rw [bt_list, chunk_cons (n + 1) hm (byteI pid :: text.data.toList) (by simp), List.take_succ_cons, List.drop_succ_cons]
  rcases hr with ⟨h1, h2⟩ | ⟨h1, h2⟩
  · rw [h1]
    rfl
  · rw [h1, List.take_of_length_le (by omega), List.drop_of_length_le (by omega), List.take_of_length_le (by omega), List.drop_of_length_le (by omega)]
    rfl
/-- one more -/
theorem cut_more {m : Nat} (hm : 0 < m) {pid : Int} {text b : ByteArray} {D : List (List UInt8)} (r : Nat) (h0 : 0 < b.size) (hr : r = m ∧ m ≤ b.size ∨ r = b.size ∧ b.size < m)
    (h : b.size ≤ 600 ∧ D.length ≤ 601 - b.size ∧ (D = [] → b = text) ∧ (D ≠ [] → D ++ chunk m b.data.toList = chunk m (byteI pid :: text.data.toList))) (hD : D ≠ []) :
    ((bt (b.data.toList.drop r)).size ≤ 600 ∧ (D ++ [b.data.toList.take r]).length ≤ 601 - (bt (b.data.toList.drop r)).size ∧ (D ++ [b.data.toList.take r] = [] → bt (b.data.toList.drop r) = text) ∧
      (D ++ [b.data.toList.take r] ≠ [] → D ++ [b.data.toList.take r] ++ chunk m (bt (b.data.toList.drop r)).data.toList = chunk m (byteI pid :: text.data.toList))) := by
  have hl := size_list b
  have hne : b.data.toList ≠ [] := fun he => by rw [he] at hl; simp at hl; omega
  have h4 := h.2.2.2 hD
  have hlen := h.2.1
  have hb := h.1
  refine ⟨by rw [bt_size]; simp; omega, by rw [bt_size]; simp; omega, fun h => by simp at h, fun _ => ?_⟩
  rw [bt_list, ← h4, chunk_cons m hm _ hne, List.append_assoc]
  rcases hr with ⟨h1, h2⟩ | ⟨h1, h2⟩
  · rw [h1]
    rfl
  · rw [h1, List.take_of_length_le (by omega), List.drop_of_length_le (by omega), List.take_of_length_le (by omega), List.drop_of_length_le (by omega)]
    rfl
/-- a number as a text of one byte -/
theorem text1 (w : World) (a : Int) (h0 : 0 ≤ a) (h1 : a ≤ 255) : (convert 76 9 (.slice (some ⟨w.heap.size, 0, none⟩) 1 1)).run Try.prog (w.alloc (.cells #[.int .u8 a] 5)) = .ok (.string ⟨#[byteI a]⟩) (w.alloc (.cells #[.int .u8 a] 5)) :=
  BytesAt.conv (cap := 1) (BytesAt.made w _ [byteI a] [.int .u8 a] 5 (by simp [bytesV, ← byteI_val a h0 h1]) rfl)
end Go.Proofs.Ytchjljmcgjlkiaa
