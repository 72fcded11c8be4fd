/-
The landed code's after: what a gatherer is behind a piece with Pid 8 (written by tools/gen10/gen_cafter.py).
-/
import Derived.Test.YtchjljmcgjlkiaaSegLib
import Derived.Test.YtchjljmcgjlkiaaFactsUpto
import Derived.Test.YtchjljmcgjlkiaaText
namespace Go.Proofs.Ytchjljmcgjlkiaa
open Go.RowKit
set_option maxRecDepth 20000
/-- what it answers: the state's three cells, the error -/
def afterD (o p : Int) (t : ByteArray) (l : List UInt8) : (Int × Int × ByteArray) × Int :=
  match l with
  | [] => ((0, 0, ⟨#[]⟩), 4)
  | x :: r =>
    if 128 ≤ int8 x then
      match r with
      | [] => ((0, 0, ⟨#[]⟩), 4)
      | y :: c => if 600 < c.length then ((0, 0, ⟨#[]⟩), 5) else ((int8 x - 128, int8 y, ⟨c.toArray⟩), 0)
    else if int8 x ≠ o - 1 then ((0, 0, ⟨#[]⟩), 7)
    else if 600 < t.size + r.length then ((0, 0, ⟨#[]⟩), 5)
    else ((int8 x, p, t ++ ⟨r.toArray⟩), 0)
theorem txt_empty : (⟨#[]⟩ : ByteArray).toList.isEmpty = true := by
  rw [ByteArray.toList]
  unfold ByteArray.toList.loop
  rfl
def AfterTo (w : World) (r : (Int × Int × ByteArray) × Int) : Ending → World → Prop := fun e w' =>
  e = .returned (.tuple #[.agg #[.int .i64 r.1.1, .int .i64 r.1.2.1, .string r.1.2.2], .int .i64 r.2]) ∧ Below w.heap.size w w'
set_option maxHeartbeats 1000000 in
theorem cafter_none (o p : Int) (t I : ByteArray) (w : World) (_ho : 0 ≤ o ∧ o ≤ 128) (_hzt : t.size ≤ 600) (_hzI : I.size ≤ 2000) (hI : I.data.toList = []) : Calls Try.prog 38 #[.agg #[.int .i64 o, .int .i64 p, .string t], .string I] w (AfterTo w (afterD o p t I.data.toList)) := by
  have HE := Lib.hid (show afterD o p t I.data.toList = ((0, 0, ⟨#[]⟩), 4) from by
    rw [hI]
    rfl)
  have HG := Lib.hid ((RowAt.new w w.heap.size rfl [.int .i64 o, .int .i64 p, .string t] 67).alloc (.cells #[.int .i64 0, .int .i64 0, .string ⟨#[]⟩] 67))
  have HR := Lib.hid (RowAt.new (w.alloc (.cells #[.int .i64 o, .int .i64 p, .string t] 67)) (w.heap.size + 1) (by simp) [.int .i64 0, .int .i64 0, .string ⟨#[]⟩] 67)
  have HB := Lib.hid (((Below.refl _ w).alloc (Nat.le_refl _) (.cells #[.int .i64 o, .int .i64 p, .string t] 67)).alloc (by simp) (.cells #[.int .i64 0, .int .i64 0, .string ⟨#[]⟩] 67))
  have hne : I.toList.isEmpty = true := by
    have : I = ⟨#[]⟩ := bytes_ext' (by rw [hI])
    rw [this]
    exact txt_empty
  clear hI
  unfold AfterTo
  go_enter Try.func38, Try.ntmps38
  go_upto_region 1 with (fail)
  generalize (w.alloc (.cells #[.int .i64 o, .int .i64 p, .string t] 67)).alloc (.cells #[.int .i64 0, .int .i64 0, .string ⟨#[]⟩] 67) = w1 at *
  have r0 := HR.out.cell 0 rfl
  have rf0 := (HR.out.get 0 rfl).free
  have r1 := HR.out.cell 1 rfl
  have rf1 := (HR.out.get 1 rfl).free
  have r2 := HR.out.cell 2 rfl
  have rf2 := (HR.out.get 2 rfl).free
  go_wp2_with fail
  clear r0 r1 r2 rf0 rf1 rf2
  have HR2 := Lib.hid (show RowAt (((w1.setCell ⟨w.heap.size + 1, 0, none⟩ (.int .i64 0)).setCell ⟨w.heap.size + 1, 1, none⟩ (.int .i64 0)).setCell ⟨w.heap.size + 1, 2, none⟩ (.string ⟨#[]⟩)) (w.heap.size + 1) [.int .i64 0, .int .i64 0, .string ⟨#[]⟩] from (((HR.out.put 0 (.int .i64 0) _ rfl).put 1 (.int .i64 0) _ rfl).put 2 (.string ⟨#[]⟩) _ rfl))
  have HB2 := Lib.hid (show Below w.heap.size w (((w1.setCell ⟨w.heap.size + 1, 0, none⟩ (.int .i64 0)).setCell ⟨w.heap.size + 1, 1, none⟩ (.int .i64 0)).setCell ⟨w.heap.size + 1, 2, none⟩ (.string ⟨#[]⟩)) from (((HB.out.setCell (p := ⟨w.heap.size + 1, 0, none⟩) (Nat.le_succ _) (.int .i64 0)).setCell (p := ⟨w.heap.size + 1, 1, none⟩) (Nat.le_succ _) (.int .i64 0)).setCell (p := ⟨w.heap.size + 1, 2, none⟩) (Nat.le_succ _) (.string ⟨#[]⟩)))
  have s0 := HR2.out.cell 0 rfl
  have s1 := HR2.out.cell 1 rfl
  have s2 := HR2.out.cell 2 rfl
  exact bodyPost_ret (v := .tuple #[.agg #[.int .i64 0, .int .i64 0, .string ⟨#[]⟩], .int .i64 4]) (by simp [results, Try.results38, go_sem, s0, s1, s2]) rfl ⟨by rw [HE.out], HB2.out⟩
set_option maxHeartbeats 1000000 in
theorem cafter_head (o p : Int) (t I : ByteArray) (w : World) (_ho : 0 ≤ o ∧ o ≤ 128) (_hzt : t.size ≤ 600) (hzI : I.size ≤ 2000) (x : UInt8) (hI : I.data.toList = [x]) (hx : 128 ≤ int8 x) : Calls Try.prog 38 #[.agg #[.int .i64 o, .int .i64 p, .string t], .string I] w (AfterTo w (afterD o p t I.data.toList)) := by
  have HE := Lib.hid (show afterD o p t I.data.toList = ((0, 0, ⟨#[]⟩), 4) from by
    rw [hI]
    exact if_pos hx)
  have HG := Lib.hid ((RowAt.new w w.heap.size rfl [.int .i64 o, .int .i64 p, .string t] 67).alloc (.cells #[.int .i64 0, .int .i64 0, .string ⟨#[]⟩] 67))
  have HR := Lib.hid (RowAt.new (w.alloc (.cells #[.int .i64 o, .int .i64 p, .string t] 67)) (w.heap.size + 1) (by simp) [.int .i64 0, .int .i64 0, .string ⟨#[]⟩] 67)
  have HB := Lib.hid (((Below.refl _ w).alloc (Nat.le_refl _) (.cells #[.int .i64 o, .int .i64 p, .string t] 67)).alloc (by simp) (.cells #[.int .i64 0, .int .i64 0, .string ⟨#[]⟩] 67))
  have hx0 := int8_low x
  have hsz : I.size = 1 + ([] : List UInt8).length := by
    have e : I.data.toList.length = I.size := by simp
    rw [hI, List.length_cons] at e
    omega
  have hne : I.toList.isEmpty = false := text_some I (by omega)
  have hi0 : ∀ W, (Instr.index 9 (.string I) (.int .i64 0)).run Try.prog W = .ok (.int .u8 (int8 x)) W := fun W => index_text I 0 x (by rw [hI]; rfl) W
  have hs1 : ∀ W, (Instr.slice 9 (.string I) (some (.int .i64 1)) none none).run Try.prog W = .ok (.string ⟨([] : List UInt8).toArray⟩) W := fun W => by
    have k := slice_behind I 1 (by omega) W
    rw [hI] at k
    exact k
  have hE0 : (⟨#[]⟩ : ByteArray).toList.isEmpty = true := txt_empty
  clear hI
  generalize int8 x = X at *
  have z0 : IntKind.i64.wrap X = X := i64_small _ (by omega) (by omega)
  unfold AfterTo
  go_enter Try.func38, Try.ntmps38
  go_upto_region 1 with (fail)
  generalize (w.alloc (.cells #[.int .i64 o, .int .i64 p, .string t] 67)).alloc (.cells #[.int .i64 0, .int .i64 0, .string ⟨#[]⟩] 67) = w1 at *
  go_wp2_with fail
  go_region
  have HR1 := Lib.hid HR.out.drew
  have HG1 := Lib.hid HG.out.drew
  have HB1 := Lib.hid HB.out.drew
  clear HR HG HB
  generalize w1.drew = w2 at *
  have r0 := HR1.out.cell 0 rfl
  have rf0 := (HR1.out.get 0 rfl).free
  have r1 := HR1.out.cell 1 rfl
  have rf1 := (HR1.out.get 1 rfl).free
  have r2 := HR1.out.cell 2 rfl
  have rf2 := (HR1.out.get 2 rfl).free
  go_wp2_with fail
  clear r0 r1 r2 rf0 rf1 rf2
  have HR2 := Lib.hid (show RowAt (((w2.setCell ⟨w.heap.size + 1, 0, none⟩ (.int .i64 0)).setCell ⟨w.heap.size + 1, 1, none⟩ (.int .i64 0)).setCell ⟨w.heap.size + 1, 2, none⟩ (.string ⟨#[]⟩)) (w.heap.size + 1) [.int .i64 0, .int .i64 0, .string ⟨#[]⟩] from (((HR1.out.put 0 (.int .i64 0) _ rfl).put 1 (.int .i64 0) _ rfl).put 2 (.string ⟨#[]⟩) _ rfl))
  have HB2 := Lib.hid (show Below w.heap.size w (((w2.setCell ⟨w.heap.size + 1, 0, none⟩ (.int .i64 0)).setCell ⟨w.heap.size + 1, 1, none⟩ (.int .i64 0)).setCell ⟨w.heap.size + 1, 2, none⟩ (.string ⟨#[]⟩)) from (((HB1.out.setCell (p := ⟨w.heap.size + 1, 0, none⟩) (Nat.le_succ _) (.int .i64 0)).setCell (p := ⟨w.heap.size + 1, 1, none⟩) (Nat.le_succ _) (.int .i64 0)).setCell (p := ⟨w.heap.size + 1, 2, none⟩) (Nat.le_succ _) (.string ⟨#[]⟩)))
  have s0 := HR2.out.cell 0 rfl
  have s1 := HR2.out.cell 1 rfl
  have s2 := HR2.out.cell 2 rfl
  exact bodyPost_ret (v := .tuple #[.agg #[.int .i64 0, .int .i64 0, .string ⟨#[]⟩], .int .i64 4]) (by simp [results, Try.results38, go_sem, s0, s1, s2]) rfl ⟨by rw [HE.out], HB2.out⟩
set_option maxHeartbeats 1000000 in
theorem cafter_first_long (o p : Int) (t I : ByteArray) (w : World) (_ho : 0 ≤ o ∧ o ≤ 128) (_hzt : t.size ≤ 600) (hzI : I.size ≤ 2000) (x y : UInt8) (c : List UInt8) (hI : I.data.toList = x :: y :: c) (hx : 128 ≤ int8 x) (hl : 600 < c.length) : Calls Try.prog 38 #[.agg #[.int .i64 o, .int .i64 p, .string t], .string I] w (AfterTo w (afterD o p t I.data.toList)) := by
  have HE := Lib.hid (show afterD o p t I.data.toList = ((0, 0, ⟨#[]⟩), 5) from by
    rw [hI]
    show (if 128 ≤ int8 x then if 600 < c.length then _ else _ else _) = _
    rw [if_pos hx, if_pos hl])
  have HG := Lib.hid ((RowAt.new w w.heap.size rfl [.int .i64 o, .int .i64 p, .string t] 67).alloc (.cells #[.int .i64 0, .int .i64 0, .string ⟨#[]⟩] 67))
  have HR := Lib.hid (RowAt.new (w.alloc (.cells #[.int .i64 o, .int .i64 p, .string t] 67)) (w.heap.size + 1) (by simp) [.int .i64 0, .int .i64 0, .string ⟨#[]⟩] 67)
  have HB := Lib.hid (((Below.refl _ w).alloc (Nat.le_refl _) (.cells #[.int .i64 o, .int .i64 p, .string t] 67)).alloc (by simp) (.cells #[.int .i64 0, .int .i64 0, .string ⟨#[]⟩] 67))
  have hx0 := int8_low x
  have hsz : I.size = 1 + (y :: c : List UInt8).length := by
    have e : I.data.toList.length = I.size := by simp
    rw [hI, List.length_cons] at e
    omega
  have hne : I.toList.isEmpty = false := text_some I (by omega)
  have hi0 : ∀ W, (Instr.index 9 (.string I) (.int .i64 0)).run Try.prog W = .ok (.int .u8 (int8 x)) W := fun W => index_text I 0 x (by rw [hI]; rfl) W
  have hs1 : ∀ W, (Instr.slice 9 (.string I) (some (.int .i64 1)) none none).run Try.prog W = .ok (.string ⟨(y :: c : List UInt8).toArray⟩) W := fun W => by
    have k := slice_behind I 1 (by omega) W
    rw [hI] at k
    exact k
  have hy0 := int8_low y
  have hE0 : (⟨(y :: c : List UInt8).toArray⟩ : ByteArray).toList.isEmpty = false := text_some _ (by show 1 ≤ (List.toArray _).size; simp)
  have hi1 : ∀ W, (Instr.index 9 (.string ⟨(y :: c : List UInt8).toArray⟩) (.int .i64 0)).run Try.prog W = .ok (.int .u8 (int8 y)) W := fun W => index_text ⟨(y :: c : List UInt8).toArray⟩ 0 y rfl W
  have hs2 : ∀ W, (Instr.slice 9 (.string ⟨(y :: c : List UInt8).toArray⟩) (some (.int .i64 1)) none none).run Try.prog W = .ok (.string ⟨c.toArray⟩) W := fun W =>
    slice_behind ⟨(y :: c : List UInt8).toArray⟩ 1 (by show 1 ≤ (List.toArray _).size; simp) W
  have hcs : (⟨c.toArray⟩ : ByteArray).size = c.length := by show c.toArray.size = _; simp
  have hcl : c.length ≤ 2000 := by rw [List.length_cons] at hsz; omega
  clear hI hsz
  generalize (⟨(y :: c : List UInt8).toArray⟩ : ByteArray) = S1 at *
  have he0 : (⟨#[]⟩ : ByteArray).size = 0 := rfl
  rw [← hcs] at hcl
  rw [← hcs] at hl
  generalize c.length = n at *
  generalize (⟨c.toArray⟩ : ByteArray) = S2 at *
  generalize int8 x = X at *
  generalize int8 y = Y at *
  have z0 : IntKind.i64.wrap X = X := i64_small _ (by omega) (by omega)
  have z1 : IntKind.i64.wrap Y = Y := i64_small _ (by omega) (by omega)
  have z2 : IntKind.i64.wrap (X - 128) = X - 128 := i64_small _ (by omega) (by omega)
  have zs : IntKind.i64.wrap (S2.size : Int) = (S2.size : Int) := i64_small _ (by omega) (by omega)
  unfold AfterTo
  go_enter Try.func38, Try.ntmps38
  go_upto_region 1 with (fail)
  generalize (w.alloc (.cells #[.int .i64 o, .int .i64 p, .string t] 67)).alloc (.cells #[.int .i64 0, .int .i64 0, .string ⟨#[]⟩] 67) = w1 at *
  go_wp2_with fail
  go_region
  have HR1 := Lib.hid HR.out.drew
  have HG1 := Lib.hid HG.out.drew
  have HB1 := Lib.hid HB.out.drew
  clear HR HG HB
  generalize w1.drew = w2 at *
  have g0 := HG1.out.cell 0 rfl
  have gf0 := (HG1.out.get 0 rfl).free
  have g1 := HG1.out.cell 1 rfl
  have gf1 := (HG1.out.get 1 rfl).free
  have g2 := HG1.out.cell 2 rfl
  have gf2 := (HG1.out.get 2 rfl).free
  go_upto_region 9 with (fail)
  clear g0 g1 g2 gf0 gf1 gf2
  have HG2 := Lib.hid (show RowAt (((w2.setCell ⟨w.heap.size, 0, none⟩ (.int .i64 (X - 128))).setCell ⟨w.heap.size, 1, none⟩ (.int .i64 Y)).setCell ⟨w.heap.size, 2, none⟩ (.string ⟨#[]⟩)) w.heap.size [.int .i64 (X - 128), .int .i64 Y, .string ⟨#[]⟩] from (((HG1.out.put 0 (.int .i64 (X - 128)) _ rfl).put 1 (.int .i64 Y) _ rfl).put 2 (.string ⟨#[]⟩) _ rfl))
  have HR2 := Lib.hid (show RowAt (((w2.setCell ⟨w.heap.size, 0, none⟩ (.int .i64 (X - 128))).setCell ⟨w.heap.size, 1, none⟩ (.int .i64 Y)).setCell ⟨w.heap.size, 2, none⟩ (.string ⟨#[]⟩)) (w.heap.size + 1) [.int .i64 0, .int .i64 0, .string ⟨#[]⟩] from (((HR1.out.other (p := 0) (.int .i64 (X - 128)) (Nat.ne_of_lt (Nat.lt_succ_self _))).other (p := 1) (.int .i64 Y) (Nat.ne_of_lt (Nat.lt_succ_self _))).other (p := 2) (.string ⟨#[]⟩) (Nat.ne_of_lt (Nat.lt_succ_self _))))
  have HB2 := Lib.hid (show Below w.heap.size w (((w2.setCell ⟨w.heap.size, 0, none⟩ (.int .i64 (X - 128))).setCell ⟨w.heap.size, 1, none⟩ (.int .i64 Y)).setCell ⟨w.heap.size, 2, none⟩ (.string ⟨#[]⟩)) from (((HB1.out.setCell (p := ⟨w.heap.size, 0, none⟩) (Nat.le_refl _) (.int .i64 (X - 128))).setCell (p := ⟨w.heap.size, 1, none⟩) (Nat.le_refl _) (.int .i64 Y)).setCell (p := ⟨w.heap.size, 2, none⟩) (Nat.le_refl _) (.string ⟨#[]⟩)))
  clear HG1 HR1 HB1
  generalize (((w2.setCell ⟨w.heap.size, 0, none⟩ (.int .i64 (X - 128))).setCell ⟨w.heap.size, 1, none⟩ (.int .i64 Y)).setCell ⟨w.heap.size, 2, none⟩ (.string ⟨#[]⟩)) = w3 at *
  have g0 := HG2.out.cell 0 rfl
  have gf0 := (HG2.out.get 0 rfl).free
  have g1 := HG2.out.cell 1 rfl
  have gf1 := (HG2.out.get 1 rfl).free
  have g2 := HG2.out.cell 2 rfl
  have gf2 := (HG2.out.get 2 rfl).free
  have r0 := HR2.out.cell 0 rfl
  have rf0 := (HR2.out.get 0 rfl).free
  have r1 := HR2.out.cell 1 rfl
  have rf1 := (HR2.out.get 1 rfl).free
  have r2 := HR2.out.cell 2 rfl
  have rf2 := (HR2.out.get 2 rfl).free
  go_wp2_with fail
  clear r0 r1 r2 rf0 rf1 rf2 g0 g1 g2 gf0 gf1 gf2
  have HR3 := Lib.hid (show RowAt (((w3.setCell ⟨w.heap.size + 1, 0, none⟩ (.int .i64 0)).setCell ⟨w.heap.size + 1, 1, none⟩ (.int .i64 0)).setCell ⟨w.heap.size + 1, 2, none⟩ (.string ⟨#[]⟩)) (w.heap.size + 1) [.int .i64 0, .int .i64 0, .string ⟨#[]⟩] from (((HR2.out.put 0 (.int .i64 0) _ rfl).put 1 (.int .i64 0) _ rfl).put 2 (.string ⟨#[]⟩) _ rfl))
  have HB3 := Lib.hid (show Below w.heap.size w (((w3.setCell ⟨w.heap.size + 1, 0, none⟩ (.int .i64 0)).setCell ⟨w.heap.size + 1, 1, none⟩ (.int .i64 0)).setCell ⟨w.heap.size + 1, 2, none⟩ (.string ⟨#[]⟩)) from (((HB2.out.setCell (p := ⟨w.heap.size + 1, 0, none⟩) (Nat.le_succ _) (.int .i64 0)).setCell (p := ⟨w.heap.size + 1, 1, none⟩) (Nat.le_succ _) (.int .i64 0)).setCell (p := ⟨w.heap.size + 1, 2, none⟩) (Nat.le_succ _) (.string ⟨#[]⟩)))
  have s0 := HR3.out.cell 0 rfl
  have s1 := HR3.out.cell 1 rfl
  have s2 := HR3.out.cell 2 rfl
  exact bodyPost_ret (v := .tuple #[.agg #[.int .i64 0, .int .i64 0, .string ⟨#[]⟩], .int .i64 5]) (by simp [results, Try.results38, go_sem, s0, s1, s2]) rfl ⟨by rw [HE.out], HB3.out⟩
set_option maxHeartbeats 1000000 in
theorem cafter_first (o p : Int) (t I : ByteArray) (w : World) (_ho : 0 ≤ o ∧ o ≤ 128) (_hzt : t.size ≤ 600) (hzI : I.size ≤ 2000) (x y : UInt8) (c : List UInt8) (hI : I.data.toList = x :: y :: c) (hx : 128 ≤ int8 x) (hl : ¬ 600 < c.length) : Calls Try.prog 38 #[.agg #[.int .i64 o, .int .i64 p, .string t], .string I] w (AfterTo w (afterD o p t I.data.toList)) := by
  have HE := Lib.hid (show afterD o p t I.data.toList = ((int8 x - 128, int8 y, ⟨c.toArray⟩), 0) from by
    rw [hI]
    show (if 128 ≤ int8 x then if 600 < c.length then _ else _ else _) = _
    rw [if_pos hx, if_neg hl])
  have HG := Lib.hid ((RowAt.new w w.heap.size rfl [.int .i64 o, .int .i64 p, .string t] 67).alloc (.cells #[.int .i64 0, .int .i64 0, .string ⟨#[]⟩] 67))
  have HR := Lib.hid (RowAt.new (w.alloc (.cells #[.int .i64 o, .int .i64 p, .string t] 67)) (w.heap.size + 1) (by simp) [.int .i64 0, .int .i64 0, .string ⟨#[]⟩] 67)
  have HB := Lib.hid (((Below.refl _ w).alloc (Nat.le_refl _) (.cells #[.int .i64 o, .int .i64 p, .string t] 67)).alloc (by simp) (.cells #[.int .i64 0, .int .i64 0, .string ⟨#[]⟩] 67))
  have hx0 := int8_low x
  have hsz : I.size = 1 + (y :: c : List UInt8).length := by
    have e : I.data.toList.length = I.size := by simp
    rw [hI, List.length_cons] at e
    omega
  have hne : I.toList.isEmpty = false := text_some I (by omega)
  have hi0 : ∀ W, (Instr.index 9 (.string I) (.int .i64 0)).run Try.prog W = .ok (.int .u8 (int8 x)) W := fun W => index_text I 0 x (by rw [hI]; rfl) W
  have hs1 : ∀ W, (Instr.slice 9 (.string I) (some (.int .i64 1)) none none).run Try.prog W = .ok (.string ⟨(y :: c : List UInt8).toArray⟩) W := fun W => by
    have k := slice_behind I 1 (by omega) W
    rw [hI] at k
    exact k
  have hy0 := int8_low y
  have hE0 : (⟨(y :: c : List UInt8).toArray⟩ : ByteArray).toList.isEmpty = false := text_some _ (by show 1 ≤ (List.toArray _).size; simp)
  have hi1 : ∀ W, (Instr.index 9 (.string ⟨(y :: c : List UInt8).toArray⟩) (.int .i64 0)).run Try.prog W = .ok (.int .u8 (int8 y)) W := fun W => index_text ⟨(y :: c : List UInt8).toArray⟩ 0 y rfl W
  have hs2 : ∀ W, (Instr.slice 9 (.string ⟨(y :: c : List UInt8).toArray⟩) (some (.int .i64 1)) none none).run Try.prog W = .ok (.string ⟨c.toArray⟩) W := fun W =>
    slice_behind ⟨(y :: c : List UInt8).toArray⟩ 1 (by show 1 ≤ (List.toArray _).size; simp) W
  have hcs : (⟨c.toArray⟩ : ByteArray).size = c.length := by show c.toArray.size = _; simp
  have hcl : c.length ≤ 2000 := by rw [List.length_cons] at hsz; omega
  clear hI hsz
  generalize (⟨(y :: c : List UInt8).toArray⟩ : ByteArray) = S1 at *
  have he0 : (⟨#[]⟩ : ByteArray).size = 0 := rfl
  rw [← hcs] at hcl
  rw [← hcs] at hl
  have hN : (⟨#[]⟩ : ByteArray) ++ ⟨c.toArray⟩ = ⟨c.toArray⟩ := bytes_ext' (by simp)
  generalize c.length = n at *
  generalize (⟨c.toArray⟩ : ByteArray) = S2 at *
  generalize int8 x = X at *
  generalize int8 y = Y at *
  have z0 : IntKind.i64.wrap X = X := i64_small _ (by omega) (by omega)
  have z1 : IntKind.i64.wrap Y = Y := i64_small _ (by omega) (by omega)
  have z2 : IntKind.i64.wrap (X - 128) = X - 128 := i64_small _ (by omega) (by omega)
  have zs : IntKind.i64.wrap (S2.size : Int) = (S2.size : Int) := i64_small _ (by omega) (by omega)
  have ha := fun (W : World) => run_string_add_sum (P := Try.prog) (w := W) ⟨#[]⟩ S2 (by omega)
  rw [show ⟨#[]⟩ ++ S2 = S2 from hN] at ha
  have HCL := Lib.hid (fun W => clone_any S2 W (by omega))
  clear hN
  unfold AfterTo
  go_enter Try.func38, Try.ntmps38
  go_upto_region 1 with (fail)
  generalize (w.alloc (.cells #[.int .i64 o, .int .i64 p, .string t] 67)).alloc (.cells #[.int .i64 0, .int .i64 0, .string ⟨#[]⟩] 67) = w1 at *
  go_wp2_with fail
  go_region
  have HR1 := Lib.hid HR.out.drew
  have HG1 := Lib.hid HG.out.drew
  have HB1 := Lib.hid HB.out.drew
  clear HR HG HB
  generalize w1.drew = w2 at *
  have g0 := HG1.out.cell 0 rfl
  have gf0 := (HG1.out.get 0 rfl).free
  have g1 := HG1.out.cell 1 rfl
  have gf1 := (HG1.out.get 1 rfl).free
  have g2 := HG1.out.cell 2 rfl
  have gf2 := (HG1.out.get 2 rfl).free
  go_upto_region 9 with (fail)
  clear g0 g1 g2 gf0 gf1 gf2
  have HG2 := Lib.hid (show RowAt (((w2.setCell ⟨w.heap.size, 0, none⟩ (.int .i64 (X - 128))).setCell ⟨w.heap.size, 1, none⟩ (.int .i64 Y)).setCell ⟨w.heap.size, 2, none⟩ (.string ⟨#[]⟩)) w.heap.size [.int .i64 (X - 128), .int .i64 Y, .string ⟨#[]⟩] from (((HG1.out.put 0 (.int .i64 (X - 128)) _ rfl).put 1 (.int .i64 Y) _ rfl).put 2 (.string ⟨#[]⟩) _ rfl))
  have HR2 := Lib.hid (show RowAt (((w2.setCell ⟨w.heap.size, 0, none⟩ (.int .i64 (X - 128))).setCell ⟨w.heap.size, 1, none⟩ (.int .i64 Y)).setCell ⟨w.heap.size, 2, none⟩ (.string ⟨#[]⟩)) (w.heap.size + 1) [.int .i64 0, .int .i64 0, .string ⟨#[]⟩] from (((HR1.out.other (p := 0) (.int .i64 (X - 128)) (Nat.ne_of_lt (Nat.lt_succ_self _))).other (p := 1) (.int .i64 Y) (Nat.ne_of_lt (Nat.lt_succ_self _))).other (p := 2) (.string ⟨#[]⟩) (Nat.ne_of_lt (Nat.lt_succ_self _))))
  have HB2 := Lib.hid (show Below w.heap.size w (((w2.setCell ⟨w.heap.size, 0, none⟩ (.int .i64 (X - 128))).setCell ⟨w.heap.size, 1, none⟩ (.int .i64 Y)).setCell ⟨w.heap.size, 2, none⟩ (.string ⟨#[]⟩)) from (((HB1.out.setCell (p := ⟨w.heap.size, 0, none⟩) (Nat.le_refl _) (.int .i64 (X - 128))).setCell (p := ⟨w.heap.size, 1, none⟩) (Nat.le_refl _) (.int .i64 Y)).setCell (p := ⟨w.heap.size, 2, none⟩) (Nat.le_refl _) (.string ⟨#[]⟩)))
  clear HG1 HR1 HB1
  generalize (((w2.setCell ⟨w.heap.size, 0, none⟩ (.int .i64 (X - 128))).setCell ⟨w.heap.size, 1, none⟩ (.int .i64 Y)).setCell ⟨w.heap.size, 2, none⟩ (.string ⟨#[]⟩)) = w3 at *
  have g0 := HG2.out.cell 0 rfl
  have gf0 := (HG2.out.get 0 rfl).free
  have g1 := HG2.out.cell 1 rfl
  have gf1 := (HG2.out.get 1 rfl).free
  have g2 := HG2.out.cell 2 rfl
  have gf2 := (HG2.out.get 2 rfl).free
  go_upto_region 14 with (fail)
  clear g0 g1 g2 gf0 gf1 gf2
  refine wp_region_upto 6 0 (fun W W' => Below W.heap.size W W') (fun W => RowAt W w.heap.size [.int .i64 (X - 128), .int .i64 Y, .string ⟨#[]⟩] ∧ RowAt W (w.heap.size + 1) [.int .i64 0, .int .i64 0, .string ⟨#[]⟩] ∧ Below w.heap.size w W) (factsOf [.is (.pointer (some ⟨w.heap.size, 2, none⟩)), .is (.string ⟨#[]⟩), .is (.string S2), .is (.string S2), .is (.string S2), .is (.pointer (some ⟨w.heap.size, 2, none⟩))])
    (by kernel_rfl) rfl (by kernel_rfl) (by kernel_rfl) (facts_stay _) (fun W W' hb h => ⟨h.1.below hb, h.2.1.below hb, h.2.2.trans (hb.mono h.2.2.size)⟩) (fun _ => undef) (by kernel_rfl) ⟨HG2.out.drew, HR2.out.drew, HB2.out.drew⟩ ?F1 ?hF1 ?hstep1 ?hend1
  case hF1 =>
    intro u
    simp only [List.take, fillAct]
    go_simp
    rfl
  case hstep1 =>
    clear HG2 HR2 HB2
    refine FSteps.cons ?_ ?_
    · intro u W hS hd K hK
      clear hd
      simp only [upd, reduceIte, Nat.reduceEqDiff] at hK
      go_simp
      exact hK.out _ _ (Below.refl _ _) rfl
    refine FSteps.cons ?_ ?_
    · intro u W hS hd K hK
      have h0 : u 0 = _ := hd 0 rfl
      clear hd
      simp only [upd, h0, reduceIte, Nat.reduceEqDiff] at hK
      have c := hS.1.cell 2 rfl
      go_simp
      exact hK.out _ _ (Below.refl _ _) rfl
    refine FSteps.cons ?_ ?_
    · intro u W hS hd K hK
      clear hd
      simp only [upd, reduceIte, Nat.reduceEqDiff] at hK
      go_simp
      exact hK.out _ _ (Below.refl _ _) rfl
    refine FSteps.cons ?_ ?_
    · intro u W hS hd K hK
      have h2 : u 2 = _ := hd 2 rfl
      clear hd
      simp only [upd, h2, reduceIte, Nat.reduceEqDiff] at hK
      go_simp
      go_at_call 39
      refine (HCL.out _).mono ?_
      rintro e wc ⟨rfl, hb⟩
      exact hK.out _ _ hb rfl
    refine FSteps.cons ?_ ?_
    · intro u W hS hd K hK
      have h1 : u 1 = _ := hd 1 rfl
      have h3 : u 3 = _ := hd 3 rfl
      clear hd
      simp only [upd, h1, h3, reduceIte, Nat.reduceEqDiff] at hK
      go_simp
      exact hK.out _ _ (Below.refl _ _) rfl
    refine FSteps.cons ?_ ?_
    · intro u W hS hd K hK
      clear hd
      simp only [upd, reduceIte, Nat.reduceEqDiff] at hK
      go_simp
      exact hK.out _ _ (Below.refl _ _) rfl
    exact trivial
  case hend1 =>
    intro u w6 hS hd
    have h4 : u 4 = _ := hd 4 rfl
    have h5 : u 5 = _ := hd 5 rfl
    have HG5 := Lib.hid hS.1
    have HR5 := Lib.hid hS.2.1
    have HB5 := Lib.hid hS.2.2
    clear hd hS HG2 HR2 HB2
    rw [h4, h5]
    have k2 := HG5.out.cell 2 rfl
    have kf2 := (HG5.out.get 2 rfl).free
    refine wpAny_ready (rs := [6]) (by kernel_rfl) (by simp) ?_
    refine AllReady.cons rfl (fun K hK => ?_) AllReady.nil
    go_simp
    refine hK _ _ ?_
    clear hK K
    refine wpAny_done (by kernel_rfl) ?_ _
    clear k2 kf2
    have HG6 := Lib.hid (show RowAt (w6.setCell ⟨w.heap.size, 2, none⟩ (.string S2)) w.heap.size [.int .i64 (X - 128), .int .i64 Y, .string S2] from HG5.out.put 2 (.string S2) _ rfl)
    have HR6 := Lib.hid (show RowAt (w6.setCell ⟨w.heap.size, 2, none⟩ (.string S2)) (w.heap.size + 1) [.int .i64 0, .int .i64 0, .string ⟨#[]⟩] from HR5.out.other (p := 2) (.string S2) (Nat.ne_of_lt (Nat.lt_succ_self _)))
    have HB6 := Lib.hid (show Below w.heap.size w (w6.setCell ⟨w.heap.size, 2, none⟩ (.string S2)) from HB5.out.setCell (p := ⟨w.heap.size, 2, none⟩) (Nat.le_refl _) (.string S2))
    clear HG5 HR5 HB5
    generalize (w6.setCell ⟨w.heap.size, 2, none⟩ (.string S2)) = w7 at *
    have g0 := HG6.out.cell 0 rfl
    have g1 := HG6.out.cell 1 rfl
    have g2 := HG6.out.cell 2 rfl
    have r0 := HR6.out.cell 0 rfl
    have rf0 := (HR6.out.get 0 rfl).free
    have r1 := HR6.out.cell 1 rfl
    have rf1 := (HR6.out.get 1 rfl).free
    have r2 := HR6.out.cell 2 rfl
    have rf2 := (HR6.out.get 2 rfl).free
    go_wp2_with fail
    clear g0 g1 g2 r0 r1 r2 rf0 rf1 rf2
    have HR8 := Lib.hid (show RowAt (((w7.setCell ⟨w.heap.size + 1, 0, none⟩ (.int .i64 (X - 128))).setCell ⟨w.heap.size + 1, 1, none⟩ (.int .i64 Y)).setCell ⟨w.heap.size + 1, 2, none⟩ (.string S2)) (w.heap.size + 1) [.int .i64 (X - 128), .int .i64 Y, .string S2] from (((HR6.out.put 0 (.int .i64 (X - 128)) _ rfl).put 1 (.int .i64 Y) _ rfl).put 2 (.string S2) _ rfl))
    have HB8 := Lib.hid (show Below w.heap.size w (((w7.setCell ⟨w.heap.size + 1, 0, none⟩ (.int .i64 (X - 128))).setCell ⟨w.heap.size + 1, 1, none⟩ (.int .i64 Y)).setCell ⟨w.heap.size + 1, 2, none⟩ (.string S2)) from (((HB6.out.setCell (p := ⟨w.heap.size + 1, 0, none⟩) (Nat.le_succ _) (.int .i64 (X - 128))).setCell (p := ⟨w.heap.size + 1, 1, none⟩) (Nat.le_succ _) (.int .i64 Y)).setCell (p := ⟨w.heap.size + 1, 2, none⟩) (Nat.le_succ _) (.string S2)))
    have s0 := HR8.out.cell 0 rfl
    have s1 := HR8.out.cell 1 rfl
    have s2 := HR8.out.cell 2 rfl
    exact bodyPost_ret (v := .tuple #[.agg #[.int .i64 (X - 128), .int .i64 Y, .string S2], .int .i64 0]) (by simp [results, Try.results38, go_sem, s0, s1, s2]) rfl ⟨by rw [HE.out], HB8.out⟩
set_option maxHeartbeats 1000000 in
theorem cafter_off (o p : Int) (t I : ByteArray) (w : World) (ho : 0 ≤ o ∧ o ≤ 128) (hzt : t.size ≤ 600) (hzI : I.size ≤ 2000) (x : UInt8) (r : List UInt8) (hI : I.data.toList = x :: r) (hx : ¬ 128 ≤ int8 x) (ho2 : int8 x ≠ o - 1) : Calls Try.prog 38 #[.agg #[.int .i64 o, .int .i64 p, .string t], .string I] w (AfterTo w (afterD o p t I.data.toList)) := by
  have HE := Lib.hid (show afterD o p t I.data.toList = ((0, 0, ⟨#[]⟩), 7) from by
    rw [hI]
    show (if 128 ≤ int8 x then _ else if int8 x ≠ o - 1 then _ else _) = _
    rw [if_neg hx, if_pos ho2])
  have HG := Lib.hid ((RowAt.new w w.heap.size rfl [.int .i64 o, .int .i64 p, .string t] 67).alloc (.cells #[.int .i64 0, .int .i64 0, .string ⟨#[]⟩] 67))
  have HR := Lib.hid (RowAt.new (w.alloc (.cells #[.int .i64 o, .int .i64 p, .string t] 67)) (w.heap.size + 1) (by simp) [.int .i64 0, .int .i64 0, .string ⟨#[]⟩] 67)
  have HB := Lib.hid (((Below.refl _ w).alloc (Nat.le_refl _) (.cells #[.int .i64 o, .int .i64 p, .string t] 67)).alloc (by simp) (.cells #[.int .i64 0, .int .i64 0, .string ⟨#[]⟩] 67))
  have hx0 := int8_low x
  have hsz : I.size = 1 + (r : List UInt8).length := by
    have e : I.data.toList.length = I.size := by simp
    rw [hI, List.length_cons] at e
    omega
  have hne : I.toList.isEmpty = false := text_some I (by omega)
  have hi0 : ∀ W, (Instr.index 9 (.string I) (.int .i64 0)).run Try.prog W = .ok (.int .u8 (int8 x)) W := fun W => index_text I 0 x (by rw [hI]; rfl) W
  have hs1 : ∀ W, (Instr.slice 9 (.string I) (some (.int .i64 1)) none none).run Try.prog W = .ok (.string ⟨(r : List UInt8).toArray⟩) W := fun W => by
    have k := slice_behind I 1 (by omega) W
    rw [hI] at k
    exact k
  have hcs : (⟨r.toArray⟩ : ByteArray).size = r.length := by show r.toArray.size = _; simp
  have hcl : r.length ≤ 2000 := by omega
  clear hI hsz
  rw [← hcs] at hcl
  generalize r.length = n at *
  generalize (⟨r.toArray⟩ : ByteArray) = S2 at *
  generalize int8 x = X at *
  have z0 : IntKind.i64.wrap X = X := i64_small _ (by omega) (by omega)
  have z1 : IntKind.i64.wrap (o - 1) = o - 1 := i64_small _ (by omega) (by omega)
  have zs : IntKind.i64.wrap ((t.size : Int) + (S2.size : Int)) = (t.size : Int) + (S2.size : Int) := i64_small _ (by omega) (by omega)
  unfold AfterTo
  go_enter Try.func38, Try.ntmps38
  go_upto_region 1 with (fail)
  generalize (w.alloc (.cells #[.int .i64 o, .int .i64 p, .string t] 67)).alloc (.cells #[.int .i64 0, .int .i64 0, .string ⟨#[]⟩] 67) = w1 at *
  go_wp2_with fail
  go_region
  have HR1 := Lib.hid HR.out.drew
  have HG1 := Lib.hid HG.out.drew
  have HB1 := Lib.hid HB.out.drew
  clear HR HG HB
  generalize w1.drew = w2 at *
  have g0 := HG1.out.cell 0 rfl
  have gf0 := (HG1.out.get 0 rfl).free
  have g1 := HG1.out.cell 1 rfl
  have gf1 := (HG1.out.get 1 rfl).free
  have g2 := HG1.out.cell 2 rfl
  have gf2 := (HG1.out.get 2 rfl).free
  have r0 := HR1.out.cell 0 rfl
  have rf0 := (HR1.out.get 0 rfl).free
  have r1 := HR1.out.cell 1 rfl
  have rf1 := (HR1.out.get 1 rfl).free
  have r2 := HR1.out.cell 2 rfl
  have rf2 := (HR1.out.get 2 rfl).free
  go_wp2_with fail
  clear g0 g1 g2 gf0 gf1 gf2 r0 r1 r2 rf0 rf1 rf2
  have HR2 := Lib.hid (show RowAt (((w2.setCell ⟨w.heap.size + 1, 0, none⟩ (.int .i64 0)).setCell ⟨w.heap.size + 1, 1, none⟩ (.int .i64 0)).setCell ⟨w.heap.size + 1, 2, none⟩ (.string ⟨#[]⟩)) (w.heap.size + 1) [.int .i64 0, .int .i64 0, .string ⟨#[]⟩] from (((HR1.out.put 0 (.int .i64 0) _ rfl).put 1 (.int .i64 0) _ rfl).put 2 (.string ⟨#[]⟩) _ rfl))
  have HB2 := Lib.hid (show Below w.heap.size w (((w2.setCell ⟨w.heap.size + 1, 0, none⟩ (.int .i64 0)).setCell ⟨w.heap.size + 1, 1, none⟩ (.int .i64 0)).setCell ⟨w.heap.size + 1, 2, none⟩ (.string ⟨#[]⟩)) from (((HB1.out.setCell (p := ⟨w.heap.size + 1, 0, none⟩) (Nat.le_succ _) (.int .i64 0)).setCell (p := ⟨w.heap.size + 1, 1, none⟩) (Nat.le_succ _) (.int .i64 0)).setCell (p := ⟨w.heap.size + 1, 2, none⟩) (Nat.le_succ _) (.string ⟨#[]⟩)))
  have s0 := HR2.out.cell 0 rfl
  have s1 := HR2.out.cell 1 rfl
  have s2 := HR2.out.cell 2 rfl
  exact bodyPost_ret (v := .tuple #[.agg #[.int .i64 0, .int .i64 0, .string ⟨#[]⟩], .int .i64 7]) (by simp [results, Try.results38, go_sem, s0, s1, s2]) rfl ⟨by rw [HE.out], HB2.out⟩
set_option maxHeartbeats 1000000 in
theorem cafter_long (o p : Int) (t I : ByteArray) (w : World) (ho : 0 ≤ o ∧ o ≤ 128) (hzt : t.size ≤ 600) (hzI : I.size ≤ 2000) (x : UInt8) (r : List UInt8) (hI : I.data.toList = x :: r) (hx : ¬ 128 ≤ int8 x) (ho2 : int8 x = o - 1) (hl : 600 < t.size + r.length) : Calls Try.prog 38 #[.agg #[.int .i64 o, .int .i64 p, .string t], .string I] w (AfterTo w (afterD o p t I.data.toList)) := by
  have HE := Lib.hid (show afterD o p t I.data.toList = ((0, 0, ⟨#[]⟩), 5) from by
    rw [hI]
    show (if 128 ≤ int8 x then _ else if int8 x ≠ o - 1 then _ else if 600 < t.size + r.length then _ else _) = _
    rw [if_neg hx, if_neg (fun h => h ho2), if_pos hl])
  have HG := Lib.hid ((RowAt.new w w.heap.size rfl [.int .i64 o, .int .i64 p, .string t] 67).alloc (.cells #[.int .i64 0, .int .i64 0, .string ⟨#[]⟩] 67))
  have HR := Lib.hid (RowAt.new (w.alloc (.cells #[.int .i64 o, .int .i64 p, .string t] 67)) (w.heap.size + 1) (by simp) [.int .i64 0, .int .i64 0, .string ⟨#[]⟩] 67)
  have HB := Lib.hid (((Below.refl _ w).alloc (Nat.le_refl _) (.cells #[.int .i64 o, .int .i64 p, .string t] 67)).alloc (by simp) (.cells #[.int .i64 0, .int .i64 0, .string ⟨#[]⟩] 67))
  have hx0 := int8_low x
  have hsz : I.size = 1 + (r : List UInt8).length := by
    have e : I.data.toList.length = I.size := by simp
    rw [hI, List.length_cons] at e
    omega
  have hne : I.toList.isEmpty = false := text_some I (by omega)
  have hi0 : ∀ W, (Instr.index 9 (.string I) (.int .i64 0)).run Try.prog W = .ok (.int .u8 (int8 x)) W := fun W => index_text I 0 x (by rw [hI]; rfl) W
  have hs1 : ∀ W, (Instr.slice 9 (.string I) (some (.int .i64 1)) none none).run Try.prog W = .ok (.string ⟨(r : List UInt8).toArray⟩) W := fun W => by
    have k := slice_behind I 1 (by omega) W
    rw [hI] at k
    exact k
  have hcs : (⟨r.toArray⟩ : ByteArray).size = r.length := by show r.toArray.size = _; simp
  have hcl : r.length ≤ 2000 := by omega
  clear hI hsz
  rw [← hcs] at hcl
  rw [← hcs] at hl
  generalize r.length = n at *
  generalize (⟨r.toArray⟩ : ByteArray) = S2 at *
  generalize int8 x = X at *
  have z0 : IntKind.i64.wrap X = X := i64_small _ (by omega) (by omega)
  have z1 : IntKind.i64.wrap (o - 1) = o - 1 := i64_small _ (by omega) (by omega)
  have zs : IntKind.i64.wrap ((t.size : Int) + (S2.size : Int)) = (t.size : Int) + (S2.size : Int) := i64_small _ (by omega) (by omega)
  subst ho2
  unfold AfterTo
  go_enter Try.func38, Try.ntmps38
  go_upto_region 1 with (fail)
  generalize (w.alloc (.cells #[.int .i64 o, .int .i64 p, .string t] 67)).alloc (.cells #[.int .i64 0, .int .i64 0, .string ⟨#[]⟩] 67) = w1 at *
  go_wp2_with fail
  go_region
  have HR1 := Lib.hid HR.out.drew
  have HG1 := Lib.hid HG.out.drew
  have HB1 := Lib.hid HB.out.drew
  clear HR HG HB
  generalize w1.drew = w2 at *
  have g0 := HG1.out.cell 0 rfl
  have gf0 := (HG1.out.get 0 rfl).free
  have g1 := HG1.out.cell 1 rfl
  have gf1 := (HG1.out.get 1 rfl).free
  have g2 := HG1.out.cell 2 rfl
  have gf2 := (HG1.out.get 2 rfl).free
  go_upto_region 12 with (fail)
  clear g0 g1 g2 gf0 gf1 gf2
  have HG2 := Lib.hid (show RowAt (w2.setCell ⟨w.heap.size, 0, none⟩ (.int .i64 (o - 1))) w.heap.size [.int .i64 (o - 1), .int .i64 p, .string t] from HG1.out.put 0 (.int .i64 (o - 1)) _ rfl)
  have HR2 := Lib.hid (show RowAt (w2.setCell ⟨w.heap.size, 0, none⟩ (.int .i64 (o - 1))) (w.heap.size + 1) [.int .i64 0, .int .i64 0, .string ⟨#[]⟩] from HR1.out.other (p := 0) (.int .i64 (o - 1)) (Nat.ne_of_lt (Nat.lt_succ_self _)))
  have HB2 := Lib.hid (show Below w.heap.size w (w2.setCell ⟨w.heap.size, 0, none⟩ (.int .i64 (o - 1))) from HB1.out.setCell (p := ⟨w.heap.size, 0, none⟩) (Nat.le_refl _) (.int .i64 (o - 1)))
  clear HG1 HR1 HB1
  generalize (w2.setCell ⟨w.heap.size, 0, none⟩ (.int .i64 (o - 1))) = w3 at *
  have g0 := HG2.out.cell 0 rfl
  have gf0 := (HG2.out.get 0 rfl).free
  have g1 := HG2.out.cell 1 rfl
  have gf1 := (HG2.out.get 1 rfl).free
  have g2 := HG2.out.cell 2 rfl
  have gf2 := (HG2.out.get 2 rfl).free
  have r0 := HR2.out.cell 0 rfl
  have rf0 := (HR2.out.get 0 rfl).free
  have r1 := HR2.out.cell 1 rfl
  have rf1 := (HR2.out.get 1 rfl).free
  have r2 := HR2.out.cell 2 rfl
  have rf2 := (HR2.out.get 2 rfl).free
  go_wp2_with fail
  clear g0 g1 g2 gf0 gf1 gf2 r0 r1 r2 rf0 rf1 rf2
  have HR3 := Lib.hid (show RowAt (((w3.setCell ⟨w.heap.size + 1, 0, none⟩ (.int .i64 0)).setCell ⟨w.heap.size + 1, 1, none⟩ (.int .i64 0)).setCell ⟨w.heap.size + 1, 2, none⟩ (.string ⟨#[]⟩)) (w.heap.size + 1) [.int .i64 0, .int .i64 0, .string ⟨#[]⟩] from (((HR2.out.put 0 (.int .i64 0) _ rfl).put 1 (.int .i64 0) _ rfl).put 2 (.string ⟨#[]⟩) _ rfl))
  have HB3 := Lib.hid (show Below w.heap.size w (((w3.setCell ⟨w.heap.size + 1, 0, none⟩ (.int .i64 0)).setCell ⟨w.heap.size + 1, 1, none⟩ (.int .i64 0)).setCell ⟨w.heap.size + 1, 2, none⟩ (.string ⟨#[]⟩)) from (((HB2.out.setCell (p := ⟨w.heap.size + 1, 0, none⟩) (Nat.le_succ _) (.int .i64 0)).setCell (p := ⟨w.heap.size + 1, 1, none⟩) (Nat.le_succ _) (.int .i64 0)).setCell (p := ⟨w.heap.size + 1, 2, none⟩) (Nat.le_succ _) (.string ⟨#[]⟩)))
  have s0 := HR3.out.cell 0 rfl
  have s1 := HR3.out.cell 1 rfl
  have s2 := HR3.out.cell 2 rfl
  exact bodyPost_ret (v := .tuple #[.agg #[.int .i64 0, .int .i64 0, .string ⟨#[]⟩], .int .i64 5]) (by simp [results, Try.results38, go_sem, s0, s1, s2]) rfl ⟨by rw [HE.out], HB3.out⟩
set_option maxHeartbeats 1000000 in
theorem cafter_next (o p : Int) (t I : ByteArray) (w : World) (ho : 0 ≤ o ∧ o ≤ 128) (hzt : t.size ≤ 600) (hzI : I.size ≤ 2000) (x : UInt8) (r : List UInt8) (hI : I.data.toList = x :: r) (hx : ¬ 128 ≤ int8 x) (ho2 : int8 x = o - 1) (hl : ¬ 600 < t.size + r.length) : Calls Try.prog 38 #[.agg #[.int .i64 o, .int .i64 p, .string t], .string I] w (AfterTo w (afterD o p t I.data.toList)) := by
  have HE := Lib.hid (show afterD o p t I.data.toList = ((int8 x, p, t ++ ⟨r.toArray⟩), 0) from by
    rw [hI]
    show (if 128 ≤ int8 x then _ else if int8 x ≠ o - 1 then _ else if 600 < t.size + r.length then _ else _) = _
    rw [if_neg hx, if_neg (fun h => h ho2), if_neg hl])
  have HG := Lib.hid ((RowAt.new w w.heap.size rfl [.int .i64 o, .int .i64 p, .string t] 67).alloc (.cells #[.int .i64 0, .int .i64 0, .string ⟨#[]⟩] 67))
  have HR := Lib.hid (RowAt.new (w.alloc (.cells #[.int .i64 o, .int .i64 p, .string t] 67)) (w.heap.size + 1) (by simp) [.int .i64 0, .int .i64 0, .string ⟨#[]⟩] 67)
  have HB := Lib.hid (((Below.refl _ w).alloc (Nat.le_refl _) (.cells #[.int .i64 o, .int .i64 p, .string t] 67)).alloc (by simp) (.cells #[.int .i64 0, .int .i64 0, .string ⟨#[]⟩] 67))
  have hx0 := int8_low x
  have hsz : I.size = 1 + (r : List UInt8).length := by
    have e : I.data.toList.length = I.size := by simp
    rw [hI, List.length_cons] at e
    omega
  have hne : I.toList.isEmpty = false := text_some I (by omega)
  have hi0 : ∀ W, (Instr.index 9 (.string I) (.int .i64 0)).run Try.prog W = .ok (.int .u8 (int8 x)) W := fun W => index_text I 0 x (by rw [hI]; rfl) W
  have hs1 : ∀ W, (Instr.slice 9 (.string I) (some (.int .i64 1)) none none).run Try.prog W = .ok (.string ⟨(r : List UInt8).toArray⟩) W := fun W => by
    have k := slice_behind I 1 (by omega) W
    rw [hI] at k
    exact k
  have hcs : (⟨r.toArray⟩ : ByteArray).size = r.length := by show r.toArray.size = _; simp
  have hcl : r.length ≤ 2000 := by omega
  clear hI hsz
  rw [← hcs] at hcl
  rw [← hcs] at hl
  obtain ⟨N, hN⟩ : ∃ N, t ++ ⟨r.toArray⟩ = N := ⟨_, rfl⟩
  rw [hN] at HE
  generalize r.length = n at *
  generalize (⟨r.toArray⟩ : ByteArray) = S2 at *
  generalize int8 x = X at *
  have z0 : IntKind.i64.wrap X = X := i64_small _ (by omega) (by omega)
  have z1 : IntKind.i64.wrap (o - 1) = o - 1 := i64_small _ (by omega) (by omega)
  have zs : IntKind.i64.wrap ((t.size : Int) + (S2.size : Int)) = (t.size : Int) + (S2.size : Int) := i64_small _ (by omega) (by omega)
  subst ho2
  have ha := fun (W : World) => run_string_add_sum (P := Try.prog) (w := W) t S2 (by omega)
  rw [show t ++ S2 = N from hN] at ha
  have HCL := Lib.hid (fun W => clone_any S2 W (by omega))
  clear hN
  unfold AfterTo
  go_enter Try.func38, Try.ntmps38
  go_upto_region 1 with (fail)
  generalize (w.alloc (.cells #[.int .i64 o, .int .i64 p, .string t] 67)).alloc (.cells #[.int .i64 0, .int .i64 0, .string ⟨#[]⟩] 67) = w1 at *
  go_wp2_with fail
  go_region
  have HR1 := Lib.hid HR.out.drew
  have HG1 := Lib.hid HG.out.drew
  have HB1 := Lib.hid HB.out.drew
  clear HR HG HB
  generalize w1.drew = w2 at *
  have g0 := HG1.out.cell 0 rfl
  have gf0 := (HG1.out.get 0 rfl).free
  have g1 := HG1.out.cell 1 rfl
  have gf1 := (HG1.out.get 1 rfl).free
  have g2 := HG1.out.cell 2 rfl
  have gf2 := (HG1.out.get 2 rfl).free
  go_upto_region 12 with (fail)
  clear g0 g1 g2 gf0 gf1 gf2
  have HG2 := Lib.hid (show RowAt (w2.setCell ⟨w.heap.size, 0, none⟩ (.int .i64 (o - 1))) w.heap.size [.int .i64 (o - 1), .int .i64 p, .string t] from HG1.out.put 0 (.int .i64 (o - 1)) _ rfl)
  have HR2 := Lib.hid (show RowAt (w2.setCell ⟨w.heap.size, 0, none⟩ (.int .i64 (o - 1))) (w.heap.size + 1) [.int .i64 0, .int .i64 0, .string ⟨#[]⟩] from HR1.out.other (p := 0) (.int .i64 (o - 1)) (Nat.ne_of_lt (Nat.lt_succ_self _)))
  have HB2 := Lib.hid (show Below w.heap.size w (w2.setCell ⟨w.heap.size, 0, none⟩ (.int .i64 (o - 1))) from HB1.out.setCell (p := ⟨w.heap.size, 0, none⟩) (Nat.le_refl _) (.int .i64 (o - 1)))
  clear HG1 HR1 HB1
  generalize (w2.setCell ⟨w.heap.size, 0, none⟩ (.int .i64 (o - 1))) = w3 at *
  have g0 := HG2.out.cell 0 rfl
  have gf0 := (HG2.out.get 0 rfl).free
  have g1 := HG2.out.cell 1 rfl
  have gf1 := (HG2.out.get 1 rfl).free
  have g2 := HG2.out.cell 2 rfl
  have gf2 := (HG2.out.get 2 rfl).free
  go_upto_region 14 with (fail)
  clear g0 g1 g2 gf0 gf1 gf2
  refine wp_region_upto 6 0 (fun W W' => Below W.heap.size W W') (fun W => RowAt W w.heap.size [.int .i64 (o - 1), .int .i64 p, .string t] ∧ RowAt W (w.heap.size + 1) [.int .i64 0, .int .i64 0, .string ⟨#[]⟩] ∧ Below w.heap.size w W) (factsOf [.is (.pointer (some ⟨w.heap.size, 2, none⟩)), .is (.string t), .is (.string S2), .is (.string S2), .is (.string N), .is (.pointer (some ⟨w.heap.size, 2, none⟩))])
    (by kernel_rfl) rfl (by kernel_rfl) (by kernel_rfl) (facts_stay _) (fun W W' hb h => ⟨h.1.below hb, h.2.1.below hb, h.2.2.trans (hb.mono h.2.2.size)⟩) (fun _ => undef) (by kernel_rfl) ⟨HG2.out.drew, HR2.out.drew, HB2.out.drew⟩ ?F1 ?hF1 ?hstep1 ?hend1
  case hF1 =>
    intro u
    simp only [List.take, fillAct]
    go_simp
    rfl
  case hstep1 =>
    clear HG2 HR2 HB2
    refine FSteps.cons ?_ ?_
    · intro u W hS hd K hK
      clear hd
      simp only [upd, reduceIte, Nat.reduceEqDiff] at hK
      go_simp
      exact hK.out _ _ (Below.refl _ _) rfl
    refine FSteps.cons ?_ ?_
    · intro u W hS hd K hK
      have h0 : u 0 = _ := hd 0 rfl
      clear hd
      simp only [upd, h0, reduceIte, Nat.reduceEqDiff] at hK
      have c := hS.1.cell 2 rfl
      go_simp
      exact hK.out _ _ (Below.refl _ _) rfl
    refine FSteps.cons ?_ ?_
    · intro u W hS hd K hK
      clear hd
      simp only [upd, reduceIte, Nat.reduceEqDiff] at hK
      go_simp
      exact hK.out _ _ (Below.refl _ _) rfl
    refine FSteps.cons ?_ ?_
    · intro u W hS hd K hK
      have h2 : u 2 = _ := hd 2 rfl
      clear hd
      simp only [upd, h2, reduceIte, Nat.reduceEqDiff] at hK
      go_simp
      go_at_call 39
      refine (HCL.out _).mono ?_
      rintro e wc ⟨rfl, hb⟩
      exact hK.out _ _ hb rfl
    refine FSteps.cons ?_ ?_
    · intro u W hS hd K hK
      have h1 : u 1 = _ := hd 1 rfl
      have h3 : u 3 = _ := hd 3 rfl
      clear hd
      simp only [upd, h1, h3, reduceIte, Nat.reduceEqDiff] at hK
      go_simp
      exact hK.out _ _ (Below.refl _ _) rfl
    refine FSteps.cons ?_ ?_
    · intro u W hS hd K hK
      clear hd
      simp only [upd, reduceIte, Nat.reduceEqDiff] at hK
      go_simp
      exact hK.out _ _ (Below.refl _ _) rfl
    exact trivial
  case hend1 =>
    intro u w6 hS hd
    have h4 : u 4 = _ := hd 4 rfl
    have h5 : u 5 = _ := hd 5 rfl
    have HG5 := Lib.hid hS.1
    have HR5 := Lib.hid hS.2.1
    have HB5 := Lib.hid hS.2.2
    clear hd hS HG2 HR2 HB2
    rw [h4, h5]
    have k2 := HG5.out.cell 2 rfl
    have kf2 := (HG5.out.get 2 rfl).free
    refine wpAny_ready (rs := [6]) (by kernel_rfl) (by simp) ?_
    refine AllReady.cons rfl (fun K hK => ?_) AllReady.nil
    go_simp
    refine hK _ _ ?_
    clear hK K
    refine wpAny_done (by kernel_rfl) ?_ _
    clear k2 kf2
    have HG6 := Lib.hid (show RowAt (w6.setCell ⟨w.heap.size, 2, none⟩ (.string N)) w.heap.size [.int .i64 (o - 1), .int .i64 p, .string N] from HG5.out.put 2 (.string N) _ rfl)
    have HR6 := Lib.hid (show RowAt (w6.setCell ⟨w.heap.size, 2, none⟩ (.string N)) (w.heap.size + 1) [.int .i64 0, .int .i64 0, .string ⟨#[]⟩] from HR5.out.other (p := 2) (.string N) (Nat.ne_of_lt (Nat.lt_succ_self _)))
    have HB6 := Lib.hid (show Below w.heap.size w (w6.setCell ⟨w.heap.size, 2, none⟩ (.string N)) from HB5.out.setCell (p := ⟨w.heap.size, 2, none⟩) (Nat.le_refl _) (.string N))
    clear HG5 HR5 HB5
    generalize (w6.setCell ⟨w.heap.size, 2, none⟩ (.string N)) = w7 at *
    have g0 := HG6.out.cell 0 rfl
    have g1 := HG6.out.cell 1 rfl
    have g2 := HG6.out.cell 2 rfl
    have r0 := HR6.out.cell 0 rfl
    have rf0 := (HR6.out.get 0 rfl).free
    have r1 := HR6.out.cell 1 rfl
    have rf1 := (HR6.out.get 1 rfl).free
    have r2 := HR6.out.cell 2 rfl
    have rf2 := (HR6.out.get 2 rfl).free
    go_wp2_with fail
    clear g0 g1 g2 r0 r1 r2 rf0 rf1 rf2
    have HR8 := Lib.hid (show RowAt (((w7.setCell ⟨w.heap.size + 1, 0, none⟩ (.int .i64 (o - 1))).setCell ⟨w.heap.size + 1, 1, none⟩ (.int .i64 p)).setCell ⟨w.heap.size + 1, 2, none⟩ (.string N)) (w.heap.size + 1) [.int .i64 (o - 1), .int .i64 p, .string N] from (((HR6.out.put 0 (.int .i64 (o - 1)) _ rfl).put 1 (.int .i64 p) _ rfl).put 2 (.string N) _ rfl))
    have HB8 := Lib.hid (show Below w.heap.size w (((w7.setCell ⟨w.heap.size + 1, 0, none⟩ (.int .i64 (o - 1))).setCell ⟨w.heap.size + 1, 1, none⟩ (.int .i64 p)).setCell ⟨w.heap.size + 1, 2, none⟩ (.string N)) from (((HB6.out.setCell (p := ⟨w.heap.size + 1, 0, none⟩) (Nat.le_succ _) (.int .i64 (o - 1))).setCell (p := ⟨w.heap.size + 1, 1, none⟩) (Nat.le_succ _) (.int .i64 p)).setCell (p := ⟨w.heap.size + 1, 2, none⟩) (Nat.le_succ _) (.string N)))
    have s0 := HR8.out.cell 0 rfl
    have s1 := HR8.out.cell 1 rfl
    have s2 := HR8.out.cell 2 rfl
    exact bodyPost_ret (v := .tuple #[.agg #[.int .i64 (o - 1), .int .i64 p, .string N], .int .i64 0]) (by simp [results, Try.results38, go_sem, s0, s1, s2]) rfl ⟨by rw [HE.out], HB8.out⟩
/-- of any piece -/
theorem cafter_any (o p : Int) (t I : ByteArray) (w : World) (ho : 0 ≤ o ∧ o ≤ 128) (hzt : t.size ≤ 600) (hzI : I.size ≤ 2000) : Calls Try.prog 38 #[.agg #[.int .i64 o, .int .i64 p, .string t], .string I] w (AfterTo w (afterD o p t I.data.toList)) := by
  cases hI : I.data.toList with
  | nil => exact hI ▸ cafter_none o p t I w ho hzt hzI hI
  | cons x r =>
    rw [← hI]
    by_cases hx : 128 ≤ int8 x
    · cases r with
      | nil => exact cafter_head o p t I w ho hzt hzI x hI hx
      | cons y c =>
        by_cases hl : 600 < c.length
        · exact cafter_first_long o p t I w ho hzt hzI x y c hI hx hl
        · exact cafter_first o p t I w ho hzt hzI x y c hI hx hl
    · by_cases ho2 : int8 x = o - 1
      · by_cases hl : 600 < t.size + r.length
        · exact cafter_long o p t I w ho hzt hzI x r hI hx ho2 hl
        · exact cafter_next o p t I w ho hzt hzI x r hI hx ho2 hl
      · exact cafter_off o p t I w ho hzt hzI x r hI hx ho2
end Go.Proofs.Ytchjljmcgjlkiaa
