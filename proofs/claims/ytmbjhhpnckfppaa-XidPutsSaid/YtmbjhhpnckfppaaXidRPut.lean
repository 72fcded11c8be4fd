/-
The document's own Put.
-/
import Derived.Test.YtmbjhhpnckfppaaXidPut
import Derived.Deep.DeepCutAuto
namespace Go.Proofs.Ytmbjhhpnckfppaa
open Go.RowKit
set_option maxRecDepth 20000
/-- the numbers of the document's list -/
def numsL (a b : Bool) (n k t r : Int) : List Int := [130, 128, 0, 17, 3, 2, ((canD a b).toNat : Nat), 0, 6, 2, n / 256, n % 256, 8, 1, k, 9, 1, t, 10, 1, r]
/-- numbers in a row, in block g -/
def NumsAt (w : World) (g : Nat) (L : List Int) : Prop := g < w.heap.size ∧ ∀ i (h : i < L.length), w.cell? ⟨g, i, none⟩ = some (.int .i64 L[i])
theorem NumsAt.below {w w' : World} {g : Nat} {L : List Int} (h : NumsAt w g L) (hb : Below w.heap.size w w') : NumsAt w' g L := ⟨Nat.lt_of_lt_of_le h.1 hb.size, fun i hi => (hb.cell (p := ⟨g, i, none⟩) h.1).trans (h.2 i hi)⟩
/-- the bytes of the first so many -/
def bytesK (L : List Int) (k : Nat) : ByteArray := ⟨((L.take k).map byteN).toArray⟩
theorem bytesK_next (L : List Int) (k : Nat) (h : k < L.length) : bytesK L (k + 1) = bytesK L k ++ ⟨#[byteN L[k]]⟩ := by
  apply bytes_ext'
  simp only [bytesK, ByteArray.data_append, Array.toList_append, List.take_succ_eq_append_getElem h, List.map_append, List.map_cons, List.map_nil]
theorem bytesK_size (L : List Int) (k : Nat) (h : k ≤ L.length) : (bytesK L k).size = k := by
  show (List.toArray _).size = k
  simp
  omega
theorem nums_put (a b : Bool) (n k t r : Int) : bytesK (numsL a b n k t r) 21 = ⟨(putX a b n k t r).toArray⟩ := by
  apply bytes_ext'
  cases a <;> cases b <;> rfl
theorem nums_low (a b : Bool) (n k t r : Int) (h : rightX a b n k t r = true) (i : Nat) (hi : i < (numsL a b n k t r).length) : 0 ≤ (numsL a b n k t r)[i] ∧ (numsL a b n k t r)[i] ≤ 255 := by
  obtain ⟨n0, n1, k0, k1, t0, t1, r0, r1⟩ := rightX_facts h
  have hc : (((canD a b).toNat : Nat) : Int) ≤ 255 := by cases a <;> cases b <;> decide
  have hall : ∀ x ∈ numsL a b n k t r, 0 ≤ x ∧ x ≤ 255 := by
    intro x hx
    simp only [numsL, List.mem_cons, List.not_mem_nil, or_false] at hx
    omega
  exact hall _ (List.getElem_mem hi)
theorem nums_new (w : World) (g : Nat) (hg : g = w.heap.size) (L : List Int) (T : TypeId) : NumsAt (w.alloc (.cells (L.map (Value.int .i64)).toArray T)) g L := by
  subst hg
  refine ⟨by simp, fun i hi => ?_⟩
  exact (World.cell?_alloc_at _ _ _ _ rfl).trans (by simp [hi])
set_option maxHeartbeats 1000000 in
theorem rput8_any (a b : Bool) (n k t r : Int) (w : World) (hr : rightX a b n k t r = true) : Calls Try.prog 12 #[.agg #[.bool a, .bool b, .int .i64 n, .int .i64 k, .int .i64 t, .int .i64 r]] w fun e w' => e = .returned (.string ⟨(putX a b n k t r).toArray⟩) ∧ Below w.heap.size w w' := by
  obtain ⟨n0, n1, k0, k1, t0, t1, r0, r1⟩ := rightX_facts hr
  have HL := Lib.hid (nums_low a b n k t r hr)
  have HN := Lib.hid (nums_put a b n k t r)
  generalize (⟨(putX a b n k t r).toArray⟩ : ByteArray) = R at *
  have HB := Lib.hid ((Below.refl _ w).alloc (Nat.le_refl _) (.cells #[.bool a, .bool b, .int .i64 n, .int .i64 k, .int .i64 t, .int .i64 r] 25))
  clear hr
  obtain ⟨L, hL⟩ : ∃ L, L = numsL a b n k t r := ⟨_, rfl⟩
  have HLL := Lib.hid hL
  have hlen : L.length = 21 := by rw [hL]; rfl
  rw [← hL] at HL HN
  clear hL
  rcases a with _ | _ <;> rcases b with _ | _
  · go_enter Try.func12, Try.ntmps12
    go_upto_region 8 with (fail)
    have HNA := Lib.hid (show NumsAt ((w.alloc (.cells #[.bool false, .bool false, .int .i64 n, .int .i64 k, .int .i64 t, .int .i64 r] 25)).alloc (.cells #[.int .i64 130, .int .i64 128, .int .i64 0, .int .i64 17, .int .i64 3, .int .i64 2, .int .i64 0, .int .i64 0, .int .i64 6, .int .i64 2, .int .i64 (n / 256), .int .i64 (n % 256), .int .i64 8, .int .i64 1, .int .i64 k, .int .i64 9, .int .i64 1, .int .i64 t, .int .i64 10, .int .i64 1, .int .i64 r] 3)) (w.heap.size + 1) L from by
      rw [HLL.out]
      exact nums_new (w.alloc (.cells #[.bool false, .bool false, .int .i64 n, .int .i64 k, .int .i64 t, .int .i64 r] 25)) (w.heap.size + 1) (by simp) (numsL false false n k t r) 3)
    have HB1 := Lib.hid (HB.out.alloc (by simp) (.cells #[.int .i64 130, .int .i64 128, .int .i64 0, .int .i64 17, .int .i64 3, .int .i64 2, .int .i64 0, .int .i64 0, .int .i64 6, .int .i64 2, .int .i64 (n / 256), .int .i64 (n % 256), .int .i64 8, .int .i64 1, .int .i64 k, .int .i64 9, .int .i64 1, .int .i64 t, .int .i64 10, .int .i64 1, .int .i64 r] 3))
    generalize (w.alloc (.cells #[.bool false, .bool false, .int .i64 n, .int .i64 k, .int .i64 t, .int .i64 r] 25)).alloc (.cells #[.int .i64 130, .int .i64 128, .int .i64 0, .int .i64 17, .int .i64 3, .int .i64 2, .int .i64 0, .int .i64 0, .int .i64 6, .int .i64 2, .int .i64 (n / 256), .int .i64 (n % 256), .int .i64 8, .int .i64 1, .int .i64 k, .int .i64 9, .int .i64 1, .int .i64 t, .int .i64 10, .int .i64 1, .int .i64 r] 3) = w1 at *
    clear n0 n1 k0 k1 t0 t1 r0 r1 HB HLL
    go_wp2_with fail
    go_loopw [5, 6] (fun s i wx => ∃ j : Nat, j ≤ 21 ∧ i = .int .i64 j ∧ s = .string (bytesK L j) ∧ Hid (NumsAt wx (w.heap.size + 1) L ∧ Below w.heap.size w wx)) (fun _ i _ => 21 - (intOf i).toNat)
    case atStart => exact ⟨0, by omega, rfl, rfl, HNA.out, HB1.out⟩
    case round =>
      obtain ⟨j, hj, rfl, rfl, HK⟩ := hrel
      clear HNA HB1
      by_cases hlt : j < 21
      · have dk : decide ((j : Int) < 21) = true := decide_eq_true (by omega)
        have hjl : j < L.length := by omega
        have hc := HK.out.1.2 j hjl
        obtain ⟨x0, x1⟩ := HL.out j hjl
        have hX := bytesK_next L j hjl
        have hs := bytesK_size L j (by omega)
        have hv := byteN_val L[j] ⟨x0, x1⟩
        have hcv := fun (W : World) => BytesAt.conv (cap := 1) (BytesAt.one W W.heap.size L[j] (byteN L[j]) hv rfl)
        have hcv1 : ∀ (W : World), (convert 42 9 (.slice (some ⟨W.heap.size, 0, none⟩) 1 1)).run Try.prog (W.alloc (.cells #[.int .u8 L[j]] 5)) = .ok (.string ⟨#[byteN L[j]]⟩) (W.alloc (.cells #[.int .u8 L[j]] 5)) := hcv
        have ha := fun (W : World) => run_string_add_sum (P := Try.prog) (w := W) (bytesK L j) ⟨#[byteN L[j]]⟩ (by rw [hs]; show j + 1 ≤ _; omega)
        rw [← hX] at ha
        clear hX
        obtain ⟨wa, wb⟩ := HK.out
        have HN2 := Lib.hid (wa.below ((Below.refl _ wr).alloc (Nat.le_refl _) (.cells #[.int .u8 L[j]] 5)))
        have HB2 := Lib.hid (wb.alloc wb.size (.cells #[.int .u8 L[j]] 5))
        have hcw := hcv1 wr
        clear hcv hcv1 hv wa wb HK hs
        generalize L[j] = x at *
        generalize byteN x = y at *
        generalize bytesK L j = S at *
        generalize hS' : bytesK L (j + 1) = S' at *
        have HS' := Lib.hid hS'
        clear hS'
        go_wp2_with fail
        go_roundw
        case rel => exact ⟨j + 1, by omega, by go_num, congrArg Value.string HS'.out.symm, HN2.out, HB2.out⟩
        case measure => simp [intOf]; omega
      · obtain rfl : j = 21 := by omega
        have HBE := Lib.hid HK.out.2
        rw [HN.out]
        clear HK
        go_wp2_with fail
        go_ret
        exact ⟨rfl, HBE.out⟩
  · go_enter Try.func12, Try.ntmps12
    go_upto_region 8 with (fail)
    have HNA := Lib.hid (show NumsAt ((w.alloc (.cells #[.bool false, .bool true, .int .i64 n, .int .i64 k, .int .i64 t, .int .i64 r] 25)).alloc (.cells #[.int .i64 130, .int .i64 128, .int .i64 0, .int .i64 17, .int .i64 3, .int .i64 2, .int .i64 4, .int .i64 0, .int .i64 6, .int .i64 2, .int .i64 (n / 256), .int .i64 (n % 256), .int .i64 8, .int .i64 1, .int .i64 k, .int .i64 9, .int .i64 1, .int .i64 t, .int .i64 10, .int .i64 1, .int .i64 r] 3)) (w.heap.size + 1) L from by
      rw [HLL.out]
      exact nums_new (w.alloc (.cells #[.bool false, .bool true, .int .i64 n, .int .i64 k, .int .i64 t, .int .i64 r] 25)) (w.heap.size + 1) (by simp) (numsL false true n k t r) 3)
    have HB1 := Lib.hid (HB.out.alloc (by simp) (.cells #[.int .i64 130, .int .i64 128, .int .i64 0, .int .i64 17, .int .i64 3, .int .i64 2, .int .i64 4, .int .i64 0, .int .i64 6, .int .i64 2, .int .i64 (n / 256), .int .i64 (n % 256), .int .i64 8, .int .i64 1, .int .i64 k, .int .i64 9, .int .i64 1, .int .i64 t, .int .i64 10, .int .i64 1, .int .i64 r] 3))
    generalize (w.alloc (.cells #[.bool false, .bool true, .int .i64 n, .int .i64 k, .int .i64 t, .int .i64 r] 25)).alloc (.cells #[.int .i64 130, .int .i64 128, .int .i64 0, .int .i64 17, .int .i64 3, .int .i64 2, .int .i64 4, .int .i64 0, .int .i64 6, .int .i64 2, .int .i64 (n / 256), .int .i64 (n % 256), .int .i64 8, .int .i64 1, .int .i64 k, .int .i64 9, .int .i64 1, .int .i64 t, .int .i64 10, .int .i64 1, .int .i64 r] 3) = w1 at *
    clear n0 n1 k0 k1 t0 t1 r0 r1 HB HLL
    go_wp2_with fail
    go_loopw [5, 6] (fun s i wx => ∃ j : Nat, j ≤ 21 ∧ i = .int .i64 j ∧ s = .string (bytesK L j) ∧ Hid (NumsAt wx (w.heap.size + 1) L ∧ Below w.heap.size w wx)) (fun _ i _ => 21 - (intOf i).toNat)
    case atStart => exact ⟨0, by omega, rfl, rfl, HNA.out, HB1.out⟩
    case round =>
      obtain ⟨j, hj, rfl, rfl, HK⟩ := hrel
      clear HNA HB1
      by_cases hlt : j < 21
      · have dk : decide ((j : Int) < 21) = true := decide_eq_true (by omega)
        have hjl : j < L.length := by omega
        have hc := HK.out.1.2 j hjl
        obtain ⟨x0, x1⟩ := HL.out j hjl
        have hX := bytesK_next L j hjl
        have hs := bytesK_size L j (by omega)
        have hv := byteN_val L[j] ⟨x0, x1⟩
        have hcv := fun (W : World) => BytesAt.conv (cap := 1) (BytesAt.one W W.heap.size L[j] (byteN L[j]) hv rfl)
        have hcv1 : ∀ (W : World), (convert 42 9 (.slice (some ⟨W.heap.size, 0, none⟩) 1 1)).run Try.prog (W.alloc (.cells #[.int .u8 L[j]] 5)) = .ok (.string ⟨#[byteN L[j]]⟩) (W.alloc (.cells #[.int .u8 L[j]] 5)) := hcv
        have ha := fun (W : World) => run_string_add_sum (P := Try.prog) (w := W) (bytesK L j) ⟨#[byteN L[j]]⟩ (by rw [hs]; show j + 1 ≤ _; omega)
        rw [← hX] at ha
        clear hX
        obtain ⟨wa, wb⟩ := HK.out
        have HN2 := Lib.hid (wa.below ((Below.refl _ wr).alloc (Nat.le_refl _) (.cells #[.int .u8 L[j]] 5)))
        have HB2 := Lib.hid (wb.alloc wb.size (.cells #[.int .u8 L[j]] 5))
        have hcw := hcv1 wr
        clear hcv hcv1 hv wa wb HK hs
        generalize L[j] = x at *
        generalize byteN x = y at *
        generalize bytesK L j = S at *
        generalize hS' : bytesK L (j + 1) = S' at *
        have HS' := Lib.hid hS'
        clear hS'
        go_wp2_with fail
        go_roundw
        case rel => exact ⟨j + 1, by omega, by go_num, congrArg Value.string HS'.out.symm, HN2.out, HB2.out⟩
        case measure => simp [intOf]; omega
      · obtain rfl : j = 21 := by omega
        have HBE := Lib.hid HK.out.2
        rw [HN.out]
        clear HK
        go_wp2_with fail
        go_ret
        exact ⟨rfl, HBE.out⟩
  · go_enter Try.func12, Try.ntmps12
    go_upto_region 8 with (fail)
    have HNA := Lib.hid (show NumsAt ((w.alloc (.cells #[.bool true, .bool false, .int .i64 n, .int .i64 k, .int .i64 t, .int .i64 r] 25)).alloc (.cells #[.int .i64 130, .int .i64 128, .int .i64 0, .int .i64 17, .int .i64 3, .int .i64 2, .int .i64 2, .int .i64 0, .int .i64 6, .int .i64 2, .int .i64 (n / 256), .int .i64 (n % 256), .int .i64 8, .int .i64 1, .int .i64 k, .int .i64 9, .int .i64 1, .int .i64 t, .int .i64 10, .int .i64 1, .int .i64 r] 3)) (w.heap.size + 1) L from by
      rw [HLL.out]
      exact nums_new (w.alloc (.cells #[.bool true, .bool false, .int .i64 n, .int .i64 k, .int .i64 t, .int .i64 r] 25)) (w.heap.size + 1) (by simp) (numsL true false n k t r) 3)
    have HB1 := Lib.hid (HB.out.alloc (by simp) (.cells #[.int .i64 130, .int .i64 128, .int .i64 0, .int .i64 17, .int .i64 3, .int .i64 2, .int .i64 2, .int .i64 0, .int .i64 6, .int .i64 2, .int .i64 (n / 256), .int .i64 (n % 256), .int .i64 8, .int .i64 1, .int .i64 k, .int .i64 9, .int .i64 1, .int .i64 t, .int .i64 10, .int .i64 1, .int .i64 r] 3))
    generalize (w.alloc (.cells #[.bool true, .bool false, .int .i64 n, .int .i64 k, .int .i64 t, .int .i64 r] 25)).alloc (.cells #[.int .i64 130, .int .i64 128, .int .i64 0, .int .i64 17, .int .i64 3, .int .i64 2, .int .i64 2, .int .i64 0, .int .i64 6, .int .i64 2, .int .i64 (n / 256), .int .i64 (n % 256), .int .i64 8, .int .i64 1, .int .i64 k, .int .i64 9, .int .i64 1, .int .i64 t, .int .i64 10, .int .i64 1, .int .i64 r] 3) = w1 at *
    clear n0 n1 k0 k1 t0 t1 r0 r1 HB HLL
    go_wp2_with fail
    go_loopw [5, 6] (fun s i wx => ∃ j : Nat, j ≤ 21 ∧ i = .int .i64 j ∧ s = .string (bytesK L j) ∧ Hid (NumsAt wx (w.heap.size + 1) L ∧ Below w.heap.size w wx)) (fun _ i _ => 21 - (intOf i).toNat)
    case atStart => exact ⟨0, by omega, rfl, rfl, HNA.out, HB1.out⟩
    case round =>
      obtain ⟨j, hj, rfl, rfl, HK⟩ := hrel
      clear HNA HB1
      by_cases hlt : j < 21
      · have dk : decide ((j : Int) < 21) = true := decide_eq_true (by omega)
        have hjl : j < L.length := by omega
        have hc := HK.out.1.2 j hjl
        obtain ⟨x0, x1⟩ := HL.out j hjl
        have hX := bytesK_next L j hjl
        have hs := bytesK_size L j (by omega)
        have hv := byteN_val L[j] ⟨x0, x1⟩
        have hcv := fun (W : World) => BytesAt.conv (cap := 1) (BytesAt.one W W.heap.size L[j] (byteN L[j]) hv rfl)
        have hcv1 : ∀ (W : World), (convert 42 9 (.slice (some ⟨W.heap.size, 0, none⟩) 1 1)).run Try.prog (W.alloc (.cells #[.int .u8 L[j]] 5)) = .ok (.string ⟨#[byteN L[j]]⟩) (W.alloc (.cells #[.int .u8 L[j]] 5)) := hcv
        have ha := fun (W : World) => run_string_add_sum (P := Try.prog) (w := W) (bytesK L j) ⟨#[byteN L[j]]⟩ (by rw [hs]; show j + 1 ≤ _; omega)
        rw [← hX] at ha
        clear hX
        obtain ⟨wa, wb⟩ := HK.out
        have HN2 := Lib.hid (wa.below ((Below.refl _ wr).alloc (Nat.le_refl _) (.cells #[.int .u8 L[j]] 5)))
        have HB2 := Lib.hid (wb.alloc wb.size (.cells #[.int .u8 L[j]] 5))
        have hcw := hcv1 wr
        clear hcv hcv1 hv wa wb HK hs
        generalize L[j] = x at *
        generalize byteN x = y at *
        generalize bytesK L j = S at *
        generalize hS' : bytesK L (j + 1) = S' at *
        have HS' := Lib.hid hS'
        clear hS'
        go_wp2_with fail
        go_roundw
        case rel => exact ⟨j + 1, by omega, by go_num, congrArg Value.string HS'.out.symm, HN2.out, HB2.out⟩
        case measure => simp [intOf]; omega
      · obtain rfl : j = 21 := by omega
        have HBE := Lib.hid HK.out.2
        rw [HN.out]
        clear HK
        go_wp2_with fail
        go_ret
        exact ⟨rfl, HBE.out⟩
  · go_enter Try.func12, Try.ntmps12
    go_upto_region 8 with (fail)
    have HNA := Lib.hid (show NumsAt ((w.alloc (.cells #[.bool true, .bool true, .int .i64 n, .int .i64 k, .int .i64 t, .int .i64 r] 25)).alloc (.cells #[.int .i64 130, .int .i64 128, .int .i64 0, .int .i64 17, .int .i64 3, .int .i64 2, .int .i64 6, .int .i64 0, .int .i64 6, .int .i64 2, .int .i64 (n / 256), .int .i64 (n % 256), .int .i64 8, .int .i64 1, .int .i64 k, .int .i64 9, .int .i64 1, .int .i64 t, .int .i64 10, .int .i64 1, .int .i64 r] 3)) (w.heap.size + 1) L from by
      rw [HLL.out]
      exact nums_new (w.alloc (.cells #[.bool true, .bool true, .int .i64 n, .int .i64 k, .int .i64 t, .int .i64 r] 25)) (w.heap.size + 1) (by simp) (numsL true true n k t r) 3)
    have HB1 := Lib.hid (HB.out.alloc (by simp) (.cells #[.int .i64 130, .int .i64 128, .int .i64 0, .int .i64 17, .int .i64 3, .int .i64 2, .int .i64 6, .int .i64 0, .int .i64 6, .int .i64 2, .int .i64 (n / 256), .int .i64 (n % 256), .int .i64 8, .int .i64 1, .int .i64 k, .int .i64 9, .int .i64 1, .int .i64 t, .int .i64 10, .int .i64 1, .int .i64 r] 3))
    generalize (w.alloc (.cells #[.bool true, .bool true, .int .i64 n, .int .i64 k, .int .i64 t, .int .i64 r] 25)).alloc (.cells #[.int .i64 130, .int .i64 128, .int .i64 0, .int .i64 17, .int .i64 3, .int .i64 2, .int .i64 6, .int .i64 0, .int .i64 6, .int .i64 2, .int .i64 (n / 256), .int .i64 (n % 256), .int .i64 8, .int .i64 1, .int .i64 k, .int .i64 9, .int .i64 1, .int .i64 t, .int .i64 10, .int .i64 1, .int .i64 r] 3) = w1 at *
    clear n0 n1 k0 k1 t0 t1 r0 r1 HB HLL
    go_wp2_with fail
    go_loopw [5, 6] (fun s i wx => ∃ j : Nat, j ≤ 21 ∧ i = .int .i64 j ∧ s = .string (bytesK L j) ∧ Hid (NumsAt wx (w.heap.size + 1) L ∧ Below w.heap.size w wx)) (fun _ i _ => 21 - (intOf i).toNat)
    case atStart => exact ⟨0, by omega, rfl, rfl, HNA.out, HB1.out⟩
    case round =>
      obtain ⟨j, hj, rfl, rfl, HK⟩ := hrel
      clear HNA HB1
      by_cases hlt : j < 21
      · have dk : decide ((j : Int) < 21) = true := decide_eq_true (by omega)
        have hjl : j < L.length := by omega
        have hc := HK.out.1.2 j hjl
        obtain ⟨x0, x1⟩ := HL.out j hjl
        have hX := bytesK_next L j hjl
        have hs := bytesK_size L j (by omega)
        have hv := byteN_val L[j] ⟨x0, x1⟩
        have hcv := fun (W : World) => BytesAt.conv (cap := 1) (BytesAt.one W W.heap.size L[j] (byteN L[j]) hv rfl)
        have hcv1 : ∀ (W : World), (convert 42 9 (.slice (some ⟨W.heap.size, 0, none⟩) 1 1)).run Try.prog (W.alloc (.cells #[.int .u8 L[j]] 5)) = .ok (.string ⟨#[byteN L[j]]⟩) (W.alloc (.cells #[.int .u8 L[j]] 5)) := hcv
        have ha := fun (W : World) => run_string_add_sum (P := Try.prog) (w := W) (bytesK L j) ⟨#[byteN L[j]]⟩ (by rw [hs]; show j + 1 ≤ _; omega)
        rw [← hX] at ha
        clear hX
        obtain ⟨wa, wb⟩ := HK.out
        have HN2 := Lib.hid (wa.below ((Below.refl _ wr).alloc (Nat.le_refl _) (.cells #[.int .u8 L[j]] 5)))
        have HB2 := Lib.hid (wb.alloc wb.size (.cells #[.int .u8 L[j]] 5))
        have hcw := hcv1 wr
        clear hcv hcv1 hv wa wb HK hs
        generalize L[j] = x at *
        generalize byteN x = y at *
        generalize bytesK L j = S at *
        generalize hS' : bytesK L (j + 1) = S' at *
        have HS' := Lib.hid hS'
        clear hS'
        go_wp2_with fail
        go_roundw
        case rel => exact ⟨j + 1, by omega, by go_num, congrArg Value.string HS'.out.symm, HN2.out, HB2.out⟩
        case measure => simp [intOf]; omega
      · obtain rfl : j = 21 := by omega
        have HBE := Lib.hid HK.out.2
        rw [HN.out]
        clear HK
        go_wp2_with fail
        go_ret
        exact ⟨rfl, HBE.out⟩
end Go.Proofs.Ytmbjhhpnckfppaa
