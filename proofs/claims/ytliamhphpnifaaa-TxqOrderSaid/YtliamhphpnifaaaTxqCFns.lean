/-
The two functions that say which ones go; slices.Index of ints.
-/
import Derived.Test.YtliamhphpnifaaaTxqCPart
namespace Go.Proofs.Ytliamhphpnifaaa
open Go.RowKit
set_option maxRecDepth 20000
theorem none_next (x : Int) (L : List Int) (i : Nat) (hi : i < L.length) (h : ¬ x ∈ L.take i) : (x = L[i] → x ∈ L) ∧ (x ≠ L[i] → ¬ x ∈ L.take (i + 1)) := by
  refine ⟨fun e => e ▸ List.getElem_mem hi, fun hn => ?_⟩
  rw [List.take_succ_eq_append_getElem hi, List.mem_append, List.mem_singleton]
  rintro (h1 | h1)
  · exact h h1
  · exact hn h1
set_option maxHeartbeats 1000000 in
theorem cindex16 (a : Option Addr) (n c : Nat) (L : List Int) (x : Int) (w : World) (hn : L.length = n) (h : AtL encI w a L) (hl : n ≤ 1000) : Calls Try.prog 29 #[.slice a n c, .int .i64 x] w fun e w' =>
    ∃ i : Int, e = .returned (.int .i64 i) ∧ decide (0 ≤ i) = decide (x ∈ L) ∧ w' = w := by
  have HN := Lib.hid hn
  have HA := Lib.hid h
  clear hn h
  go_enter Try.func29, Try.ntmps29
  go_wp2_with fail
  go_loopw [8] (fun v wx => ∃ i : Nat, i ≤ n ∧ v = .int .i64 i ∧ Hid (¬ x ∈ L.take i) ∧ w = wx) (fun v _ => n - (intOf v).toNat)
  case atStart => exact ⟨0, Nat.zero_le _, rfl, Lib.hid (by simp), by first | rfl | trivial⟩
  case round =>
    obtain ⟨i, hi, rfl, HK, rfl⟩ := hrel
    by_cases hlt : i < n
    · have hL : i < L.length := by rw [HN.out]; exact hlt
      obtain ⟨g, o, rfl, hg⟩ := HA.out.some_ (by omega)
      have y0 := int_at HA.out i hL
      have HT := Lib.hid (none_next x L i hL HK.out)
      generalize L[i] = y at *
      by_cases hq : x = y
      · have dq : (x == y) = true := beq_iff_eq.2 hq
        have HE := Lib.hid (decide_eq_true (HT.out.1 hq))
        clear HT hq
        go_wp2_with fail
        exact bodyPost_ret (v := .int .i64 i) (by simp [results, Try.results29, go_sem]) rfl ⟨i, rfl, by rw [HE.out]; exact decide_eq_true (by omega), by first | rfl | trivial⟩
      · have dq : (x == y) = false := beq_eq_false_iff_ne.2 hq
        have HE := Lib.hid (HT.out.2 hq)
        clear HT hq
        go_wp2_with fail
        go_roundw
        case rel => exact ⟨i + 1, by omega, rfl, HE, by first | rfl | trivial⟩
        case measure => simp [intOf]; omega
    · have e : L.take i = L := List.take_of_length_le (by rw [HN.out]; omega)
      have HE := Lib.hid (show decide (x ∈ L) = false from decide_eq_false (e ▸ HK.out))
      clear e
      go_wp2_with fail
      exact bodyPost_ret (v := .int .i64 (-1)) (by simp [results, Try.results29, go_sem]) rfl ⟨-1, rfl, by rw [HE.out]; rfl, by first | rfl | trivial⟩
set_option maxHeartbeats 1000000 in
theorem ccontains16 (a : Option Addr) (n c : Nat) (L : List Int) (x : Int) (w : World) (hn : L.length = n) (h : AtL encI w a L) (hl : n ≤ 1000) : Calls Try.prog 27 #[.slice a n c, .int .i64 x] w fun e w' => e = .returned (.bool (decide (x ∈ L))) ∧ w' = w := by
  have HI := Lib.hid (cindex16 a n c L x w hn h hl)
  clear hn h
  generalize decide (x ∈ L) = r at *
  go_enter Try.func27, Try.ntmps27
  go_wp2_with (go_at_call 29; (with_reducible refine HI.out.mono ?_); rintro e w ⟨i, rfl, hi, rfl⟩)
  exact bodyPost_ret (v := .bool r) (by simp [results, Try.results27, go_sem]) rfl ⟨rfl, rfl⟩
set_option maxHeartbeats 1000000 in
/-- Drop's -/
theorem cdrop_fn16 (a : Option Addr) (n c b : Nat) (L : List Int) (k : Int) (f : ByteArray) (w : World) (hn : L.length = n) (h : AtL encI w a L) (hl : n ≤ 1000) (hb : w.cell? ⟨b, 0, none⟩ = some (.slice a n c)) (hbw : b < w.heap.size) :
    Calls Try.prog 26 #[.agg #[.int .i64 k, .string f], .pointer (some ⟨b, 0, none⟩)] w fun e w' => e = .returned (.bool (decide (k ∈ L))) ∧ Below w.heap.size w w' := by
  have hb0 := (Below.refl w.heap.size w).alloc (Nat.le_refl _) (.cells #[.int .i64 k, .string f] 57)
  have HI := Lib.hid (ccontains16 a n c L k _ hn (h.below hb0) hl)
  have HB0 := Lib.hid hb0
  clear hn h hb0
  generalize decide (k ∈ L) = r at *
  go_enter Try.func26, Try.ntmps26
  go_wp2_with (go_at_call 27; (with_reducible refine HI.out.mono ?_); rintro e w2 ⟨rfl, rfl⟩)
  exact bodyPost_ret (v := .bool r) (by simp [results, Try.results26, go_sem]) rfl ⟨rfl, HB0.out⟩
/-- what Take's function keeps: how many it took, how many at most, their bytes, how many bytes at most -/
structure TkB (W : World) (bt bm bs bb : Nat) (t m s b : Int) : Prop where
  t : RowAt W bt [.int .i64 t]
  m : RowAt W bm [.int .i64 m]
  s : RowAt W bs [.int .i64 s]
  b : RowAt W bb [.int .i64 b]
  tm : bt ≠ bm
  ts : bt ≠ bs
  tb : bt ≠ bb
  ms : bm ≠ bs
  mb : bm ≠ bb
  sb : bs ≠ bb
abbrev footT (bt bm bs bb : Nat) (x : Nat) : Prop := x = bt ∨ x = bm ∨ x = bs ∨ x = bb
section
variable {W W' : World} {bt bm bs bb : Nat} {t m s b : Int}
theorem TkB.mem (h : TkB W bt bm bs bb t m s b) : ∀ x, footT bt bm bs bb x → x < W.heap.size := by
  rintro x (rfl | rfl | rfl | rfl)
  · exact h.t.lt
  · exact h.m.lt
  · exact h.s.lt
  · exact h.b.lt
theorem TkB.stay (h : TkB W bt bm bs bb t m s b) (hs : SameOn (footT bt bm bs bb) W W') : TkB W' bt bm bs bb t m s b :=
  ⟨h.t.block (hs.2 _ (Or.inl rfl)) hs.1, h.m.block (hs.2 _ (Or.inr (Or.inl rfl))) hs.1, h.s.block (hs.2 _ (Or.inr (Or.inr (Or.inl rfl)))) hs.1, h.b.block (hs.2 _ (Or.inr (Or.inr (Or.inr rfl)))) hs.1, h.tm, h.ts, h.tb, h.ms, h.mb, h.sb⟩
theorem TkB.alloc (h : TkB W bt bm bs bb t m s b) (o : Obj) : TkB (W.alloc o) bt bm bs bb t m s b := h.stay (SameOn.of_below ((Below.refl W.heap.size W).alloc (Nat.le_refl _) o) h.mem)
theorem TkB.putM (h : TkB W bt bm bs bb t m s b) (x : Int) : TkB (W.setCell ⟨bm, 0, none⟩ (.int .i64 x)) bt bm bs bb t x s b :=
  ⟨h.t.other _ h.tm.symm, h.m.put 0 _ _ rfl, h.s.other _ h.ms, h.b.other _ h.mb, h.tm, h.ts, h.tb, h.ms, h.mb, h.sb⟩
theorem TkB.putT (h : TkB W bt bm bs bb t m s b) (x : Int) : TkB (W.setCell ⟨bt, 0, none⟩ (.int .i64 x)) bt bm bs bb x m s b :=
  ⟨h.t.put 0 _ _ rfl, h.m.other _ h.tm, h.s.other _ h.ts, h.b.other _ h.tb, h.tm, h.ts, h.tb, h.ms, h.mb, h.sb⟩
theorem TkB.putS (h : TkB W bt bm bs bb t m s b) (x : Int) : TkB (W.setCell ⟨bs, 0, none⟩ (.int .i64 x)) bt bm bs bb t m x b :=
  ⟨h.t.other _ h.ts.symm, h.m.other _ h.ms.symm, h.s.put 0 _ _ rfl, h.b.other _ h.sb, h.tm, h.ts, h.tb, h.ms, h.mb, h.sb⟩
end
set_option maxHeartbeats 2000000 in
/-- Take's: none goes -/
theorem ctake_no16 (bt bm bs bb : Nat) (t m s b : Int) (k : Int) (f : ByteArray) (w : World) (h : TkB w bt bm bs bb t m s b) (ht : 0 ≤ t ∧ t ≤ 100000) (hs : 0 ≤ s ∧ s ≤ 100000) (hf : f.size ≤ 1000) (hno : m ≤ t ∨ (0 < t ∧ b < s + f.size)) :
    Calls Try.prog 25 #[.agg #[.int .i64 k, .string f], .pointer (some ⟨bt, 0, none⟩), .pointer (some ⟨bm, 0, none⟩), .pointer (some ⟨bs, 0, none⟩), .pointer (some ⟨bb, 0, none⟩)] w fun e w' =>
      e = .returned (.bool false) ∧ TkB w' bt bm bs bb t t s b ∧ Turn (footT bt bm bs bb) w w' := by
  have HE := Lib.hid (And.intro ((h.putM t).alloc (.cells #[.int .i64 k, .string f] 57)) (((Turn.refl (footT bt bm bs bb) w).set (p := ⟨bm, 0, none⟩) (Or.inl (Or.inr (Or.inl rfl))) (.int .i64 t)).alloc (.cells #[.int .i64 k, .string f] 57)))
  have l0 := h.t.lt
  have l1 := h.m.lt
  have l2 := h.s.lt
  have l3 := h.b.lt
  have c0 := h.t.cell 0 rfl
  have c1 := h.m.cell 0 rfl
  have c2 := h.s.cell 0 rfl
  have c3 := h.b.cell 0 rfl
  have f1 := (h.m.get 0 rfl).free
  obtain ⟨x, hx⟩ : ∃ x, x = s + (f.size : Int) := ⟨_, rfl⟩
  have hz : wrap64 (s + (f.size : Int)) = x := by rw [hx]; unfold wrap64; omega
  rw [← hx] at hno
  by_cases hm : m ≤ t
  · clear hno hx hf ht hs h
    go_enter Try.func25, Try.ntmps25
    go_wp2_with fail
    exact bodyPost_ret (v := .bool false) (by simp [results, Try.results25, go_sem]) rfl ⟨rfl, HE.out⟩
  · have h0 : 0 < t := by omega
    have hb : b < x := by omega
    clear hno hx hf ht hs h
    go_enter Try.func25, Try.ntmps25
    go_wp2_with fail
    exact bodyPost_ret (v := .bool false) (by simp [results, Try.results25, go_sem]) rfl ⟨rfl, HE.out⟩
set_option maxHeartbeats 2000000 in
/-- Take's: one goes -/
theorem ctake_yes16 (bt bm bs bb : Nat) (t m s b : Int) (k : Int) (f : ByteArray) (w : World) (h : TkB w bt bm bs bb t m s b) (ht : 0 ≤ t ∧ t ≤ 100000) (hs : 0 ≤ s ∧ s ≤ 100000) (hf : f.size ≤ 1000) (hm : t < m) (hy : t = 0 ∨ s + f.size ≤ b) :
    Calls Try.prog 25 #[.agg #[.int .i64 k, .string f], .pointer (some ⟨bt, 0, none⟩), .pointer (some ⟨bm, 0, none⟩), .pointer (some ⟨bs, 0, none⟩), .pointer (some ⟨bb, 0, none⟩)] w fun e w' =>
      e = .returned (.bool true) ∧ TkB w' bt bm bs bb (t + 1) m (s + f.size) b ∧ Turn (footT bt bm bs bb) w w' := by
  have HE := Lib.hid (And.intro (((h.putT (t + 1)).putS (s + f.size)).alloc (.cells #[.int .i64 k, .string f] 57)) ((((Turn.refl (footT bt bm bs bb) w).set (p := ⟨bt, 0, none⟩) (Or.inl (Or.inl rfl)) (.int .i64 (t + 1))).set (p := ⟨bs, 0, none⟩) (Or.inl (Or.inr (Or.inr (Or.inl rfl)))) (.int .i64 (s + f.size))).alloc (.cells #[.int .i64 k, .string f] 57)))
  have l0 := h.t.lt
  have l1 := h.m.lt
  have l2 := h.s.lt
  have l3 := h.b.lt
  have c0 := h.t.cell 0 rfl
  have c1 := h.m.cell 0 rfl
  have c2 := h.s.cell 0 rfl
  have c3 := h.b.cell 0 rfl
  have f0 := (h.t.get 0 rfl).free
  have f2 := (h.s.get 0 rfl).free
  have n1 := h.ts
  have n2 := h.ts.symm
  obtain ⟨x, hx⟩ : ∃ x, x = s + (f.size : Int) := ⟨_, rfl⟩
  obtain ⟨y, hy1⟩ : ∃ y, y = t + 1 := ⟨_, rfl⟩
  have hz : wrap64 (s + (f.size : Int)) = x := by rw [hx]; unfold wrap64; omega
  have hz2 : wrap64 (t + 1) = y := by rw [hy1]; unfold wrap64; omega
  rw [← hx] at hy HE ⊢
  rw [← hy1] at HE ⊢
  have hm2 : ¬ m ≤ t := by omega
  by_cases h0 : t = 0
  · have h3 : ¬ 0 < t := by omega
    clear hy hx hy1 hf ht hs h hm h0
    go_enter Try.func25, Try.ntmps25
    go_wp2_with fail
    exact bodyPost_ret (v := .bool true) (by simp [results, Try.results25, go_sem]) rfl ⟨rfl, HE.out⟩
  · have h3 : 0 < t := by omega
    have hb : ¬ b < x := by omega
    clear hy hx hy1 hf ht hs h hm h0
    go_enter Try.func25, Try.ntmps25
    go_wp2_with fail
    exact bodyPost_ret (v := .bool true) (by simp [results, Try.results25, go_sem]) rfl ⟨rfl, HE.out⟩
end Go.Proofs.Ytliamhphpnifaaa
