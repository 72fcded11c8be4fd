/-
The document's clock: how it lies; At.
-/
import Derived.Test.YtchhaolgmdhnmaaClkMem
import Derived.Test.YtchhaolgmdhnmaaInts
import Derived.BigQuiet
namespace Go.Proofs.Ytchhaolgmdhnmaa
open Go.RowKit
set_option maxRecDepth 20000
theorem infoD : (Try.prog.info? 45).map (fun i => (i.zero, i.size, i.bytes)) = some (some (.agg #[.int .i64 0, .int .i64 0, .int .i64 0]), 3, 24) := by kernel_rfl
abbrev OwnD (w : World) (v : Value) (L : List Tm) : Prop := OwnL encT 45 w 0 v L
/-- how it lies: at p, at this time, with these timers, in these blocks -/
def RkL (w : World) (p : Nat) (now : Int) (L : List Tm) (F : Nat → Prop) : Prop := ∃ v, RowAt w p [.int .i64 now, v] ∧ OwnD w v L ∧ v.ownBlock ≠ some p ∧ F = (fun b => b = p ∨ v.ownBlock = some b)
theorem RkL.mem {w : World} {p : Nat} {now : Int} {L : List Tm} {F : Nat → Prop} (h : RkL w p now L F) : ∀ b, F b → b < w.heap.size := by
  obtain ⟨v, hr, ho, -, rfl⟩ := h
  rintro b (rfl | e)
  · exact hr.lt
  · exact (ho.ge e).2
theorem RkL.stay {w w' : World} {p : Nat} {now : Int} {L : List Tm} {F : Nat → Prop} (h : RkL w p now L F) (hs : SameOn F w w') : RkL w' p now L F := by
  obtain ⟨v, hr, ho, hn, rfl⟩ := h
  exact ⟨v, hr.block (hs.2 p (Or.inl rfl)) hs.1, ho.same (fun g e => hs.2 g (Or.inr e)), hn, rfl⟩
theorem RkL.below {w w' : World} {p : Nat} {now : Int} {L : List Tm} {F : Nat → Prop} (h : RkL w p now L F) (hb : Below w.heap.size w w') : RkL w' p now L F := h.stay (SameOn.of_below hb h.mem)
/-- three cells of a timer -/
theorem OwnL.get3 {T : TypeId} {w : World} {B g n c : Nat} {L : List Tm} (h : OwnL encT T w B (.slice (some ⟨g, 0, none⟩) n c) L) (i : Nat) (hi : i < L.length) :
    w.cell? ⟨g, i * 3, none⟩ = some (.int .i64 L[i].k) ∧ w.cell? ⟨g, i * 3 + 1, none⟩ = some (.int .i64 L[i].n) ∧ w.cell? ⟨g, i * 3 + 2, none⟩ = some (.int .i64 L[i].l) := by
  obtain ⟨a, cap, hv, hA⟩ := h.see
  simp only [Value.slice.injEq] at hv
  obtain ⟨rfl, -, -⟩ := hv
  have h0 := hA.get i hi 0 (u := .int .i64 L[i].k) rfl
  have h1 := hA.get i hi 1 (u := .int .i64 L[i].n) rfl
  have h2 := hA.get i hi 2 (u := .int .i64 L[i].l) rfl
  simp only [Nat.zero_add, Nat.add_zero] at h0 h1 h2
  exact ⟨h0, h1, h2⟩
theorem atF_drop (a : Nm) (L : List Tm) (i : Nat) (hi : i < L.length) : atF a (L.drop i) (i : Int) = if isT a L[i] = true then (i : Int) else atF a (L.drop (i + 1)) ((i + 1 : Nat) : Int) := by
  rw [List.drop_eq_getElem_cons hi]
  rfl
theorem isT_false {a : Nm} {k n l : Int} (h : isT a ⟨k, n, l⟩ = false) : (k == a.k) = false ∨ ((k == a.k) = true ∧ (n == a.n) = false) := by
  have h1 : decide (k = a.k ∧ n = a.n) = false := h
  have h2 := of_decide_eq_false h1
  by_cases h3 : k = a.k
  · exact Or.inr ⟨by simpa using h3, by simpa using fun e => h2 ⟨h3, e⟩⟩
  · exact Or.inl (by simpa using h3)
theorem isT_true {a : Nm} {k n l : Int} (h : isT a ⟨k, n, l⟩ = true) : (k == a.k) = true ∧ (n == a.n) = true := by
  have h1 : decide (k = a.k ∧ n = a.n) = true := h
  have h2 := of_decide_eq_true h1
  exact ⟨by simpa using h2.1, by simpa using h2.2⟩
set_option maxHeartbeats 2000000 in
theorem rat_any (k n : Int) (p : Nat) (now : Int) (L : List Tm) (F : Nat → Prop) (w : World) (h : RkL w p now L F) (hl : L.length ≤ 1000) : Calls Try.prog 17 #[.pointer (some ⟨p, 0, none⟩), .int .i64 k, .int .i64 n] w fun e w' => e = .returned (.int .i64 (atF ⟨k, n⟩ L 0)) ∧ Below w.heap.size w w' := by
  obtain ⟨v, hr, ho, -, -⟩ := h
  obtain ⟨ad, c, rfl⟩ : ∃ a c, v = .slice a L.length c := by
    obtain ⟨a, c, hv, -⟩ := ho.see
    exact ⟨a, c, hv⟩
  obtain ⟨m, hm⟩ : ∃ m, L.length = m := ⟨_, rfl⟩
  have HO := Lib.hid ho
  have HR := Lib.hid hr
  rw [hm] at HO HR hl
  have HN := Lib.hid hm
  clear hr ho hm
  obtain ⟨r, hr⟩ : ∃ r, atF ⟨k, n⟩ L 0 = r := ⟨_, rfl⟩
  rw [hr]
  have HRR := Lib.hid hr
  clear hr
  go_enter Try.func17, Try.ntmps17
  go_wp2_with fail
  go_loopw [7] (fun v wx => ∃ i : Nat, i ≤ m ∧ v = .int .i64 i ∧ Hid (atF ⟨k, n⟩ (L.drop i) (i : Int) = r ∧ Below w.heap.size w wx)) (fun v _ => m - (intOf v).toNat)
  case atStart => exact ⟨0, Nat.zero_le _, rfl, Lib.hid ⟨HRR.out, Below.refl _ _⟩⟩
  case round =>
    obtain ⟨i, hi, rfl, HK⟩ := hrel
    have c1 := (HR.out.below HK.out.2).cell 1 rfl
    by_cases hlt : i < m
    · have dlt : decide ((i : Int) < (m : Int)) = true := decide_eq_true (by omega)
      have hL : i < L.length := by rw [HN.out]; exact hlt
      obtain ⟨g, c', hv, -, hg, -⟩ := HO.out.some_ (by omega)
      simp only [Value.slice.injEq] at hv
      obtain ⟨rfl, -, rfl⟩ := hv
      obtain ⟨x0, x1, x2⟩ := OwnL.get3 (HO.out.below HK.out.2) i hL
      have HT := Lib.hid (atF_drop ⟨k, n⟩ L i hL)
      rw [HK.out.1] at HT
      have HB2 := Lib.hid HK.out.2
      generalize L[i] = y at *
      obtain ⟨yk, yn, yl⟩ := y
      cases hq : isT ⟨k, n⟩ ⟨yk, yn, yl⟩ with
      | true =>
        obtain ⟨e1, e2⟩ := isT_true hq
        simp only [hq, if_true] at HT
        simp only at e1 e2
        clear hq HK
        go_wp2_with fail
        exact bodyPost_ret (v := .int .i64 i) (by simp [results, Try.results17, go_sem]) rfl ⟨by rw [HT.out], HB2.out⟩
      | false =>
        simp only [hq, Bool.false_eq_true, if_false] at HT
        clear HK
        rcases isT_false hq with e1 | ⟨e1, e2⟩
        · simp only at e1
          clear hq
          go_wp2_with fail
          go_roundw
          case rel => exact ⟨i + 1, by omega, by go_num, Lib.hid ⟨HT.out.symm, HB2.out⟩⟩
          case measure => simp [intOf]; omega
        · simp only at e1 e2
          clear hq
          go_wp2_with fail
          go_roundw
          case rel => exact ⟨i + 1, by omega, by go_num, Lib.hid ⟨HT.out.symm, HB2.out⟩⟩
          case measure => simp [intOf]; omega
    · have dlt : decide ((i : Int) < (m : Int)) = false := decide_eq_false (by omega)
      have e : L.drop i = [] := List.drop_eq_nil_of_le (by rw [HN.out]; omega)
      have HE := Lib.hid (show (-1 : Int) = r from by rw [← HK.out.1, e]; rfl)
      have HB2 := Lib.hid HK.out.2
      clear e HK
      go_wp2_with fail
      exact bodyPost_ret (v := .int .i64 (-1)) (by simp [results, Try.results17, go_sem]) rfl ⟨by rw [HE.out], HB2.out⟩
end Go.Proofs.Ytchhaolgmdhnmaa
