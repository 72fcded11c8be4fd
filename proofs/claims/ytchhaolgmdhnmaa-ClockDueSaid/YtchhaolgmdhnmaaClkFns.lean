/-
The landed clock: New, Left, All, Stop, Only.
-/
import Derived.Test.YtchhaolgmdhnmaaClkSays
namespace Go.Proofs.Ytchhaolgmdhnmaa
open Go.RowKit
set_option maxRecDepth 20000
theorem leftT_drop (a : Nm) (L : List Tm) (i : Nat) (hi : i < L.length) : leftT a (L.drop i) = if isT a L[i] = true then L[i].l else leftT a (L.drop (i + 1)) := by
  rw [List.drop_eq_getElem_cons hi]
  rfl
theorem OwnL.form2 {α : Type} {E : Enc α} {T : TypeId} {w : World} {B : Nat} {v : Value} {L : List α} (h : OwnL E T w B v L) : ∃ a c, v = .slice a L.length c := by
  obtain ⟨a, c, hv, -⟩ := h.see
  exact ⟨a, c, hv⟩
set_option maxHeartbeats 1000000 in
theorem cnew13 (w : World) : Calls Try.prog 7 #[] w fun e w' => ∃ p F, e = .returned (.pointer (some ⟨p, 0, none⟩)) ∧ CkL w' p [] F ∧ (∀ b, F b → w.heap.size ≤ b) ∧ Below w.heap.size w w' := by
  have HR := Lib.hid (RowAt.new w w.heap.size rfl [.slice none 0 0] 52)
  have HB := Lib.hid ((Below.refl w.heap.size w).alloc (Nat.le_refl _) (.cells #[.slice none 0 0] 52))
  go_enter Try.func7, Try.ntmps7
  go_wp2_with fail
  exact bodyPost_ret (v := .pointer (some ⟨w.heap.size, 0, none⟩)) (by simp [results, Try.results7, go_sem]) rfl
    ⟨_, _, rfl, ⟨_, HR.out, OwnL.nil _ _ _ _, (fun e => by cases e), rfl⟩, (fun b hb => by rcases hb with e | e; omega; cases e), HB.out⟩
set_option maxHeartbeats 1000000 in
theorem cleft_nil (a : Nm) (w : World) : Calls Try.prog 19 #[.pointer none, .agg #[.int .i64 a.k, .int .i64 a.n]] w fun e w' => e = .returned (.int .i64 0) ∧ Below w.heap.size w w' := by
  obtain ⟨ak, an⟩ := a
  have HB0 := Lib.hid ((Below.refl w.heap.size w).alloc (Nat.le_refl _) (.cells #[.int .i64 ak, .int .i64 an] 31))
  go_enter Try.func19, Try.ntmps19
  go_wp2_with fail
  exact bodyPost_ret (v := .int .i64 0) (by simp [results, Try.results19, go_sem]) rfl ⟨rfl, HB0.out⟩
set_option maxHeartbeats 1000000 in
theorem cleft_any (a : Nm) (p : Nat) (L : List Tm) (F : Nat → Prop) (w : World) (h : CkL w p L F) (hl : L.length ≤ 1000) : Calls Try.prog 19 #[.pointer (some ⟨p, 0, none⟩), .agg #[.int .i64 a.k, .int .i64 a.n]] w fun e w' => e = .returned (.int .i64 (leftT a L)) ∧ Below w.heap.size w w' := by
  obtain ⟨v, hr, ho, -, -⟩ := h
  obtain ⟨ad, c, rfl⟩ := ho.form2
  obtain ⟨n, hn⟩ : ∃ n, L.length = n := ⟨_, rfl⟩
  have HO := Lib.hid ho
  have c0 := hr.cell 0 rfl
  have hpw := hr.lt
  rw [hn] at HO c0 hl
  have HN := Lib.hid hn
  obtain ⟨ak, an⟩ := a
  have HB0 := Lib.hid ((Below.refl w.heap.size w).alloc (Nat.le_refl _) (.cells #[.int .i64 ak, .int .i64 an] 31))
  have HR := Lib.hid (RowAt.new w w.heap.size rfl [.int .i64 ak, .int .i64 an] 31)
  clear hr ho hn
  obtain ⟨r, hr⟩ : ∃ r, leftT ⟨ak, an⟩ L = r := ⟨_, rfl⟩
  rw [hr]
  have HRR := Lib.hid hr
  clear hr
  go_enter Try.func19, Try.ntmps19
  go_wp2_with fail
  generalize hw1 : w.alloc (.cells #[.int .i64 ak, .int .i64 an] 31) = w1 at *
  go_loopw [14] (fun v wx => ∃ i : Nat, i ≤ n ∧ v = .int .i64 i ∧ Hid (leftT ⟨ak, an⟩ (L.drop i) = r ∧ Below w1.heap.size w1 wx)) (fun v _ => n - (intOf v).toNat)
  case atStart => exact ⟨0, Nat.zero_le _, rfl, Lib.hid ⟨HRR.out, Below.refl _ _⟩⟩
  case round =>
    obtain ⟨i, hi, rfl, HK⟩ := hrel
    have HBW := Lib.hid (HB0.out.trans (HK.out.2.mono HB0.out.size))
    by_cases hlt : i < n
    · have hL : i < L.length := by rw [HN.out]; exact hlt
      obtain ⟨g, c', hv, -, hg, -⟩ := HO.out.some_ (by omega)
      simp only [Value.slice.injEq] at hv
      obtain ⟨rfl, -, rfl⟩ := hv
      obtain ⟨x0, x1, x2⟩ := OwnT.get (HO.out.below HBW.out) i hL
      have HT := Lib.hid (leftT_drop ⟨ak, an⟩ L i hL)
      rw [HK.out.1] at HT
      have k0 := (HR.out.below HK.out.2).cell 0 rfl
      have k1 := (HR.out.below HK.out.2).cell 1 rfl
      have hms := ((HR.out.below HK.out.2).get 0 rfl).lt
      generalize L[i] = y at *
      obtain ⟨yk, yn, yl⟩ := y
      have HB2 := Lib.hid (HBW.out.alloc HBW.out.size (.cells #[.int .i64 yk, .int .i64 yn, .int .i64 yl] 54))
      have HB3 := Lib.hid (HK.out.2.alloc HK.out.2.size (.cells #[.int .i64 yk, .int .i64 yn, .int .i64 yl] 54))
      have he := fun W => run_eq_nm yk yn ak an W _ rfl
      have hq : isT ⟨ak, an⟩ ⟨yk, yn, yl⟩ = eqN ⟨yk, yn⟩ ⟨ak, an⟩ := rfl
      rw [hq] at HT
      clear hq hw1
      cases hq : eqN ⟨yk, yn⟩ ⟨ak, an⟩ with
      | true =>
        simp only [hq] at he
        simp only [hq, if_true] at HT
        clear hq
        go_wp2_with fail
        exact bodyPost_ret (v := .int .i64 yl) (by simp [results, Try.results19, go_sem]) rfl ⟨by rw [HT.out], HB2.out⟩
      | false =>
        simp only [hq] at he
        simp only [hq, Bool.false_eq_true, if_false] at HT
        clear hq
        go_wp2_with fail
        go_roundw
        case rel => exact ⟨i + 1, by omega, rfl, Lib.hid ⟨HT.out.symm, HB3.out⟩⟩
        case measure => simp [intOf]; omega
    · have e : L.drop i = [] := List.drop_eq_nil_of_le (by rw [HN.out]; omega)
      have HE := Lib.hid (show (0 : Int) = r from by rw [← HK.out.1, e]; rfl)
      clear hw1 e
      go_wp2_with fail
      exact bodyPost_ret (v := .int .i64 0) (by simp [results, Try.results19, go_sem]) rfl ⟨by rw [HE.out], HBW.out⟩
set_option maxHeartbeats 1000000 in
theorem call13_nil (w : World) : Calls Try.prog 18 #[.pointer none] w fun e w' => e = .returned (.slice none 0 0) ∧ w' = w := by
  go_enter Try.func18, Try.ntmps18
  go_wp2_with fail
  exact bodyPost_ret (v := .slice none 0 0) (by simp [results, Try.results18, go_sem]) rfl ⟨rfl, rfl⟩
set_option maxHeartbeats 1000000 in
theorem call13_any (p : Nat) (L : List Tm) (F : Nat → Prop) (w : World) (h : CkL w p L F) (hl : L.length ≤ 1000) : Calls Try.prog 18 #[.pointer (some ⟨p, 0, none⟩)] w fun e w' => ∃ v, e = .returned v ∧ OwnN w' w.heap.size v (L.map Tm.nm) ∧ Below w.heap.size w w' := by
  obtain ⟨v, hr, ho, -, -⟩ := h
  obtain ⟨ad, c, rfl⟩ := ho.form2
  obtain ⟨n, hn⟩ : ∃ n, L.length = n := ⟨_, rfl⟩
  have HO := Lib.hid ho
  have c0 := hr.cell 0 rfl
  rw [hn] at HO c0 hl
  have HN := Lib.hid hn
  have HK0 := Lib.hid (And.intro (OwnL.nil encN 31 w w.heap.size) (Below.refl w.heap.size w))
  clear hr ho hn
  go_enter Try.func18, Try.ntmps18
  go_wp2_with fail
  go_loopw [3, 13] (fun l v wx => ∃ (i : Nat) (tv : Value), i ≤ n ∧ v = .int .i64 i ∧ tv = l ∧ Hid (OwnN wx w.heap.size tv ((L.take i).map Tm.nm) ∧ Below w.heap.size w wx)) (fun _ v _ => n - (intOf v).toNat)
  case atStart => exact ⟨0, _, Nat.zero_le _, rfl, rfl, HK0⟩
  case round =>
    obtain ⟨i, tv, hi, rfl, rfl, HK⟩ := hrel
    clear HK0
    by_cases hlt : i < n
    · have hL : i < L.length := by rw [HN.out]; exact hlt
      obtain ⟨g, c', hv, -, hg, -⟩ := HO.out.some_ (by omega)
      simp only [Value.slice.injEq] at hv
      obtain ⟨rfl, -, rfl⟩ := hv
      obtain ⟨x0, x1, x2⟩ := OwnT.get (HO.out.below HK.out.2) i hL
      have HT := Lib.hid (show (L.take (i + 1)).map Tm.nm = (L.take i).map Tm.nm ++ [⟨L[i].k, L[i].n⟩] from by rw [take_one L i hL, List.map_append]; rfl)
      have hlen : ((L.take i).map Tm.nm).length ≤ 1000 := by rw [List.length_map, List.length_take]; omega
      generalize L[i] = y at *
      obtain ⟨yk, yn, yl⟩ := y
      have hsz := HK.out.2.size
      have HOT := Lib.hid (HK.out.1.alloc (.cells #[.int .i64 yk, .int .i64 yn, .int .i64 yl] 54))
      have HB2 := Lib.hid (HK.out.2.alloc HK.out.2.size (.cells #[.int .i64 yk, .int .i64 yn, .int .i64 yl] 54))
      clear HK
      go_wp2_with (at_builtin; refine wpList_append_one encN 31 40 Try.underlying40 infoN rfl (by decide) _ rfl (.tmp 17) (.tmp 20) rfl w.heap.size tv _ rfl (HOT.out.alloc _) (wr.heap.size + 1) 1 rfl ⟨yk, yn⟩ (AtL.made encN 31 _ (wr.heap.size + 1) ⟨yk, yn⟩ _ rfl (by simp)) (by omega) (by simp; omega) ?_; intro v2 w3 hown hgr hwh)
      have HK2 := Lib.hid (And.intro hown (HOT.out.appended HB2.out (Nat.le_refl _) HB2.out.size (grown_trans (World.grownBy_alloc _ _ _) hgr)))
      clear hown hgr hwh
      go_roundw
      case rel => exact ⟨i + 1, v2, by omega, rfl, rfl, Lib.hid ⟨by rw [HT.out]; exact HK2.out.1, HK2.out.2⟩⟩
      case measure => simp [intOf]; omega
    · have e : L.take i = L := List.take_of_length_le (by rw [HN.out]; omega)
      rw [e] at HK
      clear e
      go_wp2_with fail
      exact bodyPost_ret (v := tv) (by simp [results, Try.results18, go_sem]) rfl ⟨tv, rfl, HK.out.1, HK.out.2⟩
end Go.Proofs.Ytchhaolgmdhnmaa
