/-
The document's queue: Drop.
-/
import Derived.Test.YtliamhphpnifaaaTxqRefP
namespace Go.Proofs.Ytliamhphpnifaaa
open Go.RowKit
set_option maxRecDepth 20000
theorem off_next (k : Int) (L : List Ent) (i : Nat) (hi : i < L.length) : offK [k] (L.take (i + 1)) = offK [k] (L.take i) ++ if L[i].key = k then [] else [L[i]] := by
  unfold offK
  rw [List.take_succ_eq_append_getElem hi, List.filter_append, List.filter_cons, List.filter_nil]
  congr 1
  by_cases h : L[i].key = k <;> simp [h]
theorem own_from {W : World} {B : Nat} {ad : Option Addr} {n c : Nat} {M : List Ent} (ho : OwnL encE 43 W B (.slice ad n c) M) : ∀ q, ad = some q → B ≤ q.block := fun q e => by
  rcases ho.2 with ⟨h0, _⟩ | ⟨g', cap', cur, hv, hb, _⟩
  · simp only [Value.slice.injEq] at h0
    rw [h0.1] at e
    cases e
  · simp only [Value.slice.injEq] at hv
    rw [hv.1] at e
    cases e
    exact hb
set_option maxHeartbeats 2000000 in
theorem rdrop_any (k : Int) (p : Nat) (L : List Ent) (F : Nat → Prop) (w : World) (h : RqL w p L F) (hl : L.length ≤ 1000) :
    Calls Try.prog 14 #[.pointer (some ⟨p, 0, none⟩), .int .i64 k] w (RqTo w p F (cntK [k] L : Nat) (offK [k] L)) := by
  have HQ := Lib.hid h
  obtain ⟨n, hn⟩ : ∃ n, n = L.length := ⟨_, rfl⟩
  have HN := Lib.hid hn
  have HNL := Lib.hid hl
  have HOL := Lib.hid (off_len [k] L)
  rw [← hn] at hl
  have HO0 := Lib.hid (And.intro (OwnL.lit encE 43 w w.heap.size [] [] rfl (Nat.le_refl _) (by simp) 0 rfl) ((Below.refl w.heap.size w).alloc (Nat.le_refl _) (.cells #[] 43)))
  clear h hn
  go_enter Try.func14, Try.ntmps14
  go_wp2_with fail
  go_loopw [5, 6] (fun ov iv wx => ∃ (i : Nat) (t2 : Value), i ≤ n ∧ iv = .int .i64 i ∧ t2 = ov ∧ Hid (OwnL encE 43 wx w.heap.size t2 (offK [k] (L.take i)) ∧ Below w.heap.size w wx)) (fun _ iv _ => n - (intOf iv).toNat)
  case atStart => exact ⟨0, _, Nat.zero_le _, rfl, rfl, HO0⟩
  case round =>
    obtain ⟨i, t2, hi, rfl, rfl, HJ⟩ := hrel
    clear HO0
    have hq := HQ.out.below HJ.out.2
    obtain ⟨ad, cc, hr, -, hA, -, hF⟩ := hq
    have c0 := hr.cell 0 rfl
    rw [← HN.out] at c0
    have HA := Lib.hid hA
    have HR := Lib.hid hr
    have HFF := Lib.hid hF
    clear hr hA hF
    have HZ2 := Lib.hid (show wrap64 ((i : Int) + 1) = (i : Int) + 1 from IntWalk.wrap64_in _ (by omega))
    by_cases hlt2 : i < n
    · have hL : i < L.length := by rw [← HN.out]; exact hlt2
      obtain ⟨g, o, rfl, -⟩ := HA.out.some_ (by omega)
      obtain ⟨e0, e1, e2⟩ := HA.out.ent i hL
      have HX := Lib.hid (off_next k L i hL)
      have HLE := Lib.hid (show (offK [k] (L.take i)).length ≤ 10000 from by
        have h2 : (offK [k] (L.take i)).length ≤ i := Nat.le_trans (List.length_filter_le _ _) (by rw [List.length_take]; omega)
        omega)
      generalize L[i] = e at *
      obtain ⟨x0, x1, x2⟩ := e
      simp only at e0 e1 e2 HX
      by_cases hq : x1 = k
      · have dq : (x1 == k) = true := beq_iff_eq.2 hq
        rw [if_pos hq, List.append_nil] at HX
        clear hq
        go_wp2_with fail
        go_roundw
        case rel => exact ⟨i + 1, _, by omega, by (try rw [HZ2.out]); rfl, rfl, Lib.hid ⟨by rw [HX.out]; exact HJ.out.1, HJ.out.2⟩⟩
        case measure =>
          try rw [HZ2.out]
          simp [intOf]
          omega
      · have dq : (x1 == k) = false := beq_eq_false_iff_ne.2 hq
        rw [if_neg hq] at HX
        clear hq
        go_wp2_with (at_builtin; refine wpList_append_one encE 43 28 Try.underlying28 infoE16 rfl (by decide) _ rfl (.tmp 28) (.tmp 36) rfl w.heap.size _ _ rfl (OwnL.alloc HJ.out.1 _) wr.heap.size 1 rfl ⟨x0, x1, x2⟩ (AtL.made encE 43 wr wr.heap.size ⟨x0, x1, x2⟩ _ rfl rfl) (by have := HLE.out; omega) (by have := HJ.out.2.size; simp; omega) ?_; intro v2 w3 hown hgr hwh)
        have HE := Lib.hid (And.intro hown (OwnL.appended (OwnL.alloc HJ.out.1 (.cells #[.int .i64 x0, .int .i64 x1, .string x2] 43)) (HJ.out.2.alloc HJ.out.2.size _) (Nat.le_refl _) (by have := HJ.out.2.size; simp; omega) hgr))
        clear hown hgr hwh
        go_roundw
        case rel => exact ⟨i + 1, _, by omega, by (try rw [HZ2.out]); rfl, rfl, Lib.hid ⟨by rw [HX.out]; exact HE.out.1, HE.out.2⟩⟩
        case measure =>
          try rw [HZ2.out]
          simp [intOf]
          omega
    · have e : L.take i = L := List.take_of_length_le (by have := HN.out; omega)
      have hj := HJ.out
      rw [e] at hj
      obtain ⟨ad2, c2, rfl, -⟩ := hj.1.see
      have HE := Lib.hid (RqL.store HR.out (Nat.le_refl _) (HQ.out.mem p (by obtain ⟨_, _, _, _, _, _, rfl⟩ := HQ.out; exact Or.inl rfl)) hj.2 hj.1)
      have HG := Lib.hid (own_from hj.1)
      have f0 := (HR.out.get 0 rfl).free
      have hz : wrap64 ((n : Int) - ((offK [k] L).length : Nat)) = ((cntK [k] L : Nat) : Int) := by
        have h1 := HOL.out
        have h2 := HN.out
        rw [IntWalk.wrap64_in _ (by omega)]
        omega
      generalize cntK [k] L = q at *
      obtain ⟨m, hm⟩ : ∃ m, m = (offK [k] L).length := ⟨_, rfl⟩
      rw [← hm] at hz HE
      have HMM := Lib.hid hm
      rw [← hm]
      have HP := Lib.hid (show ∀ x, x = p → F x from by
        obtain ⟨_, _, _, _, _, _, hF⟩ := HQ.out
        intro x hx
        rw [hF]
        exact Or.inl hx)
      clear e hj hm HJ
      go_wp2_with fail
      exact bodyPost_ret (v := .int .i64 q) (by simp [results, Try.results14, go_sem, hz]) rfl ⟨_, rfl, HE.out.1, HE.out.2.mono fun x hx => HP.out x hx, fun x hx => by
        rcases hx with e | ⟨a, e, e2⟩
        · exact Or.inl (HP.out x e)
        · exact Or.inr (e2 ▸ HG.out a e)⟩
end Go.Proofs.Ytliamhphpnifaaa
