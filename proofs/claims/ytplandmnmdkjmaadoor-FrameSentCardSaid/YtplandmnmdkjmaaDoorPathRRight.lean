/-
The document's own Right of paths.
-/
import Derived.Test.YtplandmnmdkjmaaDoorPathBase
import Derived.Lib.SmallJoins
import Derived.Lib.ItoaNum
import Derived.BigRegion
import Derived.IntWalk
import Derived.Lib.QuietBelow
import Derived.BigQuiet
import Derived.Deep.QuietTactic
import Derived.Lib.IndexBytes
namespace Go.Proofs.YtplandmnmdkjmaaDoor
open Go.RowKit Go.Sort
set_option maxRecDepth 20000
theorem ord_viol (L : List Ent) (k : Nat) (h3 : 3 ≤ k) (hk : k < L.length) (h1 : L[k].2.2 = true) (h0 : (L[k - 1]'(by omega)).2.2 = false) : ordD (L.drop 2) = false := by
  cases hq : ordD (L.drop 2)
  · rfl
  · exfalso
    have := (ord_iff _).1 hq (k - 3) (by rw [List.length_drop]; omega) (by
      rw [List.getElem_drop]
      have e : 2 + (k - 3 + 1) = k := by omega
      simp only [e]; exact h1)
    rw [List.getElem_drop] at this
    have e : 2 + (k - 3) = k - 1 := by omega
    simp only [e] at this
    rw [h0] at this
    cases this
theorem ord_fine (L : List Ent) (h : ∀ j, 3 ≤ j → ∀ hj : j < L.length, L[j].2.2 = true → (L[j - 1]'(by omega)).2.2 = true) : ordD (L.drop 2) = true := by
  rw [ord_iff]
  intro i hi hx
  rw [List.getElem_drop] at hx ⊢
  have hl : 2 + (i + 1) < L.length := by rw [List.length_drop] at hi; omega
  exact h (2 + (i + 1)) (by omega) hl hx
set_option maxHeartbeats 1000000 in
theorem rordered_any (a : Option Addr) (cap : Nat) (L : List Ent) (w : World) (hL : L.length ≤ 1000) (hE : EntsAt w a cap L) :
    Calls Tryd.prog 52 #[.slice a L.length cap] w fun e w' => e = .returned (.bool (ordD (L.drop 2))) ∧ w' = w := by
  have HE := Lib.hid hE
  have HN := Lib.hid (ord_viol L)
  have HY := Lib.hid (ord_fine L)
  obtain ⟨R, hR⟩ : ∃ R, R = ordD (L.drop 2) := ⟨_, rfl⟩
  rw [← hR] at HN HY ⊢
  clear hE hR
  go_enter Tryd.func52, Tryd.ntmps52
  go_wp2
  go_loopw [3] (fun i wx => ∃ k : Nat, 3 ≤ k ∧ i = .int .i64 k ∧ Hid (∀ j, 3 ≤ j → ∀ hj : j < L.length, j < k → L[j].2.2 = true → (L[j - 1]'(by omega)).2.2 = true) ∧ wx = w) (fun i _ => L.length - (intOf i).toNat)
  case atStart => exact ⟨3, by omega, rfl, Lib.hid (fun j h3 hj hk => by omega), rfl⟩
  case round =>
    obtain ⟨k, hk, rfl, HR, rfl⟩ := hrel
    by_cases hlt : k < L.length
    · have dk : decide ((k : Int) < (L.length : Int)) = true := decide_eq_true (by omega)
      obtain ⟨g, o, rfl, hg, c0, c1, c2⟩ := HE.out.at_ k hlt
      obtain ⟨g', o', ha, -, -, -, d2⟩ := HE.out.at_ (k - 1) (by omega)
      simp only [Option.some.injEq, Addr.mk.injEq, and_true] at ha
      obtain ⟨rfl, rfl⟩ := ha
      clear c0 c1
      obtain ⟨p, hp⟩ : ∃ p, k = p + 1 := ⟨k - 1, by omega⟩
      subst hp
      have HD := Lib.hid (show L[p + 1].2.2 = L[p + 1].2.2 ∧ (L[p + 1 - 1]'(by omega)).2.2 = (L[p + 1 - 1]'(by omega)).2.2 from ⟨rfl, rfl⟩)
      simp only [Nat.add_sub_cancel] at d2 HD
      generalize h1 : L[p + 1].2.2 = m1 at *
      generalize h0 : (L[p]'(by omega)).2.2 = m0 at *
      have H1 := Lib.hid h1
      have H0 := Lib.hid h0
      clear h1 h0 HD
      have hp1 : (p : Int) + 1 - 1 = (p : Int) := by omega
      have hpl : p < L.length := by omega
      cases m1
      · go_wp2
        go_roundw
        case rel =>
          refine ⟨p + 1 + 1, by omega, by go_num, Lib.hid (fun j h3 hj hjk hx => ?_), by trivial⟩
          by_cases hjk2 : j = p + 1
          · subst hjk2; rw [H1.out] at hx; cases hx
          · exact HR.out j h3 hj (by omega) hx
        case measure => simp [intOf]; omega
      · cases m0
        · have hf := HN.out (p + 1) hk hlt H1.out H0.out
          subst hf
          go_wp2
          go_ret
          exact ⟨rfl, rfl⟩
        · go_wp2
          go_roundw
          case rel =>
            refine ⟨p + 1 + 1, by omega, by go_num, Lib.hid (fun j h3 hj hjk hx => ?_), by trivial⟩
            by_cases hjk2 : j = p + 1
            · subst hjk2; exact H0.out
            · exact HR.out j h3 hj (by omega) hx
          case measure => simp [intOf]; omega
    · have dk : decide ((k : Int) < (L.length : Int)) = false := decide_eq_false (by omega)
      have hf := HY.out (fun j h3 hj hx => HR.out j h3 hj (by omega) hx)
      subst hf
      go_wp2
      go_ret
      exact ⟨rfl, rfl⟩
set_option maxHeartbeats 1000000 in
theorem rpright_any (a : Option Addr) (cap : Nat) (L : List Ent) (w : World) (hL : L.length ≤ 1000) (hE : EntsAt w a cap L) :
    Calls Tryd.prog 24 #[.agg #[.slice a L.length cap]] w fun e w' => e = .returned (.bool (rightP L)) ∧ Below w.heap.size w w' := by
  have HB0 := Lib.hid ((Below.refl _ w).alloc (Nat.le_refl _) (.cells #[.slice a L.length cap] 35))
  have HE := Lib.hid hE
  have HR := Lib.hid (fun b n W => rcright_any b n W)
  have HORD := Lib.hid (fun W (h : Below w.heap.size w W) => rordered_any a cap L W hL (hE.below h))
  have HN := Lib.hid (show ∀ k (h : k < L.length), rightD L[k].1 L[k].2.1 = false → rightP L = false from fun k h hx => by
    unfold rightP
    have : (L.all fun e => rightD e.1 e.2.1) = false := by
      rw [List.all_eq_false]
      exact ⟨L[k], List.getElem_mem h, by rw [hx]; simp⟩
    rw [this]
    rfl)
  have HY := Lib.hid (show (∀ k (h : k < L.length), rightD L[k].1 L[k].2.1 = true) → rightP L = (decide (2 ≤ L.length) && decide (L.length ≤ 10) && ordD (L.drop 2)) from fun hx => by
    unfold rightP
    have : (L.all fun e => rightD e.1 e.2.1) = true := by
      rw [List.all_eq_true]
      intro x hm
      obtain ⟨i, hi, rfl⟩ := List.getElem_of_mem hm
      exact hx i hi
    rw [this, Bool.true_and])
  obtain ⟨R, hR⟩ : ∃ R, R = rightP L := ⟨_, rfl⟩
  rw [← hR] at HN HY ⊢
  clear hE hR
  go_enter Tryd.func24, Tryd.ntmps24
  go_wp2
  go_loopw [3] (fun i wx => ∃ k : Nat, k ≤ L.length ∧ i = .int .i64 k ∧ Hid ((∀ j (hj : j < k), ∀ hl : j < L.length, rightD L[j].1 L[j].2.1 = true) ∧ Below w.heap.size w wx ∧ KeepAt wx w.heap.size 0 (.slice a L.length cap))) (fun i _ => L.length - (intOf i).toNat)
  case atStart => exact ⟨0, by omega, rfl, Lib.hid ⟨fun j hj => by omega, HB0.out, World.cell?_alloc_at _ _ _ _ rfl, World.frozen?_alloc_at _ _ _ _ rfl, by simp⟩⟩
  case round =>
    obtain ⟨k, hk, rfl, HK⟩ := hrel
    have kc := HK.out.2.2.cell
    have kl := HK.out.2.2.lt
    by_cases hlt : k < L.length
    · have dk : decide ((k : Int) < (L.length : Int)) = true := decide_eq_true (by omega)
      obtain ⟨g, o, rfl, hg, c0, c1, c2⟩ := (HE.out.below HK.out.2.1).at_ k hlt
      have HD := Lib.hid (show ∀ b, rightD L[k].1 L[k].2.1 = b → rightD L[k].1 L[k].2.1 = b from fun b h => h)
      have HN2 := Lib.hid (HN.out k hlt)
      generalize hd : L[k] = d at *
      obtain ⟨db, dn, dm⟩ := d
      simp only at c0 c1 c2 HD HN2
      have HDD := Lib.hid hd
      clear hd HD
      have HRR := Lib.hid (HR.out db dn)
      cases hr : rightD db dn
      · have hf := HN2.out hr
        subst hf
        rw [hr] at HRR
        go_wp2_with (go_at_call 51; (with_reducible refine (HRR.out _).mono ?_); rintro e w1 ⟨rfl, hb⟩; have HB := Lib.hid (HK.out.2.1.trans (hb.mono HK.out.2.1.size)); clear hb)
        go_ret
        exact ⟨rfl, HB.out⟩
      · rw [hr] at HRR
        go_wp2_with (go_at_call 51; (with_reducible refine (HRR.out _).mono ?_); rintro e w1 ⟨rfl, hb⟩; have HB := Lib.hid (And.intro (HK.out.2.1.trans (hb.mono HK.out.2.1.size)) (HK.out.2.2.below hb)); clear hb)
        go_roundw
        case rel =>
          refine ⟨k + 1, by omega, by go_num, Lib.hid ⟨fun j hj hl => ?_, HB.out.1, HB.out.2⟩⟩
          by_cases hjk : j = k
          · subst hjk; rw [HDD.out]; exact hr
          · exact HK.out.1 j (by omega) hl
        case measure => simp [intOf]; omega
    · obtain rfl : k = L.length := by omega
      have dk : decide ((L.length : Int) < (L.length : Int)) = false := decide_eq_false (by omega)
      have hf := HY.out (fun j hj => HK.out.1 j hj hj)
      have HO := Lib.hid (HORD.out wr HK.out.2.1)
      generalize ordD (L.drop 2) = O at *
      by_cases h2 : 2 ≤ L.length
      · have d2 : decide ((2 : Int) ≤ (L.length : Int)) = true := decide_eq_true (by omega)
        by_cases h10 : L.length ≤ 10
        · have d10 : decide ((L.length : Int) ≤ 10) = true := decide_eq_true (by omega)
          have hf2 : R = O := by rw [hf, decide_eq_true h2, decide_eq_true h10]; simp
          clear hf
          subst hf2
          go_wp2_with (go_at_call 52; (with_reducible refine HO.out.mono ?_); rintro e w1 ⟨rfl, rfl⟩)
          go_ret
          exact ⟨rfl, HK.out.2.1⟩
        · have d10 : decide ((L.length : Int) ≤ 10) = false := decide_eq_false (by omega)
          have hf2 : R = false := by rw [hf, decide_eq_true h2, decide_eq_false h10]; simp
          clear hf
          subst hf2
          go_wp2_with fail
          go_ret
          exact ⟨rfl, HK.out.2.1⟩
      · have d2 : decide ((2 : Int) ≤ (L.length : Int)) = false := decide_eq_false (by omega)
        have hf2 : R = false := by rw [hf, decide_eq_false h2]; simp
        clear hf
        subst hf2
        go_wp2_with fail
        go_ret
        exact ⟨rfl, HK.out.2.1⟩
end Go.Proofs.YtplandmnmdkjmaaDoor
