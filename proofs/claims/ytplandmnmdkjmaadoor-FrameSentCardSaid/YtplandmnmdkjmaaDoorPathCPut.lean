/-
The landed code's Put of paths.
-/
import Derived.Test.YtplandmnmdkjmaaDoorCallCPut
import Derived.Test.YtplandmnmdkjmaaDoorPathCAll
import Derived.Lib.SmallJoins
import Derived.Lib.ItoaNum
import Derived.Lib.QuietBelow
import Derived.Lib.IndexBytes
import Derived.IntWalk
namespace Go.Proofs.YtplandmnmdkjmaaDoor
open Go.RowKit Go.Sort
set_option maxRecDepth 20000
/-- the bytes of the first k entries of L -/
def bytesP (L : List Ent) (k : Nat) : List UInt8 := (List.range k).flatMap fun i => match L[i]? with | some e => putD e.1.data.toList e.2.1.toNat e.2.2 (decide (i + 1 = L.length)) | none => []
theorem bytesP_next (L : List Ent) (k : Nat) (h : k < L.length) : bytesP L (k + 1) = bytesP L k ++ putD L[k].1.data.toList L[k].2.1.toNat L[k].2.2 (decide (k + 1 = L.length)) := by
  unfold bytesP
  rw [List.range_succ, List.flatMap_append, List.flatMap_singleton, List.getElem?_eq_getElem h]
/-- what Put answers -/
def pputE (L : List Ent) : Value := if rightP L then .tuple #[.string ⟨(bytesP L L.length).toArray⟩, .int .i64 0] else .tuple #[.string ⟨#[]⟩, .int .i64 11]
theorem bytesP_len' (L : List Ent) : ∀ k, k ≤ L.length → (bytesP L k).length = 7 * k
  | 0, _ => rfl
  | k + 1, h => by
    rw [bytesP_next L k (by omega), List.length_append, bytesP_len' L k (by omega), put_len]
    omega
set_option maxHeartbeats 2000000 in
theorem pput_any (tb fb : ByteArray) (tn fn : Int) (tm fm : Bool) (a : Option Addr) (cap : Nat) (D : List Ent) (w : World) (hD : D.length ≤ 1000) (hE : EntsAt w a cap D) :
    Calls Tryd.prog 29 #[.agg #[.string tb, .int .i64 tn, .string fb, .int .i64 fn, .bool tm, .bool fm, .slice a D.length cap]] w fun e w' => e = .returned (pputE ((tb, tn, tm) :: (fb, fn, fm) :: D)) ∧ Below w.heap.size w w' := by
  have HB0 := Lib.hid ((Below.refl _ w).alloc (Nat.le_refl _) (.cells #[.string tb, .int .i64 tn, .string fb, .int .i64 fn, .bool tm, .bool fm, .slice a D.length cap] 26))
  have HP0 := Lib.hid (P7.new w w.heap.size rfl (.string tb) (.int .i64 tn) (.string fb) (.int .i64 fn) (.bool tm) (.bool fm) (.slice a D.length cap) 26)
  have HRI := Lib.hid (fun W (h : Below w.heap.size w W) => pright_any tb fb tn fn tm fm a cap D W hD (hE.below h))
  have HAL := Lib.hid (fun W (h : Below w.heap.size w W) => all_any tb fb tn fn tm fm a cap D W hD (hE.below h))
  obtain ⟨L, hL⟩ : ∃ L, L = (tb, tn, tm) :: (fb, fn, fm) :: D := ⟨_, rfl⟩
  rw [← hL] at HRI HAL ⊢
  clear hE hL
  cases hr : rightP L
  · have HV := Lib.hid (show pputE L = .tuple #[.string ⟨#[]⟩, .int .i64 11] from by unfold pputE; rw [if_neg (by rw [hr]; simp)])
    rw [HV.out]
    rw [hr] at HRI
    go_enter Tryd.func29, Tryd.ntmps29
    go_wp2_with (go_at_call 46; (with_reducible refine (HRI.out _ HB0.out).mono ?_); rintro e w1 ⟨rfl, hb⟩; have HB := Lib.hid (HB0.out.trans (hb.mono HB0.out.size)); clear hb)
    exact bodyPost_ret (v := .tuple #[.string ⟨#[]⟩, .int .i64 11]) (by simp [results, Tryd.results29, go_sem]) rfl ⟨rfl, HB.out⟩
  · have HV := Lib.hid (show pputE L = .tuple #[.string ⟨(bytesP L L.length).toArray⟩, .int .i64 0] from by unfold pputE; rw [if_pos hr])
    rw [HV.out]
    rw [hr] at HRI
    have hll : 2 ≤ L.length ∧ L.length ≤ 10 ∧ ∀ e ∈ L, rightD e.1 e.2.1 = true := by
      unfold rightP at hr
      simp only [Bool.and_eq_true, decide_eq_true_eq] at hr
      exact ⟨hr.1.1.2, hr.1.2, List.all_eq_true.1 hr.1.1.1⟩
    obtain ⟨hl2, hl10, hall⟩ := hll
    have HCP := Lib.hid (show ∀ k (h : k < L.length) la W, Calls Tryd.prog 56 #[.agg #[.string L[k].1, .int .i64 L[k].2.1], .bool L[k].2.2, .bool la] W fun e w' => e = .returned (.tuple #[.string ⟨(putD L[k].1.data.toList L[k].2.1.toNat L[k].2.2 la).toArray⟩, .int .i64 0]) ∧ Below W.heap.size W w' from fun k h la W => by
      have hrk := hall _ (List.getElem_mem h)
      have q := cput_ok L[k].1 L[k].2.1 L[k].2.2 la W (by obtain ⟨_, h2, _⟩ := right_facts _ _ hrk; omega)
      unfold putE at q
      rw [if_pos hrk] at q
      exact q)
    have HN := Lib.hid (bytesP_next L)
    have HLN := Lib.hid (bytesP_len' L)
    obtain ⟨R, hR⟩ : ∃ R, R = bytesP L L.length := ⟨_, rfl⟩
    rw [← hR]
    have HRR := Lib.hid hR
    clear hall hr hR HV
    obtain ⟨p0, q0, pl⟩ := HP0.out.k0
    go_enter Tryd.func29, Tryd.ntmps29
    go_wp2_with (first
      | (go_at_call 46; (with_reducible refine (HRI.out _ HB0.out).mono ?_); rintro e w1 ⟨rfl, hb⟩; have HB := Lib.hid (HB0.out.trans (hb.mono HB0.out.size)); have HP1 := Lib.hid (HP0.out.below hb); clear hb p0 q0 pl; obtain ⟨⟨p0, q0, pl⟩, ⟨p1, q1, -⟩, ⟨p2, q2, -⟩, ⟨p3, q3, -⟩, ⟨p4, q4, -⟩, ⟨p5, q5, -⟩, ⟨p6, q6, -⟩⟩ := HP1.out)
      | (go_at_call 43; (with_reducible refine (HAL.out _ HB.out).mono ?_); rintro e w2 ⟨v, rfl, hv, hb⟩; obtain ⟨va, vc, hvv, hEE⟩ := hv.ents; subst hvv; have HE := Lib.hid hEE; replace HB := Lib.hid (HB.out.trans (hb.mono HB.out.size)); clear hb hv hEE))
    go_loopw [4, 17] (fun s i wx => ∃ k : Nat, k ≤ L.length ∧ i = .int .i64 k ∧ ∃ S : List UInt8, s = .string ⟨S.toArray⟩ ∧ Hid (S = bytesP L k ∧ Below w.heap.size w wx ∧ EntsAt wx va vc L)) (fun _ i _ => L.length - (intOf i).toNat)
    case atStart => exact ⟨0, by omega, rfl, [], rfl, Lib.hid ⟨rfl, HB.out, HE.out⟩⟩
    case round =>
      obtain ⟨k, hk, rfl, S, rfl, HQ⟩ := hrel
      clear HE HB
      by_cases hlt : k < L.length
      · have dk : decide ((k : Int) < (L.length : Int)) = true := decide_eq_true (by omega)
        obtain ⟨g, o, rfl, hg, c0, c1, c2⟩ := HQ.out.2.2.at_ k hlt
        have el : ((k : Int) == (L.length : Int) - 1) = decide (k + 1 = L.length) := by rw [Bool.eq_iff_iff, beq_iff_eq, decide_eq_true_eq]; omega
        have hP := HCP.out k hlt (decide (k + 1 = L.length))
        have hN := HN.out k hlt
        have hSl : S.length ≤ 70 := by rw [HQ.out.1, HLN.out k hk]; omega
        generalize decide (k + 1 = L.length) = la at *
        generalize L[k] = d at *
        obtain ⟨db, dn, dm⟩ := d
        simp only at c0 c1 c2 hP hN
        generalize hput : putD db.data.toList dn.toNat dm la = P at *
        have hPl : P.length = 7 := by rw [← hput]; exact put_len _ _ _ _
        have b1 := fun (w : World) => run_string_add_sum (P := Tryd.prog) (w := w) ⟨S.toArray⟩ ⟨P.toArray⟩ (by show S.toArray.size + P.toArray.size ≤ _; simp; omega)
        rw [show ((⟨S.toArray⟩ : ByteArray) ++ ⟨P.toArray⟩) = ⟨(S ++ P).toArray⟩ from bytes_ext' (by simp [ByteArray.data_append])] at b1
        have HPP := Lib.hid hP
        have HN2 := Lib.hid hN
        obtain ⟨S', hS'⟩ : ∃ S', S' = S ++ P := ⟨_, rfl⟩
        rw [← hS'] at b1
        have HS' := Lib.hid hS'
        have HB := Lib.hid (HQ.out.2.1.alloc HQ.out.2.1.size (.cells #[.string db, .int .i64 dn, .bool dm] 86))
        have HE := Lib.hid (HQ.out.2.2.alloc (.cells #[.string db, .int .i64 dn, .bool dm] 86))
        clear hP hN hput hS' hPl
        go_wp2_with (go_at_call 56; (with_reducible refine (HPP.out _).mono ?_); rintro e w3 ⟨rfl, hb⟩; replace HB := Lib.hid (HB.out.trans (hb.mono HB.out.size)); replace HE := Lib.hid (HE.out.below hb); clear hb)
        go_roundw
        case rel => exact ⟨k + 1, by omega, by go_num, S', rfl, Lib.hid ⟨by rw [HS'.out, HN2.out, ← HQ.out.1], HB.out, HE.out⟩⟩
        case measure => simp [intOf]; omega
      · obtain rfl : k = L.length := by omega
        have dk : decide ((L.length : Int) < (L.length : Int)) = false := decide_eq_false (by omega)
        have hS : S = R := by rw [HRR.out, HQ.out.1]
        subst hS
        go_wp2
        exact bodyPost_ret (v := .tuple #[.string ⟨S.toArray⟩, .int .i64 0]) (by simp [results, Tryd.results29, go_sem]) rfl ⟨rfl, HQ.out.2.1⟩
end Go.Proofs.YtplandmnmdkjmaaDoor
