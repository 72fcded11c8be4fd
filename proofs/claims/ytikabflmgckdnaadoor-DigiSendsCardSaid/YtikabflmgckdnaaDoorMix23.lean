/-
The landed code's Put of paths.
A right frame's bytes, as plain facts.
Walk of the statement PathBytes.
-/
import Derived.Test.YtikabflmgckdnaaDoorMix07
import Derived.Test.YtikabflmgckdnaaDoorMix04
import Derived.Lib.SmallJoins
import Derived.Lib.ItoaNum
import Derived.Lib.QuietBelow
import Derived.Lib.IndexBytes
import Derived.IntWalk
import Derived.Test.YtikabflmgckdnaaDoorCtlCPut
import Derived.Test.YtikabflmgckdnaaDoorPathGetP
import Derived.WalkKit
import Derived.Scope
import Derived.WalkMore
import Derived.Lib.LazyBuf
import Derived.BigRegion
import Derived.OrdersHeld
import Derived.Deep.RegionHeld
import Derived.BigQuiet
import Derived.Deep.QuietTactic
namespace Go.Proofs.YtikabflmgckdnaaDoor
open Go.RowKit Go.Sort
set_option maxRecDepth 20000
/-- the bytes of the first k entries of L -/
def bytesP (L : List Ent) (k : Nat) : List UInt8 := (List.range k).flatMap fun i => match L[i]? with | some e => putD e.1.data.toList e.2.1.toNat e.2.2 (decide (i + 1 = L.length)) | none => []
theorem bytesP_next (L : List Ent) (k : Nat) (h : k < L.length) : bytesP L (k + 1) = bytesP L k ++ putD L[k].1.data.toList L[k].2.1.toNat L[k].2.2 (decide (k + 1 = L.length)) := by
  unfold bytesP
  rw [List.range_succ, List.flatMap_append, List.flatMap_singleton, List.getElem?_eq_getElem h]
/-- what Put answers -/
def pputE (L : List Ent) : Value := if rightP L then .tuple #[.string ⟨(bytesP L L.length).toArray⟩, .int .i64 0] else .tuple #[.string ⟨#[]⟩, .int .i64 11]
theorem bytesP_len' (L : List Ent) : ∀ k, k ≤ L.length → (bytesP L k).length = 7 * k
  | 0, _ => rfl
  | k + 1, h => by
    rw [bytesP_next L k (by omega), List.length_append, bytesP_len' L k (by omega), put_len]
    omega
set_option maxHeartbeats 2000000 in
theorem pput_any (tb fb : ByteArray) (tn fn : Int) (tm fm : Bool) (a : Option Addr) (cap : Nat) (D : List Ent) (w : World) (hD : D.length ≤ 1000) (hE : EntsAt w a cap D) :
    Calls Tryd.prog 28 #[.agg #[.string tb, .int .i64 tn, .string fb, .int .i64 fn, .bool tm, .bool fm, .slice a D.length cap]] w fun e w' => e = .returned (pputE ((tb, tn, tm) :: (fb, fn, fm) :: D)) ∧ Below w.heap.size w w' := by
  have HB0 := Lib.hid ((Below.refl _ w).alloc (Nat.le_refl _) (.cells #[.string tb, .int .i64 tn, .string fb, .int .i64 fn, .bool tm, .bool fm, .slice a D.length cap] 55))
  have HP0 := Lib.hid (P7.new w w.heap.size rfl (.string tb) (.int .i64 tn) (.string fb) (.int .i64 fn) (.bool tm) (.bool fm) (.slice a D.length cap) 55)
  have HRI := Lib.hid (fun W (h : Below w.heap.size w W) => pright_any tb fb tn fn tm fm a cap D W hD (hE.below h))
  have HAL := Lib.hid (fun W (h : Below w.heap.size w W) => all_any tb fb tn fn tm fm a cap D W hD (hE.below h))
  obtain ⟨L, hL⟩ : ∃ L, L = (tb, tn, tm) :: (fb, fn, fm) :: D := ⟨_, rfl⟩
  rw [← hL] at HRI HAL ⊢
  clear hE hL
  cases hr : rightP L
  · have HV := Lib.hid (show pputE L = .tuple #[.string ⟨#[]⟩, .int .i64 11] from by unfold pputE; rw [if_neg (by rw [hr]; simp)])
    rw [HV.out]
    rw [hr] at HRI
    go_enter Tryd.func28, Tryd.ntmps28
    go_wp2_with (go_at_call 38; (with_reducible refine (HRI.out _ HB0.out).mono ?_); rintro e w1 ⟨rfl, hb⟩; have HB := Lib.hid (HB0.out.trans (hb.mono HB0.out.size)); clear hb)
    exact bodyPost_ret (v := .tuple #[.string ⟨#[]⟩, .int .i64 11]) (by simp [results, Tryd.results28, go_sem]) rfl ⟨rfl, HB.out⟩
  · have HV := Lib.hid (show pputE L = .tuple #[.string ⟨(bytesP L L.length).toArray⟩, .int .i64 0] from by unfold pputE; rw [if_pos hr])
    rw [HV.out]
    rw [hr] at HRI
    have hll : 2 ≤ L.length ∧ L.length ≤ 10 ∧ ∀ e ∈ L, rightD e.1 e.2.1 = true := by
      unfold rightP at hr
      simp only [Bool.and_eq_true, decide_eq_true_eq] at hr
      exact ⟨hr.1.1.2, hr.1.2, List.all_eq_true.1 hr.1.1.1⟩
    obtain ⟨hl2, hl10, hall⟩ := hll
    have HCP := Lib.hid (show ∀ k (h : k < L.length) la W, Calls Tryd.prog 49 #[.agg #[.string L[k].1, .int .i64 L[k].2.1], .bool L[k].2.2, .bool la] W fun e w' => e = .returned (.tuple #[.string ⟨(putD L[k].1.data.toList L[k].2.1.toNat L[k].2.2 la).toArray⟩, .int .i64 0]) ∧ Below W.heap.size W w' from fun k h la W => by
      have hrk := hall _ (List.getElem_mem h)
      have q := cput_ok L[k].1 L[k].2.1 L[k].2.2 la W (by obtain ⟨_, h2, _⟩ := right_facts _ _ hrk; omega)
      unfold putE at q
      rw [if_pos hrk] at q
      exact q)
    have HN := Lib.hid (bytesP_next L)
    have HLN := Lib.hid (bytesP_len' L)
    obtain ⟨R, hR⟩ : ∃ R, R = bytesP L L.length := ⟨_, rfl⟩
    rw [← hR]
    have HRR := Lib.hid hR
    clear hall hr hR HV
    obtain ⟨p0, q0, pl⟩ := HP0.out.k0
    go_enter Tryd.func28, Tryd.ntmps28
    go_wp2_with (first
      | (go_at_call 38; (with_reducible refine (HRI.out _ HB0.out).mono ?_); rintro e w1 ⟨rfl, hb⟩; have HB := Lib.hid (HB0.out.trans (hb.mono HB0.out.size)); have HP1 := Lib.hid (HP0.out.below hb); clear hb p0 q0 pl; obtain ⟨⟨p0, q0, pl⟩, ⟨p1, q1, -⟩, ⟨p2, q2, -⟩, ⟨p3, q3, -⟩, ⟨p4, q4, -⟩, ⟨p5, q5, -⟩, ⟨p6, q6, -⟩⟩ := HP1.out)
      | (go_at_call 48; (with_reducible refine (HAL.out _ HB.out).mono ?_); rintro e w2 ⟨v, rfl, hv, hb⟩; obtain ⟨va, vc, hvv, hEE⟩ := hv.ents; subst hvv; have HE := Lib.hid hEE; replace HB := Lib.hid (HB.out.trans (hb.mono HB.out.size)); clear hb hv hEE))
    go_loopw [4, 17] (fun s i wx => ∃ k : Nat, k ≤ L.length ∧ i = .int .i64 k ∧ ∃ S : List UInt8, s = .string ⟨S.toArray⟩ ∧ Hid (S = bytesP L k ∧ Below w.heap.size w wx ∧ EntsAt wx va vc L)) (fun _ i _ => L.length - (intOf i).toNat)
    case atStart => exact ⟨0, by omega, rfl, [], rfl, Lib.hid ⟨rfl, HB.out, HE.out⟩⟩
    case round =>
      obtain ⟨k, hk, rfl, S, rfl, HQ⟩ := hrel
      clear HE HB
      by_cases hlt : k < L.length
      · have dk : decide ((k : Int) < (L.length : Int)) = true := decide_eq_true (by omega)
        obtain ⟨g, o, rfl, hg, c0, c1, c2⟩ := HQ.out.2.2.at_ k hlt
        have el : ((k : Int) == (L.length : Int) - 1) = decide (k + 1 = L.length) := by rw [Bool.eq_iff_iff, beq_iff_eq, decide_eq_true_eq]; omega
        have hP := HCP.out k hlt (decide (k + 1 = L.length))
        have hN := HN.out k hlt
        have hSl : S.length ≤ 70 := by rw [HQ.out.1, HLN.out k hk]; omega
        generalize decide (k + 1 = L.length) = la at *
        generalize L[k] = d at *
        obtain ⟨db, dn, dm⟩ := d
        simp only at c0 c1 c2 hP hN
        generalize hput : putD db.data.toList dn.toNat dm la = P at *
        have hPl : P.length = 7 := by rw [← hput]; exact put_len _ _ _ _
        have b1 := fun (w : World) => run_string_add_sum (P := Tryd.prog) (w := w) ⟨S.toArray⟩ ⟨P.toArray⟩ (by show S.toArray.size + P.toArray.size ≤ _; simp; omega)
        rw [show ((⟨S.toArray⟩ : ByteArray) ++ ⟨P.toArray⟩) = ⟨(S ++ P).toArray⟩ from bytes_ext' (by simp [ByteArray.data_append])] at b1
        have HPP := Lib.hid hP
        have HN2 := Lib.hid hN
        obtain ⟨S', hS'⟩ : ∃ S', S' = S ++ P := ⟨_, rfl⟩
        rw [← hS'] at b1
        have HS' := Lib.hid hS'
        have HB := Lib.hid (HQ.out.2.1.alloc HQ.out.2.1.size (.cells #[.string db, .int .i64 dn, .bool dm] 92))
        have HE := Lib.hid (HQ.out.2.2.alloc (.cells #[.string db, .int .i64 dn, .bool dm] 92))
        clear hP hN hput hS' hPl
        go_wp2_with (go_at_call 49; (with_reducible refine (HPP.out _).mono ?_); rintro e w3 ⟨rfl, hb⟩; replace HB := Lib.hid (HB.out.trans (hb.mono HB.out.size)); replace HE := Lib.hid (HE.out.below hb); clear hb)
        go_roundw
        case rel => exact ⟨k + 1, by omega, by go_num, S', rfl, Lib.hid ⟨by rw [HS'.out, HN2.out, ← HQ.out.1], HB.out, HE.out⟩⟩
        case measure => simp [intOf]; omega
      · obtain rfl : k = L.length := by omega
        have dk : decide ((L.length : Int) < (L.length : Int)) = false := decide_eq_false (by omega)
        have hS : S = R := by rw [HRR.out, HQ.out.1]
        subst hS
        go_wp2
        exact bodyPost_ret (v := .tuple #[.string ⟨S.toArray⟩, .int .i64 0]) (by simp [results, Tryd.results28, go_sem]) rfl ⟨rfl, HQ.out.2.1⟩
end Go.Proofs.YtikabflmgckdnaaDoor
namespace Go.Proofs.YtikabflmgckdnaaDoor
open Go.RowKit Go.Sort
set_option maxRecDepth 20000
/-- the number's byte -/
def pidB (k pid : Int) : List UInt8 := if pidD k then [UInt8.ofNat pid.toNat] else []
/-- a right frame's bytes -/
def bytesF (L : List Ent) (k nr ns : Int) (pf wide : Bool) (pid : Int) (info : List UInt8) : List UInt8 :=
  bytesP L L.length ++ (putB k.toNat nr.toNat ns.toNat pf wide ++ (pidB k pid ++ info))
end Go.Proofs.YtikabflmgckdnaaDoor
namespace Go.Proofs.YtikabflmgckdnaaDoor
open Go.RowKit Go.Sort
set_option maxRecDepth 20000
/-- bytes of calls from number k on, of n in all -/
def restP (n : Nat) : Nat → List Ent → List UInt8
  | _, [] => []
  | k, e :: M => putD e.1.data.toList e.2.1.toNat e.2.2 (decide (k + 1 = n)) ++ restP n (k + 1) M
theorem bytes_rest (L : List Ent) : ∀ k, k ≤ L.length → bytesP L k ++ restP L.length k (L.drop k) = bytesP L L.length := by
  intro k hk
  obtain ⟨j, hj⟩ : ∃ j, j = L.length - k := ⟨_, rfl⟩
  induction j generalizing k with
  | zero =>
    have : k = L.length := by omega
    subst this
    rw [List.drop_length, restP, List.append_nil]
  | succ j ih =>
    have hlt : k < L.length := by omega
    rw [← ih (k + 1) (by omega) (by omega), bytesP_next L k hlt, List.drop_eq_getElem_cons hlt, restP, List.append_assoc]
theorem take7 (a b : List UInt8) (h : a.length = 7) : (a ++ b).take 7 = a ∧ (a ++ b).drop 7 = b := by
  rw [← h]
  exact ⟨List.take_left, List.drop_left⟩
theorem put_len7 (e : Ent) (la : Bool) : (putD e.1.data.toList e.2.1.toNat e.2.2 la).length = 7 := put_len _ _ _ _
/-- the bytes of right entries are read as they are -/
theorem getP_put (n : Nat) (behind : List UInt8) : ∀ (M : List Ent) (acc : List Ent) (k : Nat), (∀ e ∈ M, rightD e.1 e.2.1 = true) → acc.length + M.length = n → acc.length + k = 10 → M.length ≤ k → 0 < M.length → 2 ≤ n → ordD ((acc ++ M).drop 2) = true →
    getP k acc (restP n acc.length M ++ behind) = (0, acc ++ M)
  | [], _, _, _, _, _, _, h0, _, _ => by simp at h0
  | e :: M, acc, 0, _, _, _, hk, _, _, _ => by simp at hk
  | e :: M, acc, k + 1, hr, hn, hk, hkk, _, h2, ho => by
    have he := hr e List.mem_cons_self
    have hg := get_put e.1 e.2.1 e.2.2 (decide (acc.length + 1 = n)) he
    have hlen := put_len7 e (decide (acc.length + 1 = n))
    obtain ⟨t7, d7⟩ := take7 (putD e.1.data.toList e.2.1.toNat e.2.2 (decide (acc.length + 1 = n))) (restP n (acc.length + 1) M ++ behind) hlen
    have hs : restP n acc.length (e :: M) ++ behind = putD e.1.data.toList e.2.1.toNat e.2.2 (decide (acc.length + 1 = n)) ++ (restP n (acc.length + 1) M ++ behind) := by rw [restP, List.append_assoc]
    have h7 : 7 ≤ (restP n acc.length (e :: M) ++ behind).length := by rw [hs, List.length_append, hlen]; omega
    have hent : ((⟨e.1.data.toList.toArray⟩, ((e.2.1.toNat : Nat) : Int), e.2.2) : Ent) = e := by
      obtain ⟨_, _, h3, _⟩ := right_facts e.1 e.2.1 he
      rw [show ((e.2.1.toNat : Nat) : Int) = e.2.1 from by omega]
    cases M with
    | nil =>
      have hl : acc.length + 1 = n := by simpa using hn
      rw [decide_eq_true hl] at hg t7 hs
      rw [getP_last k acc _ h7 (by rw [hs, t7]; exact hg), hent, if_neg (by omega), if_pos ho]
    | cons e' M =>
      have hl : ¬ acc.length + 1 = n := by simp at hn; omega
      rw [decide_eq_false hl] at hg t7 hs d7
      rw [getP_next k acc _ h7 (by rw [hs, t7]; exact hg), hent, hs, d7]
      have ih := getP_put n behind (e' :: M) (acc ++ [e]) k (fun x hx => hr x (List.mem_cons_of_mem _ hx)) (by simp at hn ⊢; omega) (by simp; omega) (by simp at hkk ⊢; omega) (by simp) h2 (by rw [List.append_assoc]; exact ho)
      rw [show (acc ++ [e]).length = acc.length + 1 from by simp] at ih
      rw [ih, List.append_assoc]
      try rfl
theorem right_path (L : List Ent) (h : rightP L = true) : (∀ e ∈ L, rightD e.1 e.2.1 = true) ∧ 2 ≤ L.length ∧ L.length ≤ 10 ∧ ordD (L.drop 2) = true := by
  unfold rightP at h
  simp only [Bool.and_eq_true, decide_eq_true_eq] at h
  exact ⟨List.all_eq_true.1 h.1.1.1, h.1.1.2, h.1.2, h.2⟩
theorem get_bytes (L : List Ent) (behind : List UInt8) (h : rightP L = true) : getP 10 [] (bytesP L L.length ++ behind) = (0, L) := by
  obtain ⟨h1, h2, h3, h4⟩ := right_path L h
  have k := getP_put L.length behind L [] 10 h1 (by simp) rfl h3 (by omega) h2 h4
  have e := bytes_rest L 0 (by omega)
  rw [show bytesP L 0 = [] from rfl, List.nil_append, List.drop_zero] at e
  rw [show ([] : List Ent).length = 0 from rfl, e] at k
  exact k
/-- the argument's cells, and the law's own path w -/
structure BAt (w W : World) (m : Nat) (v0 v1 v2 v3 v4 v5 v6 : Value) (wa : Option Addr) (wc : Nat) (L : List Ent) : Prop where
  box : P7 W w.heap.size v0 v1 v2 v3 v4 v5 v6
  var : KeepAt W m 0 (.slice wa L.length wc)
  ents : EntsAt W wa wc L
  bel : Below w.heap.size w W
theorem BAt.below {w W W' : World} {m : Nat} {v0 v1 v2 v3 v4 v5 v6 : Value} {wa : Option Addr} {wc : Nat} {L : List Ent} (h : BAt w W m v0 v1 v2 v3 v4 v5 v6 wa wc L) (hb : Below W.heap.size W W') : BAt w W' m v0 v1 v2 v3 v4 v5 v6 wa wc L :=
  ⟨h.box.below hb, h.var.below hb, h.ents.below hb, h.bel.trans (hb.mono h.bel.size)⟩
theorem BAt.alloc {w W : World} {m : Nat} {v0 v1 v2 v3 v4 v5 v6 : Value} {wa : Option Addr} {wc : Nat} {L : List Ent} (h : BAt w W m v0 v1 v2 v3 v4 v5 v6 wa wc L) (o : Obj) : BAt w (W.alloc o) m v0 v1 v2 v3 v4 v5 v6 wa wc L := h.below ((Below.refl _ W).alloc (Nat.le_refl _) _)
theorem BAt.start {w W : World} {v0 v1 v2 v3 v4 v5 v6 : Value} {wa : Option Addr} {wc : Nat} {L : List Ent} (hp : P7 W w.heap.size v0 v1 v2 v3 v4 v5 v6) (hb : Below w.heap.size w W) (he : EntsAt W wa wc L) : BAt w (W.alloc (.cells #[.slice wa L.length wc] 46)) W.heap.size v0 v1 v2 v3 v4 v5 v6 wa wc L :=
  ⟨hp.alloc _, ⟨World.cell?_alloc_at _ _ _ _ rfl, World.frozen?_alloc_at _ _ _ _ rfl, by simp⟩, he.alloc _, hb.alloc hb.size _⟩
end Go.Proofs.YtikabflmgckdnaaDoor
