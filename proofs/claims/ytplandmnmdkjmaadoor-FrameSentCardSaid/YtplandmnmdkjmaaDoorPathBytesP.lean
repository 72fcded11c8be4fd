/-
Walk of the statement PathBytes.
-/
import Derived.Test.YtplandmnmdkjmaaDoorPathCPut
import Derived.Test.YtplandmnmdkjmaaDoorPathGetP
import Derived.Lib.SmallJoins
import Derived.Lib.ItoaNum
import Derived.Lib.QuietBelow
import Derived.Lib.IndexBytes
import Derived.IntWalk
import Derived.WalkKit
import Derived.Scope
import Derived.WalkMore
import Derived.Lib.LazyBuf
import Derived.BigRegion
import Derived.OrdersHeld
import Derived.Deep.RegionHeld
import Derived.BigQuiet
import Derived.Deep.QuietTactic
namespace Go.Proofs.YtplandmnmdkjmaaDoor
open Go.RowKit Go.Sort
set_option maxRecDepth 20000
/-- bytes of calls from number k on, of n in all -/
def restP (n : Nat) : Nat → List Ent → List UInt8
  | _, [] => []
  | k, e :: M => putD e.1.data.toList e.2.1.toNat e.2.2 (decide (k + 1 = n)) ++ restP n (k + 1) M
theorem bytes_rest (L : List Ent) : ∀ k, k ≤ L.length → bytesP L k ++ restP L.length k (L.drop k) = bytesP L L.length := by
  intro k hk
  obtain ⟨j, hj⟩ : ∃ j, j = L.length - k := ⟨_, rfl⟩
  induction j generalizing k with
  | zero =>
    have : k = L.length := by omega
    subst this
    rw [List.drop_length, restP, List.append_nil]
  | succ j ih =>
    have hlt : k < L.length := by omega
    rw [← ih (k + 1) (by omega) (by omega), bytesP_next L k hlt, List.drop_eq_getElem_cons hlt, restP, List.append_assoc]
theorem take7 (a b : List UInt8) (h : a.length = 7) : (a ++ b).take 7 = a ∧ (a ++ b).drop 7 = b := by
  rw [← h]
  exact ⟨List.take_left, List.drop_left⟩
theorem put_len7 (e : Ent) (la : Bool) : (putD e.1.data.toList e.2.1.toNat e.2.2 la).length = 7 := put_len _ _ _ _
/-- the bytes of right entries are read as they are -/
theorem getP_put (n : Nat) (behind : List UInt8) : ∀ (M : List Ent) (acc : List Ent) (k : Nat), (∀ e ∈ M, rightD e.1 e.2.1 = true) → acc.length + M.length = n → acc.length + k = 10 → M.length ≤ k → 0 < M.length → 2 ≤ n → ordD ((acc ++ M).drop 2) = true →
    getP k acc (restP n acc.length M ++ behind) = (0, acc ++ M)
  | [], _, _, _, _, _, _, h0, _, _ => by simp at h0
  | e :: M, acc, 0, _, _, _, hk, _, _, _ => by simp at hk
  | e :: M, acc, k + 1, hr, hn, hk, hkk, _, h2, ho => by
    have he := hr e List.mem_cons_self
    have hg := get_put e.1 e.2.1 e.2.2 (decide (acc.length + 1 = n)) he
    have hlen := put_len7 e (decide (acc.length + 1 = n))
    obtain ⟨t7, d7⟩ := take7 (putD e.1.data.toList e.2.1.toNat e.2.2 (decide (acc.length + 1 = n))) (restP n (acc.length + 1) M ++ behind) hlen
    have hs : restP n acc.length (e :: M) ++ behind = putD e.1.data.toList e.2.1.toNat e.2.2 (decide (acc.length + 1 = n)) ++ (restP n (acc.length + 1) M ++ behind) := by rw [restP, List.append_assoc]
    have h7 : 7 ≤ (restP n acc.length (e :: M) ++ behind).length := by rw [hs, List.length_append, hlen]; omega
    have hent : ((⟨e.1.data.toList.toArray⟩, ((e.2.1.toNat : Nat) : Int), e.2.2) : Ent) = e := by
      obtain ⟨_, _, h3, _⟩ := right_facts e.1 e.2.1 he
      rw [show ((e.2.1.toNat : Nat) : Int) = e.2.1 from by omega]
    cases M with
    | nil =>
      have hl : acc.length + 1 = n := by simpa using hn
      rw [decide_eq_true hl] at hg t7 hs
      rw [getP_last k acc _ h7 (by rw [hs, t7]; exact hg), hent, if_neg (by omega), if_pos ho]
    | cons e' M =>
      have hl : ¬ acc.length + 1 = n := by simp at hn; omega
      rw [decide_eq_false hl] at hg t7 hs d7
      rw [getP_next k acc _ h7 (by rw [hs, t7]; exact hg), hent, hs, d7]
      have ih := getP_put n behind (e' :: M) (acc ++ [e]) k (fun x hx => hr x (List.mem_cons_of_mem _ hx)) (by simp at hn ⊢; omega) (by simp; omega) (by simp at hkk ⊢; omega) (by simp) h2 (by rw [List.append_assoc]; exact ho)
      rw [show (acc ++ [e]).length = acc.length + 1 from by simp] at ih
      rw [ih, List.append_assoc]
      try rfl
theorem right_path (L : List Ent) (h : rightP L = true) : (∀ e ∈ L, rightD e.1 e.2.1 = true) ∧ 2 ≤ L.length ∧ L.length ≤ 10 ∧ ordD (L.drop 2) = true := by
  unfold rightP at h
  simp only [Bool.and_eq_true, decide_eq_true_eq] at h
  exact ⟨List.all_eq_true.1 h.1.1.1, h.1.1.2, h.1.2, h.2⟩
theorem get_bytes (L : List Ent) (behind : List UInt8) (h : rightP L = true) : getP 10 [] (bytesP L L.length ++ behind) = (0, L) := by
  obtain ⟨h1, h2, h3, h4⟩ := right_path L h
  have k := getP_put L.length behind L [] 10 h1 (by simp) rfl h3 (by omega) h2 h4
  have e := bytes_rest L 0 (by omega)
  rw [show bytesP L 0 = [] from rfl, List.nil_append, List.drop_zero] at e
  rw [show ([] : List Ent).length = 0 from rfl, e] at k
  exact k
/-- the argument's cells, and the law's own path w -/
structure BAt (w W : World) (m : Nat) (v0 v1 v2 v3 v4 v5 v6 : Value) (wa : Option Addr) (wc : Nat) (L : List Ent) : Prop where
  box : P7 W w.heap.size v0 v1 v2 v3 v4 v5 v6
  var : KeepAt W m 0 (.slice wa L.length wc)
  ents : EntsAt W wa wc L
  bel : Below w.heap.size w W
theorem BAt.below {w W W' : World} {m : Nat} {v0 v1 v2 v3 v4 v5 v6 : Value} {wa : Option Addr} {wc : Nat} {L : List Ent} (h : BAt w W m v0 v1 v2 v3 v4 v5 v6 wa wc L) (hb : Below W.heap.size W W') : BAt w W' m v0 v1 v2 v3 v4 v5 v6 wa wc L :=
  ⟨h.box.below hb, h.var.below hb, h.ents.below hb, h.bel.trans (hb.mono h.bel.size)⟩
theorem BAt.alloc {w W : World} {m : Nat} {v0 v1 v2 v3 v4 v5 v6 : Value} {wa : Option Addr} {wc : Nat} {L : List Ent} (h : BAt w W m v0 v1 v2 v3 v4 v5 v6 wa wc L) (o : Obj) : BAt w (W.alloc o) m v0 v1 v2 v3 v4 v5 v6 wa wc L := h.below ((Below.refl _ W).alloc (Nat.le_refl _) _)
theorem BAt.start {w W : World} {v0 v1 v2 v3 v4 v5 v6 : Value} {wa : Option Addr} {wc : Nat} {L : List Ent} (hp : P7 W w.heap.size v0 v1 v2 v3 v4 v5 v6) (hb : Below w.heap.size w W) (he : EntsAt W wa wc L) : BAt w (W.alloc (.cells #[.slice wa L.length wc] 35)) W.heap.size v0 v1 v2 v3 v4 v5 v6 wa wc L :=
  ⟨hp.alloc _, ⟨World.cell?_alloc_at _ _ _ _ rfl, World.frozen?_alloc_at _ _ _ _ rfl, by simp⟩, he.alloc _, hb.alloc hb.size _⟩
end Go.Proofs.YtplandmnmdkjmaaDoor
