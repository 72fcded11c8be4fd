/-
The document's own Right of paths.
The document's own Right, Put and Text of controls.
The document's own look at a frame: which kinds have a number, which information; what is wrong with one.
strings.Clone; a call's cells.
-/
import Derived.Test.YtikabflmgckdnaaDoorPathBase
import Derived.Lib.SmallJoins
import Derived.Lib.ItoaNum
import Derived.BigRegion
import Derived.IntWalk
import Derived.Lib.QuietBelow
import Derived.BigQuiet
import Derived.Deep.QuietTactic
import Derived.Lib.IndexBytes
import Derived.Test.YtikabflmgckdnaaDoorCtlBase
import Derived.Test.YtikabflmgckdnaaDoorFrmCFault
import Derived.Test.YtikabflmgckdnaaDoorCallBase
import Derived.Test.YtikabflmgckdnaaDoorShelf
namespace Go.Proofs.YtikabflmgckdnaaDoor
open Go.RowKit Go.Sort
set_option maxRecDepth 20000
theorem ord_viol (L : List Ent) (k : Nat) (h3 : 3 ≤ k) (hk : k < L.length) (h1 : L[k].2.2 = true) (h0 : (L[k - 1]'(by omega)).2.2 = false) : ordD (L.drop 2) = false := by
  cases hq : ordD (L.drop 2)
  · rfl
  · exfalso
    have := (ord_iff _).1 hq (k - 3) (by rw [List.length_drop]; omega) (by
      rw [List.getElem_drop]
      have e : 2 + (k - 3 + 1) = k := by omega
      simp only [e]; exact h1)
    rw [List.getElem_drop] at this
    have e : 2 + (k - 3) = k - 1 := by omega
    simp only [e] at this
    rw [h0] at this
    cases this
theorem ord_fine (L : List Ent) (h : ∀ j, 3 ≤ j → ∀ hj : j < L.length, L[j].2.2 = true → (L[j - 1]'(by omega)).2.2 = true) : ordD (L.drop 2) = true := by
  rw [ord_iff]
  intro i hi hx
  rw [List.getElem_drop] at hx ⊢
  have hl : 2 + (i + 1) < L.length := by rw [List.length_drop] at hi; omega
  exact h (2 + (i + 1)) (by omega) hl hx
set_option maxHeartbeats 1000000 in
theorem rordered_any (a : Option Addr) (cap : Nat) (L : List Ent) (w : World) (hL : L.length ≤ 1000) (hE : EntsAt w a cap L) :
    Calls Tryd.prog 35 #[.slice a L.length cap] w fun e w' => e = .returned (.bool (ordD (L.drop 2))) ∧ w' = w := by
  have HE := Lib.hid hE
  have HN := Lib.hid (ord_viol L)
  have HY := Lib.hid (ord_fine L)
  obtain ⟨R, hR⟩ : ∃ R, R = ordD (L.drop 2) := ⟨_, rfl⟩
  rw [← hR] at HN HY ⊢
  clear hE hR
  go_enter Tryd.func35, Tryd.ntmps35
  go_wp2
  go_loopw [3] (fun i wx => ∃ k : Nat, 3 ≤ k ∧ i = .int .i64 k ∧ Hid (∀ j, 3 ≤ j → ∀ hj : j < L.length, j < k → L[j].2.2 = true → (L[j - 1]'(by omega)).2.2 = true) ∧ wx = w) (fun i _ => L.length - (intOf i).toNat)
  case atStart => exact ⟨3, by omega, rfl, Lib.hid (fun j h3 hj hk => by omega), rfl⟩
  case round =>
    obtain ⟨k, hk, rfl, HR, rfl⟩ := hrel
    by_cases hlt : k < L.length
    · have dk : decide ((k : Int) < (L.length : Int)) = true := decide_eq_true (by omega)
      obtain ⟨g, o, rfl, hg, c0, c1, c2⟩ := HE.out.at_ k hlt
      obtain ⟨g', o', ha, -, -, -, d2⟩ := HE.out.at_ (k - 1) (by omega)
      simp only [Option.some.injEq, Addr.mk.injEq, and_true] at ha
      obtain ⟨rfl, rfl⟩ := ha
      clear c0 c1
      obtain ⟨p, hp⟩ : ∃ p, k = p + 1 := ⟨k - 1, by omega⟩
      subst hp
      have HD := Lib.hid (show L[p + 1].2.2 = L[p + 1].2.2 ∧ (L[p + 1 - 1]'(by omega)).2.2 = (L[p + 1 - 1]'(by omega)).2.2 from ⟨rfl, rfl⟩)
      simp only [Nat.add_sub_cancel] at d2 HD
      generalize h1 : L[p + 1].2.2 = m1 at *
      generalize h0 : (L[p]'(by omega)).2.2 = m0 at *
      have H1 := Lib.hid h1
      have H0 := Lib.hid h0
      clear h1 h0 HD
      have hp1 : (p : Int) + 1 - 1 = (p : Int) := by omega
      have hpl : p < L.length := by omega
      cases m1
      · go_wp2
        go_roundw
        case rel =>
          refine ⟨p + 1 + 1, by omega, by go_num, Lib.hid (fun j h3 hj hjk hx => ?_), by trivial⟩
          by_cases hjk2 : j = p + 1
          · subst hjk2; rw [H1.out] at hx; cases hx
          · exact HR.out j h3 hj (by omega) hx
        case measure => simp [intOf]; omega
      · cases m0
        · have hf := HN.out (p + 1) hk hlt H1.out H0.out
          subst hf
          go_wp2
          go_ret
          exact ⟨rfl, rfl⟩
        · go_wp2
          go_roundw
          case rel =>
            refine ⟨p + 1 + 1, by omega, by go_num, Lib.hid (fun j h3 hj hjk hx => ?_), by trivial⟩
            by_cases hjk2 : j = p + 1
            · subst hjk2; exact H0.out
            · exact HR.out j h3 hj (by omega) hx
          case measure => simp [intOf]; omega
    · have dk : decide ((k : Int) < (L.length : Int)) = false := decide_eq_false (by omega)
      have hf := HY.out (fun j h3 hj hx => HR.out j h3 hj (by omega) hx)
      subst hf
      go_wp2
      go_ret
      exact ⟨rfl, rfl⟩
end Go.Proofs.YtikabflmgckdnaaDoor
namespace Go.Proofs.YtikabflmgckdnaaDoor
open Go.RowKit
set_option maxRecDepth 20000
end Go.Proofs.YtikabflmgckdnaaDoor
namespace Go.Proofs.YtikabflmgckdnaaDoor
open Go.RowKit Go.Sort
set_option maxRecDepth 20000
theorem rhaspid_any (k : Int) (w : World) : Calls Tryd.prog 53 #[.int .i64 k] w fun e w' => e = .returned (.bool (pidD k)) ∧ w' = w := by
  by_cases h : k = 1
  · subst h
    go_enter Tryd.func53, Tryd.ntmps53
    go_wp2
    go_ret
    exact ⟨rfl, rfl⟩
  · have d1 : (k == 1) = false := by simpa using h
    go_enter Tryd.func53, Tryd.ntmps53
    go_wp2
    go_ret
    exact ⟨by simp [pidD, h]; rfl, rfl⟩
theorem info_doc (k : Int) : infoC k = (decide (k = 1) || (decide (11 ≤ k) && decide (k ≤ 14))) := by
  unfold infoC
  rw [Bool.eq_iff_iff]
  simp only [Bool.or_eq_true, Bool.and_eq_true, decide_eq_true_eq]
  omega
theorem rhasinfo_any (k : Int) (w : World) : Calls Tryd.prog 65 #[.int .i64 k] w fun e w' => e = .returned (.bool (infoC k)) ∧ w' = w := by
  rw [info_doc]
  by_cases h : k = 1
  · subst h
    go_enter Tryd.func65, Tryd.ntmps65
    go_wp2
    go_ret
    exact ⟨rfl, rfl⟩
  · have d1 : (k == 1) = false := by simpa using h
    have e1 : decide (k = 1) = false := decide_eq_false h
    by_cases h2 : 11 ≤ k
    · have d2 : decide (11 ≤ k) = true := decide_eq_true h2
      by_cases h3 : k ≤ 14
      · have d3 : decide (k ≤ 14) = true := decide_eq_true h3
        go_enter Tryd.func65, Tryd.ntmps65
        go_wp2
        go_ret
        exact ⟨by first | rfl | (rw [e1, d2, d3]; rfl), rfl⟩
      · have d3 : decide (k ≤ 14) = false := decide_eq_false h3
        go_enter Tryd.func65, Tryd.ntmps65
        go_wp2
        go_ret
        exact ⟨by first | rfl | (rw [e1, d2, d3]; rfl), rfl⟩
    · have d2 : decide (11 ≤ k) = false := decide_eq_false h2
      go_enter Tryd.func65, Tryd.ntmps65
      go_wp2
      go_ret
      exact ⟨by first | rfl | (rw [e1, d2]; rfl), rfl⟩
set_option maxHeartbeats 1000000 in
theorem rinfo_any (wa : Option Addr) (wn wc : Nat) (k nr ns : Int) (pf : Bool) (pid : Int) (info : ByteArray) (w : World) :
    Calls Tryd.prog 54 #[.agg #[.slice wa wn wc, .int .i64 k, .int .i64 nr, .int .i64 ns, .bool pf, .int .i64 pid, .string info]] w fun e w' => e = .returned (.int .i64 (infE k info.size : Nat)) ∧ Below w.heap.size w w' := by
  unfold infE
  by_cases h0 : info.size = 0
  · rw [if_pos h0]
    obtain rfl := txt_none info h0
    have HB0 := Lib.hid ((Below.refl _ w).alloc (Nat.le_refl _) (.cells #[.slice wa wn wc, .int .i64 k, .int .i64 nr, .int .i64 ns, .bool pf, .int .i64 pid, .string ⟨#[]⟩] 83))
    go_enter Tryd.func54, Tryd.ntmps54
    go_wp2_with fail
    go_ret
    exact ⟨rfl, HB0.out⟩
  · rw [if_neg h0]
    have HB0 := Lib.hid ((Below.refl _ w).alloc (Nat.le_refl _) (.cells #[.slice wa wn wc, .int .i64 k, .int .i64 nr, .int .i64 ns, .bool pf, .int .i64 pid, .string info] 83))
    have hi := fun W => rhasinfo_any k W
    have he := txt_some info h0
    cases h : infoC k
    · rw [h] at hi
      have HI := Lib.hid hi
      clear hi h
      go_enter Tryd.func54, Tryd.ntmps54
      go_wp2_with (go_at_call 65; (with_reducible refine (HI.out _).mono ?_); rintro e w1 ⟨rfl, rfl⟩)
      go_ret
      exact ⟨rfl, HB0.out⟩
    · rw [h] at hi
      have HI := Lib.hid hi
      clear hi h
      by_cases h2 : 256 < info.size
      · have d2 : decide ((256 : Int) < (info.size : Int)) = true := decide_eq_true (by omega)
        rw [if_pos rfl, if_pos h2]
        go_enter Tryd.func54, Tryd.ntmps54
        go_wp2_with (go_at_call 65; (with_reducible refine (HI.out _).mono ?_); rintro e w1 ⟨rfl, rfl⟩)
        go_ret
        exact ⟨rfl, HB0.out⟩
      · have d2 : decide ((256 : Int) < (info.size : Int)) = false := decide_eq_false (by omega)
        rw [if_pos rfl, if_neg h2]
        go_enter Tryd.func54, Tryd.ntmps54
        go_wp2_with (go_at_call 65; (with_reducible refine (HI.out _).mono ?_); rintro e w1 ⟨rfl, rfl⟩)
        go_ret
        exact ⟨rfl, HB0.out⟩
end Go.Proofs.YtikabflmgckdnaaDoor
namespace Go.Proofs.YtikabflmgckdnaaDoor
open Go.RowKit Go.Sort
set_option maxRecDepth 20000
theorem clone_any (s : ByteArray) (w : World) (h : s.size ≤ 140737488351232) : Calls Tryd.prog 23 #[.string s] w fun e w' => e = .returned (.string s) ∧ Below w.heap.size w w' := by
  have HC := Lib.hid (Tryd.stringslite_Clone s w (by omega))
  clear h
  go_enter Tryd.func23, Tryd.ntmps23
  go_wp2_with (go_at_call 43; (with_reducible refine HC.out.mono ?_); rintro e w1 ⟨rfl, hb⟩; have HB := Lib.hid hb; clear hb)
  go_ret
  exact ⟨rfl, HB.out⟩
/-- a call's cells -/
def CAt1 (w W : World) (b : ByteArray) (n : Int) : Prop := (W.cell? ⟨w.heap.size, 0, none⟩ = some (.string b) ∧ W.cell? ⟨w.heap.size, 1, none⟩ = some (.int .i64 n)) ∧ Below w.heap.size w W ∧ w.heap.size < W.heap.size
theorem CAt1.start (w : World) (b : ByteArray) (n : Int) : CAt1 w (w.alloc (.cells #[.string b, .int .i64 n] 23)) b n :=
  ⟨⟨World.cell?_alloc_at _ _ _ _ rfl, World.cell?_alloc_at _ _ _ _ rfl⟩, (Below.refl _ w).alloc (Nat.le_refl _) _, by simp⟩
theorem CAt1.below {w W W' : World} {b : ByteArray} {n : Int} (h : CAt1 w W b n) (hb : Below W.heap.size W W') : CAt1 w W' b n := by
  obtain ⟨⟨x0, x1⟩, hw, hs⟩ := h
  have q := fun (m i : Nat) (hm : m < W.heap.size) => hb.cell (p := ⟨m, i, none⟩) hm
  exact ⟨⟨(q _ _ hs).trans x0, (q _ _ hs).trans x1⟩, hw.trans (hb.mono hw.size), Nat.lt_of_lt_of_le hs hb.size⟩
end Go.Proofs.YtikabflmgckdnaaDoor
