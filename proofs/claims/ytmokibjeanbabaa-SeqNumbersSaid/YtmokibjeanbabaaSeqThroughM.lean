/-
What goes through a sender's and a taker's window, and what is stale: plain facts.
-/
import Derived.Test.YtmokibjeanbabaaSeqRTakeC
import Derived.Test.YtmokibjeanbabaaSeqROut
namespace Go.Proofs.Ytmokibjeanbabaa
open Go.RowKit
/-- a sender and a taker on the way -/
structure Thru (m k : Int) (s : So) (t : Ti) : Prop where
  so : SoOk m k s
  ti : TiOk m k t
  lo : s.acked ≤ t.vr
  hi : t.vr ≤ s.opened
  opn : ∀ i : Nat, t.came.getD i false = true → t.vr + i < s.opened
theorem fresh_get (i : Nat) : (List.replicate 128 false).getD i false = false := by
  rw [List.getD_eq_getElem?_getD, List.getElem?_replicate]
  split <;> rfl
theorem Thru.start {m k : Int} (hm : m = 8 ∨ m = 128) (hk : 1 ≤ k ∧ 2 * k ≤ m) : Thru m k ⟨0, 0⟩ ⟨0, List.replicate 128 false⟩ :=
  ⟨⟨hm, ⟨hk.1, by rcases hm with e | e <;> omega⟩, ⟨Int.le_refl _, Int.le_refl _⟩, by show (0 : Int) - 0 ≤ k; omega, by show (0 : Int) ≤ 100000; omega⟩,
   ⟨hm, hk, ⟨Int.le_refl _, by show (0 : Int) ≤ 100000; omega⟩, List.length_replicate, fun i _ => fresh_get i, fresh_get 0⟩,
   Int.le_refl _, Int.le_refl _, fun i h => by rw [fresh_get i] at h; cases h⟩
theorem Thru.next {m k : Int} {s : So} {t : Ti} (h : Thru m k s t) (hb : s.opened < 100000) : Thru m k (nextS m k s).1 t := by
  have h1 := h.so.next hb
  unfold nextS at h1 ⊢
  split
  · exact h
  · rename_i hn
    rw [if_neg hn] at h1
    have := h.hi
    exact ⟨h1, h.ti, h.lo, by show t.vr ≤ s.opened + 1; omega, fun i hi => by have := h.opn i hi; show t.vr + i < s.opened + 1; omega⟩
theorem far_fwd (m a j : Int) (hm : m = 8 ∨ m = 128) (h0 : 0 ≤ j) (h1 : j < m) : farN m (a % m) ((a + j) % m) = j := by
  unfold farN
  rcases hm with e | e <;> subst e <;> split <;> omega
theorem far_back (m a j : Int) (hm : m = 8 ∨ m = 128) (h0 : 1 ≤ j) (h1 : j < m) : farN m (a % m) ((a - j) % m) = m - j := by
  unfold farN
  rcases hm with e | e <;> subst e <;> split <;> omega
theorem inR_rem (m a : Int) (hm : m = 8 ∨ m = 128) : inR m (a % m) = true := by
  unfold inR
  rw [decide_eq_true (by rcases hm with e | e <;> subst e <;> omega), decide_eq_true (by rcases hm with e | e <;> subst e <;> omega)]
  rfl
theorem Thru.acks {m k : Int} {s : So} {t : Ti} (h : Thru m k s t) : acksS m s (t.vr % m) = (⟨s.opened, t.vr⟩, t.vr - s.acked, 0) ∧ Thru m k ⟨s.opened, t.vr⟩ t := by
  have h1 := h.so.ob
  have h2 := h.so.kb
  have h3 := h.lo
  have h4 := h.hi
  have h5 := h.so.ab
  have hf : farN m (s.acked % m) (t.vr % m) = t.vr - s.acked := by
    have := far_fwd m s.acked (t.vr - s.acked) h.so.md (by omega) (by omega)
    rw [show s.acked + (t.vr - s.acked) = t.vr by omega] at this
    exact this
  refine ⟨?_, ⟨h.so.md, h.so.kb, ⟨by show 0 ≤ t.vr; omega, h4⟩, by show s.opened - t.vr ≤ k; omega, h.so.most⟩, h.ti, Int.le_refl _, h4, h.opn⟩
  unfold acksS
  rw [inR_rem m t.vr h.so.md, hf, if_neg (by simp), if_pos (by omega), show s.acked + (t.vr - s.acked) = t.vr by omega]
theorem runT_opened (c : List Bool) (vr o : Int) (h0 : vr ≤ o) (h : ∀ i : Nat, c.getD i false = true → vr + i < o) : vr + runT c ≤ o := by
  by_cases hr : runT c = 0
  · rw [hr]
    simpa using h0
  · have := h (runT c - 1) (runT_lt c _ (by omega))
    omega
theorem Thru.take {m k : Int} {s : So} {t : Ti} (h : Thru m k s t) (j : Nat) (hj : (j : Int) < s.opened - s.acked) (hb : s.opened ≤ 99800) :
    ∃ r : Nat, (takeT m k t ((s.acked + j) % m)).1.vr = t.vr + r ∧ (takeT m k t ((s.acked + j) % m)).2.1 = outT m t.vr r ∧ Thru m k s (takeT m k t ((s.acked + j) % m)).1 := by
  have h1 := h.so.ob
  have h2 := h.ti.kb
  have h3 := h.lo
  have h4 := h.hi
  have hmd := h.ti.md
  have hin := inR_rem m (s.acked + j) hmd
  have hti := h.ti.take ((s.acked + j) % m) (by omega)
  by_cases hge : t.vr ≤ s.acked + j
  · obtain ⟨d, hd⟩ : ∃ d : Nat, (d : Int) = s.acked + j - t.vr := ⟨(s.acked + j - t.vr).toNat, by omega⟩
    have hf : farN m (t.vr % m) ((s.acked + j) % m) = (d : Int) := by
      have := far_fwd m t.vr d hmd (by omega) (by omega)
      rw [show t.vr + (d : Int) = s.acked + j by omega] at this
      exact this
    cases hc : t.came.getD d false with
    | true =>
      have e : takeT m k t ((s.acked + j) % m) = (t, [], 8) := by
        unfold takeT
        rw [hin, hf, Int.toNat_natCast, hc, if_neg (by simp), if_pos rfl]
      rw [e]
      exact ⟨0, by show t.vr = t.vr + ((0 : Nat) : Int); omega, rfl, h⟩
    | false =>
      have e := takeT_in m k t _ d hin hf hc (by omega)
      rw [e] at hti ⊢
      have hop : ∀ i : Nat, (t.came.set d true).getD i false = true → t.vr + i < s.opened := fun i hi => by
        by_cases hid : i = d
        · omega
        · rw [List.getD_eq_getElem?_getD, List.getElem?_set_ne (fun e => hid e.symm), ← List.getD_eq_getElem?_getD] at hi
          exact h.opn i hi
      have hro := runT_opened _ _ _ h4 hop
      refine ⟨_, rfl, rfl, h.so, hti, ?_, hro, fun i hi => ?_⟩
      · show s.acked ≤ t.vr + _
        omega
      · have hi2 : (atT (t.came.set d true) (runT (t.came.set d true))).getD i false = true := hi
        rw [atT_get] at hi2
        have := hop _ hi2
        show t.vr + (runT (t.came.set d true) : Nat) + (i : Int) < s.opened
        omega
  · obtain ⟨d, hd⟩ : ∃ d : Int, d = t.vr - (s.acked + j) := ⟨_, rfl⟩
    have hf : farN m (t.vr % m) ((s.acked + j) % m) = m - d := by
      have := far_back m t.vr d hmd (by omega) (by omega)
      rw [show t.vr - d = s.acked + j by omega] at this
      exact this
    have e : takeT m k t ((s.acked + j) % m) = (t, [], 7) := by
      unfold takeT
      rw [hin, hf, h.ti.high (m - d).toNat (by omega), if_neg (by simp), if_neg (by simp), if_pos (by omega)]
    rw [e]
    exact ⟨0, by show t.vr = t.vr + ((0 : Nat) : Int); omega, rfl, h⟩
/-- one that comes in order -/
theorem take_fresh (m k i : Int) (hm : m = 8 ∨ m = 128) (hk : 1 ≤ k) : takeT m k ⟨i, List.replicate 128 false⟩ (i % m) = (⟨i + 1, List.replicate 128 false⟩, [i % m], 0) := by
  have hf : farN m (i % m) (i % m) = ((0 : Nat) : Int) := by unfold farN; rw [if_pos (Int.le_refl _)]; simp
  rw [takeT_in m k ⟨i, List.replicate 128 false⟩ (i % m) 0 (inR_rem m i hm) hf (fresh_get 0) (by show (0 : Int) < k; omega)]
  have hr : runT ((List.replicate 128 false).set 0 true) = 1 := by decide
  have ha : atT ((List.replicate 128 false).set 0 true) 1 = List.replicate 128 false := by decide
  have ho : outT m i 1 = [i % m] := by
    unfold outT
    rw [show List.range 1 = [0] from rfl, List.map_cons, List.map_nil, show i + ((0 : Nat) : Int) = i by omega]
  simp only [hr, ha, ho]
  rfl
/-- one that is stale -/
theorem take_stale (m k i j : Int) (hm : m = 8 ∨ m = 128) (hk : 1 ≤ k ∧ 2 * k ≤ m) (hj : 1 ≤ j ∧ j ≤ m - k) : takeT m k ⟨i, List.replicate 128 false⟩ ((i - j) % m) = (⟨i, List.replicate 128 false⟩, [], 7) := by
  have hf := far_back m i j hm (by omega) (by omega)
  unfold takeT
  rw [inR_rem m (i - j) hm, hf, fresh_get, if_neg (by simp), if_neg (by simp), if_pos (by omega)]
end Go.Proofs.Ytmokibjeanbabaa
