/-
The words of right parameters are read as them.
-/
import Derived.Test.YtmbjhhpnckfppaaDoorXidRead
namespace Go.Proofs.YtmbjhhpnckfppaaDoor
open Go.RowKit Go.Sort
set_option maxRecDepth 20000
theorem read_nil {p q : XP} (h : ReadTo [] p q) : q = p := by
  cases h with
  | done => rfl
  | step _ _ _ N hs => exact absurd rfl hs
theorem read_word {wd rs : List UInt8} {p q : XP} (h : ReadTo (wd ++ 32 :: rs) p q) (hw : ∀ x ∈ wd, x ≠ 32) : ∃ N, (∀ v, Lib.atoiAll (Lib.cut wd [61]).2.1 = .ok v → N = v) ∧ ReadTo rs (setW (Lib.cut wd [61]).1 N p) q := by
  generalize hL : wd ++ 32 :: rs = L at h
  cases h with
  | done => simp at hL
  | step _ _ _ N hs hN hr =>
    rw [← hL, cut_at' 32 wd rs hw] at hN hr
    exact ⟨N, hN, hr⟩
theorem read_last {wd : List UInt8} {p q : XP} (h : ReadTo wd p q) (hw : ∀ x ∈ wd, x ≠ 32) (h0 : wd ≠ []) : ∃ N, (∀ v, Lib.atoiAll (Lib.cut wd [61]).2.1 = .ok v → N = v) ∧ q = setW (Lib.cut wd [61]).1 N p := by
  cases h with
  | done => exact absurd rfl h0
  | step _ _ _ N hs hN hr =>
    rw [cut_none' 32 wd hw] at hN hr
    exact ⟨N, hN, read_nil hr⟩
theorem digL_val (k : Int) (h : 0 ≤ k ∧ k < 10) : digL k ≠ 32 ∧ digL k ≠ 61 := by
  obtain rfl | rfl | rfl | rfl | rfl | rfl | rfl | rfl | rfl | rfl : k = 0 ∨ k = 1 ∨ k = 2 ∨ k = 3 ∨ k = 4 ∨ k = 5 ∨ k = 6 ∨ k = 7 ∨ k = 8 ∨ k = 9 := by omega
  all_goals exact ⟨by decide, by decide⟩
theorem itoa_plain (n : Int) (h : 0 ≤ n ∧ n ≤ 999) : ∀ x ∈ Lib.itoa n, x ≠ 32 ∧ x ≠ 61 := by
  by_cases h10 : n < 10
  · rw [itoa_one n (by omega)]
    intro x hx
    rw [List.mem_singleton.1 hx]
    exact digL_val _ (by omega)
  · by_cases h100 : n < 100
    · rw [itoa_two n (by omega)]
      intro x hx
      simp only [List.mem_cons, List.not_mem_nil, or_false] at hx
      rcases hx with rfl | rfl
      · exact digL_val _ (by omega)
      · exact digL_val _ (by omega)
    · rw [itoa_three n (by omega)]
      intro x hx
      simp only [List.mem_cons, List.not_mem_nil, or_false] at hx
      rcases hx with rfl | rfl | rfl
      · exact digL_val _ (by omega)
      · exact digL_val _ (by omega)
      · exact digL_val _ (by omega)
theorem atoi_one : ∀ i : Fin 10, Lib.atoiAll [digL (i.val : Int)] = .ok (i.val : Int) := by decide +kernel
theorem atoi_two : ∀ i j : Fin 10, Lib.atoiAll [digL (i.val : Int), digL (j.val : Int)] = .ok ((10 * i.val + j.val : Nat) : Int) := by decide +kernel
theorem atoi_three : ∀ i j k : Fin 10, Lib.atoiAll [digL (i.val : Int), digL (j.val : Int), digL (k.val : Int)] = .ok ((100 * i.val + 10 * j.val + k.val : Nat) : Int) := by decide +kernel
theorem atoi_itoa (n : Int) (h : 0 ≤ n ∧ n ≤ 999) : Lib.atoiAll (Lib.itoa n) = .ok n := by
  by_cases h10 : n < 10
  · rw [itoa_one n (by omega)]
    have k := atoi_one ⟨n.toNat, by omega⟩
    rw [show (((⟨n.toNat, by omega⟩ : Fin 10).val : Nat) : Int) = n % 10 from by show ((n.toNat : Nat) : Int) = _; omega] at k
    rw [k, show n % 10 = n by omega]
  · by_cases h100 : n < 100
    · rw [itoa_two n (by omega)]
      have k := atoi_two ⟨(n / 10).toNat, by omega⟩ ⟨(n % 10).toNat, by omega⟩
      dsimp only at k
      rw [show (((n / 10).toNat : Nat) : Int) = n / 10 % 10 by omega, show (((n % 10).toNat : Nat) : Int) = n % 10 by omega] at k
      rw [k]
      congr 1
      omega
    · rw [itoa_three n (by omega)]
      have k := atoi_three ⟨(n / 100).toNat, by omega⟩ ⟨(n / 10 % 10).toNat, by omega⟩ ⟨(n % 10).toNat, by omega⟩
      dsimp only at k
      rw [show (((n / 100).toNat : Nat) : Int) = n / 100 by omega, show (((n / 10 % 10).toNat : Nat) : Int) = n / 10 % 10 by omega, show (((n % 10).toNat : Nat) : Int) = n % 10 by omega] at k
      rw [k]
      congr 1
      omega
/-- a name without a blank or an equals sign -/
theorem word_plain (nm : List UInt8) (n : Int) (h : 0 ≤ n ∧ n ≤ 999) (hm : ∀ x ∈ nm, x ≠ 32 ∧ x ≠ 61) : (∀ x ∈ wordT nm n, x ≠ 32) ∧ Lib.cut (wordT nm n) [61] = (nm, Lib.itoa n, true) := by
  refine ⟨fun x hx => ?_, cut_at' 61 nm _ (fun x hx => (hm x hx).2)⟩
  simp only [wordT, List.mem_append, List.mem_cons] at hx
  rcases hx with hx | rfl | hx
  · exact (hm x hx).1
  · decide
  · exact (itoa_plain n h x hx).1
theorem read_named {nm rs : List UInt8} {n : Int} {p q : XP} (h : ReadTo (wordT nm n ++ 32 :: rs) p q) (hn : 0 ≤ n ∧ n ≤ 999) (hm : ∀ x ∈ nm, x ≠ 32 ∧ x ≠ 61) : ReadTo rs (setW nm n p) q := by
  obtain ⟨h1, h2⟩ := word_plain nm n hn hm
  obtain ⟨N, hN, hr⟩ := read_word h h1
  rw [h2] at hN hr
  rw [hN n (atoi_itoa n hn)] at hr
  exact hr
theorem read_named_last {nm : List UInt8} {n : Int} {p q : XP} (h : ReadTo (wordT nm n) p q) (hn : 0 ≤ n ∧ n ≤ 999) (hm : ∀ x ∈ nm, x ≠ 32 ∧ x ≠ 61) : q = setW nm n p := by
  obtain ⟨h1, h2⟩ := word_plain nm n hn hm
  obtain ⟨N, hN, hr⟩ := read_last h h1 (by simp [wordT])
  rw [h2] at hN hr
  rw [hN n (atoi_itoa n hn)] at hr
  exact hr
/-- the numbers' words -/
theorem read_nums {n k t r : Int} {p q : XP} (hn : 0 ≤ n ∧ n ≤ 999) (hk : 0 ≤ k ∧ k ≤ 999) (ht : 0 ≤ t ∧ t ≤ 999) (hr : 0 ≤ r ∧ r ≤ 999) (h : ReadTo (wordT [78, 49] n ++ 32 :: (wordT [75] k ++ 32 :: (wordT [84, 49] t ++ 32 :: wordT [78, 50] r))) p q) : q = ⟨p.a, p.b, n, k, t, r⟩ := by
  have h1 := read_named h hn (by decide)
  have h2 := read_named h1 hk (by decide)
  have h3 := read_named h2 ht (by decide)
  exact read_named_last h3 hr (by decide)
theorem read_text {a b : Bool} {n k t r : Int} {q : XP} (hr : rightX a b n k t r = true) (h : ReadTo (textX a b n k t r) XP.zero q) : q = ⟨a, b, n, k, t, r⟩ := by
  obtain ⟨n0, n1, k0, k1, t0, t1, r0, r1⟩ := rightX_facts hr
  have wide : ∀ {rs : List UInt8} {p : XP}, ReadTo ([87, 73, 68, 69] ++ 32 :: rs) p q → ReadTo rs { p with a := true } q := fun {rs p} h => by
    obtain ⟨N, -, h1⟩ := read_word h (by decide)
    exact h1
  have srej : ∀ {rs : List UInt8} {p : XP}, ReadTo ([83, 82, 69, 74] ++ 32 :: rs) p q → ReadTo rs { p with b := true } q := fun {rs p} h => by
    obtain ⟨N, -, h1⟩ := read_word h (by decide)
    exact h1
  cases a <;> cases b
  · exact read_nums (by omega) (by omega) (by omega) (by omega) h
  · exact read_nums (by omega) (by omega) (by omega) (by omega) (srej h)
  · exact read_nums (by omega) (by omega) (by omega) (by omega) (wide h)
  · exact read_nums (by omega) (by omega) (by omega) (by omega) (srej (wide h))
theorem text_len (a b : Bool) (n k t r : Int) (hr : rightX a b n k t r = true) : (⟨(textX a b n k t r).toArray⟩ : ByteArray).size ≤ 200 := by
  obtain ⟨n0, n1, k0, k1, t0, t1, r0, r1⟩ := rightX_facts hr
  have l1 := itoa_len n (by omega)
  have l2 := itoa_len k (by omega)
  have l3 := itoa_len t (by omega)
  have l4 := itoa_len r (by omega)
  have l5 : (preT a b).length ≤ 10 := by cases a <;> cases b <;> decide
  show (List.toArray _).size ≤ 200
  simp [textX, wordT]
  omega
end Go.Proofs.YtmbjhhpnckfppaaDoor
