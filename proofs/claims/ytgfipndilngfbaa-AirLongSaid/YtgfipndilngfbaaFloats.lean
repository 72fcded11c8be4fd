/-
Floats that stand for whole numbers: +, -, *, comparing, from and to ints: exact, as long as they stay small.
-/
import Derived.Test.YtgfipndilngfbaaProg
import Derived.Laws.ComplexArith
namespace Go.Proofs.Ytgfipndilngfbaa
open Ieee
set_option maxRecDepth 20000
/-- the magnitude 'm * 2 ^ e' is the whole number k -/
def valN (m : Nat) (e : Int) (k : Nat) : Prop := (0 ≤ e ∧ k = m * 2 ^ e.toNat) ∨ (e < 0 ∧ m = k * 2 ^ (-e).toNat)
/-- with its sign -/
def valE (s : Bool) (m : Nat) (e : Int) (n : Int) : Prop := valN m e n.natAbs ∧ (n = if s then -(n.natAbs : Int) else (n.natAbs : Int))
/-- the float stands for the whole number n -/
def IsF (b : Nat) (n : Int) : Prop := ∃ s m e, double.read b = .number s m e ∧ valE s m e n
theorem log2_mul (k j : Nat) (hk : k ≠ 0) : (k * 2 ^ j).log2 = k.log2 + j := by
  have hp : 0 < 2 ^ j := Nat.two_pow_pos j
  have hn : k * 2 ^ j ≠ 0 := Nat.mul_ne_zero hk (by omega)
  apply Nat.le_antisymm
  · have h1 : k < 2 ^ (k.log2 + 1) := (Nat.log2_lt hk).1 (by omega)
    have : k * 2 ^ j < 2 ^ (k.log2 + j + 1) := by
      rw [show k.log2 + j + 1 = (k.log2 + 1) + j by omega, Nat.pow_add]
      exact Nat.mul_lt_mul_of_pos_right h1 hp
    have := (Nat.log2_lt hn).2 this
    omega
  · refine (Nat.le_log2 hn).2 ?_
    rw [Nat.pow_add]
    exact Nat.mul_le_mul_right _ ((Nat.le_log2 hk).1 (Nat.le_refl _))
theorem valN.log2 {m : Nat} {e : Int} {k : Nat} (h : valN m e k) (hk : k ≠ 0) : m ≠ 0 ∧ (m.log2 : Int) + e = k.log2 := by
  rcases h with ⟨he, h⟩ | ⟨he, h⟩
  · have hm : m ≠ 0 := fun q => by rw [q, Nat.zero_mul] at h; exact hk h
    refine ⟨hm, ?_⟩
    rw [h, log2_mul m _ hm]
    omega
  · have hm : m ≠ 0 := by
      rw [h]
      exact Nat.mul_ne_zero hk (by have := Nat.two_pow_pos (-e).toNat; omega)
    refine ⟨hm, ?_⟩
    rw [h, log2_mul k _ hk]
    omega
/-- cutting off digits that are nought -/
theorem cut_exact (way : Toward) (s : Bool) (q d : Nat) : way.cut s (q * 2 ^ d) d = q := by
  unfold Toward.cut
  by_cases hq : q = 0
  · subst hq
    simp only [Nat.zero_mul, Nat.zero_div, Nat.zero_mod]
    cases way <;> simp
  · have hd : min d ((q * 2 ^ d).log2 + 2) = d := by
      rw [log2_mul q d hq]
      omega
    have h1 : q * 2 ^ d / 2 ^ d = q := Nat.mul_div_cancel q (Nat.two_pow_pos d)
    have h2 : q * 2 ^ d % 2 ^ d = 0 := Nat.mul_mod_left q (2 ^ d)
    simp only [hd, Nat.one_shiftLeft, h1, h2]
    cases way <;> simp
theorem dbl_binade : double.binade = 2 ^ 52 := rfl
theorem dbl_least : double.leastPlace = -1074 := by decide
theorem dbl_inf : double.infRung = 2047 * 2 ^ 52 := rfl
theorem dbl_sign : double.signWeight = 2 ^ 63 := rfl
/-- a word's sign and rung -/
theorem read_word (s : Bool) (r : Nat) (h : r < 2 ^ 63) : double.word s r / 2 ^ 63 % 2 = s.toNat ∧ double.word s r % 2 ^ 63 = r := by
  unfold Format.word
  rw [dbl_sign]
  cases s
  · simp only [Bool.false_eq_true, if_false]
    exact ⟨by rw [Nat.div_eq_of_lt h]; rfl, Nat.mod_eq_of_lt h⟩
  · simp only [if_true]
    constructor
    · rw [Nat.add_div_left _ (by decide : 0 < 2 ^ 63), Nat.div_eq_of_lt h]
      rfl
    · rw [Nat.add_mod_left, Nat.mod_eq_of_lt h]
/-- what is written is read back, if it is a small whole number -/
theorem read_nearest (s : Bool) (m : Nat) (e : Int) (k : Nat) (h : valN m e k) (hk : k < 2 ^ 53) : ∃ m' e', double.read (double.nearest s m e) = .number s m' e' ∧ valN m' e' k := by
  by_cases h0 : k = 0
  · subst h0
    have hm : m = 0 := by
      rcases h with ⟨_, h⟩ | ⟨_, h⟩
      · rcases Nat.mul_eq_zero.1 h.symm with q | q
        · exact q
        · have := Nat.two_pow_pos e.toNat
          omega
      · rw [h, Nat.zero_mul]
    subst hm
    refine ⟨0, -1074, ?_, Or.inr ⟨by decide, (Nat.zero_mul _).symm⟩⟩
    have e1 : double.nearest s 0 e = double.word s 0 := by
      unfold Format.nearest
      rw [if_pos rfl]
    rw [e1]
    cases s <;> rfl
  · obtain ⟨hm, hL⟩ := h.log2 h0
    have hLk : k.log2 < 53 := (Nat.log2_lt h0).2 hk
    obtain ⟨L, hLL⟩ : ∃ L, k.log2 = L := ⟨_, rfl⟩
    rw [hLL] at hL hLk
    have hlow : 2 ^ L ≤ k := (Nat.le_log2 h0).1 (by omega)
    have hhigh : k < 2 ^ (L + 1) := (Nat.log2_lt h0).1 (by omega)
    -- the significand
    obtain ⟨c, hc⟩ : ∃ c, 52 - L = c := ⟨_, rfl⟩
    have hlast : max (e + m.log2 - double.fractionBits) double.leastPlace = -(c : Int) := by
      rw [dbl_least]
      show max (e + m.log2 - ((52 : Nat) : Int)) (-1074) = -(c : Int)
      omega
    have hkept : Toward.even.cut s (m <<< (e - (-(c : Int))).toNat) ((-(c : Int)) - e).toNat = k * 2 ^ c := by
      rw [Nat.shiftLeft_eq]
      by_cases hec : e + c < 0
      · have e1 : (e - (-(c : Int))).toNat = 0 := by omega
        have e2 : ((-(c : Int)) - e).toNat + c = (-e).toNat := by omega
        have hm2 : m = k * 2 ^ (-e).toNat := by
          rcases h with ⟨q, _⟩ | ⟨_, q⟩
          · omega
          · exact q
        rw [e1, Nat.pow_zero, Nat.mul_one, hm2, ← e2, Nat.add_comm, Nat.pow_add, ← Nat.mul_assoc]
        exact cut_exact _ _ _ _
      · have e2 : ((-(c : Int)) - e).toNat = 0 := by omega
        rw [e2]
        have hx : m * 2 ^ (e - (-(c : Int))).toNat = k * 2 ^ c := by
          rcases h with ⟨q, hq⟩ | ⟨q, hq⟩
          · rw [hq, Nat.mul_assoc, ← Nat.pow_add]
            congr 2
            omega
          · rw [hq, Nat.mul_assoc, ← Nat.pow_add]
            congr 2
            omega
        rw [hx]
        have := cut_exact .even s (k * 2 ^ c) 0
        rwa [Nat.pow_zero, Nat.mul_one] at this
    have hb1 : 2 ^ 52 ≤ k * 2 ^ c := by
      have : 2 ^ 52 = 2 ^ L * 2 ^ c := by rw [← Nat.pow_add]; congr 1; omega
      rw [this]
      exact Nat.mul_le_mul_right _ hlow
    have hb2 : k * 2 ^ c < 2 ^ 53 := by
      have : 2 ^ 53 = 2 ^ (L + 1) * 2 ^ c := by rw [← Nat.pow_add]; congr 1; omega
      rw [this]
      exact Nat.mul_lt_mul_of_pos_right hhigh (Nat.two_pow_pos c)
    obtain ⟨K, hK⟩ : ∃ K, k * 2 ^ c = K := ⟨_, rfl⟩
    rw [hK] at hkept hb1 hb2
    have hn : double.nearest s m e = double.word s ((1074 - c) * 2 ^ 52 + K) := by
      unfold Format.nearest
      rw [if_neg hm]
      dsimp only
      rw [hlast, hkept, dbl_least, dbl_binade, dbl_inf]
      congr 1
      have : (-(c : Int) - -1074).toNat = 1074 - c := by omega
      rw [this]
      have h2 : (1074 - c) * 2 ^ 52 + K ≤ 2047 * 2 ^ 52 := by
        have h3 : (1074 - c) * 2 ^ 52 ≤ 1074 * 2 ^ 52 := Nat.mul_le_mul_right _ (by omega)
        exact Nat.le_trans (Nat.add_le_add h3 (Nat.le_of_lt hb2)) (by decide)
      exact Nat.min_eq_left h2
    have hr : (1074 - c) * 2 ^ 52 + K < 2 ^ 63 := by
      have : (1074 - c) * 2 ^ 52 ≤ 1074 * 2 ^ 52 := Nat.mul_le_mul_right _ (by omega)
      omega
    obtain ⟨r1, r2⟩ := read_word s _ hr
    refine ⟨K, -(c : Int), ?_, ?_⟩
    · rw [hn]
      unfold Format.read
      rw [dbl_sign, dbl_binade, dbl_inf, dbl_least]
      dsimp only
      rw [r1, r2]
      have hs : (s.toNat == 1) = s := by cases s <;> rfl
      have hx1 : ¬ ((1074 - c) * 2 ^ 52 + K < 2 ^ 52) := by omega
      have hx2 : (1074 - c) * 2 ^ 52 + K < 2047 * 2 ^ 52 := by
        have : (1074 - c) * 2 ^ 52 ≤ 1074 * 2 ^ 52 := Nat.mul_le_mul_right _ (by omega)
        omega
      rw [hs, if_neg hx1, if_pos hx2]
      have hd : ((1074 - c) * 2 ^ 52 + K) / 2 ^ 52 = 1074 - c + 1 := by
        obtain ⟨t, ht⟩ : ∃ t, K = 2 ^ 52 + t := ⟨K - 2 ^ 52, by omega⟩
        rw [ht, show (1074 - c) * 2 ^ 52 + (2 ^ 52 + t) = t + 2 ^ 52 * (1074 - c + 1) by omega, Nat.add_mul_div_left _ _ (by decide : 0 < 2 ^ 52), Nat.div_eq_of_lt (by omega)]
        omega
      have hmo : ((1074 - c) * 2 ^ 52 + K) % 2 ^ 52 = K - 2 ^ 52 := by
        obtain ⟨t, ht⟩ : ∃ t, K = 2 ^ 52 + t := ⟨K - 2 ^ 52, by omega⟩
        rw [ht, show (1074 - c) * 2 ^ 52 + (2 ^ 52 + t) = t + 2 ^ 52 * (1074 - c + 1) by omega, Nat.add_mul_mod_self_left, Nat.mod_eq_of_lt (by omega)]
        omega
      rw [hd, hmo, Nat.add_sub_cancel, Nat.add_sub_cancel' hb1, show (-1074 : Int) + ((1074 - c : Nat) : Int) = -(c : Int) by omega]
    · by_cases hc0 : c = 0
      · subst hc0
        exact Or.inl ⟨by omega, by simp [← hK]⟩
      · refine Or.inr ⟨by omega, ?_⟩
        rw [← hK]
        congr 2
        omega
theorem valE.neg {s : Bool} {m : Nat} {e n : Int} (h : valE s m e n) : valE (!s) m e (-n) := by
  obtain ⟨h1, h2⟩ := h
  refine ⟨by rw [Int.natAbs_neg]; exact h1, ?_⟩
  rw [Int.natAbs_neg]
  cases s <;> simp at h2 ⊢ <;> omega
/-- the whole number, in units of a place below -/
theorem signed_val {s : Bool} {m : Nat} {i n : Int} (h : valE s m i n) (b : Int) (hb : b ≤ i) : (0 ≤ b → signed s m (i - b).toNat * 2 ^ b.toNat = n) ∧ (b < 0 → signed s m (i - b).toNat = n * 2 ^ (-b).toNat) := by
  obtain ⟨h1, h2⟩ := h
  have key : ∀ X : Nat, signed s m (i - b).toNat = (if s then -((m * 2 ^ (i - b).toNat : Nat) : Int) else ((m * 2 ^ (i - b).toNat : Nat) : Int)) := fun _ => by
    unfold signed
    rw [Nat.shiftLeft_eq]
  rw [key 0]
  constructor
  · intro hb0
    have e1 : m * 2 ^ (i - b).toNat * 2 ^ b.toNat = n.natAbs := by
      rcases h1 with ⟨q, hq⟩ | ⟨q, _⟩
      · rw [hq, Nat.mul_assoc, ← Nat.pow_add]
        congr 2
        omega
      · omega
    have e2 : ((m * 2 ^ (i - b).toNat : Nat) : Int) * ((2 ^ b.toNat : Nat) : Int) = (n.natAbs : Int) := by rw [← Int.natCast_mul, e1]
    rw [Int.natCast_pow] at e2
    rw [h2]
    cases s
    · simpa using e2
    · simp only [if_true]
      rw [Int.neg_mul]
      exact congrArg (- ·) e2
  · intro hb0
    have e1 : m * 2 ^ (i - b).toNat = n.natAbs * 2 ^ (-b).toNat := by
      rcases h1 with ⟨q, hq⟩ | ⟨q, hq⟩
      · rw [hq, Nat.mul_assoc, ← Nat.pow_add]
        congr 2
        omega
      · rw [hq, Nat.mul_assoc, ← Nat.pow_add]
        congr 2
        omega
    rw [e1]
    have e2 : ((n.natAbs * 2 ^ (-b).toNat : Nat) : Int) = (n.natAbs : Int) * 2 ^ (-b).toNat := by rw [Int.natCast_mul, Int.natCast_pow]; rfl
    rw [e2]
    conv => rhs; rw [h2]
    cases s
    · simp
    · simp [Int.neg_mul]
/-- a total in units of a place, as a magnitude and a sign -/
theorem valE_total {t : Int} {b n : Int} (h0 : 0 ≤ b → t * 2 ^ b.toNat = n) (h1 : b < 0 → t = n * 2 ^ (-b).toNat) (z : Bool) : valE (if t = 0 then z else decide (t < 0)) t.natAbs b n := by
  have hp : ∀ k : Nat, (0 : Int) < 2 ^ k := fun k => by
    have := Nat.two_pow_pos k
    have e : ((2 ^ k : Nat) : Int) = 2 ^ k := by rw [Int.natCast_pow]; rfl
    omega
  have habs : ∀ (x : Int) (k : Nat), (x * 2 ^ k).natAbs = x.natAbs * 2 ^ k := fun x k => by
    rw [Int.natAbs_mul, Int.natAbs_pow]
    rfl
  have hsg : (t = 0 ↔ n = 0) ∧ (t < 0 ↔ n < 0) := by
    by_cases hb : 0 ≤ b
    · have e := h0 hb
      rw [← e]
      have := hp b.toNat
      constructor
      · constructor
        · intro q
          rw [q, Int.zero_mul]
        · intro q
          rcases Int.mul_eq_zero.1 q with q | q
          · exact q
          · omega
      · constructor
        · intro q
          exact Int.mul_neg_of_neg_of_pos q this
        · intro q
          refine Int.not_le.1 fun hle => ?_
          have := Int.mul_nonneg hle (Int.le_of_lt this)
          omega
    · have e := h1 (by omega)
      rw [e]
      have := hp (-b).toNat
      constructor
      · constructor
        · intro q
          rcases Int.mul_eq_zero.1 q with q | q
          · exact q
          · omega
        · intro q
          rw [q, Int.zero_mul]
      · constructor
        · intro q
          refine Int.not_le.1 fun hle => ?_
          have := Int.mul_nonneg hle (Int.le_of_lt this)
          omega
        · intro q
          exact Int.mul_neg_of_neg_of_pos q this
  constructor
  · by_cases hb : 0 ≤ b
    · exact Or.inl ⟨hb, by rw [← h0 hb, habs]⟩
    · exact Or.inr ⟨by omega, by rw [h1 (by omega), habs]⟩
  · by_cases ht : t = 0
    · have hn := hsg.1.1 ht
      subst hn
      cases z <;> simp [ht]
    · rw [if_neg ht]
      by_cases h2 : t < 0
      · have := hsg.2.1 h2
        rw [decide_eq_true h2]
        simp
        omega
      · have h3 : ¬ n < 0 := fun q => h2 (hsg.2.2 q)
        rw [decide_eq_false h2]
        simp
        omega
theorem isF_write {s : Bool} {m : Nat} {e n : Int} (h : valE s m e n) (hn : n.natAbs < 2 ^ 53) : IsF (double.write (.number s m e)) n := by
  obtain ⟨m', e', h1, h2⟩ := read_nearest s m e n.natAbs h.1 hn
  exact ⟨s, m', e', h1, h2, h.2⟩
theorem isF_add {a b : Nat} {x y : Int} (ha : IsF a x) (hb : IsF b y) (h : (x + y).natAbs < 2 ^ 53) : ∃ r, floatBits .add .f64 a b = some r ∧ IsF r (x + y) := by
  obtain ⟨s, m, i, h1, h2⟩ := ha
  obtain ⟨t, n, j, h3, h4⟩ := hb
  obtain ⟨p0, p1⟩ := signed_val h2 (min i j) (by omega)
  obtain ⟨q0, q1⟩ := signed_val h4 (min i j) (by omega)
  refine ⟨double.write (.number (if signed s m (i - min i j).toNat + signed t n (j - min i j).toNat = 0 then s && t else decide (signed s m (i - min i j).toNat + signed t n (j - min i j).toNat < 0)) (signed s m (i - min i j).toNat + signed t n (j - min i j).toNat).natAbs (min i j)), ?_, ?_⟩
  · show double.add a b = _
    unfold Format.add
    rw [h1, h3]
    rfl
  · refine isF_write (valE_total (fun hb => ?_) (fun hb => ?_) _) h
    · rw [Int.add_mul, p0 hb, q0 hb]
    · rw [Int.add_mul, p1 hb, q1 hb]
theorem isF_sub {a b : Nat} {x y : Int} (ha : IsF a x) (hb : IsF b y) (h : (x - y).natAbs < 2 ^ 53) : ∃ r, floatBits .sub .f64 a b = some r ∧ IsF r (x - y) := by
  obtain ⟨s, m, i, h1, h2⟩ := ha
  obtain ⟨t, n, j, h3, h4⟩ := hb
  obtain ⟨p0, p1⟩ := signed_val h2 (min i j) (by omega)
  obtain ⟨q0, q1⟩ := signed_val h4.neg (min i j) (by omega)
  refine ⟨double.write (.number (if signed s m (i - min i j).toNat + signed (!t) n (j - min i j).toNat = 0 then s && !t else decide (signed s m (i - min i j).toNat + signed (!t) n (j - min i j).toNat < 0)) (signed s m (i - min i j).toNat + signed (!t) n (j - min i j).toNat).natAbs (min i j)), ?_, ?_⟩
  · show double.sub a b = _
    unfold Format.sub
    rw [h1, h3]
    rfl
  · rw [show x - y = x + -y by omega] at h ⊢
    refine isF_write (valE_total (fun hb => ?_) (fun hb => ?_) _) h
    · rw [Int.add_mul, p0 hb, q0 hb]
    · rw [Int.add_mul, p1 hb, q1 hb]
theorem valN_mul {m n : Nat} {i j : Int} {k l : Nat} (h : valN m i k) (g : valN n j l) : valN (m * n) (i + j) (k * l) := by
  have p2 : ∀ a b : Nat, 2 ^ a * 2 ^ b = 2 ^ (a + b) := fun a b => (Nat.pow_add 2 a b).symm
  rcases h with ⟨hi, h⟩ | ⟨hi, h⟩ <;> rcases g with ⟨hj, g⟩ | ⟨hj, g⟩
  · refine Or.inl ⟨by omega, ?_⟩
    rw [h, g, show (i + j).toNat = i.toNat + j.toNat by omega, ← p2]
    ac_rfl
  · by_cases hij : 0 ≤ i + j
    · refine Or.inl ⟨hij, ?_⟩
      rw [h, g, show i.toNat = (-j).toNat + (i + j).toNat by omega, ← p2]
      ac_rfl
    · refine Or.inr ⟨by omega, ?_⟩
      rw [h, g, show (-j).toNat = i.toNat + (-(i + j)).toNat by omega, ← p2]
      ac_rfl
  · by_cases hij : 0 ≤ i + j
    · refine Or.inl ⟨hij, ?_⟩
      rw [h, g, show j.toNat = (-i).toNat + (i + j).toNat by omega, ← p2]
      ac_rfl
    · refine Or.inr ⟨by omega, ?_⟩
      rw [h, g, show (-i).toNat = j.toNat + (-(i + j)).toNat by omega, ← p2]
      ac_rfl
  · refine Or.inr ⟨by omega, ?_⟩
    rw [h, g, show (-(i + j)).toNat = (-i).toNat + (-j).toNat by omega, ← p2]
    ac_rfl
theorem isF_mul {a b : Nat} {x y : Int} (ha : IsF a x) (hb : IsF b y) (h : (x * y).natAbs < 2 ^ 53) : ∃ r, floatBits .mul .f64 a b = some r ∧ IsF r (x * y) := by
  obtain ⟨s, m, i, h1, h2⟩ := ha
  obtain ⟨t, n, j, h3, h4⟩ := hb
  refine ⟨double.write (.number (s ^^ t) (m * n) (i + j)), ?_, isF_write ⟨?_, ?_⟩ h⟩
  · show double.mul a b = _
    unfold Format.mul
    rw [h1, h3]
    rfl
  · rw [Int.natAbs_mul]
    exact valN_mul h2.1 h4.1
  · have e1 := h2.2
    have e2 := h4.2
    rw [Int.natAbs_mul, Int.natCast_mul]
    generalize (x.natAbs : Int) = u at *
    generalize (y.natAbs : Int) = v at *
    subst e1 e2
    cases s <;> cases t <;> simp [Int.neg_mul, Int.mul_neg]
/-- ints as floats -/
theorem isF_ofInt (n : Int) (h : n.natAbs < 2 ^ 53) : IsF (floatOfInt .f64 n) n := by
  refine isF_write (s := decide (n < 0)) ⟨Or.inl ⟨Int.le_refl 0, by simp⟩, ?_⟩ h
  by_cases hn : n < 0
  · rw [decide_eq_true hn]
    simp
    omega
  · rw [decide_eq_false hn]
    simp
    omega
theorem scaled_lt {x y : Int} {b : Int} {X Y : Int} (h0 : 0 ≤ b → X * 2 ^ b.toNat = x) (h1 : b < 0 → X = x * 2 ^ (-b).toNat) (g0 : 0 ≤ b → Y * 2 ^ b.toNat = y) (g1 : b < 0 → Y = y * 2 ^ (-b).toNat) : (X < Y ↔ x < y) ∧ (X = Y ↔ x = y) := by
  have hp : ∀ k : Nat, (0 : Int) < 2 ^ k := fun k => by
    have := Nat.two_pow_pos k
    have e : ((2 ^ k : Nat) : Int) = 2 ^ k := by rw [Int.natCast_pow]; rfl
    omega
  by_cases hb : 0 ≤ b
  · rw [← h0 hb, ← g0 hb]
    have := hp b.toNat
    exact ⟨⟨fun q => Int.mul_lt_mul_of_pos_right q this, fun q => Int.lt_of_mul_lt_mul_right q (Int.le_of_lt this)⟩, ⟨fun q => by rw [q], fun q => Int.eq_of_mul_eq_mul_right (by omega) q⟩⟩
  · rw [h1 (by omega), g1 (by omega)]
    have := hp (-b).toNat
    exact ⟨⟨fun q => Int.lt_of_mul_lt_mul_right q (Int.le_of_lt this), fun q => Int.mul_lt_mul_of_pos_right q this⟩, ⟨fun q => Int.eq_of_mul_eq_mul_right (by omega) q, fun q => by rw [q]⟩⟩
theorem compare_int {X Y x y : Int} (h : (X < Y ↔ x < y) ∧ (X = Y ↔ x = y)) : compare X Y = compare x y := by
  show compareOfLessAndEq X Y = compareOfLessAndEq x y
  unfold compareOfLessAndEq
  by_cases h1 : x < y
  · rw [if_pos h1, if_pos (h.1.2 h1)]
  · rw [if_neg h1, if_neg (fun q => h1 (h.1.1 q))]
    by_cases h2 : x = y
    · rw [if_pos h2, if_pos (h.2.2 h2)]
    · rw [if_neg h2, if_neg (fun q => h2 (h.2.1 q))]
/-- comparing -/
theorem isF_order {a b : Nat} {x y : Int} (ha : IsF a x) (hb : IsF b y) : double.order a b = some (compare x y) := by
  obtain ⟨s, m, i, h1, h2⟩ := ha
  obtain ⟨t, n, j, h3, h4⟩ := hb
  obtain ⟨p0, p1⟩ := signed_val h2 (min i j) (by omega)
  obtain ⟨q0, q1⟩ := signed_val h4 (min i j) (by omega)
  have e := compare_int (scaled_lt p0 p1 q0 q1)
  rw [← e]
  unfold Format.order
  rw [h1, h3]
  rfl
theorem cmp_lt (x y : Int) : ((some (compare x y) == some Ordering.lt) = decide (x < y)) ∧ ((some (compare x y) == some Ordering.eq) = decide (x = y)) ∧ ((some (compare x y) == some Ordering.gt) = decide (y < x)) := by
  have e : compare x y = compareOfLessAndEq x y := rfl
  rw [e]
  unfold compareOfLessAndEq
  by_cases h1 : x < y
  · rw [if_pos h1, decide_eq_true h1, decide_eq_false (show ¬ x = y by omega), decide_eq_false (show ¬ y < x by omega)]
    exact ⟨rfl, rfl, rfl⟩
  · rw [if_neg h1, decide_eq_false h1]
    by_cases h2 : x = y
    · rw [if_pos h2, decide_eq_true h2, decide_eq_false (show ¬ y < x by omega)]
      exact ⟨rfl, rfl, rfl⟩
    · rw [if_neg h2, decide_eq_false h2, decide_eq_true (show y < x by omega)]
      exact ⟨rfl, rfl, rfl⟩
/-- the walk's words for ==, <, <=, >, >=, != -/
theorem isF_cmp {a b : Nat} {x y : Int} (ha : IsF a x) (hb : IsF b y) :
    (FloatKind.f64.format.order a b == some .eq) = decide (x = y) ∧ (FloatKind.f64.format.order a b == some .lt) = decide (x < y) ∧ (FloatKind.f64.format.order a b == some .gt) = decide (y < x) := by
  have e : FloatKind.f64.format.order a b = some (compare x y) := isF_order ha hb
  rw [e]
  obtain ⟨h1, h2, h3⟩ := cmp_lt x y
  exact ⟨h2, h1, h3⟩
/-- a digit cut off: at most what was there -/
theorem cut_zero (s : Bool) (n d : Nat) : Toward.zero.cut s n d = n / 2 ^ d := by
  unfold Toward.cut
  simp only [Nat.one_shiftLeft, Bool.toNat_false, Nat.add_zero]
  by_cases h : d ≤ n.log2 + 2
  · rw [Nat.min_eq_left h]
  · rw [Nat.min_eq_right (by omega)]
    have h1 : n < 2 ^ (n.log2 + 2) := by
      by_cases h0 : n = 0
      · subst h0
        exact Nat.two_pow_pos _
      · exact (Nat.log2_lt h0).1 (by omega)
    have h2 : n < 2 ^ d := Nat.lt_of_lt_of_le h1 (Nat.pow_le_pow_right (by decide) (by omega))
    rw [Nat.div_eq_of_lt h1, Nat.div_eq_of_lt h2]
theorem isF_toInt {a : Nat} {x : Int} (ha : IsF a x) : (FloatKind.f64.decode a).toInt .zero = some x := by
  obtain ⟨s, m, i, h1, h2⟩ := ha
  have e : FloatKind.f64.decode a = .number s m i := h1
  rw [e]
  unfold Datum.toInt Datum.integral
  simp only [cut_zero, Nat.shiftLeft_eq]
  have hm : m * 2 ^ i.toNat / 2 ^ (-i).toNat = x.natAbs := by
    rcases h2.1 with ⟨hi, h⟩ | ⟨hi, h⟩
    · rw [show (-i).toNat = 0 by omega, Nat.pow_zero, Nat.div_one, h]
    · rw [show i.toNat = 0 by omega, Nat.pow_zero, Nat.mul_one, h, Nat.mul_div_cancel _ (Nat.two_pow_pos _)]
  rw [hm]
  unfold signed
  rw [Nat.shiftLeft_eq, Nat.pow_zero, Nat.mul_one]
  congr 1
  exact h2.2.symm
theorem pow_pos_int (k : Nat) : (0 : Int) < 2 ^ k := by
  have := Nat.two_pow_pos k
  have e : ((2 ^ k : Nat) : Int) = 2 ^ k := by rw [Int.natCast_pow]; rfl
  omega
theorem isF_one {a : Nat} {x y : Int} (h : IsF a x) (g : IsF a y) : x = y := by
  have e1 := isF_toInt h
  rw [isF_toInt g] at e1
  exact (Option.some.inj e1).symm
theorem signed_eq (s : Bool) (m k : Nat) : signed s m k = if s then -((m * 2 ^ k : Nat) : Int) else ((m * 2 ^ k : Nat) : Int) := by
  unfold signed
  rw [Nat.shiftLeft_eq]
/-- the whole part of a magnitude, in units of a place -/
theorem part_le {m : Nat} {i b : Int} (hb : b ≤ i) {C : Int} {n : Nat} (c0 : 0 ≤ b → C * 2 ^ b.toNat = (n : Int)) (c1 : b < 0 → C = (n : Int) * 2 ^ (-b).toNat) (h : ((m * 2 ^ (i - b).toNat : Nat) : Int) ≤ C) : m * 2 ^ i.toNat / 2 ^ (-i).toNat ≤ n := by
  by_cases hb0 : 0 ≤ b
  · have e := c0 hb0
    rw [show (-i).toNat = 0 by omega, Nat.pow_zero, Nat.div_one, show i.toNat = (i - b).toNat + b.toNat by omega, Nat.pow_add, ← Nat.mul_assoc]
    have h2 := Int.mul_le_mul_of_nonneg_right h (Int.le_of_lt (pow_pos_int b.toNat))
    rw [e] at h2
    have e3 : ((m * 2 ^ (i - b).toNat * 2 ^ b.toNat : Nat) : Int) = ((m * 2 ^ (i - b).toNat : Nat) : Int) * 2 ^ b.toNat := by rw [Int.natCast_mul, Int.natCast_pow]; rfl
    omega
  · have e := c1 (by omega)
    rw [e] at h
    have h2 : m * 2 ^ (i - b).toNat ≤ n * 2 ^ (-b).toNat := by
      have e3 : ((n * 2 ^ (-b).toNat : Nat) : Int) = (n : Int) * 2 ^ (-b).toNat := by rw [Int.natCast_mul, Int.natCast_pow]; rfl
      omega
    by_cases hi : 0 ≤ i
    · rw [show (-i).toNat = 0 by omega, Nat.pow_zero, Nat.div_one]
      rw [show (i - b).toNat = i.toNat + (-b).toNat by omega, Nat.pow_add, ← Nat.mul_assoc] at h2
      exact Nat.le_of_mul_le_mul_right h2 (Nat.two_pow_pos _)
    · rw [show i.toNat = 0 by omega, Nat.pow_zero, Nat.mul_one]
      rw [show (-b).toNat = (-i).toNat + (i - b).toNat by omega, Nat.pow_add, ← Nat.mul_assoc] at h2
      have h3 := Nat.le_of_mul_le_mul_right h2 (Nat.two_pow_pos _)
      exact Nat.div_le_of_le_mul (by rw [Nat.mul_comm]; exact h3)
/-- a number that lies as a whole one does is that -/
theorem valE_of_signed {s : Bool} {m : Nat} {i b n : Int} (hb : b ≤ i) (h0 : 0 ≤ b → signed s m (i - b).toNat * 2 ^ b.toNat = n) (h1 : b < 0 → signed s m (i - b).toNat = n * 2 ^ (-b).toNat) : valE s m i n := by
  rw [signed_eq] at h0 h1
  obtain ⟨M, hM⟩ : ∃ M, m * 2 ^ (i - b).toNat = M := ⟨_, rfl⟩
  rw [hM] at h0 h1
  have habs : ∀ (x : Int) (k : Nat), (x * 2 ^ k).natAbs = x.natAbs * 2 ^ k := fun x k => by
    rw [Int.natAbs_mul, Int.natAbs_pow]
    rfl
  have hMa : (if s then -(M : Int) else (M : Int)).natAbs = M := by cases s <;> simp
  constructor
  · by_cases hb0 : 0 ≤ b
    · refine Or.inl ⟨by omega, ?_⟩
      have e := congrArg Int.natAbs (h0 hb0)
      rw [habs, hMa, ← hM, Nat.mul_assoc, ← Nat.pow_add, show (i - b).toNat + b.toNat = i.toNat by omega] at e
      exact e.symm
    · have e := congrArg Int.natAbs (h1 (by omega))
      rw [habs, hMa, ← hM] at e
      by_cases hi : 0 ≤ i
      · refine Or.inl ⟨hi, ?_⟩
        rw [show (i - b).toNat = i.toNat + (-b).toNat by omega, Nat.pow_add, ← Nat.mul_assoc] at e
        exact (Nat.eq_of_mul_eq_mul_right (Nat.two_pow_pos _) e).symm
      · refine Or.inr ⟨by omega, ?_⟩
        rw [show (-b).toNat = (-i).toNat + (i - b).toNat by omega, Nat.pow_add, ← Nat.mul_assoc] at e
        exact Nat.eq_of_mul_eq_mul_right (Nat.two_pow_pos _) e
  · have hs : (s = true → n ≤ 0) ∧ (s = false → 0 ≤ n) := by
      by_cases hb0 : 0 ≤ b
      · have e := h0 hb0
        have := pow_pos_int b.toNat
        constructor
        · intro q
          rw [q, if_pos rfl] at e
          have h2 := Int.mul_le_mul_of_nonneg_right (show -(M : Int) ≤ 0 by omega) (Int.le_of_lt this)
          rw [Int.zero_mul] at h2
          omega
        · intro q
          rw [q, if_neg (by simp)] at e
          have h2 := Int.mul_nonneg (show (0 : Int) ≤ M by omega) (Int.le_of_lt this)
          omega
      · have e := h1 (by omega)
        have hp := pow_pos_int (-b).toNat
        constructor
        · intro q
          rw [q, if_pos rfl] at e
          refine Int.not_lt.1 fun hn => ?_
          have := Int.mul_pos hn hp
          omega
        · intro q
          rw [q, if_neg (by simp)] at e
          refine Int.not_lt.1 fun hn => ?_
          have := Int.mul_neg_of_neg_of_pos hn hp
          omega
    cases s
    · have := hs.2 rfl
      simp
      omega
    · have := hs.1 rfl
      simp
      omega
/-- what lies between two whole numbers, as an int -/
theorem whole_in {a c d : Nat} {N : Nat} (hc : IsF c (-(N : Int))) (hd : IsF d (N : Int)) (hN : N < 2 ^ 53)
    (hge : (double.order a c == some .gt || double.order a c == some .eq) = true) (hle : (double.order a d == some .lt || double.order a d == some .eq) = true) :
    ∃ n : Int, (FloatKind.f64.decode a).toInt .zero = some n ∧ -(N : Int) ≤ n ∧ n ≤ N ∧ ((double.order (floatOfInt .f64 n) a == some .eq) = true ↔ IsF a n) := by
  obtain ⟨tc, mc, ic, hc1, hc2⟩ := hc
  obtain ⟨td, md, jd, hd1, hd2⟩ := hd
  unfold Format.order at hge hle
  rw [hc1] at hge
  rw [hd1] at hle
  cases hr : double.read a with
  | nan s f =>
    rw [hr] at hge
    simp [Datum.order] at hge
  | infinity s =>
    rw [hr] at hge hle
    cases s
    · simp [Datum.order] at hle
    · simp [Datum.order] at hge
  | number s m i =>
    rw [hr] at hge hle
    simp only [Datum.order] at hge hle
    obtain ⟨p0, p1⟩ := signed_val hc2 (min i ic) (by omega)
    obtain ⟨q0, q1⟩ := signed_val hd2 (min i jd) (by omega)
    have g1 : signed tc mc (ic - min i ic).toNat ≤ signed s m (i - min i ic).toNat := by
      obtain ⟨x1, x2, x3⟩ := cmp_lt (signed s m (i - min i ic).toNat) (signed tc mc (ic - min i ic).toNat)
      rw [x2, x3, Bool.or_eq_true, decide_eq_true_eq, decide_eq_true_eq] at hge
      omega
    have g2 : signed s m (i - min i jd).toNat ≤ signed td md (jd - min i jd).toNat := by
      obtain ⟨x1, x2, x3⟩ := cmp_lt (signed s m (i - min i jd).toNat) (signed td md (jd - min i jd).toNat)
      rw [x1, x2, Bool.or_eq_true, decide_eq_true_eq, decide_eq_true_eq] at hle
      omega
    obtain ⟨q, hq⟩ : ∃ q, m * 2 ^ i.toNat / 2 ^ (-i).toNat = q := ⟨_, rfl⟩
    have hqN : q ≤ N := by
      rw [← hq]
      rw [signed_eq s] at g1 g2
      cases s
      · exact part_le (by omega) q0 q1 (by simpa using g2)
      · refine part_le (b := min i ic) (C := -signed tc mc (ic - min i ic).toNat) (by omega) (fun hb => ?_) (fun hb => ?_) (by rw [if_pos rfl] at g1; omega)
        · rw [Int.neg_mul, p0 hb, Int.neg_neg]
        · rw [p1 hb, Int.neg_mul, Int.neg_neg]
    refine ⟨if s then -(q : Int) else q, ?_, ?_, ?_, ?_⟩
    · have e : FloatKind.f64.decode a = .number s m i := hr
      rw [e]
      unfold Datum.toInt Datum.integral
      simp only [cut_zero, Nat.shiftLeft_eq, hq]
      unfold signed
      rw [Nat.shiftLeft_eq, Nat.pow_zero, Nat.mul_one]
    · cases s <;> simp <;> omega
    · cases s <;> simp <;> omega
    · obtain ⟨n, hn⟩ : ∃ n : Int, (if s then -(q : Int) else (q : Int)) = n := ⟨_, rfl⟩
      have hnb : n.natAbs < 2 ^ 53 := by
        have : n.natAbs = q := by rw [← hn]; cases s <;> simp
        omega
      rw [hn]
      have hF := isF_ofInt n hnb
      constructor
      · intro he
        obtain ⟨tf, mf, jf, h1, h2⟩ := hF
        unfold Format.order at he
        rw [h1, hr] at he
        simp only [Datum.order] at he
        obtain ⟨x1, x2, x3⟩ := cmp_lt (signed tf mf (jf - min jf i).toNat) (signed s m (i - min jf i).toNat)
        rw [x2, decide_eq_true_eq] at he
        obtain ⟨y0, y1⟩ := signed_val h2 (min jf i) (by omega)
        rw [he] at y0 y1
        exact ⟨s, m, i, hr, valE_of_signed (by omega) y0 y1⟩
      · intro hI
        rw [isF_order hF hI, (cmp_lt n n).2.1]
        simp
/-- of any float: it lies outside, or it is taken for an int -/
theorem whole_out {a c d : Nat} {N : Nat} (hc : IsF c (-(N : Int))) (hd : IsF d (N : Int))
    (h : ((double.order a c == some .gt || double.order a c == some .eq) && (double.order a d == some .lt || double.order a d == some .eq)) = false) (n : Int) (hn : IsF a n) : ¬ (-(N : Int) ≤ n ∧ n ≤ N) := by
  rintro ⟨h1, h2⟩
  rw [isF_order hn hc, isF_order hn hd] at h
  obtain ⟨-, x2, x3⟩ := cmp_lt n (-(N : Int))
  obtain ⟨y1, y2, -⟩ := cmp_lt n (N : Int)
  rw [x2, x3, y1, y2, Bool.and_eq_false_iff, Bool.or_eq_false_iff, Bool.or_eq_false_iff, decide_eq_false_iff_not, decide_eq_false_iff_not, decide_eq_false_iff_not, decide_eq_false_iff_not] at h
  omega
end Go.Proofs.Ytgfipndilngfbaa
