/-
The check sum as plain numbers: steps of a register, linearity, what a turned byte changes.
-/
namespace Go.Proofs.Ytgahmaaoieofhaa
/-- one step of the register, the incoming bit already laid in -/
def s1 (r : Nat) : Nat := (r / 2) ^^^ ((r % 2) * 33800)
def sn : Nat → Nat → Nat
  | 0, r => r
  | n + 1, r => sn n (s1 r)
theorem xm2 (a b : Nat) : (a ^^^ b) % 2 = (a + b) % 2 := by
  have h : (a ^^^ b) % 2 = 1 ↔ ¬ (a % 2 = 1 ↔ b % 2 = 1) := Nat.xor_mod_two_eq_one
  have h0 := Nat.mod_two_eq_zero_or_one (a ^^^ b)
  rcases Nat.mod_two_eq_zero_or_one a with ha | ha <;> rcases Nat.mod_two_eq_zero_or_one b with hb | hb <;> rw [ha, hb] at h <;> rcases h0 with h0 | h0 <;> rw [h0] at h <;> simp at h <;> omega
theorem s1_lin (a b : Nat) : s1 (a ^^^ b) = s1 a ^^^ s1 b := by
  unfold s1
  have h1 : (a ^^^ b) / 2 = a / 2 ^^^ b / 2 := Nat.xor_div_two
  have h2 : (a ^^^ b) % 2 * 33800 = (a % 2 * 33800) ^^^ (b % 2 * 33800) := by
    have h3 := xm2 a b
    rcases Nat.mod_two_eq_zero_or_one a with ha | ha <;> rcases Nat.mod_two_eq_zero_or_one b with hb | hb
    · rw [ha, hb, show (a ^^^ b) % 2 = 0 from by omega]; decide
    · rw [ha, hb, show (a ^^^ b) % 2 = 1 from by omega]; decide
    · rw [ha, hb, show (a ^^^ b) % 2 = 1 from by omega]; decide
    · rw [ha, hb, show (a ^^^ b) % 2 = 0 from by omega]; decide
  rw [h1, h2]
  ac_rfl
theorem s1_lt (r : Nat) (h : r < 65536) : s1 r < 65536 := by
  unfold s1
  have : r % 2 * 33800 < 2 ^ 16 := by omega
  exact Nat.xor_lt_two_pow (n := 16) (by omega) this
theorem xor_self_cancel (a b : Nat) : a ^^^ b ^^^ b = a := by rw [Nat.xor_assoc, Nat.xor_self, Nat.xor_zero]
theorem xor_eq_zero' {a b : Nat} (h : a ^^^ b = 0) : a = b := by
  have := xor_self_cancel a b
  rw [h, Nat.zero_xor] at this; exact this.symm
theorem s1_zero {x : Nat} (hx : x < 65536) (h : s1 x = 0) : x = 0 := by
  unfold s1 at h
  have h2 := xor_eq_zero' h
  omega
theorem sn_lt : ∀ (n r : Nat), r < 65536 → sn n r < 65536
  | 0, _, h => h
  | n + 1, r, h => sn_lt n _ (s1_lt r h)
theorem sn_lin : ∀ (n a b : Nat), sn n (a ^^^ b) = sn n a ^^^ sn n b
  | 0, _, _ => rfl
  | n + 1, a, b => by simp only [sn]; rw [s1_lin, sn_lin n]
theorem sn_add : ∀ (m n r : Nat), sn (m + n) r = sn n (sn m r)
  | 0, n, r => by simp [sn]
  | m + 1, n, r => by rw [show m + 1 + n = (m + n) + 1 from by omega]; simp only [sn]; rw [sn_add m n]
theorem sn_succ (n r : Nat) : sn (n + 1) r = s1 (sn n r) := by rw [sn_add n 1]; rfl
theorem s1_odd {x : Nat} (h : x % 2 = 1) : s1 x = (x / 2) ^^^ 33800 := by unfold s1; rw [h]
theorem s1_even' {x : Nat} (h : x % 2 = 0) : s1 x = x / 2 := by unfold s1; rw [h]; simp
theorem s1_0 : s1 0 = 0 := by decide
theorem sn_0 : ∀ n, sn n 0 = 0
  | 0 => rfl
  | n + 1 => by simp only [sn]; rw [s1_0]; exact sn_0 n
theorem sn_zero : ∀ (n : Nat) {x : Nat}, x < 65536 → sn n x = 0 → x = 0
  | 0, _, _, h => h
  | n + 1, x, hx, h => s1_zero hx (sn_zero n (s1_lt x hx) h)
theorem xlt {a b : Nat} (ha : a < 65536) (hb : b < 65536) : a ^^^ b < 65536 := Nat.xor_lt_two_pow (n := 16) ha hb
theorem sn_inj (n : Nat) {a b : Nat} (ha : a < 65536) (hb : b < 65536) (h : sn n a = sn n b) : a = b := by
  apply xor_eq_zero'
  apply sn_zero n (xlt ha hb)
  rw [sn_lin, h, Nat.xor_self]
/-- eight steps: what a byte does -/
abbrev s8 (r : Nat) : Nat := sn 8 r
theorem s1_even (h : Nat) : s1 (2 * h) = h := by
  unfold s1
  rw [show 2 * h / 2 = h from by omega, show 2 * h % 2 = 0 from by omega]; simp
theorem s8_high (h : Nat) : s8 (256 * h) = h := by
  simp only [s8, sn]
  rw [show 256 * h = 2 * (2 * (2 * (2 * (2 * (2 * (2 * (2 * h))))))) from by omega]
  simp only [s1_even]
theorem split_xor (a : Nat) : a = (256 * (a / 256)) ^^^ (a % 256) := by
  have h1 : 256 * (a / 256) + a % 256 = a := Nat.div_add_mod a 256
  have h2 : (2 ^ 8 * (a / 256)) ^^^ (a % 256) = 2 ^ 8 * (a / 256) + a % 256 := by
    apply Nat.eq_of_testBit_eq
    intro i
    rw [Nat.testBit_xor, Nat.testBit_two_pow_mul_add _ (by omega : a % 256 < 2 ^ 8), Nat.testBit_two_pow_mul]
    by_cases hi : i < 8
    · simp [hi, Nat.not_le.2 hi]
    · have : a % 256 < 2 ^ i := Nat.lt_of_lt_of_le (by omega : a % 256 < 2 ^ 8) (Nat.pow_le_pow_right (by omega) (by omega))
      simp [hi, Nat.testBit_lt_two_pow this, Nat.le_of_not_lt hi]
  rw [show 256 = 2 ^ 8 from rfl] at *
  omega
theorem s8_split (a : Nat) : s8 a = (a / 256) ^^^ s8 (a % 256) := by
  have h := split_xor a
  have : s8 a = s8 ((256 * (a / 256)) ^^^ (a % 256)) := by rw [← h]
  rw [this, s8, sn_lin, ← s8, s8_high]
theorem xor256 {a b : Nat} (hb : b < 256) : (256 * a) ^^^ b = 256 * a + b := by
  have := split_xor (256 * a + b)
  rw [show (256 * a + b) / 256 = a from by omega, show (256 * a + b) % 256 = b from by omega] at this
  exact this.symm
/-- the register after bytes -/
def crc (r : Nat) (l : List UInt8) : Nat := l.foldl (fun r c => s8 (r ^^^ c.toNat)) r
theorem blt (c : UInt8) : c.toNat < 256 := c.toNat_lt
theorem crc_lt : ∀ (l : List UInt8) (r : Nat), r < 65536 → crc r l < 65536
  | [], _, h => h
  | c :: l, r, h => crc_lt l _ (sn_lt 8 _ (xlt h (by have := blt c; omega)))
theorem crc_nil (r : Nat) : crc r [] = r := rfl
theorem crc_cons (r : Nat) (c : UInt8) (l : List UInt8) : crc r (c :: l) = crc (s8 (r ^^^ c.toNat)) l := rfl
theorem crc_append (r : Nat) (a b : List UInt8) : crc r (a ++ b) = crc (crc r a) b := by simp [crc, List.foldl_append]
/-- another register: the difference is carried on -/
theorem crc_shift : ∀ (l : List UInt8) (r d : Nat), crc (r ^^^ d) l = crc r l ^^^ sn (8 * l.length) d
  | [], r, d => rfl
  | c :: l, r, d => by
    rw [crc_cons, crc_cons, show r ^^^ d ^^^ c.toNat = (r ^^^ c.toNat) ^^^ d from by ac_rfl]
    rw [s8, sn_lin, crc_shift l, ← sn_add, show 8 + 8 * l.length = 8 * (c :: l).length from by simp; omega]
/-- one byte turned by v -/
theorem crc_turn (l : List UInt8) (r i : Nat) (v : UInt8) (h : i < l.length) :
    crc r (l.set i (l[i] ^^^ v)) = crc r l ^^^ sn (8 * (l.length - i)) v.toNat := by
  induction l generalizing r i with
  | nil => simp at h
  | cons c l ih =>
    cases i with
    | zero =>
      simp only [List.set_cons_zero, List.getElem_cons_zero, crc_cons, UInt8.toNat_xor]
      rw [← Nat.xor_assoc, s8, sn_lin, crc_shift, ← sn_add, show 8 + 8 * l.length = 8 * ((c :: l).length - 0) from by simp; omega]
    | succ i =>
      simp only [List.set_cons_succ, List.getElem_cons_succ, crc_cons]
      rw [ih _ i (by simpa using h), show l.length - i = (c :: l).length - (i + 1) from by simp]
end Go.Proofs.Ytgahmaaoieofhaa
