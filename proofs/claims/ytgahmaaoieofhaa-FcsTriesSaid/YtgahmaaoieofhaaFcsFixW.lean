/-
Walk of Fix: what was sealed, if at most one bit was turned.
-/
import Derived.Test.YtgahmaaoieofhaaFcsBitW
namespace Go.Proofs.Ytgahmaaoieofhaa
open Go.RowKit
/-- does the register not come back for so many steps? -/
def chk : Nat → Nat → Bool
  | 0, _ => true
  | n + 1, r => (s1 r != 32768) && chk n (s1 r)
theorem chk_spec : ∀ (n r : Nat), chk n r = true → ∀ d, 0 < d → d ≤ n → sn d r ≠ 32768
  | 0, _, _, d, h1, h2 => by omega
  | n + 1, r, h, d, h1, h2 => by
    rw [chk, Bool.and_eq_true] at h
    cases d with
    | zero => omega
    | succ d =>
      show sn d (s1 r) ≠ 32768
      by_cases hd : d = 0
      · subst hd
        exact bne_iff_ne.1 h.1
      · exact chk_spec n (s1 r) h.2 d (by omega) (by omega)
theorem chk_all : chk 2719 32768 = true := by decide +kernel
theorem sn_pow : ∀ (m : Nat), m ≤ 15 → sn m 32768 = 2 ^ (15 - m)
  | 0, _ => rfl
  | m + 1, h => by
    rw [sn_succ, sn_pow m (by omega), show 15 - m = (15 - (m + 1)) + 1 from by omega, Nat.pow_succ, Nat.mul_comm, s1_even]
theorem synd_pow (j b : Nat) (hb : b < 8) : synd j b = sn (8 * j + (7 - b)) 32768 := by
  rw [Nat.add_comm, sn_add, sn_pow _ (by omega), synd, show 15 - (7 - b) = 8 + b from by omega]
theorem synd_inj {j b j' b' : Nat} (hj : j < 340) (hb : b < 8) (hj' : j' < 340) (hb' : b' < 8) (h : synd j b = synd j' b') : j = j' ∧ b = b' := by
  rw [synd_pow j b hb, synd_pow j' b' hb'] at h
  have key : ∀ e e', e < e' → e' < 2720 → sn e 32768 ≠ sn e' 32768 := fun e e' h1 h2 h3 => by
    rw [show e' = (e' - e) + e from by omega, sn_add] at h3
    have h4 := sn_inj e (by omega) (sn_lt _ _ (by omega)) h3
    exact chk_spec 2719 32768 chk_all (e' - e) (by omega) (by omega) h4.symm
  have e : 8 * j + (7 - b) = 8 * j' + (7 - b') := by
    rcases Nat.lt_trichotomy (8 * j + (7 - b)) (8 * j' + (7 - b')) with h1 | h1 | h1
    · exact absurd h (key _ _ h1 (by omega))
    · exact h1
    · exact absurd h.symm (key _ _ h1 (by omega))
  omega
/-- what the k-th bit of n bytes makes wrong -/
def syndK (n k : Nat) : Nat := synd (n - 1 - k / 8) (k % 8)
theorem syndK_inj {n k k' : Nat} (hn : n ≤ 340) (hk : k < 8 * n) (hk' : k' < 8 * n) (h : syndK n k = syndK n k') : k = k' := by
  have := synd_inj (by omega) (by omega) (by omega) (by omega) h
  omega
theorem wrong_turnL (L : List UInt8) (k : Nat) (h2 : 2 ≤ L.length) (hk : k < 8 * L.length) : wrongL (turnL L k) = wrongL L ^^^ syndK L.length k := by
  have hi : k / 8 < L.length := by omega
  have hg : L.getD (k / 8) 0 = L[k / 8] := by rw [List.getD_eq_getElem?_getD, List.getElem?_eq_getElem hi]; rfl
  rw [turnL, hg, wrongL_turn L (k / 8) (bitOf k) h2 hi, bitOf_nat, syndK, synd, Nat.pow_add]
theorem told_k {n wr k : Nat} {e : Ending} (hn : n ≤ 340) (hk : k < 8 * n) (h : syndK n k = wr) (ht : Told n wr e) : e = .returned (.int .i64 k) := by
  rcases ht with ⟨j, b, hj, hb, hs, he⟩ | ⟨ha, _⟩
  · have := synd_inj (by omega) hb (by omega) (by omega) (hs.trans h.symm)
    rw [he, show 8 * (n - 1 - j) + b = k from by omega]
  · exact absurd h (ha _ _ (by omega) (by omega))
theorem told_none {n wr : Nat} {e : Ending} (h : ∀ k, k < 8 * n → syndK n k ≠ wr) (ht : Told n wr e) : e = .returned (.int .i64 (-1)) := by
  rcases ht with ⟨j, b, hj, hb, hs, _⟩ | ⟨_, he⟩
  · refine absurd hs ?_
    have := h (8 * (n - 1 - j) + b) (by omega)
    rw [syndK, show n - 1 - (8 * (n - 1 - j) + b) / 8 = j from by omega, show (8 * (n - 1 - j) + b) % 8 = b from by omega] at this
    exact this
  · exact he
set_option maxHeartbeats 400000 in
theorem fix_short (b : Nat) (s : ByteArray) (w : World) (hs : s.size < 2) :
    Calls Try.prog 20 #[.pointer (some ⟨b, 0, none⟩), .string s] w fun e w' => e = .returned (.tuple #[.string ⟨#[]⟩, .int .i64 (-1), .int .i64 4]) ∧ Below w.heap.size w w' := by
  go_enter Try.func20, Try.ntmps20
  go_wp2_with (go_at_call 18; refine (open_short _ s _ hs).mono ?_; rintro e w1 ⟨rfl, rfl⟩)
  go_ret3
  exact ⟨rfl, Below.refl _ _⟩
set_option maxHeartbeats 400000 in
theorem fix_yes (b : Nat) (s : ByteArray) (w : World) (h2 : 2 ≤ s.size) (hs : s.size ≤ 140737488355328) (ht : IsTab w b) (hb : b < w.heap.size) (hS : Sealed s) :
    Calls Try.prog 20 #[.pointer (some ⟨b, 0, none⟩), .string s] w fun e w' => e = .returned (.tuple #[.string (held s), .int .i64 (-1), .int .i64 0]) ∧ Below w.heap.size w w' := by
  have HO := Lib.hid (open_yes b s w h2 hs ht hb hS)
  clear hS ht
  go_enter Try.func20, Try.ntmps20
  go_wp2_with (go_at_call 18; refine (HO.out).mono ?_; rintro e w1 ⟨rfl, hb1⟩)
  go_ret3
  exact ⟨rfl, hb1⟩
/-- the way to turnedBit and behind it -/
theorem fix_none (b : Nat) (s : ByteArray) (w : World) (h2 : 2 ≤ s.size) (hs : s.size ≤ 340) (ht : IsTab w b) (hb : b < w.heap.size) (hS : ¬ Sealed s) (hk : ∀ k, k < 8 * s.size → syndK s.size k ≠ wrongL s.data.toList) :
    Calls Try.prog 20 #[.pointer (some ⟨b, 0, none⟩), .string s] w fun e w' => e = .returned (.tuple #[.string ⟨#[]⟩, .int .i64 (-1), .int .i64 3]) ∧ Below w.heap.size w w' := by
  have HO := Lib.hid (open_no b s w h2 (by omega) ht hb hS)
  have HT := Lib.hid ht
  have HW := Lib.hid (fun w1 (t1 : IsTab w1 b) b1 => wrong_any b s w1 h2 (by omega) t1 b1)
  rw [wrongOf_list] at HW
  obtain ⟨wr, hwr⟩ : ∃ wr, wr = wrongL s.data.toList := ⟨_, rfl⟩
  rw [← hwr] at HW hk
  have HB := Lib.hid (fun w1 (t1 : IsTab w1 b) b1 => (turned_any b s.size wr w1 t1 b1 hs).mono fun e w' ⟨h1, h3⟩ => (⟨told_none hk h1, h3⟩ : e = Ending.returned (.int .i64 (-1)) ∧ Below w1.heap.size w1 w'))
  clear hS ht hk hwr
  go_enter Try.func20, Try.ntmps20
  go_wp2_with (first
    | (go_at_call 18; refine (HO.out).mono ?_; rintro e w1 ⟨rfl, hb1⟩; have T1 := Lib.hid (HT.out.below hb hb1); have L1 := Lib.hid (Nat.lt_of_lt_of_le hb hb1.size))
    | (go_at_call 24; refine (HW.out _ T1.out L1.out).mono ?_; rintro e w2 ⟨rfl, hb2⟩; have T2 := Lib.hid (T1.out.below L1.out hb2); have L2 := Lib.hid (Nat.lt_of_lt_of_le L1.out hb2.size))
    | (go_at_call 26; refine (HB.out _ T2.out L2.out).mono ?_; rintro e w3 ⟨rfl, hb3⟩))
  go_ret3
  exact ⟨rfl, hb1.trans ((hb2.trans (hb3.mono hb2.size)).mono hb1.size)⟩
set_option maxHeartbeats 400000 in
theorem fix_bit (b : Nat) (s : ByteArray) (k : Nat) (w : World) (h2 : 2 ≤ s.size) (hs : s.size ≤ 340) (ht : IsTab w b) (hb : b < w.heap.size) (hS : ¬ Sealed s) (hk : k < 8 * s.size) (hw : syndK s.size k = wrongL s.data.toList) :
    Calls Try.prog 20 #[.pointer (some ⟨b, 0, none⟩), .string s] w fun e w' => e = .returned (.tuple #[.string (held ⟨(turnL s.data.toList k).toArray⟩), .int .i64 k, .int .i64 0]) ∧ Below w.heap.size w w' := by
  have HO := Lib.hid (open_no b s w h2 (by omega) ht hb hS)
  have HT := Lib.hid ht
  have HW := Lib.hid (fun w1 (t1 : IsTab w1 b) b1 => wrong_any b s w1 h2 (by omega) t1 b1)
  rw [wrongOf_list] at HW
  have hZ : (⟨(turnL s.data.toList k).toArray⟩ : ByteArray).size = s.size := by
    show (turnL s.data.toList k).toArray.size = _
    simp [turnL]
  have HU := Lib.hid (fun w1 => turn_any s k w1 hk (by omega))
  have HI := Lib.hid (fun w1 => inside_any ⟨(turnL s.data.toList k).toArray⟩ w1 (by omega) (by omega))
  generalize (⟨(turnL s.data.toList k).toArray⟩ : ByteArray) = Z at *
  obtain ⟨wr, hwr⟩ : ∃ wr, wr = wrongL s.data.toList := ⟨_, rfl⟩
  rw [← hwr] at HW hw
  have HB := Lib.hid (fun w1 (t1 : IsTab w1 b) b1 => (turned_any b s.size wr w1 t1 b1 hs).mono fun e w' ⟨h1, h3⟩ => (⟨told_k hs hk hw h1, h3⟩ : e = Ending.returned (.int .i64 (k : Int)) ∧ Below w1.heap.size w1 w'))
  have b0 : (0 : Int) ≤ (k : Int) := by omega
  clear hS ht hk hwr hw hZ
  go_enter Try.func20, Try.ntmps20
  go_wp2_with (first
    | (go_at_call 18; refine (HO.out).mono ?_; rintro e w1 ⟨rfl, hb1⟩; have T1 := Lib.hid (HT.out.below hb hb1); have L1 := Lib.hid (Nat.lt_of_lt_of_le hb hb1.size))
    | (go_at_call 24; refine (HW.out _ T1.out L1.out).mono ?_; rintro e w2 ⟨rfl, hb2⟩; have T2 := Lib.hid (T1.out.below L1.out hb2); have L2 := Lib.hid (Nat.lt_of_lt_of_le L1.out hb2.size))
    | (go_at_call 26; refine (HB.out _ T2.out L2.out).mono ?_; rintro e w3 ⟨rfl, hb3⟩)
    | (go_at_call 27; refine (HU.out _).mono ?_; rintro e w4 ⟨rfl, hb4⟩)
    | (go_at_call 25; refine (HI.out _).mono ?_; rintro e w5 ⟨rfl, hb5⟩))
  go_ret3
  exact ⟨rfl, hb1.trans ((hb2.trans ((hb3.trans ((hb4.trans (hb5.mono hb4.size)).mono hb3.size)).mono hb2.size)).mono hb1.size)⟩
end Go.Proofs.Ytgahmaaoieofhaa
