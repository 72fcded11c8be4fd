/-
Walk of turnedBit: which bit makes the sum wrong in just those places.
-/
import Derived.Test.YtgahmaaoieofhaaFcsTurnW
namespace Go.Proofs.Ytgahmaaoieofhaa
open Go.RowKit
/-- eight numbers in a row -/
def mk8 (f : Nat → Nat) : Array Value := ((List.range 8).map fun i => Value.int .u16 ((f i : Nat) : Int)).toArray
theorem mk8_size (f : Nat → Nat) : (mk8 f).size = 8 := by simp [mk8]
theorem mk8_get (f : Nat → Nat) (i : Nat) (h : i < 8) : (mk8 f)[i]? = some (Value.int .u16 ((f i : Nat) : Int)) := by simp [mk8, h]
theorem mk8_set (f g : Nat → Nat) (b : Nat) (h : b < 8) (hg : ∀ i, i < 8 → g i = if i = b then g b else f i) : (mk8 f).setIfInBounds b (.int .u16 ((g b : Nat) : Int)) = mk8 g := by
  apply Array.ext_getElem?
  intro i
  by_cases hi : i < 8
  · by_cases hn : b = i
    · subst hn
      rw [Array.getElem?_setIfInBounds_self_of_lt (by rw [mk8_size]; exact h), mk8_get _ _ h]
    · rw [Array.getElem?_setIfInBounds_ne hn, mk8_get _ _ hi, mk8_get _ _ hi, hg i hi, if_neg (fun e => hn e.symm)]
  · rw [Array.getElem?_eq_none (by simp [mk8_size]; omega), Array.getElem?_eq_none (by simp [mk8_size]; omega)]
theorem zero8 (w : World) : (zeroValue 63).run Try.prog w = .ok (.agg (mk8 fun _ => 0)) w := by kernel_rfl
theorem index8 (f : Nat → Nat) (b : Nat) (hb : b < 8) (w : World) : (Instr.index 63 (.agg (mk8 f)) (.int .i64 b)).run Try.prog w = .ok (.int .u16 ((f b : Nat) : Int)) w := by
  have p0 : (part 28 (mk8 f) b).run Try.prog w = .ok (.int .u16 ((f b : Nat) : Int)) w := run_part_plain w (by kernel_rfl) (mk8_get f b hb)
  have hc : ∀ w, (Go.sizeOf 28).run Try.prog w = .ok 1 w := fun w => by kernel_rfl
  simp [Instr.index, asIntOf, run_underlying Try.underlying63, hc, p0]
  intro h
  omega
/-- what a bit of the j-th byte from the end makes wrong -/
def synd (j b : Nat) : Nat := sn (8 * j) (2 ^ (8 + b))
theorem pow_16 {b : Nat} (hb : b < 8) : 2 ^ (8 + b) < 65536 := by
  have : 2 ^ (8 + b) < 2 ^ 16 := Nat.pow_lt_pow_right (by omega) (by omega)
  omega
theorem synd_lt (j : Nat) {b : Nat} (hb : b < 8) : synd j b < 65536 := sn_lt _ _ (pow_16 hb)
theorem synd_succ (j b : Nat) : synd (j + 1) b = s8 (synd j b) := by
  unfold synd; rw [show 8 * (j + 1) = 8 * j + 8 from by omega, sn_add]
/-- the numbers while the first loop lays them -/
def laid (k i : Nat) : Nat := if i < k then 2 ^ (8 + i) else 0
/-- the numbers while a byte is gone through -/
def gone (j b i : Nat) : Nat := if i < b then synd (j + 1) i else synd j i
theorem laid_next (k : Nat) (hk : k < 8) : (mk8 (laid k)).setIfInBounds k (.int .u16 ((laid (k + 1) k : Nat) : Int)) = mk8 (laid (k + 1)) :=
  mk8_set _ _ k hk fun i _ => by
    unfold laid
    by_cases h : i = k
    · rw [if_pos h, h]
    · rw [if_neg h]
      by_cases h1 : i < k
      · rw [if_pos h1, if_pos (by omega)]
      · rw [if_neg h1, if_neg (by omega)]
theorem laid_shift (k : Nat) (hk : k < 8) : IntKind.u16.wrap ((2 : Int) ^ (8 + k)) = ((laid (k + 1) k : Nat) : Int) := by
  unfold laid
  rw [if_pos (by omega), IntKind.wrap_u16]
  have hp := pow_16 hk
  have e2 : ((2 : Int) ^ (8 + k)) = ((2 ^ (8 + k) : Nat) : Int) := by push_cast; rfl
  rw [e2]
  generalize (2 ^ (8 + k) : Nat) = pw at hp ⊢
  omega
theorem gone_next (j b : Nat) (hb : b < 8) : (mk8 (gone j b)).setIfInBounds b (.int .u16 ((gone j (b + 1) b : Nat) : Int)) = mk8 (gone j (b + 1)) :=
  mk8_set _ _ b hb fun i _ => by
    unfold gone
    by_cases h : i = b
    · rw [if_pos h, h]
    · rw [if_neg h]
      by_cases h1 : i < b
      · rw [if_pos h1, if_pos (by omega)]
      · rw [if_neg h1, if_neg (by omega)]
theorem gone_here (j b : Nat) : gone j (b + 1) b = s8 (synd j b) := by unfold gone; rw [if_pos (by omega), synd_succ]
theorem gone_all (j : Nat) : mk8 (gone j 8) = mk8 (gone (j + 1) 0) := by
  unfold mk8
  congr 1
theorem laid_all : mk8 (laid 8) = mk8 (gone 0 0) := by
  unfold mk8
  congr 1
theorem gone_start (j : Nat) : gone j 0 = synd j := funext fun i => by unfold gone; rw [if_neg (by omega)]
/-- what turnedBit tells -/
def Told (n wr : Nat) (e : Ending) : Prop :=
  (∃ j b, j < n ∧ b < 8 ∧ synd j b = wr ∧ e = .returned (.int .i64 ((8 * (n - 1 - j) + b : Nat) : Int))) ∨ ((∀ j b, j < n → b < 8 → synd j b ≠ wr) ∧ e = .returned (.int .i64 (-1)))
set_option maxRecDepth 100000 in
set_option maxHeartbeats 1000000 in
theorem turned_any (tb n wr : Nat) (w : World) (ht : IsTab w tb) (htb : tb < w.heap.size) (hn : n ≤ 340) :
    Calls Try.prog 26 #[.pointer (some ⟨tb, 0, none⟩), .int .i64 n, .int .u16 wr] w fun e w' => Told n wr e ∧ Below w.heap.size w w' := by
  have HT := Lib.hid (fun o => ht.alloc htb o)
  have hz := zero8
  have hl0 : (mk8 fun _ => 0) = mk8 (laid 0) := by
    unfold mk8; congr 1
  rw [hl0] at hz
  clear hl0 ht
  go_enter Try.func26, Try.ntmps26
  go_wp2
  clear hz
  go_loopw [12] (fun i wx => ∃ k : Nat, k ≤ 8 ∧ i = .int .i64 k ∧ wx = w.alloc (.cells (mk8 (laid k)) 63)) (fun i _ => 8 - (intOf i).toNat)
  case atStart => exact ⟨0, Nat.zero_le _, rfl, rfl⟩
  case round =>
    obtain ⟨k, hk, rfl, rfl⟩ := hrel
    by_cases hlt : k < 8
    · have hg := mk8_get (laid k) k hlt
      have hs := mk8_size (laid k)
      go_wp2
      go_roundw
      case rel => exact ⟨k + 1, by omega, by go_num, by rw [laid_shift k hlt, laid_next k hlt]⟩
      case measure => simp [intOf]; omega
    · obtain rfl : k = 8 := by omega
      rw [laid_all]
      go_wp2
      go_loopw [9] (fun i wx => ∃ j : Nat, j ≤ n ∧ i = .int .i64 ((n : Int) - 1 - (j : Int)) ∧ wx = w.alloc (.cells (mk8 (gone j 0)) 63) ∧ Hid (∀ j' b, j' < j → b < 8 → synd j' b ≠ wr)) (fun i _ => (intOf i + 1).toNat)
      case atStart => exact ⟨0, Nat.zero_le _, by go_num, rfl, fun j' b h => absurd h (by omega)⟩
      case round =>
        obtain ⟨j, hj, rfl, rfl, HA⟩ := hrel
        by_cases hjn : j < n
        · have h0 : (0 : Int) ≤ (n : Int) - 1 - (j : Int) := by omega
          have hg := heap_alloc_new w (.cells (mk8 (gone j 0)) 63)
          have HG := Lib.hid hg
          clear hg
          go_wp2_with (refine wpList_load_row rfl 63 _ rfl w.heap.size rfl 63 (mk8 (gone j 0)) (0, 0) _ HG.out Try.underlying63 rfl (by rw [mk8_size]; kernel_rfl) ?_)
          go_loopw [28] (fun i wx => ∃ b : Nat, b ≤ 8 ∧ i = .int .i64 b ∧ wx = w.alloc (.cells (mk8 (gone j b)) 63) ∧ Hid (∀ b', b' < b → synd j b' ≠ wr)) (fun i _ => 8 - (intOf i).toNat)
          case atStart => exact ⟨0, by omega, rfl, rfl, fun b' h => absurd h (by omega)⟩
          case round =>
            obtain ⟨b, hb, rfl, rfl, HB⟩ := hrel
            clear HG
            by_cases hb8 : b < 8
            · have hix : ∀ w, (Instr.index 63 (.agg (mk8 (gone j 0))) (.int .i64 b)).run Try.prog w = .ok (.int .u16 ((synd j b : Nat) : Int)) w := fun w => by
                have h := index8 (gone j 0) b hb8 w
                rw [gone_start j] at h ⊢
                exact h
              have hSl := synd_lt j hb8
              have HN := Lib.hid (gone_next j b hb8)
              rw [gone_here] at HN
              by_cases hS : synd j b = wr
              · have HS := Lib.hid hS
                have hq : (((synd j b : Nat) : Int) == (wr : Int)) = true := by rw [hS]; exact beq_self_eq_true _
                clear hS HN
                obtain ⟨S, hSS⟩ : ∃ S, S = synd j b := ⟨_, rfl⟩
                rw [← hSS] at hix hSl hq
                clear hSS
                go_wp2
                go_ret
                exact ⟨Or.inl ⟨j, b, hjn, hb8, HS.out, ret_i64 (by omega)⟩, (Below.refl _ w).alloc (Nat.le_refl _) _⟩
              · have hq : (((synd j b : Nat) : Int) == (wr : Int)) = false := by rw [beq_eq_false_iff_ne]; omega
                have HS := Lib.hid hS
                clear hS
                have hg := mk8_get (gone j b) b hb8
                have hs := mk8_size (gone j b)
                obtain ⟨S, hSS⟩ : ∃ S, S = synd j b := ⟨_, rfl⟩
                rw [← hSS] at hix hSl hq HN
                have HSS := Lib.hid hSS
                clear hSS
                go_wp2_with (go_at_call 22; refine (step_any S tb _ hSl (HT.out _)).mono ?_; rintro e w' ⟨rfl, rfl⟩)
                go_roundw
                case rel => exact ⟨b + 1, by omega, by go_num, by rw [HN.out], fun b' h => by
                  by_cases e : b' = b
                  · rw [e]; exact HS.out
                  · exact HB.out b' (by omega)⟩
                case measure => simp [intOf]; omega
            · obtain rfl : b = 8 := by omega
              go_wp2
              go_roundw
              case rel =>
                have hnew : ∀ j' b', j' < j + 1 → b' < 8 → synd j' b' ≠ wr := fun j' b' h1 h2 => by
                  by_cases e : j' = j
                  · rw [e]; exact HB.out b' h2
                  · exact HA.out j' b' (by omega) h2
                (repeat apply Exists.intro)
                exact ⟨⟨j + 1, by omega, by go_num, by rw [gone_all], hnew⟩, rfl⟩
              case measure => simp [intOf]; omega
        · go_wp2
          go_ret
          exact ⟨Or.inr ⟨fun j' b h1 h2 => HA.out j' b (by omega) h2, rfl⟩, (Below.refl _ w).alloc (Nat.le_refl _) _⟩
end Go.Proofs.Ytgahmaaoieofhaa
