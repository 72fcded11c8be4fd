/-
A smoother as plain numbers: what it keeps, what a time and no answer make of it; where each answer takes the same time it comes to be near twice that.
-/
import Derived.Test.YtljmdpkbedmkmaaFactsUpto
import Derived.Test.YtljmdpkbedmkmaaTurn
import Derived.Lib.MinMax
import Derived.Deep.RegionHeld
import Derived.Deep.DeepCutAuto
namespace Go.Proofs.Ytljmdpkbedmkmaa
/-- from 4 to 255 -/
def inT (n : Int) : Int := if n < 4 then 4 else if 255 < n then 255 else n
theorem inT_most (n : Int) : 4 ≤ inT n ∧ inT n ≤ 255 := by
  unfold inT
  split
  · omega
  · split <;> omega
theorem inT_min (n : Int) : min (max n 4) 255 = inT n := by
  unfold inT
  split
  · omega
  · split <;> omega
theorem inT_same {n : Int} (h : 4 ≤ n ∧ n ≤ 255) : inT n = n := by
  unfold inT
  rw [if_neg (by omega), if_neg (by omega)]
/-- from 0 to 255 -/
def inB (n : Int) : Int := if n < 0 then 0 else if 255 < n then 255 else n
theorem inB_most (n : Int) : 0 ≤ inB n ∧ inB n ≤ 255 := by
  unfold inB
  split
  · omega
  · split <;> omega
theorem inB_min (n : Int) : min (max n 0) 255 = inB n := by
  unfold inB
  split
  · omega
  · split <;> omega
/-- what a smoother keeps -/
structure Sm where
  srt : Int
  t1 : Int
def Sm.new (t : Int) : Sm := ⟨4 * inT t, inT t⟩
def Sm.took (s : Sm) (t : Int) : Sm := ⟨s.srt - s.srt / 8 + inB t, inT ((s.srt - s.srt / 8 + inB t) / 4 + 2)⟩
def Sm.none (s : Sm) : Sm := ⟨s.srt, inT (2 * s.t1)⟩
def Sm.ok (s : Sm) : Prop := (0 ≤ s.srt ∧ s.srt ≤ 2047) ∧ 4 ≤ s.t1 ∧ s.t1 ≤ 255
theorem Sm.new_ok (t : Int) : (Sm.new t).ok := by
  have := inT_most t
  refine ⟨⟨?_, ?_⟩, this⟩
  · show 0 ≤ 4 * inT t
    omega
  · show 4 * inT t ≤ 2047
    omega
theorem Sm.took_ok {s : Sm} (h : s.ok) (t : Int) : (s.took t).ok := by
  have hb := inB_most t
  obtain ⟨⟨h0, h1⟩, -⟩ := h
  refine ⟨⟨?_, ?_⟩, inT_most _⟩
  · show 0 ≤ s.srt - s.srt / 8 + inB t
    omega
  · show s.srt - s.srt / 8 + inB t ≤ 2047
    omega
theorem Sm.none_ok {s : Sm} (h : s.ok) : s.none.ok := ⟨h.1, inT_most _⟩
/-- one step: a time, or none -/
def Sm.step (s : Sm) (t : Int) : Sm := if t < 0 then s.none else s.took t
theorem Sm.step_ok {s : Sm} (h : s.ok) (t : Int) : (s.step t).ok := by
  unfold Sm.step
  split
  · exact Sm.none_ok h
  · exact Sm.took_ok h t
/-- longer times never make it less -/
theorem took_mono {s : Sm} {a b : Int} (h : a ≤ b) : (s.took a).t1 ≤ (s.took b).t1 ∧ (s.took a).srt ≤ (s.took b).srt := by
  have hb : inB a ≤ inB b := by
    unfold inB
    split <;> split <;> (try split) <;> (try split) <;> omega
  have hs : (s.took a).srt ≤ (s.took b).srt := by
    show s.srt - s.srt / 8 + inB a ≤ s.srt - s.srt / 8 + inB b
    omega
  refine ⟨?_, hs⟩
  show inT ((s.took a).srt / 4 + 2) ≤ inT ((s.took b).srt / 4 + 2)
  unfold inT
  split <;> split <;> (try split) <;> (try split) <;> omega
theorem none_mono {s : Sm} (h : s.ok) : s.t1 ≤ s.none.t1 := by
  obtain ⟨-, h1, h2⟩ := h
  show s.t1 ≤ inT (2 * s.t1)
  unfold inT
  split
  · omega
  · split <;> omega
/-- the same time, so often -/
def rep (t : Int) (s : Sm) : Nat → Sm
  | 0 => s
  | n + 1 => (rep t s n).took t
theorem rep_ok {s : Sm} (h : s.ok) (t : Int) : ∀ n, (rep t s n).ok
  | 0 => h
  | n + 1 => Sm.took_ok (rep_ok h t n) t
def step8 (d : Int) : Int := d - d / 8
theorem step8_mono {a b : Int} (h : a ≤ b) : step8 a ≤ step8 b := by
  unfold step8
  omega
def far8 (d : Int) : Nat → Int
  | 0 => d
  | n + 1 => step8 (far8 d n)
theorem rep_far {t : Int} (ht : 0 ≤ t ∧ t ≤ 255) (s : Sm) : ∀ n, (rep t s n).srt - 8 * t = far8 (s.srt - 8 * t) n
  | 0 => rfl
  | n + 1 => by
    have ih := rep_far ht s n
    have e : inB t = t := by unfold inB; rw [if_neg (by omega), if_neg (by omega)]
    show (rep t s n).srt - (rep t s n).srt / 8 + inB t - 8 * t = step8 (far8 (s.srt - 8 * t) n)
    rw [← ih, e]
    unfold step8
    omega
theorem far8_mono {a b : Int} (h : a ≤ b) : ∀ n, far8 a n ≤ far8 b n
  | 0 => h
  | n + 1 => step8_mono (far8_mono h n)
theorem far8_add (a : Int) (n : Nat) : ∀ m, far8 a (n + m) = far8 (far8 a n) m
  | 0 => rfl
  | m + 1 => congrArg step8 (far8_add a n m)
theorem far8_low : far8 (-2024) 61 = 0 := by decide +kernel
theorem far8_high : far8 1020 61 = 7 := by decide +kernel
theorem far8_stay : ∀ m, 0 ≤ far8 0 m ∧ far8 7 m ≤ 7
  | 0 => ⟨by decide, by decide⟩
  | m + 1 => by
    obtain ⟨h1, h2⟩ := far8_stay m
    show 0 ≤ step8 _ ∧ step8 _ ≤ 7
    unfold step8
    omega
/-- behind 60 answers it is near -/
theorem near (t1 t : Int) (ht : 0 ≤ t ∧ t ≤ 255) (n : Nat) (hn : 60 ≤ n) : min (max (2 * t) 4) 255 - 3 ≤ (rep t (Sm.new t1) (n + 1)).t1 ∧ (rep t (Sm.new t1) (n + 1)).t1 ≤ min (max (2 * t) 4) 255 + 3 := by
  have h1 := inT_most t1
  have hf := rep_far ht (Sm.new t1) (n + 1)
  have e : (Sm.new t1).srt = 4 * inT t1 := rfl
  obtain ⟨m, rfl⟩ : ∃ m, n = 60 + m := ⟨n - 60, by omega⟩
  rw [show 60 + m + 1 = 61 + m by omega] at hf ⊢
  have hl := far8_mono (show (-2024 : Int) ≤ (Sm.new t1).srt - 8 * t by rw [e]; omega) (61 + m)
  have hh := far8_mono (show (Sm.new t1).srt - 8 * t ≤ (1020 : Int) by rw [e]; omega) (61 + m)
  rw [far8_add (-2024), far8_low] at hl
  rw [far8_add 1020, far8_high] at hh
  obtain ⟨s1, s2⟩ := far8_stay m
  rw [← hf] at hl hh
  have g : (rep t (Sm.new t1) (61 + m)).t1 = inT ((rep t (Sm.new t1) (61 + m)).srt / 4 + 2) := by
    rw [show 61 + m = (60 + m) + 1 by omega]
    rfl
  rw [g, inT_min]
  unfold inT
  split <;> split <;> (try split) <;> (try split) <;> omega
/-- T1 behind so many that didn't come -/
def tI (t : Int) : Nat → Int
  | 0 => inT t
  | n + 1 => inT (2 * tI t n)
theorem tI_most (t : Int) : ∀ n, 4 ≤ tI t n ∧ tI t n ≤ 255
  | 0 => inT_most _
  | _ + 1 => inT_most _
def sumN (t : Int) : Nat → Int
  | 0 => 0
  | n + 1 => sumN t n + tI t n
theorem sumN_most (t : Int) : ∀ n : Nat, 4 * (n : Int) ≤ sumN t n ∧ sumN t n ≤ 255 * (n : Int)
  | 0 => by simp [sumN]
  | n + 1 => by
    have h1 := sumN_most t n
    have h2 := tI_most t n
    show _ ≤ sumN t n + tI t n ∧ sumN t n + tI t n ≤ _
    omega
/-- as many tries as count -/
def triesN (k : Int) : Nat := (min (max k 0) 1000).toNat
theorem triesN_le (k : Int) : triesN k ≤ 1000 := by unfold triesN; omega
theorem triesN_eq (k : Int) : ((triesN k : Nat) : Int) = min (max k 0) 1000 := by unfold triesN; omega
end Go.Proofs.Ytljmdpkbedmkmaa
