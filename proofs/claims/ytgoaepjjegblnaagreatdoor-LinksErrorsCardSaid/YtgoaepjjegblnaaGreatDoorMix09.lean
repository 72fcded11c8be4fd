/-
The landed box: New, Len, Left, Total, Reset; what one that isn't there answers.
The landed code's gatherer: New, Reset, Open, Take.
The landed box keeps what it is asked.
The document's Mod and Far; its Same.
The landed code's Right, Step and Far.
The document's taker's window as it lies; its Held.
The document's sender's window: Next, Acks, Open.
What goes through a sender's and a taker's window, and what is stale: plain facts.
The landed code's sender's window (written by tools/gen11/gen_cout.py).
The landed code's taker's window as it lies: four cells, and a set of numbers.
What is asked of a landed taker's window, however it lies; the document's example, over that.
The landed code's taker's window (written by tools/gen11/gen_cin.py).
What is asked of a landed sender's window, however it lies; a sender and a taker together.
The landed windows keep what is asked of them; the document's example.
The landed smoother: within, New, T1, Srt, None, Took; of one that isn't there, too.
-/
import Derived.Test.YtgoaepjjegblnaaGreatDoorMix08
import Derived.Test.YtgoaepjjegblnaaGreatDoorMix03
import Derived.Test.YtgoaepjjegblnaaGreatDoorMix07
import Derived.Test.YtgoaepjjegblnaaGreatDoorMix00
import Derived.OrdersIn
import Derived.RangeFuncNested
import Derived.RangeFuncBound
import Derived.RangeFuncCalls
import Derived.RangeFuncLeaves
import Derived.Shelf.Abstract
import Derived.Shelf.RegionOpen
import Derived.OwnWalkIn
import Derived.TacticsInMore
import Derived.LoopNIn
import Derived.LoopIn
import Derived.BigRegionIn
import Derived.Lib.MinMax
import Derived.Test.YtgoaepjjegblnaaGreatDoorMix06
import Derived.Lib.AppendStr
import Derived.Deep.RegionHeld
import Derived.OrdersHeld
import Derived.Maps.OwnSet
namespace Go.Proofs.YtgoaepjjegblnaaGreatDoor
open Go.RowKit
set_option maxRecDepth 20000
theorem boL_new (n1 : Int) (w : World) : BoL (w.alloc (.cells #[.int .i64 n1, .slice none 0 0, .int .i64 0] 206)) w.heap.size n1 noB (footB w.heap.size (.slice none 0 0) []) :=
  ⟨.slice none 0 0, [], ⟨RowAt.new w w.heap.size rfl [.int .i64 n1, .slice none 0 0, .int .i64 0] 206, OwnL.nil _ _ _ _, (fun m hm => by cases hm), List.nodup_nil, (fun e => by cases e), (fun m hm => by cases hm), fun m hm => by cases hm⟩, rfl, rfl⟩
theorem cnew19_yes (n1 : Int) (w : World) (h : ¬ (n1 < 16 ∨ 256 < n1)) : Calls Tryz.prog 212 #[.int .i64 n1] w fun e w' => ∃ q, e = .returned (.tuple #[ptrB q, .int .i64 0]) ∧ ∃ F, BoL w' q n1 noB F ∧ (∀ k, F k → w.heap.size ≤ k) ∧ Below w.heap.size w w' := by
  have HR := Lib.hid (boL_new n1 w)
  have HB := Lib.hid ((Below.refl w.heap.size w).alloc (Nat.le_refl _) (.cells #[.int .i64 n1, .slice none 0 0, .int .i64 0] 206))
  have h1 : ¬ n1 < 16 := by omega
  have h2 : ¬ 256 < n1 := by omega
  clear h
  go_enter Tryz.func212, Tryz.ntmps212
  go_wp2_with fail
  exact bodyPost_ret (v := .tuple #[ptrB w.heap.size, .int .i64 0]) (by simp [results, Tryz.results212, go_sem]) rfl ⟨w.heap.size, rfl, _, HR.out, (fun b hb => by
    rcases hb with rfl | e | ⟨m, hm, -⟩
    · exact Nat.le_refl _
    · cases e
    · cases hm), HB.out⟩
section
variable {w : World} {q : Nat} {n1 : Int} {b : Bx} {F : Nat → Prop}
end
end Go.Proofs.YtgoaepjjegblnaaGreatDoor
namespace Go.Proofs.YtgoaepjjegblnaaGreatDoor
open Go.RowKit
set_option maxRecDepth 20000
/-- a gatherer's three cells -/
def csV (s : Gs) : List Value := [.int .i64 s.left, .int .i64 s.pid, .string s.text]
structure GOk (s : Gs) : Prop where
  off : s.on = false → s = zeroG
  on : s.on = true → 1 ≤ s.left ∧ s.left ≤ 127
  text : s.text.size ≤ 600
theorem GOk.zero : GOk zeroG := ⟨fun _ => rfl, fun h => by simp [zeroG] at h, Nat.zero_le _⟩
theorem cnew10 (w : World) : Calls Tryz.prog 216 #[] w fun e w' => e = .returned (.pointer (some ⟨w.heap.size, 0, none⟩)) ∧ w' = w.alloc (.cells #[.int .i64 0, .int .i64 0, .string ⟨#[]⟩] 316) := by
  go_enter Tryz.func216, Tryz.ntmps216
  go_wp2
  go_ret
  exact ⟨rfl, rfl⟩
end Go.Proofs.YtgoaepjjegblnaaGreatDoor
namespace Go.Proofs.YtgoaepjjegblnaaGreatDoor
set_option maxRecDepth 20000
open Go.RowKit
abbrev boL : BoP := BoL
section
variable {w w' : World} {q : Nat} {n1 : Int} {b : Bx} {F : Nat → Prop}
theorem bo_mem (h : boL w q n1 b F) : ∀ k, F k → k < w.heap.size := fun k hk => by
  obtain ⟨_, _, h, _, hF⟩ := h
  exact h.mem k (by rw [hF] at hk; exact hk)
theorem bo_stay (h : boL w q n1 b F) (hs : SameOn F w w') : boL w' q n1 b F := by
  obtain ⟨v, Z, h, hM, hF⟩ := h
  exact ⟨v, Z, h.stay (by rw [hF] at hs; exact hs), hM, hF⟩
end
end Go.Proofs.YtgoaepjjegblnaaGreatDoor
namespace Go.Proofs.YtgoaepjjegblnaaGreatDoor
open Go.RowKit
set_option maxRecDepth 20000
theorem i64_small' (n : Int) (h0 : -1000000 ≤ n) (h1 : n ≤ 1000000) : IntKind.i64.wrap n = n := IntWalk.i64_in _ (by omega)
end Go.Proofs.YtgoaepjjegblnaaGreatDoor
namespace Go.Proofs.YtgoaepjjegblnaaGreatDoor
open Go.RowKit
set_option maxRecDepth 20000
theorem all_take (L : List Int) (p : Int → Bool) (k : Nat) (hk : k < L.length) : (L.take (k + 1)).all p = ((L.take k).all p && p L[k]) := by
  rw [List.take_succ_eq_append_getElem hk, List.all_append]
  simp
theorem all_not11 (L : List Int) (p : Int → Bool) (k : Nat) (hk : k < L.length) (h : p L[k] = false) : L.all p = false := by
  rw [List.all_eq_false]
  exact ⟨L[k], List.getElem_mem hk, by simp [h]⟩
set_option maxHeartbeats 1000000 in
theorem cright11 (m : Int) (a : Option Addr) (n c : Nat) (L : List Int) (w : World) (hn : L.length = n) (hA : AtL encI w a L) (hl : n ≤ 1000) : Calls Tryz.prog 231 #[.int .i64 m, .slice a n c] w fun e w' => e = .returned (.bool (modR m && L.all (inR m))) ∧ w' = w := by
  have HN := Lib.hid hn
  have HA := Lib.hid hA
  clear hn hA
  by_cases hm : modR m = true
  · rw [hm, Bool.true_and]
    by_cases h8 : m = 8
    · have d8 : (m != 8) = false := by simp [h8]
      clear hm h8
      go_enter Tryz.func231, Tryz.ntmps231
      go_wp2_with fail
      go_loopw [15] (fun i wx => ∃ k : Nat, k ≤ n ∧ i = .int .i64 k ∧ Hid ((L.take k).all (inR m) = true ∧ wx = w)) (fun i _ => n - (intOf i).toNat)
      case atStart => exact ⟨0, by omega, rfl, Lib.hid ⟨by simp, rfl⟩⟩
      case round =>
        obtain ⟨k, hk, rfl, HK⟩ := hrel
        obtain ⟨hall, rfl⟩ := HK.out
        have HALL := Lib.hid hall
        clear hall HK
        by_cases hlt : k < n
        · have hL : k < L.length := by rw [HN.out]; exact hlt
          obtain ⟨g, o, rfl, _⟩ := HA.out.some_ (by omega)
          have x0 := int_at HA.out k hL
          have HT := Lib.hid (all_take L (inR m) k hL)
          have HF := Lib.hid (all_not11 L (inR m) k hL)
          generalize L[k] = x at *
          cases hx : inR m x with
          | true =>
            have hb := inR_yes hx
            have d0 : decide (x < 0) = false := decide_eq_false (by omega)
            have d1 : decide (m ≤ x) = false := decide_eq_false (by omega)
            rw [HALL.out, hx] at HT
            clear hx hb hL HF
            go_wp2_with fail
            go_roundw
            case rel => exact ⟨k + 1, by omega, by go_num, Lib.hid ⟨HT.out, by first | rfl | trivial⟩⟩
            case measure => simp [intOf]; omega
          | false =>
            have HF2 := Lib.hid (HF.out hx)
            by_cases hx0 : x < 0
            · have d0 : decide (x < 0) = true := decide_eq_true hx0
              clear hx hL HF HT hx0
              go_wp2_with fail
              exact bodyPost_ret (v := .bool false) (by simp [results, Tryz.results231, go_sem]) rfl ⟨by rw [HF2.out], rfl⟩
            · have d0 : decide (x < 0) = false := decide_eq_false hx0
              have d1 : decide (m ≤ x) = true := decide_eq_true (by rcases inR_no hx with h | h <;> omega)
              clear hx hL HF HT hx0
              go_wp2_with fail
              exact bodyPost_ret (v := .bool false) (by simp [results, Tryz.results231, go_sem]) rfl ⟨by rw [HF2.out], rfl⟩
        · have hkn : k = n := by omega
          have HE := Lib.hid (show L.all (inR m) = true from by
            have := HALL.out
            rwa [List.take_of_length_le (by rw [HN.out]; omega)] at this)
          have dk : decide ((k : Int) < (n : Int)) = false := decide_eq_false (by omega)
          clear hkn
          go_wp2_with fail
          exact bodyPost_ret (v := .bool true) (by simp [results, Tryz.results231, go_sem]) rfl ⟨by rw [HE.out], rfl⟩
    · have d8 : (m != 8) = true := by simpa using h8
      have d9 : (m != 128) = false := by
        rcases modR_yes hm with h | h
        · exact absurd h h8
        · simp [h]
      clear hm h8
      go_enter Tryz.func231, Tryz.ntmps231
      go_wp2_with fail
      go_loopw [15] (fun i wx => ∃ k : Nat, k ≤ n ∧ i = .int .i64 k ∧ Hid ((L.take k).all (inR m) = true ∧ wx = w)) (fun i _ => n - (intOf i).toNat)
      case atStart => exact ⟨0, by omega, rfl, Lib.hid ⟨by simp, rfl⟩⟩
      case round =>
        obtain ⟨k, hk, rfl, HK⟩ := hrel
        obtain ⟨hall, rfl⟩ := HK.out
        have HALL := Lib.hid hall
        clear hall HK
        by_cases hlt : k < n
        · have hL : k < L.length := by rw [HN.out]; exact hlt
          obtain ⟨g, o, rfl, _⟩ := HA.out.some_ (by omega)
          have x0 := int_at HA.out k hL
          have HT := Lib.hid (all_take L (inR m) k hL)
          have HF := Lib.hid (all_not11 L (inR m) k hL)
          generalize L[k] = x at *
          cases hx : inR m x with
          | true =>
            have hb := inR_yes hx
            have d0 : decide (x < 0) = false := decide_eq_false (by omega)
            have d1 : decide (m ≤ x) = false := decide_eq_false (by omega)
            rw [HALL.out, hx] at HT
            clear hx hb hL HF
            go_wp2_with fail
            go_roundw
            case rel => exact ⟨k + 1, by omega, by go_num, Lib.hid ⟨HT.out, by first | rfl | trivial⟩⟩
            case measure => simp [intOf]; omega
          | false =>
            have HF2 := Lib.hid (HF.out hx)
            by_cases hx0 : x < 0
            · have d0 : decide (x < 0) = true := decide_eq_true hx0
              clear hx hL HF HT hx0
              go_wp2_with fail
              exact bodyPost_ret (v := .bool false) (by simp [results, Tryz.results231, go_sem]) rfl ⟨by rw [HF2.out], rfl⟩
            · have d0 : decide (x < 0) = false := decide_eq_false hx0
              have d1 : decide (m ≤ x) = true := decide_eq_true (by rcases inR_no hx with h | h <;> omega)
              clear hx hL HF HT hx0
              go_wp2_with fail
              exact bodyPost_ret (v := .bool false) (by simp [results, Tryz.results231, go_sem]) rfl ⟨by rw [HF2.out], rfl⟩
        · have hkn : k = n := by omega
          have HE := Lib.hid (show L.all (inR m) = true from by
            have := HALL.out
            rwa [List.take_of_length_le (by rw [HN.out]; omega)] at this)
          have dk : decide ((k : Int) < (n : Int)) = false := decide_eq_false (by omega)
          clear hkn
          go_wp2_with fail
          exact bodyPost_ret (v := .bool true) (by simp [results, Tryz.results231, go_sem]) rfl ⟨by rw [HE.out], rfl⟩
  · have hm2 : modR m = false := by simpa using hm
    rw [hm2, Bool.false_and]
    have d8 : (m != 8) = true := by
      unfold modR at hm2
      simp at hm2
      simpa using hm2.1
    have d9 : (m != 128) = true := by
      unfold modR at hm2
      simp at hm2
      simpa using hm2.2
    clear hm hm2
    go_enter Tryz.func231, Tryz.ntmps231
    go_wp2_with fail
    exact bodyPost_ret (v := .bool false) (by simp [results, Tryz.results231, go_sem]) rfl ⟨rfl, rfl⟩
theorem cright_none (m : Int) (w : World) : Calls Tryz.prog 231 #[.int .i64 m, .slice none 0 0] w fun e w' => e = .returned (.bool (modR m)) ∧ w' = w := by
  have := cright11 m none 0 0 [] w rfl (AtL.nil _ _ _) (by omega)
  simpa using this
end Go.Proofs.YtgoaepjjegblnaaGreatDoor
namespace Go.Proofs.YtgoaepjjegblnaaGreatDoor
open Go.RowKit
set_option maxRecDepth 20000
/-- what holds of it -/
structure TiOk (m k : Int) (s : Ti) : Prop where
  md : m = 8 ∨ m = 128
  kb : 1 ≤ k ∧ 2 * k ≤ m
  vb : 0 ≤ s.vr ∧ s.vr ≤ 100000
  len : s.came.length = 128
  high : ∀ i : Nat, k ≤ i → s.came.getD i false = false
  head : s.came.getD 0 false = false
end Go.Proofs.YtgoaepjjegblnaaGreatDoor
namespace Go.Proofs.YtgoaepjjegblnaaGreatDoor
open Go.RowKit
set_option maxRecDepth 20000
/-- what holds of it -/
structure SoOk (m k : Int) (s : So) : Prop where
  md : m = 8 ∨ m = 128
  kb : 1 ≤ k ∧ k < m
  ab : 0 ≤ s.acked ∧ s.acked ≤ s.opened
  ob : s.opened - s.acked ≤ k
  most : s.opened ≤ 100000
end Go.Proofs.YtgoaepjjegblnaaGreatDoor
namespace Go.Proofs.YtgoaepjjegblnaaGreatDoor
set_option maxRecDepth 20000
open Go.RowKit
theorem fresh_get (i : Nat) : (List.replicate 128 false).getD i false = false := by
  rw [List.getD_eq_getElem?_getD, List.getElem?_replicate]
  split <;> rfl
end Go.Proofs.YtgoaepjjegblnaaGreatDoor
namespace Go.Proofs.YtgoaepjjegblnaaGreatDoor
open Go.RowKit
set_option maxRecDepth 20000
/-- its four cells -/
def coV (m k : Int) (s : So) : List Value := [.int .i64 m, .int .i64 k, .int .i64 (s.acked % m), .int .i64 (s.opened % m)]
set_option maxHeartbeats 1000000 in
theorem cnewout_yes (m k : Int) (w : World) (hm : m = 8 ∨ m = 128) (hk : 1 ≤ k ∧ k < m) : Calls Tryz.prog 213 #[.int .i64 m, .int .i64 k] w fun e w' =>
    e = .returned (.tuple #[.pointer (some ⟨w.heap.size, 0, none⟩), .int .i64 0]) ∧ w' = w.alloc (.cells #[.int .i64 m, .int .i64 k, .int .i64 0, .int .i64 0] 283) := by
  have HC := Lib.hid (cright_none m w)
  rw [show modR m = true from by rcases hm with e | e <;> subst e <;> rfl] at HC
  have d0 : decide (k < 1) = false := decide_eq_false (by omega)
  have d1 : decide (m - 1 < k) = false := decide_eq_false (by omega)
  have z1 : IntKind.i64.wrap (m - 1) = m - 1 := i64_small' _ (by omega) (by omega)
  clear hm hk
  go_enter Tryz.func213, Tryz.ntmps213
  go_wp2_with (go_at_call 231; (with_reducible refine HC.out.mono ?_); rintro e w ⟨rfl, rfl⟩)
  exact bodyPost_ret (v := .tuple #[.pointer (some ⟨w.heap.size, 0, none⟩), .int .i64 0]) (by simp [results, Tryz.results213, go_sem]) rfl ⟨rfl, rfl⟩
end Go.Proofs.YtgoaepjjegblnaaGreatDoor
namespace Go.Proofs.YtgoaepjjegblnaaGreatDoor
open Go.RowKit
set_option maxRecDepth 20000
/-- the marks, as a set -/
structure SetOk (m : Int) (t : Ti) (D : DataW Unit) : Prop where
  has : ∀ i : Nat, (i : Int) < m → Maps.has D (.int .i64 ((t.vr + i) % m)) = t.came.getD i false
  size : Maps.size D = t.came.count true
theorem SetOk.start (m : Int) : SetOk m ⟨0, List.replicate 128 false⟩ (.map []) :=
  ⟨fun i _ => by rw [fresh_get]; rfl, by
    show (0 : Nat) = _
    rw [List.count_replicate]
    simp⟩
theorem own_same {w w' : World} {P : Program} {k : TypeId} {R : Value → Option (DataW Unit × List MemPlace)} {b n : Nat} {D : DataW Unit} (h : w.ownsMap P k R b n D) (e : w'.heap[b]? = w.heap[b]?) : w'.ownsMap P k R b n D := by
  obtain ⟨es, clock, hb, r⟩ := h
  exact ⟨es, clock, e.trans hb, r⟩
end Go.Proofs.YtgoaepjjegblnaaGreatDoor
namespace Go.Proofs.YtgoaepjjegblnaaGreatDoor
open Go.RowKit
set_option maxRecDepth 20000
/-- how a taker's window lies: at a block, of a modulus and a K, as a plain one, in some blocks -/
abbrev InR := World → Nat → Int → Int → Ti → (Nat → Prop) → Prop
end Go.Proofs.YtgoaepjjegblnaaGreatDoor
namespace Go.Proofs.YtgoaepjjegblnaaGreatDoor
open Go.RowKit
set_option maxRecDepth 20000
/-- the set lies so -/
abbrev OwnD (w : World) (b : Nat) (D : DataW Unit) : Prop := w.ownsMap Tryz.prog 3 unitElem b (Maps.size D) D
/-- how the landed taker's window lies -/
def InL : InR := fun w p m k t F => ∃ b D, RowAt w p [.int .i64 m, .int .i64 k, .int .i64 (t.vr % m), .map (some b)] ∧ OwnD w b D ∧ p ≠ b ∧ F = (fun x => x = p ∨ x = b) ∧ SetOk m t D
set_option maxHeartbeats 1000000 in
theorem cnewin_yes_narrow (k : Int) (w : World) (hk : 1 ≤ k ∧ 2 * k ≤ 8) : Calls Tryz.prog 215 #[.int .i64 8, .int .i64 k] w fun e w' =>
    ∃ p F, e = .returned (.tuple #[.pointer (some ⟨p, 0, none⟩), .int .i64 0]) ∧ InL w' p 8 k ⟨0, List.replicate 128 false⟩ F ∧ (∀ b, F b → w.heap.size ≤ b) ∧ Below w.heap.size w w' := by
  have HC := Lib.hid (cright_none 8 w)
  rw [show modR 8 = true from rfl] at HC
  have d0 : decide (k < 1) = false := decide_eq_false (by omega)
  have d1 : decide (4 < k) = false := decide_eq_false (by omega)
  have hmm := @run_makeMap Tryz.prog
  have HO := Lib.hid (World.ownsMap_made (H := Unit) w Tryz.prog 3 unitElem)
  have HB := Lib.hid (((Below.refl w.heap.size w).alloc (Nat.le_refl _) (.map #[] 0)).alloc (by simp) (.cells #[.int .i64 8, .int .i64 k, .int .i64 0, .map (some w.heap.size)] 267))
  have HR := Lib.hid (RowAt.new (w.alloc (.map #[] 0)) (w.heap.size + 1) (by simp) [.int .i64 8, .int .i64 k, .int .i64 0, .map (some w.heap.size)] 267)
  clear hk
  go_enter Tryz.func215, Tryz.ntmps215
  go_wp2_with (go_at_call 231; (with_reducible refine HC.out.mono ?_); rintro e w ⟨rfl, rfl⟩)
  exact bodyPost_ret (v := .tuple #[.pointer (some ⟨w.heap.size + 1, 0, none⟩), .int .i64 0]) (by simp [results, Tryz.results215, go_sem]) rfl
    ⟨_, _, rfl, ⟨w.heap.size, .map [], HR.out, HO.out.alloc _, by omega, rfl, SetOk.start 8⟩, fun b hb => by rcases hb with e | e <;> omega, HB.out⟩
set_option maxHeartbeats 1000000 in
theorem cnewin_yes_wide (k : Int) (w : World) (hk : 1 ≤ k ∧ 2 * k ≤ 128) : Calls Tryz.prog 215 #[.int .i64 128, .int .i64 k] w fun e w' =>
    ∃ p F, e = .returned (.tuple #[.pointer (some ⟨p, 0, none⟩), .int .i64 0]) ∧ InL w' p 128 k ⟨0, List.replicate 128 false⟩ F ∧ (∀ b, F b → w.heap.size ≤ b) ∧ Below w.heap.size w w' := by
  have HC := Lib.hid (cright_none 128 w)
  rw [show modR 128 = true from rfl] at HC
  have d0 : decide (k < 1) = false := decide_eq_false (by omega)
  have d1 : decide (64 < k) = false := decide_eq_false (by omega)
  have hmm := @run_makeMap Tryz.prog
  have HO := Lib.hid (World.ownsMap_made (H := Unit) w Tryz.prog 3 unitElem)
  have HB := Lib.hid (((Below.refl w.heap.size w).alloc (Nat.le_refl _) (.map #[] 0)).alloc (by simp) (.cells #[.int .i64 128, .int .i64 k, .int .i64 0, .map (some w.heap.size)] 267))
  have HR := Lib.hid (RowAt.new (w.alloc (.map #[] 0)) (w.heap.size + 1) (by simp) [.int .i64 128, .int .i64 k, .int .i64 0, .map (some w.heap.size)] 267)
  clear hk
  go_enter Tryz.func215, Tryz.ntmps215
  go_wp2_with (go_at_call 231; (with_reducible refine HC.out.mono ?_); rintro e w ⟨rfl, rfl⟩)
  exact bodyPost_ret (v := .tuple #[.pointer (some ⟨w.heap.size + 1, 0, none⟩), .int .i64 0]) (by simp [results, Tryz.results215, go_sem]) rfl
    ⟨_, _, rfl, ⟨w.heap.size, .map [], HR.out, HO.out.alloc _, by omega, rfl, SetOk.start 128⟩, fun b hb => by rcases hb with e | e <;> omega, HB.out⟩
theorem cnewin_yes (m k : Int) (w : World) (hm : m = 8 ∨ m = 128) (hk : 1 ≤ k ∧ 2 * k ≤ m) : Calls Tryz.prog 215 #[.int .i64 m, .int .i64 k] w fun e w' =>
    ∃ p F, e = .returned (.tuple #[.pointer (some ⟨p, 0, none⟩), .int .i64 0]) ∧ InL w' p m k ⟨0, List.replicate 128 false⟩ F ∧ (∀ b, F b → w.heap.size ≤ b) ∧ Below w.heap.size w w' := by
  rcases hm with e | e <;> subst e
  · exact cnewin_yes_narrow k w hk
  · exact cnewin_yes_wide k w hk
theorem InL.stay {w w' : World} {p : Nat} {m k : Int} {t : Ti} {F : Nat → Prop} (h : InL w p m k t F) (hs : SameOn F w w') : InL w' p m k t F := by
  obtain ⟨b, D, hR, hO, hpb, rfl, hS⟩ := h
  exact ⟨b, D, hR.block (hs.2 p (Or.inl rfl)) hs.1, own_same hO (hs.2 b (Or.inr rfl)), hpb, rfl, hS⟩
/-- all that is asked of it -/
theorem in_mem {w : World} {p : Nat} {m k : Int} {t : Ti} {F : Nat → Prop} (h : InL w p m k t F) : ∀ x, F x → x < w.heap.size := fun x hx => by
  obtain ⟨b, D, hR, hO, _, hF, _⟩ := h
  rw [hF] at hx
  rcases hx with e | e
  · rw [e]; exact (hR.get 0 rfl).lt
  · rw [e]; exact hO.lt
theorem in_stay {w w' : World} {p : Nat} {m k : Int} {t : Ti} {F : Nat → Prop} (h : InL w p m k t F) (hs : SameOn F w w') : InL w' p m k t F := h.stay hs
end Go.Proofs.YtgoaepjjegblnaaGreatDoor
namespace Go.Proofs.YtgoaepjjegblnaaGreatDoor
set_option maxRecDepth 20000
open Go.RowKit
/-- how a sender's window lies -/
abbrev OutR := World → Nat → Int → Int → So → (Nat → Prop) → Prop
section
variable {RO : OutR} {RI : InR} {w0 w : World} {p q : Nat} {m k : Int} {s : So} {t : Ti}
end
end Go.Proofs.YtgoaepjjegblnaaGreatDoor
namespace Go.Proofs.YtgoaepjjegblnaaGreatDoor
set_option maxRecDepth 20000
open Go.RowKit
/-- how the landed sender's window lies -/
def OutL : OutR := fun w p m k s F => RowAt w p (coV m k s) ∧ F = (fun x => x = p)
section
variable {w w' : World} {p : Nat} {m k : Int} {s : So} {F : Nat → Prop}
theorem out_mem (h : OutL w p m k s F) : ∀ x, F x → x < w.heap.size := fun x hx => by
  obtain ⟨hR, hF⟩ := h
  rw [hF] at hx
  rw [hx]
  exact (hR.get 0 rfl).lt
theorem out_stay (h : OutL w p m k s F) (hs : SameOn F w w') : OutL w' p m k s F := by
  obtain ⟨hR, hF⟩ := h
  exact ⟨hR.block (hs.2 _ (by rw [hF])) hs.1, hF⟩
end
theorem out_new (m k : Int) (w : World) (hm : m = 8 ∨ m = 128) (hk : 1 ≤ k ∧ k < m) : Calls Tryz.prog 213 #[.int .i64 m, .int .i64 k] w fun e w' =>
    ∃ p F, e = .returned (.tuple #[.pointer (some ⟨p, 0, none⟩), .int .i64 0]) ∧ OutL w' p m k ⟨0, 0⟩ F ∧ (∀ b, F b → w.heap.size ≤ b) ∧ Below w.heap.size w w' :=
  (cnewout_yes m k w hm hk).mono fun _ _ ⟨he, hw⟩ => ⟨_, _, he, ⟨by
    rw [hw]
    have := RowAt.new w w.heap.size rfl (coV m k ⟨0, 0⟩) 283
    have e0 : (0 : Int) % m = 0 := by rcases hm with e | e <;> subst e <;> rfl
    simp only [coV, e0] at this ⊢
    exact this, rfl⟩, fun b hb => by rw [hb]; exact Nat.le_refl _, by rw [hw]; exact (Below.refl _ _).alloc (Nat.le_refl _) _⟩
end Go.Proofs.YtgoaepjjegblnaaGreatDoor
namespace Go.Proofs.YtgoaepjjegblnaaGreatDoor
open Go.RowKit
set_option maxRecDepth 20000
theorem cwithin_any (n : Int) (w : World) : Calls Tryz.prog 164 #[.int .i64 n] w fun e w' => e = .returned (.int .i64 (inT n)) ∧ w' = w := by
  have hx := inT_min n
  go_enter Tryz.func164, Tryz.ntmps164
  go_wp2
  exact bodyPost_ret (v := .int .i64 (inT n)) (by simp [results, Tryz.results164, go_sem]) rfl ⟨rfl, rfl⟩
theorem cnew_any (n : Int) (w : World) : Calls Tryz.prog 119 #[.int .i64 n] w fun e w' => e = .returned (.pointer (some ⟨w.heap.size, 0, none⟩)) ∧ w' = w.alloc (.cells #[.int .i64 (Sm.new n).srt, .int .i64 (Sm.new n).t1] 241) := by
  have HW := Lib.hid (fun W => cwithin_any n W)
  have hm := inT_most n
  simp only [Sm.new]
  generalize inT n = x at *
  have z1 : IntKind.i64.wrap (4 * x) = 4 * x := i64_near _ (by omega) (by omega)
  clear hm
  go_enter Tryz.func119, Tryz.ntmps119
  go_wp2_with (go_at_call 164; (with_reducible refine (HW.out _).mono ?_); rintro e w ⟨rfl, rfl⟩)
  exact bodyPost_ret (v := .pointer (some ⟨w.heap.size, 0, none⟩)) (by simp [results, Tryz.results119, go_sem]) rfl ⟨rfl, rfl⟩
/-- its two cells -/
def smV (s : Sm) : List Value := [.int .i64 s.srt, .int .i64 s.t1]
theorem cnew_row (n : Int) (w : World) : RowAt (w.alloc (.cells #[.int .i64 (Sm.new n).srt, .int .i64 (Sm.new n).t1] 241)) w.heap.size (smV (Sm.new n)) := RowAt.new w w.heap.size rfl (smV (Sm.new n)) 241
theorem ct1_any (p : Nat) (s : Sm) (w : World) (h : RowAt w p (smV s)) (hok : s.ok) : Calls Tryz.prog 165 #[.pointer (some ⟨p, 0, none⟩)] w fun e w' => e = .returned (.int .i64 s.t1) ∧ w' = w := by
  have HW := Lib.hid (fun W => cwithin_any s.t1 W)
  rw [inT_same hok.2] at HW
  have c1 := h.cell 1 (v := .int .i64 s.t1) rfl
  clear h hok
  go_enter Tryz.func165, Tryz.ntmps165
  go_wp2_with (go_at_call 164; (with_reducible refine (HW.out _).mono ?_); rintro e w ⟨rfl, rfl⟩)
  exact bodyPost_ret (v := .int .i64 s.t1) (by simp [results, Tryz.results165, go_sem]) rfl ⟨rfl, rfl⟩
theorem ct1_nil (w : World) : Calls Tryz.prog 165 #[.pointer none] w fun e w' => e = .returned (.int .i64 0) ∧ w' = w := by
  go_enter Tryz.func165, Tryz.ntmps165
  go_wp2_with fail
  exact bodyPost_ret (v := .int .i64 0) (by simp [results, Tryz.results165, go_sem]) rfl ⟨rfl, rfl⟩
end Go.Proofs.YtgoaepjjegblnaaGreatDoor
