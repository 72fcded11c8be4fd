/-
The library's IndexFunc and DeleteFunc of ints; the landed plane's Heard.
-/
import Derived.Test.YtgfipndilngfbaaAirCSendB
namespace Go.Proofs.Ytgfipndilngfbaa
open Go.RowKit
set_option maxRecDepth 20000
theorem takers_next (j : Nat) (c : Nat → Bool) : takersL (j + 1) c = takersL j c ++ if c (j + 1) = true then [((j + 1 : Nat) : Int)] else [] := by
  unfold takersL
  rw [List.range_succ, List.map_append, List.filter_append, List.map_append]
  congr 1
  simp only [List.map_cons, List.map_nil, List.filter_cons, List.filter_nil]
  split <;> simp
theorem takers_le (j : Nat) (c : Nat → Bool) : (takersL j c).length ≤ j := by
  unfold takersL
  rw [List.length_map]
  refine Nat.le_trans (List.length_filter_le _ _) ?_
  simp
set_option maxHeartbeats 1000000 in
theorem cheard15 {w : World} {p n : Nat} {H : Nat → Nat → Bool} {F : Nat → Prop} (h : PlH w p n H F) (hn : n ≤ 16) (i : Nat) (hi : 1 ≤ i ∧ i ≤ n) :
    Calls Try.prog 37 #[ptrV p, .int .i64 i] w fun e w' => ∃ v, e = .returned v ∧ OwnN15 w' w.heap.size v (takersL n fun j => H j i) ∧ Below w.heap.size w w' := by
  have HA := Lib.hid h
  clear h
  go_enter Try.func37, Try.ntmps37
  go_wp2_with fail
  go_loopw [5, 6] (fun lv jv wx => ∃ (j : Nat) (tv : Value), j ≤ n ∧ jv = .int .i64 ((j : Int) + 1) ∧ lv = tv ∧ Hid (OwnN15 wx w.heap.size tv (takersL j fun j => H j i) ∧ Below w.heap.size w wx)) (fun _ jv _ => n + 1 - (intOf jv).toNat)
  case atStart => exact ⟨0, _, Nat.zero_le _, rfl, rfl, Lib.hid ⟨OwnL.nil _ _ _ _, Below.refl _ _⟩⟩
  case round =>
    obtain ⟨j, tv, hj, rfl, rfl, HK⟩ := hrel
    have HW := Lib.hid (HA.out.below HK.out.2)
    have HL := Lib.hid HW.out.len
    by_cases hlt : j < n
    · have dk : decide ((j : Int) + 1 ≤ (n : Int)) = true := decide_eq_true (by omega)
      have HH := Lib.hid (show Calls Try.prog 36 #[ptrV p, .int .i64 ((j : Int) + 1), .int .i64 i] wr _ from HW.out.hears (j + 1) i (by omega) hi)
      have HV := Lib.hid (takers_next j fun j => H j i)
      have HZ := Lib.hid (show wrap64 ((j : Int) + 1 + 1) = (j : Int) + 1 + 1 from IntWalk.wrap64_in _ (by omega))
      have HTL := Lib.hid (takers_le j fun j => H j i)
      cases hs : H (j + 1) i with
      | false =>
        rw [hs] at HH
        simp only [hs, Bool.false_eq_true, if_false, List.append_nil] at HV
        clear hs
        go_wp2_with (first
          | (go_at_call 26; (with_reducible refine HL.out.mono ?_); rintro e w1 ⟨rfl, rfl⟩)
          | (go_at_call 36; (with_reducible refine HH.out.mono ?_); rintro e w2 ⟨rfl, hb⟩; have HB2 := Lib.hid (And.intro (OwnL.below HK.out.1 hb) (HK.out.2.trans (hb.mono HK.out.2.size))); clear hb))
        go_roundw
        case rel => exact ⟨j + 1, _, by omega, by (try rw [HZ.out]); exact congrArg (Value.int .i64) (by omega), rfl, by rw [HV.out]; exact HB2⟩
        case measure =>
          try rw [HZ.out]
          simp [intOf]
          omega
      | true =>
        rw [hs] at HH
        simp only [hs, if_true] at HV
        clear hs
        go_wp2_with (first
          | (go_at_call 26; (with_reducible refine HL.out.mono ?_); rintro e w1 ⟨rfl, rfl⟩)
          | (go_at_call 36; (with_reducible refine HH.out.mono ?_); rintro e w2 ⟨rfl, hb⟩; have HB2 := Lib.hid (And.intro (OwnL.below HK.out.1 hb) (HK.out.2.trans (hb.mono HK.out.2.size))); clear hb)
          | (at_builtin; refine wpList_append_one encI 3 62 Try.underlying62 infoI rfl (by decide) _ rfl (.tmp 17) (.tmp 19) rfl w.heap.size _ (takersL j fun j => H j i) rfl (HB2.out.1.alloc _) w2.heap.size 1 rfl ((j : Int) + 1) (AtL.made encI 3 w2 w2.heap.size ((j : Int) + 1) _ rfl rfl) (by have := HTL.out; omega) (by have := HB2.out.2.size; simp; omega) ?_; intro v2 w3 hown hgr hwh))
        have HB3 := Lib.hid (And.intro hown (OwnL.appended (HB2.out.1.alloc (.cells #[.int .i64 ((j : Int) + 1)] 3)) (HB2.out.2.alloc HB2.out.2.size _) (Nat.le_refl _) (by have := HB2.out.2.size; simp; omega) hgr))
        clear hown hgr hwh
        go_roundw
        case rel => exact ⟨j + 1, _, by omega, by (try rw [HZ.out]); exact congrArg (Value.int .i64) (by omega), rfl, by rw [HV.out]; exact HB3⟩
        case measure =>
          try rw [HZ.out]
          simp [intOf]
          omega
    · obtain rfl : j = n := by omega
      have dk : decide ((j : Int) + 1 ≤ (j : Int)) = false := decide_eq_false (by omega)
      go_wp2_with (go_at_call 26; (with_reducible refine HL.out.mono ?_); rintro e w1 ⟨rfl, rfl⟩)
      refine bodyPost_ret (by simp [results, Try.results37, go_sem]) rfl ⟨_, rfl, HK.out⟩
/-- a function of ints, called by the number k with what it holds -/
def SaysI (k : Nat) (cap : Array Value) (q : Int → Bool) (L : List Int) (F : Nat → Prop) (w : World) : Prop :=
  (∀ args W, (callFunc k args).run Try.prog W = .ok (.enter k args) W) ∧
  ∀ x ∈ L, ∀ W : World, Turn F w W → Calls Try.prog k (#[.int .i64 x] ++ cap) W fun e W' => e = .returned (.bool (q x)) ∧ Below W.heap.size W W'
/-- the first of which it says so; -1: none -/
def firstI (q : Int → Bool) (L : List Int) : Int := match L.findIdx? q with | some i => (i : Int) | none => -1
theorem first_some (q : Int → Bool) (L : List Int) (i : Nat) (hi : i < L.length) (hq : q L[i] = true) (hb : ∀ k (hk : k < i), q (L[k]'(by omega)) = false) : firstI q L = i := by
  have : L.findIdx? q = some i := by
    rw [List.findIdx?_eq_some_iff_getElem]
    exact ⟨hi, hq, fun j hj => by rw [hb j hj]; simp⟩
  unfold firstI
  rw [this]
theorem first_none (q : Int → Bool) (L : List Int) (hb : ∀ k (hk : k < L.length), q (L[k]) = false) : firstI q L = -1 := by
  have : L.findIdx? q = none := by
    rw [List.findIdx?_eq_none_iff]
    intro x hx
    obtain ⟨k, hk, rfl⟩ := List.mem_iff_getElem.1 hx
    exact hb k hk
  unfold firstI
  rw [this]
set_option maxHeartbeats 1000000 in
theorem cindexI15 (k : Nat) (cap : Array Value) (q : Int → Bool) (ad : Option Addr) (n c : Nat) (L : List Int) (F : Nat → Prop) (w : World) (hn : L.length = n) (h : AtL encI w ad L) (hl : n ≤ 16) (hs : SaysI k cap q L F w) :
    Calls Try.prog 46 #[.slice ad n c, .func (.func k) #[] cap] w fun e w' => e = .returned (.int .i64 (firstI q L)) ∧ Below w.heap.size w w' := by
  have HN := Lib.hid hn
  have HA := Lib.hid h
  have hent := hs.1
  have HS := Lib.hid hs.2
  clear hn h hs
  go_enter Try.func46, Try.ntmps46
  go_wp2_with fail
  go_loopw [5, 8] (fun _ v wx => ∃ i : Nat, i ≤ n ∧ v = .int .i64 i ∧ Hid ((∀ k (hk : k < i) (hk' : k < L.length), q (L[k]) = false) ∧ Below w.heap.size w wx)) (fun _ v _ => n - (intOf v).toNat)
  case atStart => exact ⟨0, Nat.zero_le _, rfl, Lib.hid ⟨fun k hk => absurd hk (Nat.not_lt_zero _), Below.refl _ _⟩⟩
  case round =>
    obtain ⟨i, hi, rfl, HK⟩ := hrel
    by_cases hlt : i < n
    · have hL : i < L.length := by rw [HN.out]; exact hlt
      obtain ⟨g, o, rfl, -⟩ := HA.out.some_ (by omega)
      have x0 := int_at (HA.out.below HK.out.2) i hL
      have HC := Lib.hid (fun W h => HS.out L[i] (List.getElem_mem hL) W h)
      have HF := Lib.hid (fun hq => first_some q L i hL hq fun k hk => HK.out.1 k hk (by omega))
      have HNX := Lib.hid (fun (hq : q L[i] = false) => show ∀ k (hk : k < i + 1) (hk' : k < L.length), q (L[k]) = false from fun k hk hk' => by
        by_cases e : k = i
        · subst e; exact hq
        · exact HK.out.1 k (by omega) hk')
      have HB := Lib.hid HK.out.2
      generalize L[i] = x at *
      cases hq : q x with
      | true =>
        rw [hq] at HC
        have HF1 := Lib.hid (HF.out hq)
        clear hq HF HNX
        go_wp2_with (go_at_fn k; (with_reducible refine (HC.out _ (Turn.of_below HB.out)).mono ?_); rintro e w1 ⟨rfl, hb⟩; have HB2 := Lib.hid (HB.out.trans (hb.mono HB.out.size)); clear hb)
        rw [HF1.out]
        exact bodyPost_ret (v := .int .i64 i) (by simp [results, Try.results46, go_sem]) rfl ⟨rfl, HB2.out⟩
      | false =>
        rw [hq] at HC
        have HN1 := Lib.hid (HNX.out hq)
        clear hq HF HNX
        go_wp2_with (go_at_fn k; (with_reducible refine (HC.out _ (Turn.of_below HB.out)).mono ?_); rintro e w1 ⟨rfl, hb⟩; have HB2 := Lib.hid (HB.out.trans (hb.mono HB.out.size)); clear hb)
        go_roundw
        case rel => exact ⟨i + 1, by omega, rfl, Lib.hid ⟨HN1.out, HB2.out⟩⟩
        case measure => simp [intOf]; omega
    · have e : i = n := by omega
      have HF1 := Lib.hid (first_none q L fun k hk => HK.out.1 k (by have := HN.out; omega) hk)
      clear e
      go_wp2_with fail
      rw [HF1.out]
      exact bodyPost_ret (v := .int .i64 (-1)) (by simp [results, Try.results46, go_sem]) rfl ⟨rfl, HK.out.2⟩
end Go.Proofs.Ytgfipndilngfbaa
