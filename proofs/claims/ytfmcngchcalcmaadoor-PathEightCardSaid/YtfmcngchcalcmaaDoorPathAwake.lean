/-
The document's example, and the law's test of length.
-/
import Derived.Test.YtfmcngchcalcmaaDoorPathCVia
import Derived.Test.YtfmcngchcalcmaaDoorPathCNext
import Derived.Test.YtfmcngchcalcmaaDoorPathCSent
import Derived.Test.YtfmcngchcalcmaaDoorPathCText
import Derived.BigQuiet
import Derived.Deep.QuietTactic
namespace Go.Proofs.YtfmcngchcalcmaaDoor
open Go.RowKit Go.Sort
set_option maxRecDepth 20000
theorem great_any' (tb fb : ByteArray) (tn fn : Int) (tm fm : Bool) (a : Option Addr) (n cap : Nat) (w : World) :
    Calls Tryd.prog 14 #[.agg #[.string tb, .int .i64 tn, .string fb, .int .i64 fn, .bool tm, .bool fm, .slice a n cap]] w fun e w' => e = .returned (.bool (decide (30 < n))) ∧ Below w.heap.size w w' := by
  have e : decide ((30 : Int) < (n : Int)) = decide (30 < n) := decide_eq_decide.2 (by omega)
  cases h : decide (30 < n)
  all_goals
    rw [h] at e
    go_enter Tryd.func14, Tryd.ntmps14
    go_wp2
    go_ret
    exact ⟨rfl, (Below.refl _ w).alloc (Nat.le_refl _) _⟩
theorem run_eq_callP (a b : ByteArray) (n m : Int) (w : World) (E : Bool) (h : E = decide (a = b ∧ n = m)) : (Op.equalIn 10000 23 (.agg #[.string a, .int .i64 n]) (.agg #[.string b, .int .i64 m])).run Tryd.prog w = .ok E w := by
  have hs : (a.toList == b.toList) = decide (a = b) := by
    rw [ByteArray.toList_eq, ByteArray.toList_eq, Bool.eq_iff_iff, beq_iff_eq, decide_eq_true_eq]
    exact ⟨fun e => bytes_ext' e, fun e => by rw [e]⟩
  have hn : (n == m) = decide (n = m) := rfl
  by_cases h1 : a = b
  · by_cases h2 : n = m
    · rw [decide_eq_true (And.intro h1 h2)] at h
      rw [decide_eq_true h1] at hs
      rw [decide_eq_true h2] at hn
      subst h
      go_simp
    · rw [decide_eq_false (fun x => h2 x.2)] at h
      rw [decide_eq_true h1] at hs
      rw [decide_eq_false h2] at hn
      subst h
      go_simp
  · rw [decide_eq_false (fun x => h1 x.1)] at h
    rw [decide_eq_false h1] at hs
    subst h
    go_simp
/-- the example's digipeaters, ahead and behind -/
def exD0 : List Ent := [(⟨#[67]⟩, 0, false), (⟨#[68]⟩, 0, false)]
def exD1 : List Ent := [(⟨#[67]⟩, 0, true), (⟨#[68]⟩, 0, false)]
theorem ex_right : rightP ((⟨#[66]⟩, 0, true) :: (⟨#[65]⟩, 0, !true) :: freshD [(⟨#[67]⟩, 0), (⟨#[68]⟩, 0)]) = true := by decide +kernel
theorem ex_right2 : rightP ((⟨#[66]⟩, 0, true) :: (⟨#[65]⟩, 0, false) :: exD1) = true := by decide +kernel
theorem ex_sent : sentD exD0 = exD1 := by rfl
theorem ex_next : nextV exD1 = .tuple #[.agg #[.string ⟨#[68]⟩, .int .i64 0], .bool true] := by rfl
theorem ex_text : pathD (⟨#[66]⟩, 0, true) (⟨#[65]⟩, 0, false) exD1 = [65, 62, 66, 44, 67, 42, 44, 68] := by decide +kernel
theorem ex_via (V : World) (n : Nat) (hn : n = V.heap.size) : Calls Tryd.prog 33 #[.agg #[.string ⟨#[65]⟩, .int .i64 0], .agg #[.string ⟨#[66]⟩, .int .i64 0], .bool true, .slice (some ⟨n, 0, none⟩) 2 2] (V.alloc (.cells #[.string ⟨#[67]⟩, .int .i64 0, .string ⟨#[68]⟩, .int .i64 0] 23)) fun e w' =>
    (∃ da dc, e = .returned (.tuple #[.agg #[.string ⟨#[66]⟩, .int .i64 0, .string ⟨#[65]⟩, .int .i64 0, .bool true, .bool false, .slice da 2 dc], .int .i64 0]) ∧ EntsAt w' da dc exD0) ∧ Below V.heap.size V w' := by
  subst hn
  have h := via_any ⟨#[65]⟩ ⟨#[66]⟩ 0 0 true (some ⟨V.heap.size, 0, none⟩) 2 [(⟨#[67]⟩, 0), (⟨#[68]⟩, 0)] (V.alloc (.cells #[.string ⟨#[67]⟩, .int .i64 0, .string ⟨#[68]⟩, .int .i64 0] 23)) (by simp) (fun k hk => by
    have hk2 : k < 2 := hk
    have hz : V.heap.size < (V.alloc (.cells #[.string ⟨#[67]⟩, .int .i64 0, .string ⟨#[68]⟩, .int .i64 0] 23)).heap.size := by simp
    rcases (show k = 0 ∨ k = 1 from by omega) with rfl | rfl
    · exact ⟨V.heap.size, 0, rfl, hz, World.cell?_alloc_at _ _ _ _ rfl, World.cell?_alloc_at _ _ _ _ rfl⟩
    · exact ⟨V.heap.size, 0, rfl, hz, World.cell?_alloc_at _ _ _ _ rfl, World.cell?_alloc_at _ _ _ _ rfl⟩)
    (by decide) (by decide) (fun x hx => by
      rcases List.mem_cons.1 hx with rfl | hx
      · decide
      · rcases List.mem_cons.1 hx with rfl | hx
        · decide
        · cases hx)
  refine h.mono fun e w' hq => ⟨Eq.mp (if_pos ex_right) hq.1, ((Below.refl _ V).alloc (Nat.le_refl _) _).trans (hq.2.mono (by simp))⟩
theorem ex_sizes (D : List Ent) (h : ∀ x ∈ D, x.1.size ≤ 6) : ∀ x ∈ D, x.1.size ≤ 140737488351232 := fun x hx => by have := h x hx; omega
theorem ex_sent_call (W : World) (da : Option Addr) (dc : Nat) (h : EntsAt W da dc exD0) : Calls Tryd.prog 27 #[.agg #[.string ⟨#[66]⟩, .int .i64 0, .string ⟨#[65]⟩, .int .i64 0, .bool true, .bool false, .slice da 2 dc]] W fun e w' =>
    (∃ ea ec, e = .returned (.tuple #[.agg #[.string ⟨#[66]⟩, .int .i64 0, .string ⟨#[65]⟩, .int .i64 0, .bool true, .bool false, .slice ea 2 ec], .bool true]) ∧ EntsAt w' ea ec exD1) ∧ Below W.heap.size W w' :=
  sent_any ⟨#[66]⟩ ⟨#[65]⟩ 0 0 true false da dc exD0 W (by decide) h (by decide) (by decide) (fun x hx => by
    rcases List.mem_cons.1 hx with rfl | hx
    · decide
    · rcases List.mem_cons.1 hx with rfl | hx
      · decide
      · cases hx)
theorem ex_next_call (W : World) (da : Option Addr) (dc : Nat) (h : EntsAt W da dc exD1) : Calls Tryd.prog 25 #[.agg #[.string ⟨#[66]⟩, .int .i64 0, .string ⟨#[65]⟩, .int .i64 0, .bool true, .bool false, .slice da 2 dc]] W fun e w' =>
    e = .returned (.tuple #[.agg #[.string ⟨#[68]⟩, .int .i64 0], .bool true]) ∧ Below W.heap.size W w' :=
  ex_next ▸ next_any ⟨#[66]⟩ ⟨#[65]⟩ 0 0 true false da dc exD1 W (by decide) h (fun x hx => by
    rcases List.mem_cons.1 hx with rfl | hx
    · decide
    · rcases List.mem_cons.1 hx with rfl | hx
      · decide
      · cases hx)
theorem ex_text_call (W : World) (da : Option Addr) (dc : Nat) (h : EntsAt W da dc exD1) : Calls Tryd.prog 19 #[.agg #[.string ⟨#[66]⟩, .int .i64 0, .string ⟨#[65]⟩, .int .i64 0, .bool true, .bool false, .slice da 2 dc]] W fun e w' =>
    e = .returned (.string ⟨#[65, 62, 66, 44, 67, 42, 44, 68]⟩) ∧ Below W.heap.size W w' := by
  have k := ptext_any ⟨#[66]⟩ ⟨#[65]⟩ 0 0 true false da dc exD1 W (by decide) h
  rw [if_pos ex_right2, ex_text] at k
  exact k
set_option maxHeartbeats 2000000 in
theorem pawake_any (w : World) : Calls Tryd.prog 13 #[] w fun e w' => e = .returned (.bool true) ∧ Below w.heap.size w w' := by
  have hb1 := (Below.refl _ w).alloc (Nat.le_refl _) (.cells #[.string ⟨#[65]⟩, .int .i64 0] 23)
  have hb2 := hb1.alloc hb1.size (.cells #[.string ⟨#[66]⟩, .int .i64 0] 23)
  have hb3 := hb2.alloc hb2.size (.cells #[.string ⟨#[67]⟩, .int .i64 0] 23)
  have hb4 := hb3.alloc hb3.size (.cells #[.string ⟨#[68]⟩, .int .i64 0] 23)
  have HB0 := Lib.hid hb4
  have HV := Lib.hid (fun (V : World) n (hn : n = V.heap.size) => ex_via V n hn)
  have e3 : w.heap.size + 1 + 1 + 1 = (((w.alloc (.cells #[.string ⟨#[65]⟩, .int .i64 0] 23)).alloc (.cells #[.string ⟨#[66]⟩, .int .i64 0] 23)).alloc (.cells #[.string ⟨#[67]⟩, .int .i64 0] 23)).heap.size := by simp
  have HK := Lib.hid (show ∀ w', Below ((((w.alloc (.cells #[.string ⟨#[65]⟩, .int .i64 0] 23)).alloc (.cells #[.string ⟨#[66]⟩, .int .i64 0] 23)).alloc (.cells #[.string ⟨#[67]⟩, .int .i64 0] 23)).alloc (.cells #[.string ⟨#[68]⟩, .int .i64 0] 23)).heap.size ((((w.alloc (.cells #[.string ⟨#[65]⟩, .int .i64 0] 23)).alloc (.cells #[.string ⟨#[66]⟩, .int .i64 0] 23)).alloc (.cells #[.string ⟨#[67]⟩, .int .i64 0] 23)).alloc (.cells #[.string ⟨#[68]⟩, .int .i64 0] 23)) w' → KeepAt w' (w.heap.size + 1 + 1 + 1) 0 (.string ⟨#[68]⟩) ∧ KeepAt w' (w.heap.size + 1 + 1 + 1) 1 (.int .i64 0) from fun w' hb => by
    rw [e3]
    exact ⟨KeepAt.below ⟨World.cell?_alloc_at _ _ _ _ rfl, World.frozen?_alloc_at _ _ _ _ rfl, by simp⟩ hb, KeepAt.below ⟨World.cell?_alloc_at _ _ _ _ rfl, World.frozen?_alloc_at _ _ _ _ rfl, by simp⟩ hb⟩)
  have heq := fun W => run_eq_callP ⟨#[68]⟩ ⟨#[68]⟩ 0 0 W true (by decide)
  have HSE := Lib.hid (fun W da dc h => ex_sent_call W da dc h)
  have HNE := Lib.hid (fun W da dc h => ex_next_call W da dc h)
  have HTE := Lib.hid (fun W da dc h => ex_text_call W da dc h)
  have HCO := Lib.hid (show ∀ W a n c, Calls Tryd.prog 31 #[.agg #[.string ⟨#[66]⟩, .int .i64 0, .string ⟨#[65]⟩, .int .i64 0, .bool true, .bool false, .slice a n c]] W fun e w' => e = .returned (.bool true) ∧ Below W.heap.size W w' from fun W a n c => command_any ⟨#[66]⟩ ⟨#[65]⟩ 0 0 true false a n c W)
  clear hb1 hb2 hb3 hb4 e3
  go_enter Tryd.func13, Tryd.ntmps13
  go_wp2_with (first
    | (go_at_call 33; (with_reducible refine (HV.out _ _ (by simp)).mono ?_); rintro e w1 ⟨⟨da, dc, rfl, hE⟩, hb⟩; have HB := Lib.hid (HB0.out.trans (hb.mono HB0.out.size)); have HK1 := Lib.hid (HK.out _ hb); have HE1 := Lib.hid hE; clear hb hE)
    | (go_at_call 27; (with_reducible refine (HSE.out _ da dc (HE1.out.alloc _)).mono ?_); rintro e w2 ⟨⟨ea, ec, rfl, hE⟩, hb⟩; have hb' := (Below.refl w1.heap.size w1).alloc (Nat.le_refl _) (.cells #[.string ⟨#[66]⟩, .int .i64 0, .string ⟨#[65]⟩, .int .i64 0, .bool true, .bool false, .slice da 2 dc] 26); have hb2 := hb'.trans (hb.mono hb'.size); replace HB := Lib.hid (HB.out.trans (hb2.mono HB.out.size)); replace HK1 := Lib.hid (And.intro (HK1.out.1.below hb2) (HK1.out.2.below hb2)); have HE2 := Lib.hid (hE.alloc (.cells #[.string ⟨#[66]⟩, .int .i64 0, .string ⟨#[65]⟩, .int .i64 0, .bool true, .bool false, .slice ea 2 ec] 26)); have HP2 := Lib.hid (P7.new w2 w2.heap.size rfl (.string ⟨#[66]⟩) (.int .i64 0) (.string ⟨#[65]⟩) (.int .i64 0) (.bool true) (.bool false) (.slice ea 2 ec) 26); clear hb hb' hb2 hE)
    | (go_at_call 25; (with_reducible refine (HNE.out _ ea ec HE2.out).mono ?_); rintro e w3 ⟨rfl, hb⟩; have hb' := (Below.refl w2.heap.size w2).alloc (Nat.le_refl _) (.cells #[.string ⟨#[66]⟩, .int .i64 0, .string ⟨#[65]⟩, .int .i64 0, .bool true, .bool false, .slice ea 2 ec] 26); have hb2 := hb'.trans (hb.mono hb'.size); have hb4 := hb2.alloc hb2.size (.cells #[.string ⟨#[68]⟩, .int .i64 0] 23); replace HB := Lib.hid (HB.out.trans (hb4.mono HB.out.size)); replace HK1 := Lib.hid (And.intro (HK1.out.1.below hb4) (HK1.out.2.below hb4)); replace HE2 := Lib.hid (((HE2.out.below hb).alloc (.cells #[.string ⟨#[68]⟩, .int .i64 0] 23))); replace HP2 := Lib.hid (((HP2.out.below hb).alloc (.cells #[.string ⟨#[68]⟩, .int .i64 0] 23))); have HN3 := Lib.hid (show KeepAt (w3.alloc (.cells #[.string ⟨#[68]⟩, .int .i64 0] 23)) w3.heap.size 0 (.string ⟨#[68]⟩) ∧ KeepAt (w3.alloc (.cells #[.string ⟨#[68]⟩, .int .i64 0] 23)) w3.heap.size 1 (.int .i64 0) from ⟨⟨World.cell?_alloc_at _ _ _ _ rfl, World.frozen?_alloc_at _ _ _ _ rfl, by simp⟩, ⟨World.cell?_alloc_at _ _ _ _ rfl, World.frozen?_alloc_at _ _ _ _ rfl, by simp⟩⟩); clear hb hb' hb2 hb4; obtain ⟨⟨p0, -, pl⟩, ⟨p1, -, -⟩, ⟨p2, -, -⟩, ⟨p3, -, -⟩, ⟨p4, -, -⟩, ⟨p5, -, -⟩, ⟨p6, -, -⟩⟩ := HP2.out)
    | (go_at_call 19; (with_reducible refine (HTE.out _ ea ec HE2.out).mono ?_); rintro e w4 ⟨rfl, hb⟩; replace HB := Lib.hid (HB.out.trans (hb.mono HB.out.size)); replace HK1 := Lib.hid (And.intro (HK1.out.1.below hb) (HK1.out.2.below hb)); replace HN3 := Lib.hid (And.intro (HN3.out.1.below hb) (HN3.out.2.below hb)); replace HP2 := Lib.hid (HP2.out.below hb); clear hb p0 pl p1 p2 p3 p4 p5 p6; obtain ⟨⟨p0, -, pl⟩, ⟨p1, -, -⟩, ⟨p2, -, -⟩, ⟨p3, -, -⟩, ⟨p4, -, -⟩, ⟨p5, -, -⟩, ⟨p6, -, -⟩⟩ := HP2.out; obtain ⟨⟨n0, -, nl⟩, ⟨n1, -, -⟩⟩ := HN3.out; obtain ⟨⟨k0, -, kl⟩, ⟨k1, -, -⟩⟩ := HK1.out)
    | (go_at_call 31; (with_reducible refine (HCO.out _ ea 2 ec).mono ?_); rintro e w5 ⟨rfl, hb⟩; replace HB := Lib.hid (HB.out.trans (hb.mono HB.out.size)); clear hb))
  go_ret
  exact ⟨rfl, HB.out⟩
end Go.Proofs.YtfmcngchcalcmaaDoor
