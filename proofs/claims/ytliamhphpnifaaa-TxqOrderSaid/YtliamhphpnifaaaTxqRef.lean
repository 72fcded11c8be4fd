/-
The document's queue: how it lies; its Of, Count, Sorted (written by tools/gen16/gen_rof.py).
-/
import Derived.Test.YtliamhphpnifaaaTxqPure
import Derived.Test.YtliamhphpnifaaaInts
import Derived.Test.YtliamhphpnifaaaInPlace
namespace Go.Proofs.Ytliamhphpnifaaa
open Go.RowKit
set_option maxRecDepth 20000
/-- entries, as they lie -/
def encE : Enc Ent := ⟨3, by omega, fun e => [.int .i64 e.cls, .int .i64 e.key, .string e.fr], fun _ => rfl, fun _ u hu => by
  simp only [List.mem_cons, List.not_mem_nil, or_false] at hu
  rcases hu with rfl | rfl | rfl <;> rfl⟩
theorem infoE16 : (Try.prog.info? 43).map (fun i => (i.zero, i.size, i.bytes)) = some (some (.agg #[.int .i64 0, .int .i64 0, .string ⟨#[]⟩]), 3, 32) := by kernel_rfl
theorem AtL.ent {w : World} {g o : Nat} {L : List Ent} (h : AtL encE w (some ⟨g, o, none⟩) L) (i : Nat) (hi : i < L.length) :
    w.cell? ⟨g, o + i * 3, none⟩ = some (.int .i64 L[i].cls) ∧ w.cell? ⟨g, o + i * 3 + 1, none⟩ = some (.int .i64 L[i].key) ∧ w.cell? ⟨g, o + i * 3 + 2, none⟩ = some (.string L[i].fr) := by
  have h0 := h.get i hi 0 (u := .int .i64 L[i].cls) rfl
  have h1 := h.get i hi 1 (u := .int .i64 L[i].key) rfl
  have h2 := h.get i hi 2 (u := .string L[i].fr) rfl
  simp only [Nat.add_zero] at h0 h1 h2
  exact ⟨h0, h1, h2⟩
/-- the document's queue, as it lies: at p, in these blocks -/
def RqL (w : World) (p : Nat) (L : List Ent) (F : Nat → Prop) : Prop :=
  ∃ ad c, RowAt w p [.slice ad L.length c] ∧ L.length ≤ c ∧ AtL encE w ad L ∧ (∀ q, ad = some q → q.block < w.heap.size ∧ q.block ≠ p ∧ ∃ g o, q = ⟨g, o, none⟩) ∧ F = fun k => k = p ∨ ∃ q, ad = some q ∧ q.block = k
section
variable {w w' : World} {p : Nat} {L : List Ent} {F : Nat → Prop}
theorem RqL.mem (h : RqL w p L F) : ∀ b, F b → b < w.heap.size := by
  obtain ⟨ad, c, h1, -, -, h3, rfl⟩ := h
  rintro b (rfl | ⟨q, e, rfl⟩)
  · exact h1.lt
  · exact (h3 q e).1
theorem RqL.stay (h : RqL w p L F) (hs : SameOn F w w') : RqL w' p L F := by
  obtain ⟨ad, c, h1, hc, h2, h3, rfl⟩ := h
  exact ⟨ad, c, h1.block (hs.2 p (Or.inl rfl)) hs.1, hc, h2.same (fun q e => hs.2 _ (Or.inr ⟨q, e, rfl⟩)) hs.1, fun q e => ⟨Nat.lt_of_lt_of_le (h3 q e).1 hs.1, (h3 q e).2⟩, rfl⟩
theorem RqL.below (h : RqL w p L F) (hb : Below w.heap.size w w') : RqL w' p L F := h.stay (SameOn.of_below hb h.mem)
end
theorem rof_next (a : Int) (L : List Ent) (i : Nat) (hi : i < L.length) : ((L.take (i + 1)).filter fun e => decide (e.cls = a)).length = ((L.take i).filter fun e => decide (e.cls = a)).length + if L[i].cls = a then 1 else 0 := by
  rw [List.take_succ_eq_append_getElem hi, List.filter_append, List.length_append, List.filter_cons, List.filter_nil]
  congr 1
  by_cases h : L[i].cls = a <;> simp [h]
set_option maxHeartbeats 1000000 in
theorem rof_any (a : Int) (p : Nat) (L : List Ent) (F : Nat → Prop) (w : World) (h : RqL w p L F) (hl : L.length ≤ 1000) :
    Calls Try.prog 21 #[.pointer (some ⟨p, 0, none⟩), .int .i64 a] w fun e w' => e = .returned (.int .i64 ((L.filter fun e => decide (e.cls = a)).length : Nat)) ∧ w' = w := by
  obtain ⟨ad, c, hr, -, hA, -, -⟩ := h
  have c0 := hr.cell 0 rfl
  have HA := Lib.hid hA
  obtain ⟨n, hn⟩ : ∃ n, n = L.length := ⟨_, rfl⟩
  have HN := Lib.hid hn
  rw [← hn] at c0 hl
  clear hr hA hn
  go_enter Try.func21, Try.ntmps21
  go_wp2_with fail
  go_loopw [5, 6] (fun nv iv wx => ∃ i : Nat, i ≤ n ∧ iv = .int .i64 i ∧ nv = .int .i64 (((L.take i).filter fun e => decide (e.cls = a)).length : Nat) ∧ w = wx) (fun _ iv _ => n - (intOf iv).toNat)
  case atStart => exact ⟨0, Nat.zero_le _, rfl, by simp, by first | rfl | trivial⟩
  case round =>
    obtain ⟨i, hi, rfl, rfl, rfl⟩ := hrel
    by_cases hlt : i < n
    · have hL : i < L.length := by rw [← HN.out]; exact hlt
      obtain ⟨g, o, rfl, -⟩ := HA.out.some_ (by omega)
      obtain ⟨e0, e1, -⟩ := HA.out.ent i hL
      have HX := Lib.hid (rof_next a L i hL)
      have hle : ((L.take i).filter fun e => decide (e.cls = a)).length ≤ i := Nat.le_trans (List.length_filter_le _ _) (by rw [List.length_take]; omega)
      have HZ := Lib.hid (show wrap64 ((((L.take i).filter fun e => decide (e.cls = a)).length : Nat) + 1) = ((((L.take i).filter fun e => decide (e.cls = a)).length : Nat) : Int) + 1 from IntWalk.wrap64_in _ (by omega))
      have HZ2 := Lib.hid (show wrap64 ((i : Int) + 1) = (i : Int) + 1 from IntWalk.wrap64_in _ (by omega))
      obtain ⟨m, hm⟩ : ∃ m, m = ((L.take i).filter fun e => decide (e.cls = a)).length := ⟨_, rfl⟩
      rw [← hm] at HX HZ hle ⊢
      clear hm
      generalize L[i].cls = x0 at *
      generalize L[i].key = x1 at *
      by_cases hq : x0 = a
      · have dq : (x0 == a) = true := beq_iff_eq.2 hq
        rw [if_pos hq] at HX
        clear hq
        go_wp2_with fail
        go_roundw
        case rel => exact ⟨i + 1, by omega, by (try rw [HZ2.out]); rfl, by rw [HX.out]; (try rw [HZ.out]); rfl, by first | rfl | trivial⟩
        case measure =>
          try rw [HZ2.out]
          simp [intOf]
          omega
      · have dq : (x0 == a) = false := beq_eq_false_iff_ne.2 hq
        rw [if_neg hq, Nat.add_zero] at HX
        clear hq
        go_wp2_with fail
        go_roundw
        case rel => exact ⟨i + 1, by omega, by (try rw [HZ2.out]); rfl, by rw [HX.out]; rfl, by first | rfl | trivial⟩
        case measure =>
          try rw [HZ2.out]
          simp [intOf]
          omega
    · have e : L.take i = L := List.take_of_length_le (by have := HN.out; omega)
      rw [e]
      clear e
      go_wp2_with fail
      exact bodyPost_ret (by simp [results, Try.results21, go_sem]) rfl ⟨rfl, rfl⟩
theorem rcount_next (a : Int) (L : List Ent) (i : Nat) (hi : i < L.length) : ((L.take (i + 1)).filter fun e => decide (e.key = a)).length = ((L.take i).filter fun e => decide (e.key = a)).length + if L[i].key = a then 1 else 0 := by
  rw [List.take_succ_eq_append_getElem hi, List.filter_append, List.length_append, List.filter_cons, List.filter_nil]
  congr 1
  by_cases h : L[i].key = a <;> simp [h]
set_option maxHeartbeats 1000000 in
theorem rcount_any (a : Int) (p : Nat) (L : List Ent) (F : Nat → Prop) (w : World) (h : RqL w p L F) (hl : L.length ≤ 1000) :
    Calls Try.prog 19 #[.pointer (some ⟨p, 0, none⟩), .int .i64 a] w fun e w' => e = .returned (.int .i64 ((L.filter fun e => decide (e.key = a)).length : Nat)) ∧ w' = w := by
  obtain ⟨ad, c, hr, -, hA, -, -⟩ := h
  have c0 := hr.cell 0 rfl
  have HA := Lib.hid hA
  obtain ⟨n, hn⟩ : ∃ n, n = L.length := ⟨_, rfl⟩
  have HN := Lib.hid hn
  rw [← hn] at c0 hl
  clear hr hA hn
  go_enter Try.func19, Try.ntmps19
  go_wp2_with fail
  go_loopw [5, 6] (fun nv iv wx => ∃ i : Nat, i ≤ n ∧ iv = .int .i64 i ∧ nv = .int .i64 (((L.take i).filter fun e => decide (e.key = a)).length : Nat) ∧ w = wx) (fun _ iv _ => n - (intOf iv).toNat)
  case atStart => exact ⟨0, Nat.zero_le _, rfl, by simp, by first | rfl | trivial⟩
  case round =>
    obtain ⟨i, hi, rfl, rfl, rfl⟩ := hrel
    by_cases hlt : i < n
    · have hL : i < L.length := by rw [← HN.out]; exact hlt
      obtain ⟨g, o, rfl, -⟩ := HA.out.some_ (by omega)
      obtain ⟨e0, e1, -⟩ := HA.out.ent i hL
      have HX := Lib.hid (rcount_next a L i hL)
      have hle : ((L.take i).filter fun e => decide (e.key = a)).length ≤ i := Nat.le_trans (List.length_filter_le _ _) (by rw [List.length_take]; omega)
      have HZ := Lib.hid (show wrap64 ((((L.take i).filter fun e => decide (e.key = a)).length : Nat) + 1) = ((((L.take i).filter fun e => decide (e.key = a)).length : Nat) : Int) + 1 from IntWalk.wrap64_in _ (by omega))
      have HZ2 := Lib.hid (show wrap64 ((i : Int) + 1) = (i : Int) + 1 from IntWalk.wrap64_in _ (by omega))
      obtain ⟨m, hm⟩ : ∃ m, m = ((L.take i).filter fun e => decide (e.key = a)).length := ⟨_, rfl⟩
      rw [← hm] at HX HZ hle ⊢
      clear hm
      generalize L[i].cls = x0 at *
      generalize L[i].key = x1 at *
      by_cases hq : x1 = a
      · have dq : (x1 == a) = true := beq_iff_eq.2 hq
        rw [if_pos hq] at HX
        clear hq
        go_wp2_with fail
        go_roundw
        case rel => exact ⟨i + 1, by omega, by (try rw [HZ2.out]); rfl, by rw [HX.out]; (try rw [HZ.out]); rfl, by first | rfl | trivial⟩
        case measure =>
          try rw [HZ2.out]
          simp [intOf]
          omega
      · have dq : (x1 == a) = false := beq_eq_false_iff_ne.2 hq
        rw [if_neg hq, Nat.add_zero] at HX
        clear hq
        go_wp2_with fail
        go_roundw
        case rel => exact ⟨i + 1, by omega, by (try rw [HZ2.out]); rfl, by rw [HX.out]; rfl, by first | rfl | trivial⟩
        case measure =>
          try rw [HZ2.out]
          simp [intOf]
          omega
    · have e : L.take i = L := List.take_of_length_le (by have := HN.out; omega)
      rw [e]
      clear e
      go_wp2_with fail
      exact bodyPost_ret (by simp [results, Try.results19, go_sem]) rfl ⟨rfl, rfl⟩
/-- the first c classes -/
def preC (c : Nat) (L : List Ent) : List Ent := (List.range c).flatMap fun (k : Nat) => ofC (k : Int) L
theorem pre_next (c : Nat) (L : List Ent) : preC (c + 1) L = preC c L ++ ofC (c : Int) L := by
  unfold preC
  rw [List.range_succ, List.flatMap_append, List.flatMap_singleton]
theorem pre_three (L : List Ent) : preC 3 L = sortE L := by
  show ofC ((0 : Nat) : Int) L ++ (ofC ((1 : Nat) : Int) L ++ (ofC ((2 : Nat) : Int) L ++ [])) = _
  rw [List.append_nil]
  rfl
theorem of_next (c : Int) (L : List Ent) (i : Nat) (hi : i < L.length) : ofC c (L.take (i + 1)) = ofC c (L.take i) ++ if L[i].cls = c then [L[i]] else [] := by
  unfold ofC
  rw [List.take_succ_eq_append_getElem hi, List.filter_append, List.filter_cons, List.filter_nil]
  congr 1
  by_cases h : L[i].cls = c <;> simp [h]
theorem pre_le (L : List Ent) (hl : L.length ≤ 1000) : ∀ c, (preC c L).length ≤ 1000 * c
  | 0 => by simp [preC]
  | c + 1 => by
    have := pre_le L hl c
    have h2 : (ofC (c : Int) L).length ≤ L.length := List.length_filter_le _ _
    rw [pre_next, List.length_append]
    omega
set_option maxHeartbeats 2000000 in
theorem rsorted_any (p : Nat) (L : List Ent) (F : Nat → Prop) (w : World) (h : RqL w p L F) (hl : L.length ≤ 1000) :
    Calls Try.prog 16 #[.pointer (some ⟨p, 0, none⟩)] w fun e w' => ∃ v, e = .returned v ∧ OwnL encE 43 w' w.heap.size v (sortE L) ∧ Below w.heap.size w w' := by
  have HQ := Lib.hid h
  have HPL := Lib.hid (fun c => pre_le L hl c)
  obtain ⟨n, hn⟩ : ∃ n, n = L.length := ⟨_, rfl⟩
  have HN := Lib.hid hn
  have HNL := Lib.hid hl
  rw [← hn] at hl
  have HO0 := Lib.hid (And.intro (OwnL.lit encE 43 w w.heap.size [] [] rfl (Nat.le_refl _) (by simp) 0 rfl) ((Below.refl w.heap.size w).alloc (Nat.le_refl _) (.cells #[] 43)))
  clear h hn
  go_enter Try.func16, Try.ntmps16
  go_wp2_with fail
  go_loopw [3, 4] (fun ov cv wx => ∃ (c : Nat) (tv : Value), c ≤ 3 ∧ cv = .int .i64 c ∧ tv = ov ∧ Hid (OwnL encE 43 wx w.heap.size tv (preC c L) ∧ Below w.heap.size w wx)) (fun _ cv _ => 3 - (intOf cv).toNat)
  case atStart => exact ⟨0, _, by omega, rfl, rfl, HO0⟩
  case round =>
    obtain ⟨c, tv, hc, rfl, rfl, HK⟩ := hrel
    clear HO0
    by_cases hlt : c < 3
    · have HC := Lib.hid (pre_next c L)
      have dc : decide ((c : Int) < 3) = true := decide_eq_true (by omega)
      go_wp2_with fail
      go_loopw [3, 5] (fun ov iv wx => ∃ (i : Nat) (t2 : Value), i ≤ n ∧ iv = .int .i64 i ∧ t2 = ov ∧ Hid (OwnL encE 43 wx w.heap.size t2 (preC c L ++ ofC (c : Int) (L.take i)) ∧ Below w.heap.size w wx)) (fun _ iv _ => n - (intOf iv).toNat)
      case atStart => exact ⟨0, _, Nat.zero_le _, rfl, rfl, Lib.hid ⟨by rw [List.take_zero, show ofC (c : Int) [] = [] from rfl, List.append_nil]; exact HK.out.1, HK.out.2⟩⟩
      case round =>
        obtain ⟨i, t2, hi, rfl, rfl, HJ⟩ := hrel
        clear HK
        obtain ⟨ad, cc, hr, -, hA, -, -⟩ := HQ.out.below HJ.out.2
        have c0 := hr.cell 0 rfl
        rw [← HN.out] at c0
        have HA := Lib.hid hA
        clear hr hA
        have HZ2 := Lib.hid (show wrap64 ((i : Int) + 1) = (i : Int) + 1 from IntWalk.wrap64_in _ (by omega))
        by_cases hlt2 : i < n
        · have hL : i < L.length := by rw [← HN.out]; exact hlt2
          obtain ⟨g, o, rfl, -⟩ := HA.out.some_ (by omega)
          obtain ⟨e0, e1, e2⟩ := HA.out.ent i hL
          have HX := Lib.hid (of_next (c : Int) L i hL)
          have HLE := Lib.hid (show (preC c L ++ ofC (c : Int) (L.take i)).length ≤ 10000 from by
            have h1 := HPL.out c
            have h2 : (ofC (c : Int) (L.take i)).length ≤ i := Nat.le_trans (List.length_filter_le _ _) (by rw [List.length_take]; omega)
            rw [List.length_append]
            omega)
          generalize L[i] = e at *
          obtain ⟨x0, x1, x2⟩ := e
          simp only at e0 e1 e2 HX
          by_cases hq : x0 = (c : Int)
          · have dq : (x0 == (c : Int)) = true := beq_iff_eq.2 hq
            rw [if_pos hq] at HX
            clear hq
            go_wp2_with (at_builtin; refine wpList_append_one encE 43 28 Try.underlying28 infoE16 rfl (by decide) _ rfl (.tmp 30) (.tmp 38) rfl w.heap.size _ _ rfl (OwnL.alloc HJ.out.1 _) wr.heap.size 1 rfl ⟨x0, x1, x2⟩ (AtL.made encE 43 wr wr.heap.size ⟨x0, x1, x2⟩ _ rfl rfl) (by have := HLE.out; omega) (by have := HJ.out.2.size; simp; omega) ?_; intro v2 w3 hown hgr hwh)
            have HE := Lib.hid (And.intro hown (OwnL.appended (OwnL.alloc HJ.out.1 (.cells #[.int .i64 x0, .int .i64 x1, .string x2] 43)) (HJ.out.2.alloc HJ.out.2.size _) (Nat.le_refl _) (by have := HJ.out.2.size; simp; omega) hgr))
            clear hown hgr hwh
            go_roundw
            case rel =>
              have HR := Lib.hid (show OwnL encE 43 w3 w.heap.size v2 (preC c L ++ ofC (c : Int) (L.take (i + 1))) ∧ Below w.heap.size w w3 from ⟨by rw [HX.out, ← List.append_assoc]; exact HE.out.1, HE.out.2⟩)
              exact ⟨i + 1, _, by omega, by (try rw [HZ2.out]); rfl, rfl, HR⟩
            case measure =>
              try rw [HZ2.out]
              simp [intOf]
              omega
          · have dq : (x0 == (c : Int)) = false := beq_eq_false_iff_ne.2 hq
            rw [if_neg hq, List.append_nil] at HX
            clear hq
            go_wp2_with fail
            go_roundw
            case rel => exact ⟨i + 1, _, by omega, by (try rw [HZ2.out]); rfl, rfl, Lib.hid ⟨by rw [HX.out]; exact HJ.out.1, HJ.out.2⟩⟩
            case measure =>
              try rw [HZ2.out]
              simp [intOf]
              omega
        · have e : L.take i = L := List.take_of_length_le (by have := HN.out; omega)
          have HE := Lib.hid HJ.out
          rw [e, ← HC.out] at HE
          clear e HJ
          go_wp2_with fail
          go_roundw
          case rel =>
            exact ⟨c + 1, _, by omega, by first | rfl | go_num, rfl, HE⟩
          case measure => simp [intOf]; omega
    · obtain rfl : c = 3 := by omega
      have HE := Lib.hid HK.out
      rw [pre_three] at HE
      clear HK
      go_wp2_with fail
      exact bodyPost_ret (v := tv) (by simp [results, Try.results16, go_sem]) rfl ⟨tv, rfl, HE.out⟩
end Go.Proofs.Ytliamhphpnifaaa
