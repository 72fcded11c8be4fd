/-
The landed queue's part, over whatever function says which ones go.
-/
import Derived.Test.YtliamhphpnifaaaTxqPart
import Derived.Test.YtliamhphpnifaaaTxqRefK
import Derived.Shelf.Abstract
import Derived.Deep.RegionHeld
import Derived.Deep.DeepCutAuto
namespace Go.Proofs.Ytliamhphpnifaaa
open Go.RowKit
set_option maxRecDepth 20000
set_option maxHeartbeats 1000000 in
theorem cpart16_nil (g : Value) (w : World) : Calls Try.prog 24 #[.pointer none, g] w fun e w' => e = .returned (.slice none 0 0) ∧ w' = w := by
  go_enter Try.func24, Try.ntmps24
  go_wp2_with fail
  exact bodyPost_ret (v := .slice none 0 0) (by simp [results, Try.results24, go_sem]) rfl ⟨rfl, rfl⟩
theorem index16 (u : Nat → Value) (c : Nat) (hc : c < 3) (w : World) : (Instr.index 52 (.agg #[u 0, u 1, u 2]) (.int .i64 c)).run Try.prog w = .ok (u c) w := by
  have e : (#[u 0, u 1, u 2] : Array Value)[c]? = some (u c) := by
    obtain rfl | rfl | rfl : c = 0 ∨ c = 1 ∨ c = 2 := by omega
    · rfl
    · rfl
    · rfl
  have p0 : (part 51 #[u 0, u 1, u 2] c).run Try.prog w = .ok (u c) w := by simp [part, isAgg, run_underlying Try.underlying51, e]
  have hs : ∀ w, (Go.sizeOf 51).run Try.prog w = .ok 1 w := fun w => by kernel_rfl
  simp [Instr.index, asIntOf, run_underlying Try.underlying52, hs, p0]
  intro h
  omega
/-- the classes when c of them are done -/
def doneE (g : Nat → Bool) (S : List Ent) (c x : Nat) : List Ent := if x < c then stI g (offE S x) (clsE S x) else clsE S x
theorem doneE_next (g : Nat → Bool) (S : List Ent) (c : Nat) : updL (doneE g S c) c (stI g (offE S c) (clsE S c)) = doneE g S (c + 1) := by
  funext x
  unfold updL doneE
  by_cases h : x = c
  · subst h
    rw [if_pos rfl, if_pos (by omega)]
  · rw [if_neg h]
    by_cases h2 : x < c
    · rw [if_pos h2, if_pos (by omega)]
    · rw [if_neg h2, if_neg (by omega)]
set_option maxHeartbeats 4000000 in
theorem cpart16 (k : Nat) (cap : Array Value) (S : List Ent) (g : Nat → Bool) (G R : Nat → Prop) (I : Nat → World → Prop) (q : Nat) (u0 : Nat → Value) (w : World) (h : QuAt w q u0 (clsE S)) (hok : SOk S) (hs : Says16 k cap S g G R I) (hG : ∀ b, R b → b < w.heap.size ∧ ¬ footQ q u0 b) (hI : I 0 w) :
    Calls Try.prog 24 #[ptrQ q, .func (.func k) #[] cap] w fun e w' => ∃ tv u, e = .returned tv ∧ PtAt w q u0 G I (doneE g S 3) (offE S 3) (goI g 0 (joinU (clsE S) 3)) [] tv (.slice none 0 0) u w' := by
  have hent := hs.enters
  have HS := Lib.hid hs
  have HGG := Lib.hid hG
  have HOK := Lib.hid hok
  have HK0 := Lib.hid (show PtAt w q u0 G I (doneE g S 0) (offE S 0) (goI g 0 (joinU (clsE S) 0)) [] (.slice none 0 0) (.slice none 0 0) u0 w from
    ⟨by
      have : doneE g S 0 = clsE S := by
        funext x
        unfold doneE
        rw [if_neg (by omega)]
      rw [this]
      exact h, OwnL.nil _ _ _ _, OwnL.nil _ _ _ _, fun b e => (by cases e), hI, Turn.refl _ _, fun x hx b e => Or.inl (Or.inr ⟨x, hx, e⟩), h.row.lt⟩)
  have c0 := h.cell 0 (by omega)
  have c1 := h.cell 1 (by omega)
  have c2 := h.cell 2 (by omega)
  have HIX := Lib.hid (fun c hc W => index16 u0 c hc W)
  clear hs hG hok h hI
  go_enter Try.func24, Try.ntmps24
  go_wp2_with fail
  clear c0 c1 c2
  go_loopw [5, 17] (fun ov cv wx => ∃ (c : Nat) (tv : Value) (u : Nat → Value), c ≤ 3 ∧ cv = .int .i64 c ∧ tv = ov ∧ Hid (PtAt w q u0 G I (doneE g S c) (offE S c) (goI g 0 (joinU (clsE S) c)) [] tv (.slice none 0 0) u wx ∧ ∀ x, c ≤ x → x < 3 → u x = u0 x)) (fun _ cv _ => 3 - (intOf cv).toNat)
  case atStart => exact ⟨0, _, u0, Nat.zero_le _, rfl, rfl, Lib.hid ⟨HK0.out, fun _ _ _ => rfl⟩⟩
  case round =>
    obtain ⟨c, tv0, u, hc, rfl, rfl, HK⟩ := hrel
    clear HK0
    by_cases hlc : c < 3
    · have dc : decide ((c : Int) < 3) = true := decide_eq_true (by omega)
      have hu := HK.out.2 c (Nat.le_refl _) hlc
      have hown := HK.out.1.qu.own c hlc
      rw [hu] at hown
      have hdn : doneE g S c c = clsE S c := by unfold doneE; rw [if_neg (by omega)]
      rw [hdn] at hown
      obtain ⟨sa, sc, hv⟩ := hown.form16
      obtain ⟨n, hn⟩ : ∃ n, n = (clsE S c).length := ⟨_, rfl⟩
      rw [← hn] at hv
      have hix := HIX.out c hlc
      rw [hv] at hix hu
      have HN := Lib.hid hn
      have HU := Lib.hid hu
      have HDN := Lib.hid hdn
      have HLC := Lib.hid hlc
      have hn16 : n ≤ 16 := by
        have h1 := HOK.out.many
        have h2 : (clsE S c).length ≤ S.length := List.length_filter_le _ _
        omega
      clear hv hown hn hu hdn hlc
      go_wp2_with fail
      go_loopw [5, 8, 23] (fun ov sv iv wx => ∃ (i : Nat) (tv st : Value), i ≤ n ∧ iv = .int .i64 i ∧ tv = ov ∧ st = sv ∧ Hid (PtAt w q u0 G I (doneE g S c) (offE S c + i) (goI g 0 (joinU (clsE S) c ++ (clsE S c).take i)) (stI g (offE S c) ((clsE S c).take i)) tv st u wx)) (fun _ _ iv _ => n - (intOf iv).toNat)
      case atStart => exact ⟨0, _, _, Nat.zero_le _, rfl, rfl, rfl, Lib.hid (by
        rw [List.take_zero, List.append_nil]
        exact HK.out.1)⟩
      case round =>
        obtain ⟨i, tv, st, hi, rfl, rfl, rfl, HJ⟩ := hrel
        by_cases hli : i < n
        · have di : decide (i < n) = true := decide_eq_true hli
          have hL : i < (clsE S c).length := by rw [← HN.out]; exact hli
          have hqo := HJ.out.qu.own c HLC.out
          rw [HU.out, HDN.out] at hqo
          obtain ⟨gb, c', hv, -, hg, -⟩ := hqo.some_ (by omega)
          simp only [Value.slice.injEq] at hv
          obtain ⟨rfl, -, rfl⟩ := hv
          obtain ⟨x0, x1⟩ := OwnW.get hqo i hL
          obtain ⟨hj, hje⟩ := at_off S HOK.out c i HLC.out hL
          have HC := Lib.hid (fun W hI => HS.out.call (offE S c + i) hj W hI)
          rw [hje] at HC
          have HX := Lib.hid (goI_next g S c i hL)
          have HLT := Lib.hid (show (frs (goI g 0 (joinU (clsE S) c ++ (clsE S c).take i))).length ≤ 1000 from by
            unfold frs
            rw [List.length_map]
            have h1 := goI_len g (joinU (clsE S) c ++ (clsE S c).take i) 0
            have h2 := joinU_le (clsE S) (fun x _ => Nat.le_trans (List.length_filter_le _ _) (Nat.le_trans HOK.out.many (by omega))) c hc
            rw [List.length_append, List.length_take] at h1
            omega)
          have HLS := Lib.hid (show (stI g (offE S c) ((clsE S c).take i)).length ≤ 1000 from by
            have h1 := (stI_sub g ((clsE S c).take i) (offE S c)).length_le
            rw [List.length_take] at h1
            omega)
          have hws := HJ.out.turn.size
          generalize (clsE S c)[i] = y at *
          obtain ⟨y0, y1, y2⟩ := y
          simp only at x0 x1 HC HX
          obtain ⟨B, hB⟩ : ∃ B, B = wr.heap.size := ⟨_, rfl⟩
          have HB1 := Lib.hid ((Below.refl wr.heap.size wr).alloc (Nat.le_refl _) (.cells #[.int .i64 y1, .string y2] 57))
          have HP1 := Lib.hid (HJ.out.below HS.out HB1.out)
          have HR1 := Lib.hid (RowAt.new wr wr.heap.size rfl [.int .i64 y1, .string y2] 57)
          have HBG := Lib.hid (show ¬ G wr.heap.size from fun hg => by have := (HGG.out _ (HS.out.sub _ hg)).1; omega)
          clear hqo hj hje hL
          have b0 := HR1.out.cell 0 rfl
          have b1 := HR1.out.cell 1 rfl
          cases hq : g (offE S c + i) with
          | true =>
            simp only [hq, if_true, List.append_nil] at HC HX
            clear hq
            go_wp2_with (first
              | (go_at_fn k; (with_reducible refine (HC.out _ HP1.out.inv).mono ?_); rintro e w2 ⟨rfl, hi2, ht2⟩; have HP2 := Lib.hid (HP1.out.called HS.out HGG.out hi2 ht2); have HR2 := Lib.hid (HR1.out.turn ht2 HBG.out); have b2 := HR2.out.cell 0 rfl; have b3 := HR2.out.cell 1 rfl; have hs2 := ht2.size; clear hi2 ht2)
              | (at_builtin; refine wpList_append_one encS 9 37 Try.underlying37 infoS16 rfl (by decide) _ rfl (.tmp 30) (.tmp 33) rfl w.heap.size tv _ rfl (OwnL.alloc HP2.out.told _) w2.heap.size 1 rfl y2 (AtL.made encS 9 w2 w2.heap.size y2 _ rfl rfl) (by have := HLT.out; omega) (by have := HP2.out.turn.size; simp; omega) ?_; intro v2 w3 hown hgr hwh))
            have HP3 := Lib.hid ((HP2.out.below HS.out ((Below.refl _ _).alloc (Nat.le_refl _) (.cells #[.string y2] 9))).more HS.out HGG.out (e := ⟨y0, y1, y2⟩) hown hgr)
            clear hown hgr hwh
            go_roundw
            case rel => exact ⟨i + 1, v2, st, by omega, rfl, rfl, rfl, Lib.hid (by
              rw [HX.out.1, HX.out.2]
              exact HP3.out)⟩
            case measure => simp [intOf]; omega
          | false =>
            simp only [hq, Bool.false_eq_true, if_false, List.append_nil] at HC HX
            clear hq
            go_wp2_with (first
              | (go_at_fn k; (with_reducible refine (HC.out _ HP1.out.inv).mono ?_); rintro e w2 ⟨rfl, hi2, ht2⟩; have HP2 := Lib.hid (HP1.out.called HS.out HGG.out hi2 ht2); have HR2 := Lib.hid (HR1.out.turn ht2 HBG.out); have b2 := HR2.out.cell 0 rfl; have b3 := HR2.out.cell 1 rfl; have hs2 := ht2.size; clear hi2 ht2)
              | (at_builtin; refine wpList_append_one encW 57 51 Try.underlying51 infoW16 rfl (by decide) _ rfl (.tmp 35) (.tmp 37) rfl w.heap.size st _ rfl (OwnL.alloc HP2.out.st _) w2.heap.size 1 rfl ⟨y0, y1, y2⟩ (AtL.made encW 57 w2 w2.heap.size ⟨y0, y1, y2⟩ _ rfl rfl) (by have := HLS.out; omega) (by have := HP2.out.turn.size; simp; omega) ?_; intro v2 w3 hown hgr hwh))
            have HP3 := Lib.hid ((HP2.out.below HS.out ((Below.refl _ _).alloc (Nat.le_refl _) (.cells #[.int .i64 y1, .string y2] 57))).stays HS.out HGG.out (e := ⟨y0, y1, y2⟩) hown hgr (hwh.imp id fun e => ⟨_, Nat.le_refl _, e⟩))
            clear hown hgr hwh
            go_roundw
            case rel => exact ⟨i + 1, tv, v2, by omega, rfl, rfl, rfl, Lib.hid (by
              rw [HX.out.1, HX.out.2]
              exact HP3.out)⟩
            case measure => simp [intOf]; omega
        · have di : decide (i < n) = false := decide_eq_false hli
          have e : (clsE S c).take i = clsE S c := List.take_of_length_le (by have := HN.out; omega)
          have hj := HJ.out
          rw [e, ← joinU_next, show offE S c + i = offE S (c + 1) from by
            unfold offE
            rw [joinU_next, List.length_append]
            have := HN.out
            omega] at hj
          obtain ⟨va, vn, vc, rfl⟩ := OwnL.form' hj.st
          have hst := hj.stored HS.out HGG.out c HLC.out
          rw [doneE_next] at hst
          have HST := Lib.hid (And.intro hst (fun x (hx : c + 1 ≤ x) (hx3 : x < 3) => show updU u c (.slice va vn vc) x = u0 x from by
            unfold updU
            rw [if_neg (by omega)]
            exact HK.out.2 x (by omega) hx3))
          have k0 := hj.qu.cell c HLC.out
          have kf := (hj.qu.row.get c (row3 u c HLC.out)).free
          have hc3 : (c : Int) < 3 := by have := HLC.out; omega
          clear hst hj e HK HJ
          go_wp2_with fail
          go_roundw
          case rel => exact ⟨c + 1, tv, _, by have := HLC.out; omega, rfl, rfl, HST⟩
          case measure => simp [intOf]; omega
    · have e : c = 3 := by omega
      subst e
      have HE := Lib.hid HK.out.1
      clear HK
      go_wp2_with fail
      exact bodyPost_ret (v := tv0) (by simp [results, Try.results24, go_sem]) rfl ⟨tv0, u, rfl, HE.out⟩
end Go.Proofs.Ytliamhphpnifaaa
