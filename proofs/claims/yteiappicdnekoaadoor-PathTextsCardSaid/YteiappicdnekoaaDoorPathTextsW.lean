/-
Walk of the statement PathTexts.
-/
import Derived.Test.YteiappicdnekoaaDoorPathReadsW
import Derived.Test.YteiappicdnekoaaDoorPathCParse
namespace Go.Proofs.YteiappicdnekoaaDoor
open Go.RowKit Go.Sort
set_option maxRecDepth 20000
theorem sign_off (x : UInt8) (h : signD x = true) : x ≠ 44 ∧ x ≠ 62 ∧ x ≠ 42 := by
  refine ⟨?_, ?_, ?_⟩ <;> (intro e; subst e; revert h; decide)
theorem dig_off (n : Nat) (h : n ≤ 15) : ∀ x ∈ digD n, x ≠ 44 ∧ x ≠ 62 ∧ x ≠ 42 := by
  have k : ∀ m : Fin 16, (digD m.1).all (fun x => decide (x ≠ 44) && decide (x ≠ 62) && decide (x ≠ 42)) = true := by decide
  intro x hx
  have := List.all_eq_true.1 (k ⟨n, by omega⟩) x hx
  simpa [and_assoc] using this
/-- the letters of a word -/
theorem word_signs (e : Ent) (h : rightD e.1 e.2.1 = true) : ∀ x ∈ wordD e, x ≠ 44 ∧ x ≠ 62 ∧ x ≠ 42 := by
  obtain ⟨h1, h2, h3, h4, h5⟩ := right_facts e.1 e.2.1 h
  intro x hx
  unfold wordD textD at hx
  split at hx
  · exact sign_off x (h5 x hx)
  · rcases List.mem_append.1 hx with hx | hx
    · exact sign_off x (h5 x hx)
    · rcases List.mem_cons.1 hx with rfl | hx
      · decide
      · exact dig_off _ (by omega) x hx
def unm (e : Ent) : Ent := (e.1, e.2.1, false)
theorem call_word (e : Ent) (h : rightD e.1 e.2.1 = true) : (readD (wordD e)).1 = true ∧ callE (readD (wordD e)) = unm e := by
  obtain ⟨_, _, h3, _, _⟩ := right_facts e.1 e.2.1 h
  have k := read_text e.1 e.2.1 h
  unfold wordD
  rw [k]
  refine ⟨rfl, ?_⟩
  unfold callE unm
  dsimp only
  rw [show ((e.2.1.toNat : Nat) : Int) = e.2.1 from by omega]
theorem star_no (w : List UInt8) (h : ∀ x ∈ w, x ≠ 42) : starD w = (false, w) := by
  unfold starD
  rw [if_neg]
  intro q
  exact h 42 (List.mem_of_getLast? q) rfl
theorem star_yes (w : List UInt8) : starD (w ++ [42]) = (true, w) := by
  unfold starD
  rw [if_pos (by simp), List.dropLast_concat]
/-- the digipeaters' words as commas part them -/
def starW (f : Nat) : Nat → List Ent → List (List UInt8)
  | _, [] => []
  | k, e :: M => (wordD e ++ (if k + 1 = f then [42] else [])) :: starW f (k + 1) M
theorem words_tail (f : Nat) : ∀ (M : List Ent) (k : Nat) (w : List UInt8), (∀ x ∈ w, x ≠ 44) → (∀ e ∈ M, rightD e.1 e.2.1 = true) → wordsD (w ++ tailD f k M) = w :: starW f k M
  | [], k, w, hw, _ => by
    show wordsD (w ++ []) = _
    rw [List.append_nil, words_none w hw]; rfl
  | e :: M, k, w, hw, hr => by
    have he := word_signs e (hr e List.mem_cons_self)
    have e1 : w ++ tailD f k (e :: M) = w ++ 44 :: ((wordD e ++ (if k + 1 = f then [42] else [])) ++ tailD f (k + 1) M) := by simp [tailD]
    rw [e1, words_at w _ hw, words_tail f M (k + 1) _ (fun x hx => by
      rcases List.mem_append.1 hx with hx | hx
      · exact (he x hx).1
      · split at hx
        · rw [List.mem_singleton.1 hx]; decide
        · cases hx) (fun y hy => hr y (List.mem_cons_of_mem _ hy))]
    rfl
/-- what was read of the first k -/
def stateD (D : List Ent) (f k : Nat) : List Ent := if k < f then (D.take k).map unm else D.take k
theorem steps_text (D : List Ent) (h8 : D.length ≤ 8) (hr : ∀ e ∈ D, rightD e.1 e.2.1 = true) (ho : ordD D = true) : ∀ j k st, j + k = D.length → st ≤ 1 → (k < fstD D → st = 0) →
    stepsP (8 - k) (stateD D (fstD D) k) st (starW (fstD D) k (D.drop k)) = (0, D)
  | 0, k, st, hj, hst, _ => by
    have hk : k = D.length := by omega
    have hle := fstD_le D
    subst hk
    rw [List.drop_length]
    have e : stateD D (fstD D) D.length = D := by unfold stateD; rw [if_neg (by omega), List.take_length]
    rw [e]
    show stepsP (8 - D.length) D st [] = _
    unfold stepsP
    split
    · rename_i hq
      exact absurd hq (by omega)
    · rfl
  | j + 1, k, st, hj, hst, h0 => by
    have hlt : k < D.length := by omega
    have hm := List.getElem_mem hlt
    obtain ⟨c1, c2⟩ := call_word D[k] (hr _ hm)
    have hs := word_signs D[k] (hr _ hm)
    rw [List.drop_eq_getElem_cons hlt]
    show stepsP (8 - k) (stateD D (fstD D) k) st ((wordD D[k] ++ (if k + 1 = fstD D then [42] else [])) :: starW (fstD D) (k + 1) (D.drop (k + 1))) = _
    have e8 : 8 - k = (8 - (k + 1)) + 1 := by omega
    rw [e8]
    unfold stepsP
    have htk : D.take (k + 1) = D.take k ++ [D[k]] := List.take_succ_eq_append_getElem hlt
    by_cases hf : k + 1 = fstD D
    · rw [if_pos hf, star_yes]
      dsimp only
      rw [if_pos c1, if_pos rfl, c2]
      have e : (stateD D (fstD D) k ++ [unm D[k]]).map markE = stateD D (fstD D) (k + 1) := by
        unfold stateD
        rw [if_pos (by omega), if_neg (by omega), htk, List.map_append, List.map_map]
        have key : ∀ (i : Nat) (hi : i < D.length), i < fstD D → markE (unm D[i]) = D[i] := fun i hi h => by
          have := fst_has D i h
          unfold markE unm
          rw [← this]
        congr 1
        · apply List.ext_getElem
          · simp
          · intro i h1 h2
            have hi : i < k := by simp at h1; omega
            simp only [List.getElem_map, List.getElem_take, Function.comp]
            exact key i (by omega) (by omega)
        · show [markE (unm D[k])] = _
          rw [key k hlt (by omega)]
      rw [e, h0 (by omega)]
      exact steps_text D h8 hr ho j (k + 1) 1 (by omega) (by omega) (fun h => by omega)
    · rw [if_neg hf, List.append_nil, star_no _ (fun x hx => (hs x hx).2.2)]
      dsimp only
      rw [if_pos c1, if_neg (by simp), c2]
      have e : stateD D (fstD D) k ++ [unm D[k]] = stateD D (fstD D) (k + 1) := by
        unfold stateD
        by_cases h : k + 1 < fstD D
        · rw [if_pos (by omega), if_pos h, htk, List.map_append]; rfl
        · rw [if_neg (by omega), if_neg h, htk]
          have hmk : D[k].2.2 = false := by
            unfold ordD at ho
            have := List.all_eq_true.1 ho D[k] (by
              have e : (D.drop (fstD D))[k - fstD D]'(by rw [List.length_drop]; omega) = D[k] := by
                rw [List.getElem_drop]; congr 1; omega
              rw [← e]; exact List.getElem_mem _)
            simpa using this
          congr 1
          unfold unm
          rw [← hmk]
      rw [e]
      exact steps_text D h8 hr ho j (k + 1) st (by omega) hst (fun h => h0 (by omega))
theorem parse_text (x y : Ent) (D : List Ent) (h : rightP (x :: y :: D) = true) : parseP (pathD x y D) = (0, (x.1, x.2.1, true) :: (y.1, y.2.1, false) :: D) := by
  rw [right_cons] at h
  simp only [Bool.and_eq_true, decide_eq_true_eq] at h
  obtain ⟨⟨h8, ho⟩, hall⟩ := h
  have hr := List.all_eq_true.1 hall
  have hx := hr x List.mem_cons_self
  have hy := hr y (List.mem_cons_of_mem _ List.mem_cons_self)
  have hD : ∀ e ∈ D, rightD e.1 e.2.1 = true := fun e he => hr e (List.mem_cons_of_mem _ (List.mem_cons_of_mem _ he))
  have hc : Lib.cut (pathD x y D) [62] = (wordD y, wordD x ++ tailD (fstD D) 0 D, true) := by
    unfold pathD
    rw [List.append_assoc, List.cons_append]
    exact cut_at' 62 _ _ (fun z hz => (word_signs y hy z hz).2.1)
  unfold parseP
  rw [hc]
  dsimp only
  rw [if_pos rfl, words_tail (fstD D) D 0 (wordD x) (fun z hz => (word_signs x hx z hz).1) hD]
  dsimp only
  obtain ⟨a1, a2⟩ := call_word x hx
  obtain ⟨b1, b2⟩ := call_word y hy
  have hs := steps_text D h8 hD ho D.length 0 0 (by omega) (by omega) (fun _ => rfl)
  have e0 : stateD D (fstD D) 0 = [] := by unfold stateD; split <;> rfl
  rw [e0, List.drop_zero] at hs
  rw [a1, b1, a2, b2, hs]
  rfl
theorem text_len (x y : Ent) (D : List Ent) (h : rightP (x :: y :: D) = true) : (pathD x y D).length ≤ 300 := by
  rw [right_cons] at h
  simp only [Bool.and_eq_true, decide_eq_true_eq] at h
  obtain ⟨⟨h8, ho⟩, hall⟩ := h
  have hr := List.all_eq_true.1 hall
  have hx := word_le x (hr x List.mem_cons_self)
  have hy := word_le y (hr y (List.mem_cons_of_mem _ List.mem_cons_self))
  have ht := tail_le (fstD D) D 0 (fun e he => hr e (List.mem_cons_of_mem _ (List.mem_cons_of_mem _ he)))
  unfold pathD
  simp only [List.length_append, List.length_cons]
  omega
theorem ptexts_not (tb fb : ByteArray) (tn fn : Int) (tm fm : Bool) (a : Option Addr) (cap : Nat) (D : List Ent) (w : World) (hE : EntsAt w a cap D) (h : 30 < D.length ∨ (D.length ≤ 30 ∧ rightP ((tb, tn, tm) :: (fb, fn, fm) :: D) = false)) :
    Calls Tryd.prog 8 #[.agg #[.string tb, .int .i64 tn, .string fb, .int .i64 fn, .bool tm, .bool fm, .slice a D.length cap]] w fun e w' => e = .returned (.bool true) ∧ Below w.heap.size w w' := by
  have HB0 := Lib.hid ((Below.refl _ w).alloc (Nat.le_refl _) (.cells #[.string tb, .int .i64 tn, .string fb, .int .i64 fn, .bool tm, .bool fm, .slice a D.length cap] 26))
  have HP0 := Lib.hid (P7.new w w.heap.size rfl (.string tb) (.int .i64 tn) (.string fb) (.int .i64 fn) (.bool tm) (.bool fm) (.slice a D.length cap) 26)
  have hg := fun W => great_any' tb fb tn fn tm fm a D.length cap W
  rcases h with h | ⟨h, hr⟩
  · rw [decide_eq_true h] at hg
    have HG := Lib.hid hg
    clear hg hE h
    go_enter Tryd.func8, Tryd.ntmps8
    go_wp2_with (first
      | (go_at_call 9; (with_reducible refine (pawake_any _).mono ?_); rintro e w1 ⟨rfl, hb⟩; have HB := Lib.hid (HB0.out.trans (hb.mono HB0.out.size)); have HP := Lib.hid (HP0.out.below hb); clear hb; obtain ⟨⟨p0, -, pl⟩, ⟨p1, -, -⟩, ⟨p2, -, -⟩, ⟨p3, -, -⟩, ⟨p4, -, -⟩, ⟨p5, -, -⟩, ⟨p6, -, -⟩⟩ := HP.out)
      | (go_at_call 10; (with_reducible refine (HG.out _).mono ?_); rintro e w2 ⟨rfl, hb⟩; replace HB := Lib.hid (HB.out.trans (hb.mono HB.out.size)); replace HP := Lib.hid (HP.out.below hb); clear hb p0 pl p1 p2 p3 p4 p5 p6; obtain ⟨⟨p0, -, pl⟩, ⟨p1, -, -⟩, ⟨p2, -, -⟩, ⟨p3, -, -⟩, ⟨p4, -, -⟩, ⟨p5, -, -⟩, ⟨p6, -, -⟩⟩ := HP.out))
    go_ret
    exact ⟨rfl, HB.out⟩
  · rw [decide_eq_false (by omega)] at hg
    have hri := fun W (h : Below w.heap.size w W) => pright_any tb fb tn fn tm fm a cap D W (by omega) (hE.below h)
    rw [hr] at hri
    have HRI := Lib.hid hri
    have HG := Lib.hid hg
    clear hg hE h hr hri
    go_enter Tryd.func8, Tryd.ntmps8
    go_wp2_with (first
      | (go_at_call 9; (with_reducible refine (pawake_any _).mono ?_); rintro e w1 ⟨rfl, hb⟩; have HB := Lib.hid (HB0.out.trans (hb.mono HB0.out.size)); have HP := Lib.hid (HP0.out.below hb); clear hb; obtain ⟨⟨p0, -, pl⟩, ⟨p1, -, -⟩, ⟨p2, -, -⟩, ⟨p3, -, -⟩, ⟨p4, -, -⟩, ⟨p5, -, -⟩, ⟨p6, -, -⟩⟩ := HP.out)
      | (go_at_call 10; (with_reducible refine (HG.out _).mono ?_); rintro e w2 ⟨rfl, hb⟩; replace HB := Lib.hid (HB.out.trans (hb.mono HB.out.size)); replace HP := Lib.hid (HP.out.below hb); clear hb p0 pl p1 p2 p3 p4 p5 p6; obtain ⟨⟨p0, -, pl⟩, ⟨p1, -, -⟩, ⟨p2, -, -⟩, ⟨p3, -, -⟩, ⟨p4, -, -⟩, ⟨p5, -, -⟩, ⟨p6, -, -⟩⟩ := HP.out)
      | (go_at_call 14; (with_reducible refine (HRI.out _ HB.out).mono ?_); rintro e w6 ⟨rfl, hb⟩; replace HB := Lib.hid (HB.out.trans (hb.mono HB.out.size)); clear hb))
    go_ret
    exact ⟨rfl, HB.out⟩
theorem P7.put4 {W : World} {m : Nat} {v0 v1 v2 v3 v4 v5 v6 : Value} (h : P7 W m v0 v1 v2 v3 v4 v5 v6) (u4 u5 : Value) : P7 ((W.setCell ⟨m, 4, none⟩ u4).setCell ⟨m, 5, none⟩ u5) m v0 v1 v2 v3 u4 u5 v6 :=
  ⟨(h.k0.set _ (by omega)).set _ (by omega), (h.k1.set _ (by omega)).set _ (by omega), (h.k2.set _ (by omega)).set _ (by omega), (h.k3.set _ (by omega)).set _ (by omega), (h.k4.put _).set _ (by omega), (h.k5.set _ (by omega)).put _, (h.k6.set _ (by omega)).set _ (by omega)⟩
set_option maxHeartbeats 1000000 in
theorem ptexts_yes (tb fb : ByteArray) (tn fn : Int) (tm fm : Bool) (a : Option Addr) (cap : Nat) (D : List Ent) (w : World) (hV : VarsOk w) (hE : EntsAt w a cap D) (hr : rightP ((tb, tn, tm) :: (fb, fn, fm) :: D) = true) :
    Calls Tryd.prog 8 #[.agg #[.string tb, .int .i64 tn, .string fb, .int .i64 fn, .bool tm, .bool fm, .slice a D.length cap]] w fun e w' => e = .returned (.bool true) ∧ Below w.heap.size w w' := by
  have hD : D.length ≤ 8 := by
    rw [right_cons] at hr
    simp only [Bool.and_eq_true, decide_eq_true_eq] at hr
    exact hr.1.1
  have HB0 := Lib.hid ((Below.refl _ w).alloc (Nat.le_refl _) (.cells #[.string tb, .int .i64 tn, .string fb, .int .i64 fn, .bool tm, .bool fm, .slice a D.length cap] 26))
  have HP0 := Lib.hid (P7.new w w.heap.size rfl (.string tb) (.int .i64 tn) (.string fb) (.int .i64 fn) (.bool tm) (.bool fm) (.slice a D.length cap) 26)
  have hg := fun W => great_any' tb fb tn fn tm fm a D.length cap W
  rw [decide_eq_false (by omega)] at hg
  have HG := Lib.hid hg
  have hri := fun W (h : Below w.heap.size w W) => pright_any tb fb tn fn tm fm a cap D W (by omega) (hE.below h)
  rw [hr] at hri
  have HRI := Lib.hid hri
  have hr2 : rightP ((tb, tn, true) :: (fb, fn, false) :: D) = true := hr
  obtain ⟨T, hT⟩ : ∃ T : ByteArray, T = ⟨(pathD (tb, tn, tm) (fb, fn, fm) D).toArray⟩ := ⟨_, rfl⟩
  have htx := fun W (h : Below w.heap.size w W) => ptext_any tb fb tn fn tm fm a cap D W (by omega) (hE.below h)
  rw [hr] at htx
  simp only [if_true] at htx
  rw [← hT] at htx
  have HTX := Lib.hid htx
  have HTQ := Lib.hid (show ∀ da dc W, EntsAt W da dc D → Calls Tryd.prog 15 #[.agg #[.string tb, .int .i64 tn, .string fb, .int .i64 fn, .bool true, .bool false, .slice da D.length dc]] W fun e w' => e = .returned (.string T) ∧ Below W.heap.size W w' from fun da dc W h => by
    have k := ptext_any tb fb tn fn true false da dc D W (by omega) h
    rw [if_pos hr2] at k
    rw [hT]
    exact k)
  have hTl : T.data.toList = pathD (tb, tn, tm) (fb, fn, fm) D := by rw [hT]
  have hTs : T.size ≤ 300 := by
    have h1 : T.data.toList.length = T.size := by simp
    rw [hTl] at h1
    have := text_len _ _ _ hr
    omega
  have HPA := Lib.hid (show ∀ W, Below w.heap.size w W → Calls Tryd.prog 30 #[.string T] W fun e w' => (∃ da dc, e = .returned (.tuple #[.agg #[.string tb, .int .i64 tn, .string fb, .int .i64 fn, .bool true, .bool false, .slice da D.length dc], .int .i64 0]) ∧ OwnE 65 w' W.heap.size (.slice da D.length dc) D) ∧ Below W.heap.size W w' from fun W hb => (pparse_any T W (hV.below hb) hTs).mono fun e w' hq => by
    rw [hTl, parse_text _ _ _ hr] at hq
    obtain ⟨x, y, D', da, dc, h1, h2, h3⟩ := hq.2.1 rfl
    simp only [List.cons.injEq, Prod.mk.injEq] at h1
    obtain ⟨⟨x1, x2, _⟩, ⟨y1, y2, _⟩, rfl⟩ := h1
    exact ⟨⟨da, dc, by rw [h2, ← x1, ← x2, ← y1, ← y2], h3⟩, hq.2.2⟩)
  have HPL := Lib.hid (show ∀ da dc W, EntsAt W da dc D → Calls Tryd.prog 11 #[.agg #[.string tb, .int .i64 tn, .string fb, .int .i64 fn, .bool true, .bool false, .slice da D.length dc]] W fun e w' => ∃ v, e = .returned (.agg #[v]) ∧ Ents w' v ((tb, tn, true) :: (fb, fn, false) :: D) ∧ Below W.heap.size W w' from fun da dc W h => (plainP_any tb fb tn fn true false da dc D W (by omega) h).mono fun e w' hq => by
    obtain ⟨v, h1, h2, h3⟩ := hq
    exact ⟨v, h1, h2.ents, h3⟩)
  have HE := Lib.hid (fun W (h : Below w.heap.size w W) => hE.below h)
  obtain ⟨L, hL⟩ : ∃ L, L = (tb, tn, true) :: (fb, fn, false) :: D := ⟨_, rfl⟩
  have hLn : L.length ≤ 1000 := by rw [hL]; simp; omega
  rw [← hL] at HPL
  clear hE hg hr hri hr2 hT htx hTl hL hTs
  go_enter Tryd.func8, Tryd.ntmps8
  go_wp2_with (first
    | (go_at_call 9; (with_reducible refine (pawake_any _).mono ?_); rintro e w1 ⟨rfl, hb⟩; have HB := Lib.hid (HB0.out.trans (hb.mono HB0.out.size)); have HP := Lib.hid (HP0.out.below hb); clear hb; obtain ⟨⟨p0, -, pl⟩, ⟨p1, -, -⟩, ⟨p2, -, -⟩, ⟨p3, -, -⟩, ⟨p4, -, -⟩, ⟨p5, -, -⟩, ⟨p6, -, -⟩⟩ := HP.out)
    | (go_at_call 10; (with_reducible refine (HG.out _).mono ?_); rintro e w2 ⟨rfl, hb⟩; replace HB := Lib.hid (HB.out.trans (hb.mono HB.out.size)); replace HP := Lib.hid (HP.out.below hb); clear hb p0 pl p1 p2 p3 p4 p5 p6; obtain ⟨⟨p0, -, pl⟩, ⟨p1, -, -⟩, ⟨p2, -, -⟩, ⟨p3, -, -⟩, ⟨p4, -, -⟩, ⟨p5, -, -⟩, ⟨p6, -, -⟩⟩ := HP.out)
    | (go_at_call 14; (with_reducible refine (HRI.out _ HB.out).mono ?_); rintro e w6 ⟨rfl, hb⟩; replace HB := Lib.hid (HB.out.trans (hb.mono HB.out.size)); replace HP := Lib.hid (HP.out.below hb); clear hb p0 pl p1 p2 p3 p4 p5 p6; obtain ⟨⟨p0, -, pl⟩, ⟨p1, -, -⟩, ⟨p2, -, -⟩, ⟨p3, -, -⟩, ⟨p4, -, -⟩, ⟨p5, -, -⟩, ⟨p6, -, -⟩⟩ := HP.out)
    | (go_at_call 15; (with_reducible refine (HTX.out _ HB.out).mono ?_); rintro e w7 ⟨rfl, hb⟩; replace HB := Lib.hid (HB.out.trans (hb.mono HB.out.size)); replace HP := Lib.hid (HP.out.below hb); clear hb p0 pl p1 p2 p3 p4 p5 p6)
    | (go_at_call 30; (with_reducible refine (HPA.out _ HB.out).mono ?_); rintro e w8 ⟨⟨da, dc, rfl, hO⟩, hb⟩; have HLT := Lib.hid (And.intro HP.out.k0.lt (Nat.lt_of_lt_of_le HP.out.k0.lt hb.size)); have hO8 := hO.base HLT.out.1; have HA8 := Lib.hid ((HP.out.below hb).alloc (.cells #[.string tb, .int .i64 tn, .string fb, .int .i64 fn, .bool true, .bool false, .slice da D.length dc] 26)); have HB8 := Lib.hid ((HB.out.trans (hb.mono HB.out.size)).alloc (HB.out.trans (hb.mono HB.out.size)).size (.cells #[.string tb, .int .i64 tn, .string fb, .int .i64 fn, .bool true, .bool false, .slice da D.length dc] 26)); have HQ8 := Lib.hid (P7.new w8 w8.heap.size rfl (.string tb) (.int .i64 tn) (.string fb) (.int .i64 fn) (.bool true) (.bool false) (.slice da D.length dc) 26); have HO8 := Lib.hid (hO8.alloc (.cells #[.string tb, .int .i64 tn, .string fb, .int .i64 fn, .bool true, .bool false, .slice da D.length dc] 26)); clear hb hO hO8 HB HP; obtain ⟨⟨p0, q0, pl⟩, ⟨p1, q1, -⟩, ⟨p2, q2, -⟩, ⟨p3, q3, -⟩, ⟨p4, q4, -⟩, ⟨p5, q5, -⟩, ⟨p6, q6, -⟩⟩ := HA8.out))
  have hne : w.heap.size ≠ w8.heap.size := by have := HLT.out.2; omega
  have HP7 := Lib.hid (HA8.out.put4 (.bool true) (.bool false))
  have HQ7 := Lib.hid ((HQ8.out.other (p := 4) (.bool true) hne).other (p := 5) (.bool false) hne)
  have HB7 := Lib.hid ((HB8.out.setCell (p := ⟨w.heap.size, 4, none⟩) (Nat.le_refl _) (.bool true)).setCell (p := ⟨w.heap.size, 5, none⟩) (Nat.le_refl _) (.bool false))
  have HE7 := Lib.hid (ents_of_own (HO8.out.grown (grown_set (grown_set (grown_refl _ (some w.heap.size)) (o := 4) (.bool true)) (o := 5) (.bool false)) (fun g hv e => by have h9 := (HO8.out.ge hv).1; have e' : w.heap.size = g := Option.some.inj e; omega)))
  have HD7 := Lib.hid (HE.out _ HB7.out)
  clear p0 q0 pl p1 q1 p2 q2 p3 q3 p4 q4 p5 q5 p6 q6 HA8 HQ8 HB8 HO8 HTX HPA HRI HG HE HLT
  generalize hWW : (((w8.alloc (.cells #[.string tb, .int .i64 tn, .string fb, .int .i64 fn, .bool true, .bool false, .slice da D.length dc] 26)).setCell ⟨w.heap.size, 4, none⟩ (.bool true)).setCell ⟨w.heap.size, 5, none⟩ (.bool false)) = W at *
  clear hWW
  have HB1 := Lib.hid ((Below.refl W.heap.size W).drew)
  refine wp_region_held (S := fun W' => Below W.heap.size W W') (by kernel_rfl) ?_
  change wpAnyH _ _ _ _ _ _ _ _ W.drew
  have HB := Lib.hid ((Below.refl W.heap.size W).drew)
  refine wpAnyH_take (i := 0) (v := ?_) rfl (by kernel_rfl) (by kernel_rfl) (by kernel_rfl) (fun _ _ _ h => h) (Or.inl ⟨by rfl, ?_⟩) HB.out ?_
  rotate_left
  · intro w' hw'
    go_simp
    with_reducible rfl
  go_simp
  refine wpAnyH_take (i := 1) (v := ?_) rfl (by kernel_rfl) (by kernel_rfl) (by kernel_rfl) (fun _ _ _ h => h) (Or.inl ⟨by rfl, ?_⟩) HB.out ?_
  rotate_left
  · intro w' hw'
    go_simp
    with_reducible rfl
  go_simp
  refine wpAnyH_take (i := 2) (v := ?_) rfl (by kernel_rfl) (by kernel_rfl) (by kernel_rfl) (fun _ _ _ h => h) (Or.inl ⟨by rfl, ?_⟩) HB.out ?_
  rotate_left
  · intro w' hw'
    go_simp
    with_reducible rfl
  go_simp
  refine wpAnyH_take (i := 3) (v := ?_) rfl (by kernel_rfl) (by kernel_rfl) (by kernel_rfl) (fun _ _ _ h => h) (Or.inl ⟨by rfl, ?_⟩) HB.out ?_
  rotate_left
  · intro w' hw'
    obtain ⟨⟨p0, -, pl⟩, ⟨p1, -, -⟩, ⟨p2, -, -⟩, ⟨p3, -, -⟩, ⟨p4, -, -⟩, ⟨p5, -, -⟩, ⟨p6, -, -⟩⟩ := HP7.out.below hw'; obtain ⟨⟨q0, -, ql⟩, ⟨q1, -, -⟩, ⟨q2, -, -⟩, ⟨q3, -, -⟩, ⟨q4, -, -⟩, ⟨q5, -, -⟩, ⟨q6, -, -⟩⟩ := HQ7.out.below hw'
    go_simp
    with_reducible rfl
  go_simp
  refine wpAnyH_take (i := 5) (v := ?_) rfl (by kernel_rfl) (by kernel_rfl) (by kernel_rfl) (fun _ _ _ h => h) (Or.inl ⟨by rfl, ?_⟩) HB.out ?_
  rotate_left
  · intro w' hw'
    obtain ⟨⟨p0, -, pl⟩, ⟨p1, -, -⟩, ⟨p2, -, -⟩, ⟨p3, -, -⟩, ⟨p4, -, -⟩, ⟨p5, -, -⟩, ⟨p6, -, -⟩⟩ := HP7.out.below hw'; obtain ⟨⟨q0, -, ql⟩, ⟨q1, -, -⟩, ⟨q2, -, -⟩, ⟨q3, -, -⟩, ⟨q4, -, -⟩, ⟨q5, -, -⟩, ⟨q6, -, -⟩⟩ := HQ7.out.below hw'
    go_simp
    with_reducible rfl
  go_simp
  refine wpAnyH_ready (rs := [4]) (by kernel_rfl) (by simp) ?_
  refine AllReadyH.cons rfl (fun K hK => ?_) AllReadyH.nil
  go_simp
  go_at_call 11
  refine (HPL.out da dc _ (HE7.out.below HB1.out)).mono ?_
  rintro e w9 ⟨pv, rfl, hpv, hb⟩
  have HB9 := Lib.hid (show Below W.heap.size W w9 from HB1.out.trans (hb.mono HB1.out.size))
  have HPV := Lib.hid hpv
  clear hb hpv
  change K _ _
  refine hK.out _ _ HB9.out (fun _ => ?_)
  clear hK K HB1
  refine wpAnyH_ready (rs := [6]) (by kernel_rfl) (by simp) ?_
  refine AllReadyH.cons rfl (fun K hK => ?_) AllReadyH.nil
  go_simp
  go_at_call 11
  refine (HPL.out a cap _ (HD7.out.below HB9.out)).mono ?_
  rintro e w10 ⟨pw, rfl, hpw, hb⟩
  have HB10 := Lib.hid (show Below W.heap.size W w10 from HB9.out.trans (hb.mono HB9.out.size))
  have HPW := Lib.hid hpw
  have HPV1 := Lib.hid (HPV.out.below hb)
  clear hb hpw HPV
  change K _ _
  refine hK.out _ _ HB10.out (fun _ => ?_)
  clear hK K HB9
  refine wpAnyH_ready (rs := [7]) (by kernel_rfl) (by simp) ?_
  refine AllReadyH.cons rfl (fun K hK => ?_) AllReadyH.nil
  go_simp
  go_at_call 18
  refine (sameP_yes pv pw L w10 (by omega) HPV1.out HPW.out).mono ?_
  rintro e w11 ⟨rfl, hb⟩
  have HB := Lib.hid (show Below W.heap.size W w11 from HB10.out.trans (hb.mono HB10.out.size))
  clear hb
  change K _ _
  refine hK.out _ _ HB.out (fun _ => ?_)
  clear hK K HB10 HPV1 HPW
  refine wpAnyH_take (i := 8) (v := ?_) rfl (by kernel_rfl) (by kernel_rfl) (by kernel_rfl) (fun _ _ _ h => h) (Or.inl ⟨by rfl, ?_⟩) HB.out ?_
  rotate_left
  · intro w' hw'
    go_simp
    with_reducible rfl
  go_simp
  refine wpAnyH_take (i := 9) (v := ?_) rfl (by kernel_rfl) (by kernel_rfl) (by kernel_rfl) (fun _ _ _ h => h) (Or.inl ⟨by rfl, ?_⟩) HB.out ?_
  rotate_left
  · intro w' hw'
    go_simp
    with_reducible rfl
  go_simp
  refine wpAnyH_take (i := 10) (v := ?_) rfl (by kernel_rfl) (by kernel_rfl) (by kernel_rfl) (fun _ _ _ h => h) (Or.inl ⟨by rfl, ?_⟩) HB.out ?_
  rotate_left
  · intro w' hw'
    obtain ⟨⟨p0, -, pl⟩, ⟨p1, -, -⟩, ⟨p2, -, -⟩, ⟨p3, -, -⟩, ⟨p4, -, -⟩, ⟨p5, -, -⟩, ⟨p6, -, -⟩⟩ := HP7.out.below hw'; obtain ⟨⟨q0, -, ql⟩, ⟨q1, -, -⟩, ⟨q2, -, -⟩, ⟨q3, -, -⟩, ⟨q4, -, -⟩, ⟨q5, -, -⟩, ⟨q6, -, -⟩⟩ := HQ7.out.below hw'
    go_simp
    with_reducible rfl
  go_simp
  refine wpAnyH_take (i := 12) (v := ?_) rfl (by kernel_rfl) (by kernel_rfl) (by kernel_rfl) (fun _ _ _ h => h) (Or.inl ⟨by rfl, ?_⟩) HB.out ?_
  rotate_left
  · intro w' hw'
    obtain ⟨⟨p0, -, pl⟩, ⟨p1, -, -⟩, ⟨p2, -, -⟩, ⟨p3, -, -⟩, ⟨p4, -, -⟩, ⟨p5, -, -⟩, ⟨p6, -, -⟩⟩ := HP7.out.below hw'; obtain ⟨⟨q0, -, ql⟩, ⟨q1, -, -⟩, ⟨q2, -, -⟩, ⟨q3, -, -⟩, ⟨q4, -, -⟩, ⟨q5, -, -⟩, ⟨q6, -, -⟩⟩ := HQ7.out.below hw'
    go_simp
    with_reducible rfl
  go_simp
  refine wpAnyH_ready (rs := [11]) (by kernel_rfl) (by simp) ?_
  refine AllReadyH.cons rfl (fun K hK => ?_) AllReadyH.nil
  go_simp
  go_at_call 15
  refine (HTQ.out da dc _ (HE7.out.below HB.out)).mono ?_
  rintro e w12 ⟨rfl, hb⟩
  have HB12 := Lib.hid (show Below W.heap.size W w12 from HB.out.trans (hb.mono HB.out.size))
  clear hb
  change K _ _
  refine hK.out _ _ HB12.out (fun _ => ?_)
  clear hK K HB
  refine wpAnyH_ready (rs := [13]) (by kernel_rfl) (by simp) ?_
  refine AllReadyH.cons rfl (fun K hK => ?_) AllReadyH.nil
  go_simp
  go_at_call 15
  refine (HTQ.out a cap _ (HD7.out.below HB12.out)).mono ?_
  rintro e w13 ⟨rfl, hb⟩
  have HB := Lib.hid (show Below W.heap.size W w13 from HB12.out.trans (hb.mono HB12.out.size))
  clear hb
  change K _ _
  refine hK.out _ _ HB.out (fun _ => ?_)
  clear hK K HB12
  refine wpAnyH_take (i := 14) (v := ?_) rfl (by kernel_rfl) (by kernel_rfl) (by kernel_rfl) (fun _ _ _ h => h) (Or.inl ⟨by rfl, ?_⟩) HB.out ?_
  rotate_left
  · intro w' hw'
    go_simp
    with_reducible rfl
  go_simp
  refine wpAnyH_take (i := 15) (v := ?_) rfl (by kernel_rfl) (by kernel_rfl) (by kernel_rfl) (fun _ _ _ h => h) (Or.inl ⟨by rfl, ?_⟩) HB.out ?_
  rotate_left
  · intro w' hw'
    go_simp
    with_reducible rfl
  go_simp
  refine wpAnyH_take (i := 16) (v := ?_) rfl (by kernel_rfl) (by kernel_rfl) (by kernel_rfl) (fun _ _ _ h => h) (Or.inl ⟨by rfl, ?_⟩) HB.out ?_
  rotate_left
  · intro w' hw'
    go_simp
    with_reducible rfl
  go_simp
  refine wpAnyH_done (by kernel_rfl) ?_ _
  go_wp2
  go_ret
  exact ⟨rfl, HB7.out.trans (HB.out.mono HB7.out.size)⟩
theorem ptexts_any (tb fb : ByteArray) (tn fn : Int) (tm fm : Bool) (a : Option Addr) (cap : Nat) (D : List Ent) (w : World) (hV : VarsOk w) (hE : EntsAt w a cap D) :
    Calls Tryd.prog 8 #[.agg #[.string tb, .int .i64 tn, .string fb, .int .i64 fn, .bool tm, .bool fm, .slice a D.length cap]] w fun e w' => e = .returned (.bool true) ∧ Below w.heap.size w w' := by
  by_cases h : 30 < D.length
  · exact ptexts_not tb fb tn fn tm fm a cap D w hE (Or.inl h)
  · cases hr : rightP ((tb, tn, tm) :: (fb, fn, fm) :: D)
    · exact ptexts_not tb fb tn fn tm fm a cap D w hE (Or.inr ⟨by omega, hr⟩)
    · exact ptexts_yes tb fb tn fn tm fm a cap D w hV hE hr
end Go.Proofs.YteiappicdnekoaaDoor
