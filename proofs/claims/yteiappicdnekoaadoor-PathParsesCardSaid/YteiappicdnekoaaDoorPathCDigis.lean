/-
The landed code's parseDigis.
-/
import Derived.Test.YteiappicdnekoaaDoorPathWords
import Derived.Test.YteiappicdnekoaaDoorPathCGet
namespace Go.Proofs.YteiappicdnekoaaDoor
open Go.RowKit Go.Sort
set_option maxRecDepth 20000
theorem star_last (s : ByteArray) (h : 1 ≤ s.size) : ∃ a b : ByteArray, (∀ W, (Instr.slice 9 (.string s) (some (.int .i64 ((s.size : Int) - 1))) none none).run Tryd.prog W = .ok (.string b) W) ∧ (∀ W, (Instr.slice 9 (.string s) none (some (.int .i64 ((s.size : Int) - 1))) none).run Tryd.prog W = .ok (.string a) W) ∧
    (b.toList == [42]) = (starD s.data.toList).1 ∧ ((starD s.data.toList).1 = true → a = ⟨(starD s.data.toList).2.toArray⟩) := by
  have hl : s.data.toList.length = s.size := by simp
  refine ⟨s.extract 0 (s.size - 1), s.extract (s.size - 1) s.size, fun W => ?_, fun W => ?_, ?_, ?_⟩
  · have k := run_slice_string_l (P := Tryd.prog) (w := W) 9 s Tryd.underlying9 .i64 ((s.size : Int) - 1) (by omega) (by omega)
    rw [k, show ((s.size : Int) - 1).toNat = s.size - 1 from by omega]
  · have k := run_slice_string_h (P := Tryd.prog) (w := W) 9 s Tryd.underlying9 .i64 ((s.size : Int) - 1) (by omega) (by omega)
    rw [k, show ((s.size : Int) - 1).toNat = s.size - 1 from by omega]
  · have e : (s.extract (s.size - 1) s.size).toList = [s.data.toList[s.data.toList.length - 1]'(by omega)] := by
      rw [Lib.toList_data, Lib.extract_to_end, ← hl, List.drop_eq_getElem_cons (by omega), List.drop_of_length_le (by omega)]
    rw [e]
    unfold starD
    rw [List.getLast?_eq_getElem?, List.getElem?_eq_getElem (by omega)]
    generalize s.data.toList[s.data.toList.length - 1]'(by omega) = z
    by_cases hz : z = 42
    · subst hz; rfl
    · rw [if_neg (by simpa using hz)]
      simp [hz]
  · intro h1
    have h2 : s.data.toList.getLast? = some 42 := by
      unfold starD at h1
      split at h1
      · assumption
      · cases h1
    unfold starD
    rw [if_pos h2]
    apply bytes_ext'
    show (s.extract 0 (s.size - 1)).data.toList = s.data.toList.dropLast
    rw [Lib.extract_data, List.drop_zero, Nat.sub_zero, List.dropLast_eq_take, hl]
theorem suffix_any (s : ByteArray) (w : World) (hs : s.size ≤ 300) : Calls Tryd.prog 80 #[.string s, .string ⟨#[42]⟩] w fun e w' => e = .returned (.bool (starD s.data.toList).1) ∧ Below w.heap.size w w' := by
  by_cases h : 1 ≤ s.size
  · obtain ⟨a, b, h1, _, h3, _⟩ := star_last s h
    have d : decide ((1 : Int) ≤ (s.size : Int)) = true := decide_eq_true (by omega)
    generalize (starD s.data.toList).1 = R at *
    have h4 : (b.toList == (⟨#[42]⟩ : ByteArray).toList) = R := by rw [show (⟨#[42]⟩ : ByteArray).toList = [42] from by rw [Lib.toList_data]]; exact h3
    go_enter Tryd.func80, Tryd.ntmps80
    go_wp2_with fail
    go_ret
    exact ⟨rfl, Below.refl _ _⟩
  · have d : decide ((1 : Int) ≤ (s.size : Int)) = false := decide_eq_false (by omega)
    have hR : (starD s.data.toList).1 = false := by
      have hl : s.data.toList.length = s.size := by simp
      have h0 : s.data.toList = [] := List.length_eq_zero_iff.1 (by omega)
      rw [h0]; rfl
    rw [hR]
    go_enter Tryd.func80, Tryd.ntmps80
    go_wp2_with fail
    go_ret
    exact ⟨rfl, Below.refl _ _⟩
theorem cutsuf_any (s : ByteArray) (w : World) (hs : s.size ≤ 300) : Calls Tryd.prog 62 #[.string s, .string ⟨#[42]⟩] w fun e w' => e = .returned (.tuple #[.string ⟨(starD s.data.toList).2.toArray⟩, .bool (starD s.data.toList).1]) ∧ Below w.heap.size w w' := by
  have hin : ∀ W, Calls Tryd.prog 68 #[.string s, .string ⟨#[42]⟩] W fun e w' => e = .returned (.tuple #[.string ⟨(starD s.data.toList).2.toArray⟩, .bool (starD s.data.toList).1]) ∧ Below W.heap.size W w' := by
    intro W
    have HS := fun V => suffix_any s V hs
    cases hR : (starD s.data.toList).1
    · have h2 : (⟨(starD s.data.toList).2.toArray⟩ : ByteArray) = s := by
        have : (starD s.data.toList).2 = s.data.toList := by
          unfold starD at hR ⊢
          split
          · rename_i h; rw [if_pos h] at hR; cases hR
          · rfl
        rw [this, back_bytes]
      rw [h2]
      rw [hR] at HS
      have HSH := Lib.hid HS
      clear HS
      go_enter Tryd.func68, Tryd.ntmps68
      go_wp2_with (go_at_call 80; (with_reducible refine (HSH.out _).mono ?_); rintro e w1 ⟨rfl, hb⟩; have HB := Lib.hid hb; clear hb)
      exact bodyPost_ret (v := .tuple #[.string s, .bool false]) (by simp [results, Tryd.results68, go_sem]) rfl ⟨rfl, HB.out⟩
    · have h1 : 1 ≤ s.size := by
        have hl : s.data.toList.length = s.size := by simp
        rcases Nat.lt_or_ge s.size 1 with h | h
        · have h0 : s.data.toList = [] := List.length_eq_zero_iff.1 (by omega)
          rw [h0] at hR; cases hR
        · exact h
      obtain ⟨a, b, _, h2, _, h4⟩ := star_last s h1
      rw [← h4 hR]
      rw [hR] at HS
      have HSH := Lib.hid HS
      clear HS h4
      go_enter Tryd.func68, Tryd.ntmps68
      go_wp2_with (go_at_call 80; (with_reducible refine (HSH.out _).mono ?_); rintro e w1 ⟨rfl, hb⟩; have HB := Lib.hid hb; clear hb)
      exact bodyPost_ret (v := .tuple #[.string a, .bool true]) (by simp [results, Tryd.results68, go_sem]) rfl ⟨rfl, HB.out⟩
  have HI := Lib.hid hin
  clear hin
  generalize (starD s.data.toList).1 = R at *
  generalize (⟨(starD s.data.toList).2.toArray⟩ : ByteArray) = T at *
  go_enter Tryd.func62, Tryd.ntmps62
  go_wp2_with (go_at_call 68; (with_reducible refine (HI.out _).mono ?_); rintro e w1 ⟨rfl, hb⟩; have HB := Lib.hid hb; clear hb)
  exact bodyPost_ret (v := .tuple #[.string T, .bool R]) (by simp [results, Tryd.results62, go_sem]) rfl ⟨rfl, HB.out⟩
theorem cut_sep (c : UInt8) (s : ByteArray) (w : World) (hV : VarsOk w) (h : s.size ≤ 300) (x y : ByteArray) (f : Bool) (hc : Lib.cut s.data.toList [c] = (x.data.toList, y.data.toList, f)) (W : World) (hb : Below w.heap.size w W) :
    Calls Tryd.prog 48 #[.string s, .string ⟨#[c]⟩] W fun e w' => e = .returned (.tuple #[.string x, .string y, .bool f]) ∧ Below W.heap.size W w' := by
  obtain ⟨m, hm⟩ := (hV.below hb).len
  have k := Tryd.strings_Cut s ⟨#[c]⟩ m W (by omega) hm
  rw [show ((⟨#[c]⟩ : ByteArray).data.toList) = [c] from rfl, hc] at k
  refine k.mono fun e w' ⟨he, n, hw⟩ => ⟨?_, ?_⟩
  · rw [he, back_bytes, back_bytes]
  · rw [hw]
    exact Joins.below_draws _ _ _
/-- a text is parted by its first c, or not -/
theorem parted (c : UInt8) (s : ByteArray) : ∃ (x y : ByteArray) (f : Bool), Lib.cut s.data.toList [c] = (x.data.toList, y.data.toList, f) ∧ (∀ z ∈ x.data.toList, z ≠ c) ∧ x.size ≤ s.size ∧ (f = false → x = s ∧ y = ⟨#[]⟩) ∧ (f = true → s.data.toList = x.data.toList ++ c :: y.data.toList ∧ y.size < s.size) := by
  have hl : s.data.toList.length = s.size := by simp
  rcases sep_or c s.data.toList with h | ⟨l, r, e, h⟩
  · exact ⟨s, ⟨#[]⟩, false, (by rw [cut_none' c _ h]), h, Nat.le_refl _, fun _ => ⟨rfl, rfl⟩, fun q => (by cases q)⟩
  · refine ⟨⟨l.toArray⟩, ⟨r.toArray⟩, true, (by rw [e, cut_at' c l r h]), h, ?_, fun q => (by cases q), fun _ => ⟨e, ?_⟩⟩
    · show l.toArray.size ≤ _
      rw [← hl, e]; simp
    · show r.toArray.size < _
      rw [← hl, e]; simp; omega
set_option maxRecDepth 100000 in
theorem arr60 (t : Array Value) (p0 p4 p5 p6 : Value) (h : t.size = 60) (h0 : t.getD 0 undef = p0) (h4 : t.getD 4 undef = p4) (h5 : t.getD 5 undef = p5) (h6 : t.getD 6 undef = p6) :
    ∃ u : Nat → Value, t = #[p0, u 1, u 2, u 3, p4, p5, p6, u 7, u 8, u 9, u 10, u 11, u 12, u 13, u 14, u 15, u 16, u 17, u 18, u 19, u 20, u 21, u 22, u 23, u 24, u 25, u 26, u 27, u 28, u 29, u 30, u 31, u 32, u 33, u 34, u 35, u 36, u 37, u 38, u 39, u 40, u 41, u 42, u 43, u 44, u 45, u 46, u 47, u 48, u 49, u 50, u 51, u 52, u 53, u 54, u 55, u 56, u 57, u 58, u 59] := by
  subst h0 h4 h5 h6
  refine ⟨fun i => t.getD i undef, Array.toList_inj.1 ?_⟩
  have e : t.toList = (List.range 60).map (fun i => t.getD i undef) := by
    apply List.ext_getElem
    · simp [h]
    · intro i h1 h2
      have hi : i < t.size := by simpa using h1
      simp [hi]
  rw [e]; rfl
/-- what parseDigis leaves -/
def DigTo (w : World) (r : Nat × List Ent) (e : Ending) (w' : World) : Prop :=
  (r.1 ≠ 0 → e = .returned (.tuple #[.slice none 0 0, .int .i64 (r.1 : Int)])) ∧ (r.1 = 0 → ∃ da dc, e = .returned (.tuple #[.slice da r.2.length dc, .int .i64 0]) ∧ OwnE 65 w' w.heap.size (.slice da r.2.length dc) r.2) ∧ Below w.heap.size w w'
structure DgAt (w W : World) (tv : Value) (L : List Ent) : Prop where
  own : OwnE 65 W w.heap.size tv L
  bel : Below w.heap.size w W
theorem DgAt.below {w W W' : World} {tv : Value} {L : List Ent} (h : DgAt w W tv L) (hb : Below W.heap.size W W') : DgAt w W' tv L := ⟨h.own.below hb, h.bel.trans (hb.mono h.bel.size)⟩
theorem DgAt.alloc {w W : World} {tv : Value} {L : List Ent} (h : DgAt w W tv L) (o : Obj) : DgAt w (W.alloc o) tv L := h.below ((Below.refl _ W).alloc (Nat.le_refl _) _)
theorem DgAt.grown {w W w1 : World} {tv v' : Value} {L L' : List Ent} (h : DgAt w W tv L) (h1 : OwnE 65 w1 w.heap.size v' L') (hg : W.grownBy w1 tv.ownBlock) : DgAt w w1 v' L' := ⟨h1, h.bel.grown hg h.bel.size (fun _ hk => (h.own.ge hk).1)⟩
def txtLen : Value → Nat
  | .string s => s.size
  | _ => 0
/-- what holds at the label -/
def DJ (w0 : World) (G : Nat × List Ent) (l : Nat) (a : Act) (w : World) : Prop :=
  l = 0 ∧ ∃ (s : ByteArray) (tv : Value) (L : List Ent) (st sent k : Nat), (a.tmps.size = 60 ∧ a.defers = [] ∧ a.tmps.getD 0 undef = .string s ∧ a.tmps.getD 4 undef = tv ∧ a.tmps.getD 5 undef = .int .i64 (st : Int) ∧ a.tmps.getD 6 undef = .int .i64 (sent : Int)) ∧
    L.length + k = 8 ∧ sent ≤ L.length ∧ st ≤ L.length ∧ s.size ≤ 300 ∧ G = stepsP k (marked sent L) st (wordsD s.data.toList) ∧ DgAt w0 w tv L
def dmu (_ : Nat) (a : Act) (_ : World) : Nat := txtLen (a.tmps.getD 0 undef)
theorem words_cut (s x y : ByteArray) (f : Bool) (h1 : ∀ z ∈ x.data.toList, z ≠ 44) (h2 : f = false → x = s ∧ y = ⟨#[]⟩) (h3 : f = true → s.data.toList = x.data.toList ++ 44 :: y.data.toList ∧ y.size < s.size) : wordsD s.data.toList = x.data.toList :: (if f then wordsD y.data.toList else []) := by
  cases f
  · obtain ⟨rfl, _⟩ := h2 rfl
    rw [words_none _ h1]; rfl
  · rw [(h3 rfl).1, words_at _ _ h1]; rfl
set_option maxRecDepth 100000 in
set_option maxHeartbeats 1000000 in
theorem pdigis_pass (w0 : World) (hV : VarsOk w0) (G : Nat × List Ent) : ∃ r, findLabel (scopeOf Tryd.f50) 0 = some (.seq .skip r) ∧ ∀ n a w, DJ w0 G 0 a w → dmu 0 a w ≤ n →
    r.wp Tryd.prog (jumps (fun l' a' w' => DJ w0 G l' a' w' ∧ dmu l' a' w' < n) (bodyPost Tryd.prog Tryd.f50 (DigTo w0 G))) a w := by
  refine ⟨_, by rfl, ?_⟩
  intro n a w ⟨_, s, tv, L, st, sent, k, ⟨hsz, hdf, h0, h4, h5, h6⟩, hk, hsent, hst, hs, hG, hA⟩ hn
  obtain ⟨tmps, defers⟩ := a
  simp only at hsz hdf h0 h4 h5 h6 hn
  obtain ⟨u, hu⟩ := arr60 tmps _ _ _ _ hsz h0 h4 h5 h6
  subst hdf
  unfold dmu at hn
  simp only [h0, txtLen] at hn
  subst hu
  clear hsz h0 h4 h5 h6
  have HN := Lib.hid hn
  have HQ := Lib.hid hA
  obtain ⟨ta, tc, htv, -⟩ := hA.own.ents
  subst htv
  obtain ⟨x, y, f, hc, hx, hxs, hf0, hf1⟩ := parted 44 s
  have HCUT := Lib.hid (fun W (hb : Below w0.heap.size w0 W) => cut_sep 44 s w0 hV hs x y f hc W hb)
  have hwd := words_cut s x y f hx hf0 hf1
  have HCS := Lib.hid (fun W => cutsuf_any x W (by omega))
  have hpl := star_le x.data.toList
  have hxl : x.data.toList.length = x.size := by simp
  have e8 : ((L.length : Int) == 8) = decide (k = 0) := by rw [Bool.eq_iff_iff, beq_iff_eq, decide_eq_true_eq]; omega
  have hL8 : L.length ≤ 8 := by omega
  rw [hwd] at hG
  have HF1 := Lib.hid hf1
  clear hA hn hc hx hf0 hwd hf1
  cases k with
  | zero =>
    have HGV := Lib.hid (show G = (11, []) from hG)
    have e8' : ((L.length : Int) == 8) = true := by rw [e8]; rfl
    clear hG e8
    go_wp2_with (go_at_call 48; (with_reducible refine (HCUT.out _ HQ.out.bel).mono ?_); rintro e w1 ⟨rfl, hb⟩; have HQ1 := Lib.hid (HQ.out.below hb); clear hb)
    rw [jumps_ret]
    exact bodyPost_ret (v := .tuple #[.slice none 0 0, .int .i64 11]) (by simp [results, Tryd.results50, go_sem]) rfl (by rw [HGV.out]; exact ⟨fun _ => rfl, fun h => (by cases h), HQ1.out.bel⟩)
  | succ k =>
    have e8' : ((L.length : Int) == 8) = false := by rw [e8]; rfl
    obtain ⟨sb, hsb⟩ : ∃ sb, sb = (starD x.data.toList).1 := ⟨_, rfl⟩
    obtain ⟨x2, hx2⟩ : ∃ x2 : ByteArray, x2 = ⟨(starD x.data.toList).2.toArray⟩ := ⟨_, rfl⟩
    have hx2l : x2.data.toList = (starD x.data.toList).2 := by rw [hx2]
    have hx2s : x2.size ≤ 300 := by
      have : x2.data.toList.length = x2.size := by simp
      rw [hx2l] at this
      omega
    have hpar := fun W (hb : Below w0.heap.size w0 W) => cparse_ok x2 W (hV.below hb) hx2s
    rw [← hsb, ← hx2] at HCS
    unfold stepsP at hG
    rw [← hsb, ← hx2l] at hG
    unfold readE at hpar
    generalize hrd : readD x2.data.toList = rd at *
    obtain ⟨ok, bl, num⟩ := rd
    unfold callE at hG
    dsimp only at hG hpar
    obtain ⟨B, hB⟩ : ∃ B : ByteArray, B = ⟨bl.toArray⟩ := ⟨_, rfl⟩
    rw [← hB] at hpar hG
    clear hrd hB hsb hx2 hx2l hxl hpl e8
    have HGG := Lib.hid hG
    clear hG
    cases ok
    · have HPA := Lib.hid (show ∀ W, Below w0.heap.size w0 W → Calls Tryd.prog 49 #[.string x2] W fun e w' => e = .returned (.tuple #[.agg #[.string B, .int .i64 (num : Int)], .int .i64 12]) ∧ Below W.heap.size W w' from hpar)
      have HGV := Lib.hid (show G = (12, []) from HGG.out)
      have e12 : ((12 : Int) != 0) = true := rfl
      clear hpar
      go_wp2_with (first
        | (go_at_call 48; (with_reducible refine (HCUT.out _ HQ.out.bel).mono ?_); rintro e w1 ⟨rfl, hb⟩; have HQ1 := Lib.hid (HQ.out.below hb); clear hb)
        | (go_at_call 62; (with_reducible refine (HCS.out _).mono ?_); rintro e w2 ⟨rfl, hb⟩; have HQ2 := Lib.hid (HQ1.out.below hb); clear hb)
        | (go_at_call 49; (with_reducible refine (HPA.out _ HQ2.out.bel).mono ?_); rintro e w3 ⟨rfl, hb⟩; have HQ3 := Lib.hid ((HQ2.out.below hb).alloc (.cells #[.string B, .int .i64 (num : Int)] 23)); clear hb))
      rw [jumps_ret]
      exact bodyPost_ret (v := .tuple #[.slice none 0 0, .int .i64 12]) (by simp [results, Tryd.results50, go_sem]) rfl (by rw [HGV.out]; exact ⟨fun _ => rfl, fun h => (by cases h), HQ3.out.bel⟩)
    · have HPA := Lib.hid (show ∀ W, Below w0.heap.size w0 W → Calls Tryd.prog 49 #[.string x2] W fun e w' => e = .returned (.tuple #[.agg #[.string B, .int .i64 (num : Int)], .int .i64 0]) ∧ Below W.heap.size W w' from hpar)
      have e12 : ((0 : Int) != 0) = false := rfl
      obtain ⟨L', hL'⟩ : ∃ L' : List Ent, L' = L ++ [(B, (num : Int), false)] := ⟨_, rfl⟩
      have HLP := Lib.hid hL'
      have HLN := Lib.hid (show L'.length = L.length + 1 from by rw [hL']; simp)
      have hL9 : L'.length ≤ 8 := by have := HLN.out; omega
      have HL0 := Lib.hid (show L.length + 1 ≤ 100000 from by omega)
      obtain ⟨st', hst'⟩ : ∃ st' : Nat, st' = if sb then st + 1 else st := ⟨_, rfl⟩
      obtain ⟨sent', hsent'⟩ : ∃ sent' : Nat, sent' = if sb then L'.length else sent := ⟨_, rfl⟩
      have hGv : G = stepsP k (marked sent' L') st' (if f then wordsD y.data.toList else []) := by
        rw [HGG.out, if_pos rfl, hst', hsent']
        cases sb
        · simp only [Bool.false_eq_true, if_false]
          rw [marked_plain L sent _ hsent, ← hL']
        · simp only [if_true]
          rw [marked_star L sent _, ← hL', HLN.out]
      have HGV := Lib.hid hGv
      have HS1 := Lib.hid (show st' ≤ L'.length ∧ sent' ≤ L'.length from by
        have := HLN.out
        rw [hst', hsent']
        cases sb <;> simp <;> omega)
      clear hpar hL' hGv
      cases f
      · have HGE := Lib.hid (show G = if 1 < st' then (2, []) else (0, marked sent' L') from by
          rw [HGV.out]
          cases k <;> rfl)
        cases sb
        · rw [if_neg (by simp)] at hst' hsent'
          by_cases h1 : 1 < st'
          · have d1 : decide ((1 : Int) < (st : Int)) = true := decide_eq_true (by omega)
            have HG2 := Lib.hid (show G = (2, []) from by rw [HGE.out, if_pos h1])
            go_wp2_with (first
              | (go_at_call 48; (with_reducible refine (HCUT.out _ HQ.out.bel).mono ?_); rintro e w1 ⟨rfl, hb⟩; have HQ1 := Lib.hid (HQ.out.below hb); clear hb)
              | (go_at_call 62; (with_reducible refine (HCS.out _).mono ?_); rintro e w2 ⟨rfl, hb⟩; have HQ2 := Lib.hid (HQ1.out.below hb); clear hb)
              | (go_at_call 49; (with_reducible refine (HPA.out _ HQ2.out.bel).mono ?_); rintro e w3 ⟨rfl, hb⟩; have HQ3 := Lib.hid ((HQ2.out.below hb).alloc (.cells #[.string B, .int .i64 (num : Int)] 23)); clear hb)
              | (at_builtin; have HQ4 := Lib.hid (HQ3.out.alloc (.cells #[.string B, .int .i64 (num : Int), .bool false] 65)); have HN4 := Lib.hid (EntsAt.new1 (w3.alloc (.cells #[.string B, .int .i64 (num : Int)] 23)) (w3.heap.size + 1) (by simp) B (num : Int) false 65); refine wpList_append_ents infoD Tryd.underlying24 _ rfl (.tmp 36) (.tmp 39) rfl w0.heap.size _ L [(B, (num : Int), false)] rfl HQ4.out.own _ _ rfl HN4.out HL0.out HQ4.out.bel.size ?_; intro v' w4 hown hgr hov; rw [← HLP.out] at hown; obtain ⟨va, vc, hvv, -⟩ := hown.ents; subst hvv; have HQ5 := Lib.hid (HQ4.out.grown hown hgr); clear hown hgr hov HQ4 HN4))
            rw [jumps_ret]
            exact bodyPost_ret (v := .tuple #[.slice none 0 0, .int .i64 2]) (by simp [results, Tryd.results50, go_sem]) rfl (by rw [HG2.out]; exact ⟨fun _ => rfl, fun h => (by cases h), HQ5.out.bel⟩)
          · have d1 : decide ((1 : Int) < (st : Int)) = false := decide_eq_false (by omega)
            have HG2 := Lib.hid (show G = (0, marked sent' L') from by rw [HGE.out, if_neg h1])
            have hs2 : sent' ≤ L'.length := HS1.out.2
            have HSE := Lib.hid hsent'
            have es : ((sent' : Nat) : Int) = (sent : Int) := by rw [hsent']
            go_wp2_with (first
              | (go_at_call 48; (with_reducible refine (HCUT.out _ HQ.out.bel).mono ?_); rintro e w1 ⟨rfl, hb⟩; have HQ1 := Lib.hid (HQ.out.below hb); clear hb)
              | (go_at_call 62; (with_reducible refine (HCS.out _).mono ?_); rintro e w2 ⟨rfl, hb⟩; have HQ2 := Lib.hid (HQ1.out.below hb); clear hb)
              | (go_at_call 49; (with_reducible refine (HPA.out _ HQ2.out.bel).mono ?_); rintro e w3 ⟨rfl, hb⟩; have HQ3 := Lib.hid ((HQ2.out.below hb).alloc (.cells #[.string B, .int .i64 (num : Int)] 23)); clear hb)
              | (at_builtin; have HQ4 := Lib.hid (HQ3.out.alloc (.cells #[.string B, .int .i64 (num : Int), .bool false] 65)); have HN4 := Lib.hid (EntsAt.new1 (w3.alloc (.cells #[.string B, .int .i64 (num : Int)] 23)) (w3.heap.size + 1) (by simp) B (num : Int) false 65); refine wpList_append_ents infoD Tryd.underlying24 _ rfl (.tmp 36) (.tmp 39) rfl w0.heap.size _ L [(B, (num : Int), false)] rfl HQ4.out.own _ _ rfl HN4.out HL0.out HQ4.out.bel.size ?_; intro v' w4 hown hgr hov; rw [← HLP.out] at hown; obtain ⟨va, vc, hvv, -⟩ := hown.ents; subst hvv; have HQ5 := Lib.hid (HQ4.out.grown hown hgr); clear hown hgr hov HQ4 HN4))
            go_loopw [51] (fun i wx => ∃ j : Nat, j ≤ sent' ∧ i = .int .i64 j ∧ Hid (DgAt w0 wx (.slice va L'.length vc) (marked j L'))) (fun i _ => sent' - (intOf i).toNat)
            case atStart => exact ⟨0, by omega, rfl, HQ5.out⟩
            case round =>
              obtain ⟨j, hj, rfl, HR⟩ := hrel
              by_cases hjt : j < sent'
              · have dk : decide ((j : Int) < (sent : Int)) = true := decide_eq_true (by omega)
                have hjl : j < (marked j L').length := by rw [marked_len]; omega
                obtain ⟨g, c, hvv, -, -, -⟩ := HR.out.own.some_ (by omega)
                simp only [Value.slice.injEq] at hvv
                obtain ⟨rfl, -, rfl⟩ := hvv
                obtain ⟨gg, oo, hgo, -, -, -, z3⟩ := (ents_of_own HR.out.own).at_ j hjl
                simp only [Option.some.injEq, Addr.mk.injEq, and_true] at hgo
                obtain ⟨rfl, rfl⟩ := hgo
                rw [Nat.zero_add] at z3
                have z2 := World.ownsRow.frozenAt (by have k := HR.out.own; unfold OwnE at k; rw [marked_len] at k; exact k) (j * 3 + 2)
                have HM := Lib.hid (HR.out.own.mark j hjl)
                have hjb : j < L'.length := by omega
                obtain ⟨zb, z4⟩ : ∃ zb, wr.cell? ⟨g, j * 3 + 2, none⟩ = some (.bool zb) := ⟨_, z3⟩
                clear z3
                clear hjl
                go_wp2
                go_roundw
                case rel =>
                  refine ⟨j + 1, by omega, by go_num, ?_⟩
                  have h1 := HM.out.1
                  rw [marked_next L' j hjb] at h1
                  exact ⟨h1, HR.out.bel.grown HM.out.2 HR.out.bel.size (fun k hk => by have e' : g = k := Option.some.inj hk; have h9 : w0.heap.size ≤ g := (HR.out.own.ge rfl).1; omega)⟩
                case measure => simp [intOf]; omega
              · obtain rfl : j = sent' := by omega
                have dk : decide ((j : Int) < (sent : Int)) = false := decide_eq_false (by omega)
                go_wp2
                rw [jumps_ret]
                exact bodyPost_ret (v := .tuple #[.slice va L'.length vc, .int .i64 0]) (by simp [results, Tryd.results50, go_sem]) rfl (by
                  rw [HG2.out]
                  exact ⟨fun h => absurd rfl h, fun _ => ⟨va, vc, by rw [marked_len], by rw [marked_len]; exact HR.out.own⟩, HR.out.bel⟩)
        · rw [if_pos rfl] at hst' hsent'
          by_cases h1 : 1 < st'
          · have d1 : decide ((1 : Int) < (st : Int) + 1) = true := decide_eq_true (by omega)
            have HG2 := Lib.hid (show G = (2, []) from by rw [HGE.out, if_pos h1])
            go_wp2_with (first
              | (go_at_call 48; (with_reducible refine (HCUT.out _ HQ.out.bel).mono ?_); rintro e w1 ⟨rfl, hb⟩; have HQ1 := Lib.hid (HQ.out.below hb); clear hb)
              | (go_at_call 62; (with_reducible refine (HCS.out _).mono ?_); rintro e w2 ⟨rfl, hb⟩; have HQ2 := Lib.hid (HQ1.out.below hb); clear hb)
              | (go_at_call 49; (with_reducible refine (HPA.out _ HQ2.out.bel).mono ?_); rintro e w3 ⟨rfl, hb⟩; have HQ3 := Lib.hid ((HQ2.out.below hb).alloc (.cells #[.string B, .int .i64 (num : Int)] 23)); clear hb)
              | (at_builtin; have HQ4 := Lib.hid (HQ3.out.alloc (.cells #[.string B, .int .i64 (num : Int), .bool false] 65)); have HN4 := Lib.hid (EntsAt.new1 (w3.alloc (.cells #[.string B, .int .i64 (num : Int)] 23)) (w3.heap.size + 1) (by simp) B (num : Int) false 65); refine wpList_append_ents infoD Tryd.underlying24 _ rfl (.tmp 36) (.tmp 39) rfl w0.heap.size _ L [(B, (num : Int), false)] rfl HQ4.out.own _ _ rfl HN4.out HL0.out HQ4.out.bel.size ?_; intro v' w4 hown hgr hov; rw [← HLP.out] at hown; obtain ⟨va, vc, hvv, -⟩ := hown.ents; subst hvv; have HQ5 := Lib.hid (HQ4.out.grown hown hgr); clear hown hgr hov HQ4 HN4))
            rw [jumps_ret]
            exact bodyPost_ret (v := .tuple #[.slice none 0 0, .int .i64 2]) (by simp [results, Tryd.results50, go_sem]) rfl (by rw [HG2.out]; exact ⟨fun _ => rfl, fun h => (by cases h), HQ5.out.bel⟩)
          · have d1 : decide ((1 : Int) < (st : Int) + 1) = false := decide_eq_false (by omega)
            have HG2 := Lib.hid (show G = (0, marked sent' L') from by rw [HGE.out, if_neg h1])
            have hs2 : sent' ≤ L'.length := HS1.out.2
            have HSE := Lib.hid hsent'
            have es : ((sent' : Nat) : Int) = (L'.length : Int) := by rw [hsent']
            go_wp2_with (first
              | (go_at_call 48; (with_reducible refine (HCUT.out _ HQ.out.bel).mono ?_); rintro e w1 ⟨rfl, hb⟩; have HQ1 := Lib.hid (HQ.out.below hb); clear hb)
              | (go_at_call 62; (with_reducible refine (HCS.out _).mono ?_); rintro e w2 ⟨rfl, hb⟩; have HQ2 := Lib.hid (HQ1.out.below hb); clear hb)
              | (go_at_call 49; (with_reducible refine (HPA.out _ HQ2.out.bel).mono ?_); rintro e w3 ⟨rfl, hb⟩; have HQ3 := Lib.hid ((HQ2.out.below hb).alloc (.cells #[.string B, .int .i64 (num : Int)] 23)); clear hb)
              | (at_builtin; have HQ4 := Lib.hid (HQ3.out.alloc (.cells #[.string B, .int .i64 (num : Int), .bool false] 65)); have HN4 := Lib.hid (EntsAt.new1 (w3.alloc (.cells #[.string B, .int .i64 (num : Int)] 23)) (w3.heap.size + 1) (by simp) B (num : Int) false 65); refine wpList_append_ents infoD Tryd.underlying24 _ rfl (.tmp 36) (.tmp 39) rfl w0.heap.size _ L [(B, (num : Int), false)] rfl HQ4.out.own _ _ rfl HN4.out HL0.out HQ4.out.bel.size ?_; intro v' w4 hown hgr hov; rw [← HLP.out] at hown; obtain ⟨va, vc, hvv, -⟩ := hown.ents; subst hvv; have HQ5 := Lib.hid (HQ4.out.grown hown hgr); clear hown hgr hov HQ4 HN4))
            go_loopw [51] (fun i wx => ∃ j : Nat, j ≤ sent' ∧ i = .int .i64 j ∧ Hid (DgAt w0 wx (.slice va L'.length vc) (marked j L'))) (fun i _ => sent' - (intOf i).toNat)
            case atStart => exact ⟨0, by omega, rfl, HQ5.out⟩
            case round =>
              obtain ⟨j, hj, rfl, HR⟩ := hrel
              by_cases hjt : j < sent'
              · have dk : decide ((j : Int) < (L'.length : Int)) = true := decide_eq_true (by omega)
                have hjl : j < (marked j L').length := by rw [marked_len]; omega
                obtain ⟨g, c, hvv, -, -, -⟩ := HR.out.own.some_ (by omega)
                simp only [Value.slice.injEq] at hvv
                obtain ⟨rfl, -, rfl⟩ := hvv
                obtain ⟨gg, oo, hgo, -, -, -, z3⟩ := (ents_of_own HR.out.own).at_ j hjl
                simp only [Option.some.injEq, Addr.mk.injEq, and_true] at hgo
                obtain ⟨rfl, rfl⟩ := hgo
                rw [Nat.zero_add] at z3
                have z2 := World.ownsRow.frozenAt (by have k := HR.out.own; unfold OwnE at k; rw [marked_len] at k; exact k) (j * 3 + 2)
                have HM := Lib.hid (HR.out.own.mark j hjl)
                have hjb : j < L'.length := by omega
                obtain ⟨zb, z4⟩ : ∃ zb, wr.cell? ⟨g, j * 3 + 2, none⟩ = some (.bool zb) := ⟨_, z3⟩
                clear z3
                clear hjl
                go_wp2
                go_roundw
                case rel =>
                  refine ⟨j + 1, by omega, by go_num, ?_⟩
                  have h1 := HM.out.1
                  rw [marked_next L' j hjb] at h1
                  exact ⟨h1, HR.out.bel.grown HM.out.2 HR.out.bel.size (fun k hk => by have e' : g = k := Option.some.inj hk; have h9 : w0.heap.size ≤ g := (HR.out.own.ge rfl).1; omega)⟩
                case measure => simp [intOf]; omega
              · obtain rfl : j = sent' := by omega
                have dk : decide ((j : Int) < (L'.length : Int)) = false := decide_eq_false (by omega)
                go_wp2
                rw [jumps_ret]
                exact bodyPost_ret (v := .tuple #[.slice va L'.length vc, .int .i64 0]) (by simp [results, Tryd.results50, go_sem]) rfl (by
                  rw [HG2.out]
                  exact ⟨fun h => absurd rfl h, fun _ => ⟨va, vc, by rw [marked_len], by rw [marked_len]; exact HR.out.own⟩, HR.out.bel⟩)
      · have HY := Lib.hid (HF1.out rfl)
        cases sb
        · rw [if_neg (by simp)] at hst' hsent'
          subst hst' hsent'
          go_wp2_with (first
            | (go_at_call 48; (with_reducible refine (HCUT.out _ HQ.out.bel).mono ?_); rintro e w1 ⟨rfl, hb⟩; have HQ1 := Lib.hid (HQ.out.below hb); clear hb)
            | (go_at_call 62; (with_reducible refine (HCS.out _).mono ?_); rintro e w2 ⟨rfl, hb⟩; have HQ2 := Lib.hid (HQ1.out.below hb); clear hb)
            | (go_at_call 49; (with_reducible refine (HPA.out _ HQ2.out.bel).mono ?_); rintro e w3 ⟨rfl, hb⟩; have HQ3 := Lib.hid ((HQ2.out.below hb).alloc (.cells #[.string B, .int .i64 (num : Int)] 23)); clear hb)
            | (at_builtin; have HQ4 := Lib.hid (HQ3.out.alloc (.cells #[.string B, .int .i64 (num : Int), .bool false] 65)); have HN4 := Lib.hid (EntsAt.new1 (w3.alloc (.cells #[.string B, .int .i64 (num : Int)] 23)) (w3.heap.size + 1) (by simp) B (num : Int) false 65); refine wpList_append_ents infoD Tryd.underlying24 _ rfl (.tmp 36) (.tmp 39) rfl w0.heap.size _ L [(B, (num : Int), false)] rfl HQ4.out.own _ _ rfl HN4.out HL0.out HQ4.out.bel.size ?_; intro v' w4 hown hgr hov; rw [← HLP.out] at hown; obtain ⟨va, vc, hvv, -⟩ := hown.ents; subst hvv; have HQ5 := Lib.hid (HQ4.out.grown hown hgr); clear hown hgr hov HQ4 HN4))
          go_step3
          exact ⟨⟨rfl, y, _, L', st', sent', k, ⟨rfl, rfl, rfl, rfl, rfl, rfl⟩, by have := HLN.out; omega, HS1.out.2, HS1.out.1, by have := HY.out.2; omega, HGV.out, HQ5.out⟩, by
            have := HN.out
            have := HY.out.2
            show y.size < n
            omega⟩
        · rw [if_pos rfl] at hst' hsent'
          subst hst' hsent'
          go_wp2_with (first
            | (go_at_call 48; (with_reducible refine (HCUT.out _ HQ.out.bel).mono ?_); rintro e w1 ⟨rfl, hb⟩; have HQ1 := Lib.hid (HQ.out.below hb); clear hb)
            | (go_at_call 62; (with_reducible refine (HCS.out _).mono ?_); rintro e w2 ⟨rfl, hb⟩; have HQ2 := Lib.hid (HQ1.out.below hb); clear hb)
            | (go_at_call 49; (with_reducible refine (HPA.out _ HQ2.out.bel).mono ?_); rintro e w3 ⟨rfl, hb⟩; have HQ3 := Lib.hid ((HQ2.out.below hb).alloc (.cells #[.string B, .int .i64 (num : Int)] 23)); clear hb)
            | (at_builtin; have HQ4 := Lib.hid (HQ3.out.alloc (.cells #[.string B, .int .i64 (num : Int), .bool false] 65)); have HN4 := Lib.hid (EntsAt.new1 (w3.alloc (.cells #[.string B, .int .i64 (num : Int)] 23)) (w3.heap.size + 1) (by simp) B (num : Int) false 65); refine wpList_append_ents infoD Tryd.underlying24 _ rfl (.tmp 36) (.tmp 39) rfl w0.heap.size _ L [(B, (num : Int), false)] rfl HQ4.out.own _ _ rfl HN4.out HL0.out HQ4.out.bel.size ?_; intro v' w4 hown hgr hov; rw [← HLP.out] at hown; obtain ⟨va, vc, hvv, -⟩ := hown.ents; subst hvv; have HQ5 := Lib.hid (HQ4.out.grown hown hgr); clear hown hgr hov HQ4 HN4))
          go_step3
          exact ⟨⟨rfl, y, _, L', st + 1, L'.length, k, ⟨rfl, rfl, rfl, rfl, by simp, rfl⟩, by have := HLN.out; omega, HS1.out.2, HS1.out.1, by have := HY.out.2; omega, HGV.out, HQ5.out⟩, by
            have := HN.out
            have := HY.out.2
            show y.size < n
            omega⟩
set_option maxRecDepth 100000 in
set_option maxHeartbeats 1000000 in
theorem pdigis_any (s : ByteArray) (w : World) (hV : VarsOk w) (hs : s.size ≤ 300) :
    Calls Tryd.prog 50 #[.string s] w fun e w' => DigTo w (stepsP 8 [] 0 (wordsD s.data.toList)) e w' := by
  obtain ⟨G, hG⟩ : ∃ G, G = stepsP 8 [] 0 (wordsD s.data.toList) := ⟨_, rfl⟩
  rw [← hG]
  have HP := Lib.hid (pdigis_pass w hV G)
  have HA := Lib.hid (show DgAt w w (.slice none 0 0) [] from ⟨OwnE.nil _ _ _, Below.refl _ w⟩)
  have HG := Lib.hid hG
  clear hG
  go_enter Tryd.func50, Tryd.ntmps50
  go_wp2
  refine scope_places (fun l a' w' => DJ w G l a' w' ∧ dmu l a' w' ≤ 300) dmu ?_ ?_
  · go_wp2
    go_step3
    rename_i hK
    refine hK _ _ ?_
    clear hK
    obtain ⟨r, hr, hq⟩ := HP.out
    refine falls hr (wp_mono (hq 300 _ _ ⟨rfl, s, _, [], 0, 0, 8, ⟨rfl, rfl, rfl, rfl, rfl, rfl⟩, rfl, Nat.le_refl _, Nat.le_refl _, hs, HG.out, HA.out⟩ ?_) ?_) (by rfl)
    · exact hs
    · intro e a' w' hq
      cases e with
      | goto l' => exact ⟨hq.1, Nat.le_of_lt hq.2⟩
      | _ => exact hq
  · intro l a' w' ⟨hj, hn⟩
    obtain ⟨rfl, _⟩ := id hj
    obtain ⟨r, hr, hq⟩ := HP.out
    refine ⟨_, hr, wp_seq (wp_skip ?_)⟩
    refine wp_mono (hq (dmu 0 a' w') a' w' hj (Nat.le_refl _)) ?_
    intro e a'' w'' hq2
    cases e with
    | goto l' => exact ⟨⟨hq2.1, by have := hq2.2; omega⟩, hq2.2⟩
    | _ => exact hq2
end Go.Proofs.YteiappicdnekoaaDoor
