/-
What the next digipeater sends on, as plain facts: it is right again, and its bytes are the same but for one, whose mark is set.
The document's own Next and Sent of paths.
Digipeaters as plain facts: what can be decoded, whose turn it is, what is sent on.
The document's own Put and Text of paths, of right calls.
The document's digipeater: Decodes, On, For.
-/
import Derived.Test.YtadhiknmkiogjaaDoorMix12
import Derived.Test.YtadhiknmkiogjaaDoorMix13
import Derived.Test.YtadhiknmkiogjaaDoorMix28
import Derived.Laws.RangeAny
import Derived.Test.YtadhiknmkiogjaaDoorDigRDec
import Derived.Test.YtadhiknmkiogjaaDoorMix11
import Derived.Lib.QuietBelow
import Derived.IntWalk
import Derived.Lib.SmallJoins
import Derived.Lib.ItoaNum
import Derived.Lib.IndexBytes
import Derived.Test.YtadhiknmkiogjaaDoorMix25
import Derived.Deep.DeepCutAuto
namespace Go.Proofs.YtadhiknmkiogjaaDoor
open Go.RowKit Go.Sort
set_option maxRecDepth 20000
theorem sent_form (D : List Ent) (h : fstD D < D.length) : sentD D = D.take (fstD D) ++ (D[fstD D].1, D[fstD D].2.1, true) :: D.drop (fstD D + 1) := by
  unfold sentD markD
  rw [List.getElem?_eq_getElem h]
  dsimp only
  rw [List.set_eq_take_append_cons_drop, if_pos h]
theorem sent_len (D : List Ent) : (sentD D).length = D.length := by unfold sentD; exact mark_len D _
theorem sent_at (D : List Ent) (h : fstD D < D.length) (j : Nat) (hj : j < D.length) (hne : j ≠ fstD D) : (sentD D)[j]'(by rw [sent_len]; exact hj) = D[j] := by
  have e : sentD D = D.set (fstD D) (D[fstD D].1, D[fstD D].2.1, true) := by
    unfold sentD markD
    rw [List.getElem?_eq_getElem h]
  simp only [e]
  rw [List.getElem_set_ne (fun q => hne q.symm)]
theorem sent_here (D : List Ent) (h : fstD D < D.length) : (sentD D)[fstD D]'(by rw [sent_len]; exact h) = (D[fstD D].1, D[fstD D].2.1, true) := by
  have e : sentD D = D.set (fstD D) (D[fstD D].1, D[fstD D].2.1, true) := by
    unfold sentD markD
    rw [List.getElem?_eq_getElem h]
  simp only [e]
  rw [List.getElem_set_self]
theorem sent_right (x y : Ent) (D : List Ent) (h : fstD D < D.length) (hr : rightP (x :: y :: D) = true) : rightP (x :: y :: sentD D) = true := by
  rw [right_cons] at hr ⊢
  simp only [Bool.and_eq_true, decide_eq_true_eq] at hr ⊢
  obtain ⟨⟨h1, h2⟩, h3⟩ := hr
  refine ⟨⟨by rw [sent_len]; exact h1, ?_⟩, ?_⟩
  · rw [ord_iff] at h2 ⊢
    intro i hi hm
    have hi' : i + 1 < D.length := by rw [sent_len] at hi; exact hi
    by_cases e1 : i = fstD D
    · subst e1
      rw [sent_here D h]
    · by_cases e2 : i + 1 = fstD D
      · rw [sent_at D h i (by omega) e1]
        exact fst_has D i (by omega)
      · rw [sent_at D h (i + 1) hi' e2] at hm
        rw [sent_at D h i (by omega) e1]
        exact h2 i hi' hm
  · rw [List.all_eq_true] at h3 ⊢
    intro e he
    rcases List.mem_cons.1 he with rfl | he
    · exact h3 _ List.mem_cons_self
    · rcases List.mem_cons.1 he with rfl | he
      · exact h3 _ (List.mem_cons_of_mem _ List.mem_cons_self)
      · obtain ⟨j, hj, rfl⟩ := List.getElem_of_mem he
        have hj' : j < D.length := by rw [sent_len] at hj; exact hj
        have hx := h3 D[j] (List.mem_cons_of_mem _ (List.mem_cons_of_mem _ (List.getElem_mem hj')))
        by_cases e1 : j = fstD D
        · subst e1
          rw [sent_here D h]
          exact hx
        · rw [sent_at D h j hj' e1]
          exact hx
/-- the six letters of a call's bytes -/
def sixD (b : List UInt8) (n : Nat) : List UInt8 := (List.range 6).map fun j => UInt8.ofNat (putF b n b.length j).toNat
theorem put_parts (b : List UInt8) (n : Nat) (mk la : Bool) : putD b n mk la = sixD b n ++ [UInt8.ofNat (96 + 2 * (n : Int) + mkD mk la).toNat] := by
  unfold putD sixD
  rw [show List.range 7 = List.range 6 ++ [6] from rfl, List.map_append]
  congr 1
theorem bytesP_same (L L' : List Ent) (hl : L'.length = L.length) : ∀ m, m ≤ L.length → (∀ j (_ : j < m) (hm : j < L.length), L'[j]'(by omega) = L[j]) → bytesP L' m = bytesP L m
  | 0, _, _ => rfl
  | m + 1, hm, h => by
    rw [bytesP_next L m (by omega), bytesP_next L' m (by omega), bytesP_same L L' hl m (by omega) (fun j hj hm' => h j (by omega) hm'), h m (by omega) (by omega), hl]
/-- where the bytes differ -/
theorem sent_bytes (x y : Ent) (D : List Ent) (h : fstD D < D.length) (hr : rightP (x :: y :: D) = true) :
    ∃ (pre : List UInt8) (c c' : UInt8) (post : List UInt8), bytesP (x :: y :: D) (x :: y :: D).length = pre ++ c :: post ∧ bytesP (x :: y :: sentD D) (x :: y :: sentD D).length = pre ++ c' :: post ∧ pre.length = 7 * (2 + fstD D) + 6 ∧ c.toNat < 128 ∧ c'.toNat = c.toNat + 128 := by
  obtain ⟨q, hq⟩ : ∃ q, q = fstD D := ⟨_, rfl⟩
  have hl : (x :: y :: sentD D).length = (x :: y :: D).length := by simp [sent_len]
  have hqn : 2 + q < (x :: y :: D).length := by simp; omega
  have hb1 := bytes_rest (x :: y :: D) (2 + q) (by omega)
  have hb2 := bytes_rest (x :: y :: sentD D) (2 + q) (by omega)
  have hs := bytesP_same (x :: y :: D) (x :: y :: sentD D) hl (2 + q) (by omega) (fun j hj hm => by
    obtain rfl | rfl | ⟨i, rfl⟩ : j = 0 ∨ j = 1 ∨ ∃ i, j = i + 2 := by
      rcases j with _ | _ | i
      · exact Or.inl rfl
      · exact Or.inr (Or.inl rfl)
      · exact Or.inr (Or.inr ⟨i, rfl⟩)
    · rfl
    · rfl
    · show (sentD D)[i]'_ = D[i]'_
      exact sent_at D h i (by simpa using hm) (by omega))
  have hd1 : (x :: y :: D).drop (2 + q) = D[fstD D] :: D.drop (fstD D + 1) := by
    rw [Nat.add_comm 2 q]
    show D.drop q = _
    rw [hq, List.drop_eq_getElem_cons h]
  have hd2 : (x :: y :: sentD D).drop (2 + q) = (D[fstD D].1, D[fstD D].2.1, true) :: D.drop (fstD D + 1) := by
    rw [Nat.add_comm 2 q]
    show (sentD D).drop q = _
    rw [sent_form D h, hq]
    exact List.drop_left' (by simp; omega)
  rw [hs, hl, hd2] at hb2
  rw [hd1] at hb1
  have hnm := fst_not D h
  have hrd : rightD D[fstD D].1 D[fstD D].2.1 = true := by
    have h3 := (right_path _ hr).1
    exact h3 _ (List.mem_cons_of_mem _ (List.mem_cons_of_mem _ (List.getElem_mem h)))
  obtain ⟨_, _, n0, n15, _⟩ := right_facts _ _ hrd
  generalize D[fstD D] = e at *
  obtain ⟨eb, en, em⟩ := e
  dsimp only at hnm hrd n0 n15 hb1 hb2
  subst hnm
  obtain ⟨n, rfl⟩ : ∃ n : Nat, en = n := ⟨en.toNat, by omega⟩
  unfold restP at hb1 hb2
  dsimp only at hb1 hb2
  rw [put_parts] at hb1 hb2
  obtain ⟨la, hla⟩ : ∃ la, la = decide (2 + q + 1 = (x :: y :: D).length) := ⟨_, rfl⟩
  rw [← hla] at hb1 hb2
  have hpl : (bytesP (x :: y :: D) (2 + q)).length = 7 * (2 + q) := bytesP_len' _ _ (by omega)
  refine ⟨bytesP (x :: y :: D) (2 + q) ++ sixD eb.data.toList n, UInt8.ofNat (96 + 2 * (n : Int) + mkD false la).toNat, UInt8.ofNat (96 + 2 * (n : Int) + mkD true la).toNat, restP (x :: y :: D).length (2 + q + 1) (D.drop (fstD D + 1)), ?_, ?_, ?_, ?_, ?_⟩
  · rw [← hb1]
    simp [hq]
  · rw [hl, ← hb2]
    simp [hq]
  · rw [List.length_append, hpl, hq]
    simp [sixD]
  · have : (96 + 2 * (n : Int) + mkD false la).toNat < 128 := by unfold mkD; cases la <;> simp <;> omega
    rw [UInt8.toNat_ofNat', Nat.mod_eq_of_lt (by omega)]
    exact this
  · have e1 : (96 + 2 * (n : Int) + mkD false la).toNat < 128 := by unfold mkD; cases la <;> simp <;> omega
    have e2 : (96 + 2 * (n : Int) + mkD true la).toNat = (96 + 2 * (n : Int) + mkD false la).toNat + 128 := by unfold mkD; cases la <;> simp <;> omega
    rw [UInt8.toNat_ofNat', UInt8.toNat_ofNat', e2, Nat.mod_eq_of_lt (by omega), Nat.mod_eq_of_lt (by omega)]
/-- no letter of one byte is passed over -/
theorem decode_jump (s : ByteArray) (p j : Nat) (h1 : 1 ≤ j) (h2 : j < (Utf8.decode s p).2) : 128 ≤ (s.get! (p + j)).toNat := by
  have key : ∀ k, (decide (p + k < s.size) && (s.get! (p + k)).toNat / 64 == 2) = true → 128 ≤ (s.get! (p + k)).toNat := fun k h => by
    simp only [Bool.and_eq_true, beq_iff_eq] at h
    omega
  unfold Utf8.decode at h2
  dsimp only at h2
  split at h2
  · dsimp only at h2; omega
  · split at h2
    · rename_i hc
      simp only [Bool.and_eq_true] at hc
      have k1 := key 1 (by simp only [Bool.and_eq_true]; exact hc.2)
      split at h2 <;> dsimp only at h2
      · obtain rfl : j = 1 := by omega
        exact k1
      · omega
    · split at h2
      · rename_i hc
        simp only [Bool.and_eq_true] at hc
        have k1 := key 1 (by simp only [Bool.and_eq_true]; exact hc.1.2)
        have k2 := key 2 (by simp only [Bool.and_eq_true]; exact hc.2)
        split at h2 <;> dsimp only at h2
        · obtain rfl | rfl : j = 1 ∨ j = 2 := by omega
          · exact k1
          · exact k2
        · omega
      · split at h2
        · rename_i hc
          simp only [Bool.and_eq_true] at hc
          have k1 := key 1 (by simp only [Bool.and_eq_true]; exact hc.1.1.2)
          have k2 := key 2 (by simp only [Bool.and_eq_true]; exact hc.1.2)
          have k3 := key 3 (by simp only [Bool.and_eq_true]; exact hc.2)
          split at h2 <;> dsimp only at h2
          · obtain rfl | rfl | rfl : j = 1 ∨ j = 2 ∨ j = 3 := by omega
            · exact k1
            · exact k2
            · exact k3
          · omega
        · dsimp only at h2; omega
theorem width_one (s : ByteArray) (p : Nat) (h : p < s.size) : 1 ≤ (Utf8.decode s p).2 := by
  by_cases ha : (s[p]'h).toNat < 128
  · rw [decode_ascii s p h ha]
    exact Nat.le_refl _
  · exact (decode_high s p h (by omega)).2
end Go.Proofs.YtadhiknmkiogjaaDoor
namespace Go.Proofs.YtadhiknmkiogjaaDoor
open Go.RowKit Go.Sort
set_option maxRecDepth 20000
end Go.Proofs.YtadhiknmkiogjaaDoor
namespace Go.Proofs.YtadhiknmkiogjaaDoor
open Go.RowKit Go.Sort
set_option maxRecDepth 20000
abbrev Cl := ByteArray × Int
/-- can it be decoded, narrow or wide? -/
def decB (s : List UInt8) : Bool := decide (decE s false = 0) || decide (decE s true = 0)
theorem decE_get {s : List UInt8} {wide : Bool} (h : decE s wide = 0) : (getP 10 [] s).1 = 0 := by
  unfold decE at h
  by_cases hb : begE s wide = 0
  · unfold begE at hb
    by_cases hg : (getP 10 [] s).1 = 0
    · exact hg
    · rw [if_pos hg] at hb
      exact hb
  · rw [if_pos hb] at h
    exact absurd h hb
theorem decB_get {s : List UInt8} (h : decB s = true) : (getP 10 [] s).1 = 0 := by
  unfold decB at h
  rw [Bool.or_eq_true, decide_eq_true_eq, decide_eq_true_eq] at h
  exact h.elim decE_get decE_get
/-- the path with which bytes begin -/
abbrev pathL (s : List UInt8) : List Ent := (getP 10 [] s).2
/-- what seven bytes are read as has these bytes -/
theorem ent_back (s : List UInt8) (h : (getD7 s).1 = true) : rightD (entD s).1 (entD s).2.1 = true ∧ putD (entD s).1.data.toList (entD s).2.1.toNat (entD s).2.2 (getD7 s).2.2.2.2 = s := by
  unfold entD
  unfold getD7 at h ⊢
  split at h
  · rename_i hc
    rw [if_pos hc]
    refine ⟨hc.2.1, ?_⟩
    exact hc.2.2
  · cases h
theorem getP_back : ∀ (k : Nat) (acc : List Ent) (s : List UInt8), (getP k acc s).1 = 0 → acc.length + k = 10 →
    ∃ M, (getP k acc s).2 = acc ++ M ∧ 0 < M.length ∧ (∀ e ∈ M, rightD e.1 e.2.1 = true) ∧ s = restP (acc.length + M.length) acc.length M ++ s.drop (7 * M.length) ∧ ordD ((acc ++ M).drop 2) = true ∧ 2 ≤ (acc ++ M).length ∧ (acc ++ M).length ≤ 10
  | 0, acc, s, h, _ => by
    unfold getP at h
    split at h
    · cases h
    · split at h <;> cases h
  | k + 1, acc, s, h, hk => by
    by_cases h7 : s.length < 7
    · rw [getP_short _ _ _ h7] at h
      cases h
    · cases hg : (getD7 (s.take 7)).1 with
      | false =>
        rw [getP_bad _ _ _ (by omega) hg] at h
        cases h
      | true =>
        obtain ⟨e1, e2⟩ := ent_back _ hg
        have hs : s = s.take 7 ++ s.drop 7 := (List.take_append_drop 7 s).symm
        cases hl : (getD7 (s.take 7)).2.2.2.2 with
        | true =>
          have hu : getP (k + 1) acc s = if acc.length = 0 then (2, []) else if ordD ((acc ++ [entD (s.take 7)]).drop 2) then (0, acc ++ [entD (s.take 7)]) else (11, []) := by
            conv => lhs; unfold getP
            rw [if_neg h7, if_pos hg, if_pos hl]
          rw [hu] at h ⊢
          by_cases h0 : acc.length = 0
          · rw [if_pos h0] at h
            cases h
          · rw [if_neg h0] at h ⊢
            split at h
            · rename_i ho
              rw [if_pos ho]
              refine ⟨[entD (s.take 7)], rfl, Nat.one_pos, fun e he => by rw [List.mem_singleton.1 he]; exact e1, ?_, ho, by simp; omega, by simp; omega⟩
              rw [restP, restP, List.append_nil, List.length_singleton, decide_eq_true rfl, ← hl, e2]
              exact hs
            · cases h
        | false =>
          have hu : getP (k + 1) acc s = getP k (acc ++ [entD (s.take 7)]) (s.drop 7) := by
            conv => lhs; unfold getP
            rw [if_neg h7, if_pos hg, hl, if_neg Bool.false_ne_true]
          rw [hu] at h ⊢
          obtain ⟨M, m1, hM, m2, m3, m4, m5, m6⟩ := getP_back k (acc ++ [entD (s.take 7)]) (s.drop 7) h (by simp; omega)
          refine ⟨entD (s.take 7) :: M, by rw [m1, List.append_assoc]; rfl, by rw [List.length_cons]; omega, fun e he => ?_, ?_, by rw [List.append_assoc] at m4; exact m4, by rw [List.append_assoc] at m5; exact m5, by rw [List.append_assoc] at m6; exact m6⟩
          · rcases List.mem_cons.1 he with rfl | he
            · exact e1
            · exact m2 e he
          · rw [restP, decide_eq_false (by rw [List.length_cons]; omega), ← hl, e2, List.append_assoc]
            have a1 : (acc ++ [entD (s.take 7)]).length = acc.length + 1 := by simp
            rw [a1] at m3
            rw [show acc.length + (entD (s.take 7) :: M).length = acc.length + 1 + M.length from by rw [List.length_cons]; omega]
            have d1 : s.drop (7 * (entD (s.take 7) :: M).length) = (s.drop 7).drop (7 * M.length) := by
              rw [List.drop_drop, List.length_cons]
              congr 1
              omega
            rw [d1, ← m3]
            exact hs
/-- what is read has these bytes, and is right -/
theorem read_path (s : List UInt8) (h : (getP 10 [] s).1 = 0) : rightP (pathL s) = true ∧ s = bytesP (pathL s) (pathL s).length ++ s.drop (7 * (pathL s).length) := by
  obtain ⟨M, m1, -, m2, m3, m4, m5, m6⟩ := getP_back 10 [] s h rfl
  have e : pathL s = M := m1
  rw [e]
  rw [List.nil_append] at m4 m5 m6
  constructor
  · unfold rightP
    simp only [Bool.and_eq_true, decide_eq_true_eq]
    exact ⟨⟨⟨List.all_eq_true.2 m2, m5⟩, m6⟩, m4⟩
  · have k := bytes_rest M 0 (Nat.zero_le _)
    rw [show bytesP M 0 = [] from rfl, List.nil_append, List.drop_zero] at k
    rw [← k]
    rw [show ([] : List Ent).length = 0 from rfl, Nat.zero_add] at m3
    exact m3
theorem bytes_drop (L : List Ent) (rest : List UInt8) : (bytesP L L.length ++ rest).drop (7 * L.length) = rest := by
  have h := bytesP_len' L L.length (Nat.le_refl _)
  rw [← h]
  exact List.drop_left
/-- whose digipeaters have sent it is nothing to what stands behind -/
theorem dec_same (L L' : List Ent) (rest : List UInt8) (h : rightP L = true) (h' : rightP L' = true) (hl : L'.length = L.length) (wide : Bool) : decE (bytesP L' L'.length ++ rest) wide = decE (bytesP L L.length ++ rest) wide := by
  have g := get_bytes L rest h
  have g' := get_bytes L' rest h'
  have c : ctlOf (bytesP L' L'.length ++ rest) wide = ctlOf (bytesP L L.length ++ rest) wide := by
    unfold ctlOf
    rw [g, g', bytes_drop, bytes_drop]
  have n : (bytesP L' L'.length ++ rest).length = (bytesP L L.length ++ rest).length := by
    rw [List.length_append, List.length_append, bytesP_len' L _ (Nat.le_refl _), bytesP_len' L' _ (Nat.le_refl _), hl]
  unfold decE begE
  rw [g, g', c, n]
  simp only [hl]
theorem decB_same (L L' : List Ent) (rest : List UInt8) (h : rightP L = true) (h' : rightP L' = true) (hl : L'.length = L.length) : decB (bytesP L' L'.length ++ rest) = decB (bytesP L L.length ++ rest) := by
  unfold decB
  rw [dec_same L L' rest h h' hl, dec_same L L' rest h h' hl]
/-- is a call one of these? -/
def mineB (calls : List Cl) (c : Cl) : Bool := calls.any fun d => decide (d = c)
/-- what is sent on, and how: 0 it is, 1 it is not for it, 2 it can't be decoded -/
def onD (calls : List Cl) (s : List UInt8) : List UInt8 × Nat :=
  if decB s = false then ([], 2)
  else match (pathL s)[2 + fstD ((pathL s).drop 2)]? with
    | none => ([], 1)
    | some e => if mineB calls (e.1, e.2.1) = true then (bytesP (sentL (pathL s)) (pathL s).length ++ s.drop (7 * (pathL s).length), 0) else ([], 1)
/-- is it for a call, here and now? -/
def forD (c : Cl) (s : List UInt8) : Bool := decB s && (match (pathL s)[0]? with | some e => decide ((e.1, e.2.1) = c) | none => false) && decide ((pathL s)[2 + fstD ((pathL s).drop 2)]? = none)
end Go.Proofs.YtadhiknmkiogjaaDoor
namespace Go.Proofs.YtadhiknmkiogjaaDoor
open Go.RowKit Go.Sort
set_option maxRecDepth 20000
theorem bytesP_len (L : List Ent) : ∀ k, k ≤ L.length → (bytesP L k).length = 7 * k
  | 0, _ => rfl
  | k + 1, h => by
    rw [bytesP_next L k (by omega), List.length_append, bytesP_len L k (by omega), put_len]
    omega
/-- the document's Put of one right call -/
theorem rput_ent (e : Ent) (la : Bool) (h : rightD e.1 e.2.1 = true) (w : World) :
    Calls Tryd.prog 57 #[.agg #[.string e.1, .int .i64 e.2.1], .bool e.2.2, .bool la] w fun r w' => r = .returned (.string ⟨(putD e.1.data.toList e.2.1.toNat e.2.2 la).toArray⟩) ∧ Below w.heap.size w w' := by
  obtain ⟨h1, h2, h3, h4, _⟩ := right_facts e.1 e.2.1 h
  obtain ⟨_, _, h7⟩ := right_bytes e.1 e.2.1 h
  have k := rput_any e.1 e.2.1.toNat e.2.2 la w h2 (by omega) h7
  rw [show ((e.2.1.toNat : Nat) : Int) = e.2.1 from by omega] at k
  exact k
set_option maxHeartbeats 2000000 in
theorem rpput_any (a : Option Addr) (cap : Nat) (L : List Ent) (w : World) (hL : L.length ≤ 10) (hE : EntsAt w a cap L) (hr : ∀ e ∈ L, rightD e.1 e.2.1 = true) :
    Calls Tryd.prog 39 #[.agg #[.slice a L.length cap]] w fun e w' => e = .returned (.string ⟨(bytesP L L.length).toArray⟩) ∧ Below w.heap.size w w' := by
  have HB0 := Lib.hid ((Below.refl _ w).alloc (Nat.le_refl _) (.cells #[.slice a L.length cap] 70))
  have HK0 := Lib.hid (show KeepAt (w.alloc (.cells #[.slice a L.length cap] 70)) w.heap.size 0 (.slice a L.length cap) from ⟨World.cell?_alloc_at _ _ _ _ rfl, World.frozen?_alloc_at _ _ _ _ rfl, by simp⟩)
  have HE := Lib.hid (fun W (h : Below w.heap.size w W) => hE.below h)
  have HP := Lib.hid (fun k (h : k < L.length) la W => rput_ent L[k] la (hr _ (List.getElem_mem h)) W)
  have HN := Lib.hid (bytesP_next L)
  have HLN := Lib.hid (bytesP_len L)
  obtain ⟨R, hR⟩ : ∃ R, R = bytesP L L.length := ⟨_, rfl⟩
  rw [← hR]
  have HRR := Lib.hid hR
  clear hE hr hR
  go_enter Tryd.func39, Tryd.ntmps39
  go_wp2
  go_loopw [3, 4] (fun s i wx => ∃ k : Nat, k ≤ L.length ∧ i = .int .i64 k ∧ ∃ S : List UInt8, s = .string ⟨S.toArray⟩ ∧ Hid (S = bytesP L k ∧ Below w.heap.size w wx ∧ KeepAt wx w.heap.size 0 (.slice a L.length cap))) (fun _ i _ => L.length - (intOf i).toNat)
  case atStart => exact ⟨0, by omega, rfl, [], rfl, Lib.hid ⟨rfl, HB0.out, HK0.out⟩⟩
  case round =>
    obtain ⟨k, hk, rfl, S, rfl, HQ⟩ := hrel
    obtain ⟨p0, q0, pl⟩ := HQ.out.2.2
    by_cases hlt : k < L.length
    · have dk : decide ((k : Int) < (L.length : Int)) = true := decide_eq_true (by omega)
      obtain ⟨g, o, rfl, hg, c0, c1, c2⟩ := (HE.out _ HQ.out.2.1).at_ k hlt
      have hwr : IntKind.i64.wrap ((L.length : Int) - 1) = (L.length : Int) - 1 := IntWalk.i64_in _ (by omega)
      have el : ((k : Int) == (L.length : Int) - 1) = decide (k + 1 = L.length) := by rw [Bool.eq_iff_iff, beq_iff_eq, decide_eq_true_eq]; omega
      have hP := HP.out k hlt (decide (k + 1 = L.length))
      have hN := HN.out k hlt
      have hSl : S.length ≤ 70 := by rw [HQ.out.1, HLN.out k hk]; omega
      generalize decide (k + 1 = L.length) = la at *
      generalize L[k] = d at *
      obtain ⟨db, dn, dm⟩ := d
      simp only at c0 c1 c2 hP hN
      generalize hput : putD db.data.toList dn.toNat dm la = P at *
      have hPl : P.length = 7 := by rw [← hput]; exact put_len _ _ _ _
      have b1 := fun (w : World) => run_string_add_sum (P := Tryd.prog) (w := w) ⟨S.toArray⟩ ⟨P.toArray⟩ (by show S.toArray.size + P.toArray.size ≤ _; simp; omega)
      rw [show ((⟨S.toArray⟩ : ByteArray) ++ ⟨P.toArray⟩) = ⟨(S ++ P).toArray⟩ from bytes_ext' (by simp [ByteArray.data_append])] at b1
      have HPP := Lib.hid hP
      have HN2 := Lib.hid hN
      obtain ⟨S', hS'⟩ : ∃ S', S' = S ++ P := ⟨_, rfl⟩
      rw [← hS'] at b1
      have HS' := Lib.hid hS'
      clear hP hN hput hS' hPl
      have g0 := fun d' os => cell_regrown p0 d' os
      have x0 := fun d' os => cell_regrown c0 d' os
      have x1 := fun d' os => cell_regrown c1 d' os
      have x2 := fun d' os => cell_regrown c2 d' os
      go_wp2
      refine wp_region_quiet_below (by kernel_rfl) (by kernel_rfl) ?_
      repeat (quiet_step (first | (go_at_call 57; with_reducible exact Calls.regrown_of (HPP.out _))))
      refine wpQuiet_nil ?_
      intro _ hw'
      obtain ⟨pg, hw''⟩ := hw'
      subst hw''
      have HE2 := Lib.hid (below_regrown wr pg.d pg.os)
      have HB2 := Lib.hid (HQ.out.2.1.trans (HE2.out.mono HQ.out.2.1.size))
      have HK2 := Lib.hid (HQ.out.2.2.below HE2.out)
      generalize grow (redrawn wr pg.d) pg.os = w9 at *
      clear g0 x0 x1 x2 p0 q0 pl c0 c1 c2
      go_wp2
      go_roundw
      case rel => exact ⟨k + 1, by omega, by go_num, S', rfl, Lib.hid ⟨by rw [HS'.out, HN2.out, ← HQ.out.1], HB2.out, HK2.out⟩⟩
      case measure => simp [intOf]; omega
    · obtain rfl : k = L.length := by omega
      have dk : decide ((L.length : Int) < (L.length : Int)) = false := decide_eq_false (by omega)
      have hS : S = R := by rw [HRR.out, HQ.out.1]
      subst hS
      go_wp2
      go_ret
      exact ⟨rfl, HQ.out.2.1⟩
end Go.Proofs.YtadhiknmkiogjaaDoor
namespace Go.Proofs.YtadhiknmkiogjaaDoor
open Go.RowKit Go.Sort
set_option maxRecDepth 20000
theorem run_eq_call18 (a b : ByteArray) (n m : Int) (w : World) (E : Bool) (h : E = decide ((a, n) = (b, m))) : (Op.equalIn 10000 23 (.agg #[.string a, .int .i64 n]) (.agg #[.string b, .int .i64 m])).run Tryd.prog w = .ok E w := by
  have hs : (a.toList == b.toList) = decide (a = b) := by
    rw [ByteArray.toList_eq, ByteArray.toList_eq, Bool.eq_iff_iff, beq_iff_eq, decide_eq_true_eq]
    exact ⟨fun e => bytes_ext' e, fun e => by rw [e]⟩
  have hn : (n == m) = decide (n = m) := rfl
  by_cases h1 : a = b
  · by_cases h2 : n = m
    · rw [decide_eq_true (by rw [h1, h2])] at h
      rw [decide_eq_true h1] at hs
      rw [decide_eq_true h2] at hn
      subst h
      go_simp
    · rw [decide_eq_false (fun x => h2 (Prod.mk.inj x).2)] at h
      rw [decide_eq_true h1] at hs
      rw [decide_eq_false h2] at hn
      subst h
      go_simp
  · rw [decide_eq_false (fun x => h1 (Prod.mk.inj x).1)] at h
    rw [decide_eq_false h1] at hs
    subst h
    go_simp
end Go.Proofs.YtadhiknmkiogjaaDoor
