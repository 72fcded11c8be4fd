/-
Digipeaters as plain facts: what can be decoded, whose turn it is, what is sent on.
The document's digipeater: Decodes, On, For.
The landed table: the first entry that is as is asked; to whom, by which number.
-/
import Derived.Test.YtgoaepjjegblnaaGreatDoorMix25
import Derived.Test.YtgoaepjjegblnaaGreatDoorMix03
import Derived.Test.YtgoaepjjegblnaaGreatDoorMix04
import Derived.Test.YtgoaepjjegblnaaGreatDoorMix21
import Derived.Test.YtgoaepjjegblnaaGreatDoorMix02
import Derived.Lib.SmallJoins
import Derived.Lib.ItoaNum
import Derived.BigRegion
import Derived.IntWalk
import Derived.Lib.QuietBelow
import Derived.BigQuiet
import Derived.Deep.QuietTactic
import Derived.Lib.IndexBytes
import Derived.Laws.RangeAny
import Derived.Test.YtgoaepjjegblnaaGreatDoorMix05
import Derived.Deep.DeepCutAuto
import Derived.Test.YtgoaepjjegblnaaGreatDoorMix15
namespace Go.Proofs.YtgoaepjjegblnaaGreatDoor
open Go.RowKit Go.Sort
set_option maxRecDepth 20000
abbrev Cl := ByteArray × Int
/-- can it be decoded, narrow or wide? -/
def decB (s : List UInt8) : Bool := decide (decE s false = 0) || decide (decE s true = 0)
theorem decE_get {s : List UInt8} {wide : Bool} (h : decE s wide = 0) : (getP 10 [] s).1 = 0 := by
  unfold decE at h
  by_cases hb : begE s wide = 0
  · unfold begE at hb
    by_cases hg : (getP 10 [] s).1 = 0
    · exact hg
    · rw [if_pos hg] at hb
      exact hb
  · rw [if_pos hb] at h
    exact absurd h hb
theorem decB_get {s : List UInt8} (h : decB s = true) : (getP 10 [] s).1 = 0 := by
  unfold decB at h
  rw [Bool.or_eq_true, decide_eq_true_eq, decide_eq_true_eq] at h
  exact h.elim decE_get decE_get
/-- the path with which bytes begin -/
abbrev pathL (s : List UInt8) : List Ent := (getP 10 [] s).2
/-- what seven bytes are read as has these bytes -/
theorem ent_back (s : List UInt8) (h : (getD7 s).1 = true) : rightD (entD s).1 (entD s).2.1 = true ∧ putD (entD s).1.data.toList (entD s).2.1.toNat (entD s).2.2 (getD7 s).2.2.2.2 = s := by
  unfold entD
  unfold getD7 at h ⊢
  split at h
  · rename_i hc
    rw [if_pos hc]
    refine ⟨hc.2.1, ?_⟩
    exact hc.2.2
  · cases h
theorem getP_back : ∀ (k : Nat) (acc : List Ent) (s : List UInt8), (getP k acc s).1 = 0 → acc.length + k = 10 →
    ∃ M, (getP k acc s).2 = acc ++ M ∧ 0 < M.length ∧ (∀ e ∈ M, rightD e.1 e.2.1 = true) ∧ s = restP (acc.length + M.length) acc.length M ++ s.drop (7 * M.length) ∧ ordD ((acc ++ M).drop 2) = true ∧ 2 ≤ (acc ++ M).length ∧ (acc ++ M).length ≤ 10
  | 0, acc, s, h, _ => by
    unfold getP at h
    split at h
    · cases h
    · split at h <;> cases h
  | k + 1, acc, s, h, hk => by
    by_cases h7 : s.length < 7
    · rw [getP_short _ _ _ h7] at h
      cases h
    · cases hg : (getD7 (s.take 7)).1 with
      | false =>
        rw [getP_bad _ _ _ (by omega) hg] at h
        cases h
      | true =>
        obtain ⟨e1, e2⟩ := ent_back _ hg
        have hs : s = s.take 7 ++ s.drop 7 := (List.take_append_drop 7 s).symm
        cases hl : (getD7 (s.take 7)).2.2.2.2 with
        | true =>
          have hu : getP (k + 1) acc s = if acc.length = 0 then (2, []) else if ordD ((acc ++ [entD (s.take 7)]).drop 2) then (0, acc ++ [entD (s.take 7)]) else (11, []) := by
            conv => lhs; unfold getP
            rw [if_neg h7, if_pos hg, if_pos hl]
          rw [hu] at h ⊢
          by_cases h0 : acc.length = 0
          · rw [if_pos h0] at h
            cases h
          · rw [if_neg h0] at h ⊢
            split at h
            · rename_i ho
              rw [if_pos ho]
              refine ⟨[entD (s.take 7)], rfl, Nat.one_pos, fun e he => by rw [List.mem_singleton.1 he]; exact e1, ?_, ho, by simp; omega, by simp; omega⟩
              rw [restP, restP, List.append_nil, List.length_singleton, decide_eq_true rfl, ← hl, e2]
              exact hs
            · cases h
        | false =>
          have hu : getP (k + 1) acc s = getP k (acc ++ [entD (s.take 7)]) (s.drop 7) := by
            conv => lhs; unfold getP
            rw [if_neg h7, if_pos hg, hl, if_neg Bool.false_ne_true]
          rw [hu] at h ⊢
          obtain ⟨M, m1, hM, m2, m3, m4, m5, m6⟩ := getP_back k (acc ++ [entD (s.take 7)]) (s.drop 7) h (by simp; omega)
          refine ⟨entD (s.take 7) :: M, by rw [m1, List.append_assoc]; rfl, by rw [List.length_cons]; omega, fun e he => ?_, ?_, by rw [List.append_assoc] at m4; exact m4, by rw [List.append_assoc] at m5; exact m5, by rw [List.append_assoc] at m6; exact m6⟩
          · rcases List.mem_cons.1 he with rfl | he
            · exact e1
            · exact m2 e he
          · rw [restP, decide_eq_false (by rw [List.length_cons]; omega), ← hl, e2, List.append_assoc]
            have a1 : (acc ++ [entD (s.take 7)]).length = acc.length + 1 := by simp
            rw [a1] at m3
            rw [show acc.length + (entD (s.take 7) :: M).length = acc.length + 1 + M.length from by rw [List.length_cons]; omega]
            have d1 : s.drop (7 * (entD (s.take 7) :: M).length) = (s.drop 7).drop (7 * M.length) := by
              rw [List.drop_drop, List.length_cons]
              congr 1
              omega
            rw [d1, ← m3]
            exact hs
/-- what is read has these bytes, and is right -/
theorem read_path (s : List UInt8) (h : (getP 10 [] s).1 = 0) : rightP (pathL s) = true ∧ s = bytesP (pathL s) (pathL s).length ++ s.drop (7 * (pathL s).length) := by
  obtain ⟨M, m1, -, m2, m3, m4, m5, m6⟩ := getP_back 10 [] s h rfl
  have e : pathL s = M := m1
  rw [e]
  rw [List.nil_append] at m4 m5 m6
  constructor
  · unfold rightP
    simp only [Bool.and_eq_true, decide_eq_true_eq]
    exact ⟨⟨⟨List.all_eq_true.2 m2, m5⟩, m6⟩, m4⟩
  · have k := bytes_rest M 0 (Nat.zero_le _)
    rw [show bytesP M 0 = [] from rfl, List.nil_append, List.drop_zero] at k
    rw [← k]
    rw [show ([] : List Ent).length = 0 from rfl, Nat.zero_add] at m3
    exact m3
/-- is it for a call, here and now? -/
def forD (c : Cl) (s : List UInt8) : Bool := decB s && (match (pathL s)[0]? with | some e => decide ((e.1, e.2.1) = c) | none => false) && decide ((pathL s)[2 + fstD ((pathL s).drop 2)]? = none)
end Go.Proofs.YtgoaepjjegblnaaGreatDoor
namespace Go.Proofs.YtgoaepjjegblnaaGreatDoor
open Go.RowKit Go.Sort
set_option maxRecDepth 20000
theorem run_eq_call18 (a b : ByteArray) (n m : Int) (w : World) (E : Bool) (h : E = decide ((a, n) = (b, m))) : (Op.equalIn 10000 54 (.agg #[.string a, .int .i64 n]) (.agg #[.string b, .int .i64 m])).run Tryz.prog w = .ok E w := by
  have hs : (a.toList == b.toList) = decide (a = b) := by
    rw [ByteArray.toList_eq, ByteArray.toList_eq, Bool.eq_iff_iff, beq_iff_eq, decide_eq_true_eq]
    exact ⟨fun e => bytes_ext' e, fun e => by rw [e]⟩
  have hn : (n == m) = decide (n = m) := rfl
  by_cases h1 : a = b
  · by_cases h2 : n = m
    · rw [decide_eq_true (by rw [h1, h2])] at h
      rw [decide_eq_true h1] at hs
      rw [decide_eq_true h2] at hn
      subst h
      go_simp
    · rw [decide_eq_false (fun x => h2 (Prod.mk.inj x).2)] at h
      rw [decide_eq_true h1] at hs
      rw [decide_eq_false h2] at hn
      subst h
      go_simp
  · rw [decide_eq_false (fun x => h1 (Prod.mk.inj x).1)] at h
    rw [decide_eq_false h1] at hs
    subst h
    go_simp
end Go.Proofs.YtgoaepjjegblnaaGreatDoor
namespace Go.Proofs.YtgoaepjjegblnaaGreatDoor
open Go.RowKit
set_option maxRecDepth 20000
/-- a function of entries, called by the number k with what it holds -/
def SaysEn (k : Nat) (cap : Array Value) (q : En → Bool) (L : List En) (w : World) : Prop :=
  (∀ args W, (callFunc k args).run Tryz.prog W = .ok (.enter k args) W) ∧
  ∀ x ∈ L, ∀ W : World, Below w.heap.size w W → Calls Tryz.prog k (#[ptr20 x.eb] ++ cap) W fun e W' => e = .returned (.bool (q x)) ∧ Below W.heap.size W W'
/-- the first of which it says so; -1: none -/
def firstEn (q : En → Bool) (L : List En) : Int := match L.findIdx? q with | some i => (i : Int) | none => -1
theorem firstEn_some (q : En → Bool) (L : List En) (i : Nat) (hi : i < L.length) (hq : q L[i] = true) (hb : ∀ k (hk : k < i), q (L[k]'(by omega)) = false) : firstEn q L = i ∧ L.find? q = some L[i] := by
  have h1 : L.findIdx? q = some i := by
    rw [List.findIdx?_eq_some_iff_getElem]
    exact ⟨hi, hq, fun j hj => by rw [hb j hj]; simp⟩
  refine ⟨by unfold firstEn; rw [h1], ?_⟩
  rw [List.find?_eq_some_iff_getElem]
  exact ⟨hq, i, hi, rfl, fun j hj => by rw [hb j hj]; rfl⟩
theorem firstEn_none (q : En → Bool) (L : List En) (hb : ∀ k (hk : k < L.length), q (L[k]) = false) : firstEn q L = -1 ∧ L.find? q = none := by
  have h0 : ∀ x ∈ L, q x = false := fun x hx => by
    obtain ⟨k, hk, rfl⟩ := List.mem_iff_getElem.1 hx
    exact hb k hk
  have h1 : L.findIdx? q = none := by
    rw [List.findIdx?_eq_none_iff]
    exact h0
  refine ⟨by unfold firstEn; rw [h1], ?_⟩
  rw [List.find?_eq_none]
  exact fun x hx => by rw [h0 x hx]; decide
/-- which it is, and that it is there -/
theorem firstEn_cases (q : En → Bool) (L : List En) : (firstEn q L = -1 ∧ L.find? q = none) ∨ ∃ i, ∃ hi : i < L.length, firstEn q L = i ∧ L.find? q = some L[i] := by
  cases hf : L.findIdx? q with
  | none =>
    rw [List.findIdx?_eq_none_iff] at hf
    exact Or.inl (firstEn_none q L fun k hk => by have := hf L[k] (List.getElem_mem hk); simpa using this)
  | some i =>
    rw [List.findIdx?_eq_some_iff_getElem] at hf
    obtain ⟨hi, hq, hb⟩ := hf
    exact Or.inr ⟨i, hi, firstEn_some q L i hi hq fun k hk => by have := hb k hk; simpa using this⟩
theorem en_at {w : World} {g o : Nat} {L : List En} (h : AtL encEn w (some ⟨g, o, none⟩) L) (i : Nat) (hi : i < L.length) : w.cell? ⟨g, o + i, none⟩ = some (ptr20 L[i].eb) := by
  have := h.get i hi 0 (u := ptr20 L[i].eb) rfl
  simpa [encEn] using this
set_option maxHeartbeats 1000000 in
theorem cindexEn (k : Nat) (cap : Array Value) (q : En → Bool) (ad : Option Addr) (n c : Nat) (L : List En) (w : World) (hn : L.length = n) (h : AtL encEn w ad L) (hl : n ≤ 16) (hs : SaysEn k cap q L w) :
    Calls Tryz.prog 194 #[.slice ad n c, .func (.func k) #[] cap] w fun e w' => e = .returned (.int .i64 (firstEn q L)) ∧ Below w.heap.size w w' := by
  have HN := Lib.hid hn
  have HA := Lib.hid h
  have hent := hs.1
  have HS := Lib.hid hs.2
  clear hn h hs
  go_enter Tryz.func194, Tryz.ntmps194
  go_wp2_with fail
  go_loopw [5, 8] (fun _ v wx => ∃ i : Nat, i ≤ n ∧ v = .int .i64 i ∧ Hid ((∀ k (hk : k < i) (hk' : k < L.length), q (L[k]) = false) ∧ Below w.heap.size w wx)) (fun _ v _ => n - (intOf v).toNat)
  case atStart => exact ⟨0, Nat.zero_le _, rfl, Lib.hid ⟨fun k hk => absurd hk (Nat.not_lt_zero _), Below.refl _ _⟩⟩
  case round =>
    obtain ⟨i, hi, rfl, HK⟩ := hrel
    by_cases hlt : i < n
    · have hL : i < L.length := by rw [HN.out]; exact hlt
      obtain ⟨g, o, rfl, -⟩ := HA.out.some_ (by omega)
      have x0 := en_at (HA.out.below HK.out.2) i hL
      have HC := Lib.hid (fun W h => HS.out L[i] (List.getElem_mem hL) W h)
      have HF := Lib.hid (fun hq => (firstEn_some q L i hL hq fun k hk => HK.out.1 k hk (by omega)).1)
      have HNX := Lib.hid (fun (hq : q L[i] = false) => show ∀ k (hk : k < i + 1) (hk' : k < L.length), q (L[k]) = false from fun k hk hk' => by
        by_cases e : k = i
        · subst e; exact hq
        · exact HK.out.1 k (by omega) hk')
      have HB := Lib.hid HK.out.2
      generalize L[i] = x at *
      cases hq : q x with
      | true =>
        rw [hq] at HC
        have HF1 := Lib.hid (HF.out hq)
        clear hq HF HNX
        go_wp2_with (go_at_fn k; (with_reducible refine (HC.out _ HB.out).mono ?_); rintro e w1 ⟨rfl, hb⟩; have HB2 := Lib.hid (HB.out.trans (hb.mono HB.out.size)); clear hb)
        rw [HF1.out]
        exact bodyPost_ret (v := .int .i64 i) (by simp [results, Tryz.results194, go_sem]) rfl ⟨rfl, HB2.out⟩
      | false =>
        rw [hq] at HC
        have HN1 := Lib.hid (HNX.out hq)
        clear hq HF HNX
        go_wp2_with (go_at_fn k; (with_reducible refine (HC.out _ HB.out).mono ?_); rintro e w1 ⟨rfl, hb⟩; have HB2 := Lib.hid (HB.out.trans (hb.mono HB.out.size)); clear hb)
        go_roundw
        case rel => exact ⟨i + 1, by omega, rfl, Lib.hid ⟨HN1.out, HB2.out⟩⟩
        case measure => simp [intOf]; omega
    · have e : i = n := by omega
      have HF1 := Lib.hid (firstEn_none q L fun k hk => HK.out.1 k (by have := HN.out; omega) hk).1
      clear e
      go_wp2_with fail
      rw [HF1.out]
      exact bodyPost_ret (v := .int .i64 (-1)) (by simp [results, Tryz.results194, go_sem]) rfl ⟨rfl, HK.out.2⟩
/-- an entry that was asked for, as a pointer -/
def enP (o : Option En) : Value := match o with | some e => ptr20 e.eb | none => .pointer none
set_option maxHeartbeats 1000000 in
theorem cfirst21 (k : Nat) (cap : Array Value) (q : En → Bool) (p : Nat) (tv : Value) (L : List En) (T : Tb) (w : World) (h : TbAt w p tv L T) (hl : L.length ≤ 16) (hs : SaysEn k cap q L w) :
    Calls Tryz.prog 153 #[ptr20 p, .func (.func k) #[] cap] w fun e w' => e = .returned (enP (L.find? q)) ∧ Below w.heap.size w w' := by
  obtain ⟨ad, c, hv, hA⟩ := h.ents.see
  have c8 := h.row.cell 8 rfl
  have HI := Lib.hid (cindexEn k cap q ad L.length c L w rfl hA hl hs)
  have HC8 := Lib.hid (fun W (hb : Below w.heap.size w W) => (h.below hb).row.cell 8 rfl)
  have HA := Lib.hid hA
  subst hv
  have hcs := firstEn_cases q L
  clear h hs
  obtain ⟨n, hn⟩ : ∃ n, n = L.length := ⟨_, rfl⟩
  rw [← hn] at c8 HI HC8
  rcases hcs with ⟨h1, h2⟩ | ⟨i, hi, h1, h2⟩
  · rw [h1] at HI
    rw [h2]
    clear h1 h2 hn hl hA
    go_enter Tryz.func153, Tryz.ntmps153
    go_wp2_with (go_at_call 194; (with_reducible refine HI.out.mono ?_); rintro e w1 ⟨rfl, hb⟩; have HB := Lib.hid hb; clear hb)
    exact bodyPost_ret (v := .pointer none) (by simp [results, Tryz.results153, go_sem]) rfl ⟨rfl, HB.out⟩
  · rw [h1] at HI
    rw [h2]
    obtain ⟨g, o, rfl, -⟩ := hA.some_ (by omega)
    have HX := Lib.hid (fun W (hb : Below w.heap.size w W) => en_at (hA.below hb) i hi)
    generalize L[i] = x at *
    have hin : i < n := by omega
    have d0 : decide ((0 : Int) ≤ (i : Int)) = true := decide_eq_true (by omega)
    clear h1 h2 hn hl hA HA hi
    go_enter Tryz.func153, Tryz.ntmps153
    go_wp2_with (go_at_call 194; (with_reducible refine HI.out.mono ?_); rintro e w1 ⟨rfl, hb⟩; have HB := Lib.hid hb; have x0 := HX.out _ hb; have y8 := HC8.out _ hb; clear hb c8)
    exact bodyPost_ret (v := ptr20 x.eb) (by simp [results, Tryz.results153, go_sem]) rfl ⟨rfl, HB.out⟩
theorem cto1_21 (b : Nat) (pb : ByteArray) (pn : Int) (x : En) (w : World) (hx : EnAt w x) (hr : RowAt w b [.string pb, .int .i64 pn]) :
    Calls Tryz.prog 193 #[ptr20 x.eb, ptr20 b] w fun e w' => e = .returned (.bool (decide ((x.pb, x.pn) = (pb, pn)))) ∧ Below w.heap.size w w' := by
  have c2 := hx.row.cell 2 rfl
  have c3 := hx.row.cell 3 rfl
  have b0 := hr.cell 0 rfl
  have b1 := hr.cell 1 rfl
  obtain ⟨r, hre⟩ : ∃ r, r = decide ((x.pb, x.pn) = (pb, pn)) := ⟨_, rfl⟩
  have heq := fun W => run_eq_call18 x.pb pb x.pn pn W r hre
  rw [← hre]
  clear hx hr hre
  go_enter Tryz.func193, Tryz.ntmps193
  go_upto_region 1 with fail
  go_quiet (fail)
  go_wp2_with fail
  exact bodyPost_ret (v := .bool r) (by simp [results, Tryz.results193, go_sem]) rfl ⟨rfl, below_drewX (Below.refl _ _) _⟩
theorem cnumbered1_21 (b : Nat) (id : Int) (x : En) (w : World) (hx : EnAt w x) (hr : RowAt w b [.int .i64 id]) :
    Calls Tryz.prog 154 #[ptr20 x.eb, ptr20 b] w fun e w' => e = .returned (.bool (x.id == id)) ∧ Below w.heap.size w w' := by
  have c1 := hx.row.cell 1 rfl
  have b0 := hr.cell 0 rfl
  clear hx hr
  go_enter Tryz.func154, Tryz.ntmps154
  go_upto_region 1 with fail
  go_quiet (fail)
  go_wp2_with fail
  exact bodyPost_ret (v := .bool (x.id == id)) (by simp [results, Tryz.results154, go_sem]) rfl ⟨rfl, below_drewX (Below.refl _ _) _⟩
def isTo (pb : ByteArray) (pn : Int) (x : En) : Bool := decide ((x.pb, x.pn) = (pb, pn))
def isNo (id : Int) (x : En) : Bool := x.id == id
theorem cto21 (w : World) (p : Nat) (tv : Value) (L : List En) (T : Tb) (pb : ByteArray) (pn : Int) (h : TbAt w p tv L T) (hl : L.length ≤ 16) :
    Calls Tryz.prog 145 #[ptr20 p, .agg #[.string pb, .int .i64 pn]] w fun e w' => e = .returned (enP (L.find? (isTo pb pn))) ∧ Below w.heap.size w w' := by
  have hb0 := (Below.refl w.heap.size w).alloc (Nat.le_refl _) (.cells #[.string pb, .int .i64 pn] 54)
  have hr0 := RowAt.new w w.heap.size rfl [.string pb, .int .i64 pn] 54
  have hT := h.below hb0
  have HF := Lib.hid (cfirst21 193 #[ptr20 w.heap.size] (isTo pb pn) p tv L T _ hT hl ⟨enters_of Tryz.func193 (by kernel_rfl) rfl, fun x hx W hb => cto1_21 w.heap.size pb pn x W ((hT.each x hx).stay (SameOn.of_below hb (hT.each x hx).mem)) (hr0.below hb)⟩)
  have HB := Lib.hid hb0
  clear hb0 hr0 hT h hl
  go_enter Tryz.func145, Tryz.ntmps145
  go_wp2_with (go_at_call 153; (with_reducible refine HF.out.mono ?_); rintro e w1 ⟨rfl, hb⟩; have HB1 := Lib.hid (HB.out.trans (hb.mono HB.out.size)); clear hb)
  exact bodyPost_ret (v := enP (L.find? (isTo pb pn))) (by simp [results, Tryz.results145, go_sem]) rfl ⟨rfl, HB1.out⟩
theorem cnumbered21 (w : World) (p : Nat) (tv : Value) (L : List En) (T : Tb) (id : Int) (h : TbAt w p tv L T) (hl : L.length ≤ 16) :
    Calls Tryz.prog 96 #[ptr20 p, .int .i64 id] w fun e w' => e = .returned (enP (L.find? (isNo id))) ∧ Below w.heap.size w w' := by
  have hb0 := (Below.refl w.heap.size w).alloc (Nat.le_refl _) (.cells #[.int .i64 id] 3)
  have hr0 := RowAt.new w w.heap.size rfl [.int .i64 id] 3
  have hT := h.below hb0
  have HF := Lib.hid (cfirst21 154 #[ptr20 w.heap.size] (isNo id) p tv L T _ hT hl ⟨enters_of Tryz.func154 (by kernel_rfl) rfl, fun x hx W hb => cnumbered1_21 w.heap.size id x W ((hT.each x hx).stay (SameOn.of_below hb (hT.each x hx).mem)) (hr0.below hb)⟩)
  have HB := Lib.hid hb0
  clear hb0 hr0 hT h hl
  go_enter Tryz.func96, Tryz.ntmps96
  go_wp2_with (go_at_call 153; (with_reducible refine HF.out.mono ?_); rintro e w1 ⟨rfl, hb⟩; have HB1 := Lib.hid (HB.out.trans (hb.mono HB.out.size)); clear hb)
  exact bodyPost_ret (v := enP (L.find? (isNo id))) (by simp [results, Tryz.results96, go_sem]) rfl ⟨rfl, HB1.out⟩
end Go.Proofs.YtgoaepjjegblnaaGreatDoor
