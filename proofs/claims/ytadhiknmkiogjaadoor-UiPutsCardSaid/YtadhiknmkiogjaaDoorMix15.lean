/-
The document's own Text of numbers; the document's example.
The document's own Get of controls, narrow.
Walks of the statements CtlUnlike and CtlModes.
The document's own Get of controls: what is tried hits just if its text stands ahead.
-/
import Derived.Test.YtadhiknmkiogjaaDoorMix12
import Derived.Test.YtadhiknmkiogjaaDoorCtlRefPut
import Derived.Test.YtadhiknmkiogjaaDoorCtlRGetP
import Derived.IntWalk
import Derived.Test.YtadhiknmkiogjaaDoorProg
import Derived.BigRegion
import Derived.WalkKit
import Derived.WalkSpells
import Derived.WalkLawsBesides
import Derived.Laws.BitsAllLaws
import Derived.Laws.ShiftsVarLaws
import Derived.Lib.Hide
import Derived.BigQuiet
import Derived.Deep.QuietTactic
import Derived.Lib.LaidTab
namespace Go.Proofs.YtadhiknmkiogjaaDoor
open Go.RowKit
set_option maxRecDepth 20000
theorem take_next (L : List Nat) (k : Nat) (h : k < L.length) (b : ByteArray) (hb : b.data.toList = (L.take k).map UInt8.ofNat) : (b ++ (⟨#[UInt8.ofNat L[k]]⟩ : ByteArray)).data.toList = (L.take (k + 1)).map UInt8.ofNat := by
  rw [List.take_succ_eq_append_getElem h, List.map_append, ← hb]
  simp
set_option maxHeartbeats 1000000 in
theorem text6_any (g c : Nat) (L : List Nat) (w : World) (hL : ∀ x ∈ L, x < 256) (hl : L.length ≤ 1000) (hI : IntsAt w g L) :
    Calls Tryd.prog 40 #[.slice (some ⟨g, 0, none⟩) L.length c] w fun e w' => e = .returned (.string ⟨(L.map UInt8.ofNat).toArray⟩) ∧ Below w.heap.size w w' := by
  have HI := Lib.hid hI
  have HL := Lib.hid (show ∀ k (h : k < L.length), L[k] < 256 from fun k h => hL _ (List.getElem_mem h))
  have HN := Lib.hid (take_next L)
  have HE := Lib.hid (show ∀ b : ByteArray, b.data.toList = (L.take L.length).map UInt8.ofNat → b = ⟨(L.map UInt8.ofNat).toArray⟩ from fun b hb => by
    apply bytes_ext'
    rw [hb, List.take_length])
  have H0 := Lib.hid (show (⟨#[]⟩ : ByteArray).data.toList = (L.take 0).map UInt8.ofNat from rfl)
  generalize (⟨(L.map UInt8.ofNat).toArray⟩ : ByteArray) = R at *
  clear hL hI
  go_enter Tryd.func40, Tryd.ntmps40
  go_wp2
  go_loopw [3, 4] (fun s i wx => ∃ k : Nat, k ≤ L.length ∧ i = .int .i64 k ∧ ∃ b : ByteArray, s = .string b ∧ Hid (b.data.toList = (L.take k).map UInt8.ofNat) ∧ Hid (Below w.heap.size w wx)) (fun _ i _ => L.length - (intOf i).toNat)
  case atStart => exact ⟨0, by omega, rfl, _, rfl, H0, Lib.hid (Below.refl _ w)⟩
  case round =>
    obtain ⟨k, hk, rfl, b, rfl, HQ, HB⟩ := hrel
    clear H0
    by_cases hlt : k < L.length
    · have dk : decide ((k : Int) < (L.length : Int)) = true := decide_eq_true (by omega)
      have hb := HL.out k hlt
      have hc := (HI.out.below HB.out).2 k hlt
      have HM := Lib.hid (HN.out k hlt b HQ.out)
      have hbs : b.size ≤ 1000 := by
        have e := congrArg List.length HQ.out
        rw [List.length_map, List.length_take] at e
        have : b.size = b.data.toList.length := rfl
        omega
      generalize L[k] = x at *
      have hcv := OwnB.conv1 wr wr.heap.size (x : Int) x rfl hb rfl
      go_wp2
      go_roundw
      case rel => exact ⟨k + 1, by omega, by go_num, _, rfl, HM, Lib.hid (HB.out.alloc HB.out.size _)⟩
      case measure => simp [intOf]; omega
    · obtain rfl : k = L.length := by omega
      have dk : decide ((L.length : Int) < (L.length : Int)) = false := decide_eq_false (by omega)
      have hR := HE.out b HQ.out
      go_wp2
      go_ret
      exact ⟨by rw [hR]; rfl, HB.out⟩
/-- the example's bytes -/
theorem ex_put (w : World) (hC : CodesOk w) : Calls Tryd.prog 33 #[.agg #[.int .i64 1, .int .i64 3, .int .i64 5, .bool true], .bool false] w fun e w' => e = .returned (.tuple #[.string ⟨#[122]⟩, .int .i64 0]) ∧ Below w.heap.size w w' := by
  have k := ctlput_any 1 3 5 true false w hC
  rw [show cputE 1 3 5 true false = .tuple #[.string ⟨#[122]⟩, .int .i64 0] from by
    unfold cputE
    rw [if_pos (by decide), show (putB (Int.toNat 1) (Int.toNat 3) (Int.toNat 5) true false) = [122] from by decide +kernel]] at k
  exact k
theorem ex_putw (w : World) (hC : CodesOk w) : Calls Tryd.prog 33 #[.agg #[.int .i64 1, .int .i64 3, .int .i64 5, .bool true], .bool true] w fun e w' => e = .returned (.tuple #[.string ⟨#[10, 7]⟩, .int .i64 0]) ∧ Below w.heap.size w w' := by
  have k := ctlput_any 1 3 5 true true w hC
  rw [show cputE 1 3 5 true true = .tuple #[.string ⟨#[10, 7]⟩, .int .i64 0] from by
    unfold cputE
    rw [if_pos (by decide), show (putB (Int.toNat 1) (Int.toNat 3) (Int.toNat 5) true true) = [10, 7] from by decide +kernel]] at k
  exact k
end Go.Proofs.YtadhiknmkiogjaaDoor
namespace Go.Proofs.YtadhiknmkiogjaaDoor
open Go.RowKit
set_option maxRecDepth 20000
theorem seek_step (w : Bool) (b : Nat) (t : List UInt8) (k p : Nat) (h1 : 1 ≤ k) (h2 : k ≤ 14) (hp : p < 2) :
    seekD w b t (28 - (2 * (k - 1) + p)) (2 * (k - 1) + p) = if hitD k (p == 1) w b t then some (k, p == 1) else seekD w b t (28 - (2 * (k - 1) + p + 1)) (2 * (k - 1) + p + 1) := by
  obtain ⟨f, hf⟩ : ∃ f, 28 - (2 * (k - 1) + p) = f + 1 := ⟨27 - (2 * (k - 1) + p), by omega⟩
  rw [hf]
  conv => lhs; unfold seekD
  have e1 : (2 * (k - 1) + p) / 2 + 1 = k := by omega
  have e2 : (2 * (k - 1) + p) % 2 = p := by omega
  rw [e1, e2, show 28 - (2 * (k - 1) + p + 1) = f from by omega]
theorem doc_lt (k nr ns : Nat) (pf w : Bool) (hk : k < 15) (hr : if w then nr < 128 else nr < 8) (hs : if w then ns < 128 else ns < 8) : ∀ x ∈ docN k nr ns pf w, x < 256 := by
  have hc : codeN k + 16 < 256 := by
    have : ∀ k : Fin 15, codeN k.1 + 16 < 256 := by decide
    exact this ⟨k, hk⟩
  have hc5 : k ≤ 5 → codeN k < 16 := fun h => by
    have : ∀ k : Fin 6, codeN k.1 < 16 := by decide
    exact this ⟨k, by omega⟩
  intro x hx
  unfold docN at hx
  by_cases h : 5 < k
  · rw [if_pos h, List.mem_singleton] at hx
    rw [hx]; cases pf <;> simp <;> omega
  · rw [if_neg h] at hx
    have := hc5 (by omega)
    cases w
    · rw [if_neg (by decide), List.mem_singleton] at hx
      rw [if_neg (by decide)] at hr hs
      rw [hx]; cases pf <;> by_cases h1 : 1 < k <;> simp [h1] <;> omega
    · rw [if_pos rfl] at hx hr hs
      simp only [List.mem_cons, List.not_mem_nil, or_false] at hx
      rcases hx with rfl | rfl
      · by_cases h1 : 1 < k <;> simp [h1] <;> omega
      · cases pf <;> simp <;> omega
theorem doc_len (k nr ns : Nat) (pf w : Bool) : (docN k nr ns pf w).length = if w && decide (k ≤ 5) then 2 else 1 := by
  unfold docN
  by_cases h : 5 < k
  · rw [if_pos h, decide_eq_false (by omega), Bool.and_false]; rfl
  · rw [if_neg h, decide_eq_true (by omega), Bool.and_true]
    cases w <;> rfl
/-- the document's Put of what is tried, and its text, as one number of bytes n -/
theorem try_put (k b y : Nat) (pf w : Bool) (hk1 : 1 ≤ k) (hk : k ≤ 14) (hb : b < 256) (hy : y < 256) (W : World) :
    Calls Tryd.prog 41 #[.agg #[.int .i64 (k : Int), .int .i64 ((tryNr k b y w : Nat) : Int), .int .i64 ((tryNs k b w : Nat) : Int), .bool pf], .bool w] W fun e w' => Put6To W (docN k (tryNr k b y w) (tryNs k b w) pf w) e w' := by
  by_cases h5 : 5 < k
  · have e1 : tryNr k b y w = 0 := by unfold tryNr; rw [if_neg (by omega)]
    have e2 : tryNs k b w = 0 := by unfold tryNs; rw [if_neg (by omega)]
    rw [e1, e2]
    exact rput6_high k pf w W h5 (by omega)
  · have l1 : tryNr k b y w < 128 := by unfold tryNr; cases w <;> simp <;> split <;> omega
    by_cases h1 : k = 1
    · subst h1
      have l2 : tryNs 1 b w < 128 := by unfold tryNs; cases w <;> simp <;> omega
      exact rput6_i _ _ pf w W l1 l2
    · have e2 : tryNs k b w = 0 := by unfold tryNs; rw [if_neg h1]
      rw [e2]
      exact rput6_sup k _ pf w W (by omega) (by omega) l1
theorem try_lt (k b y : Nat) (pf w : Bool) (hk1 : 1 ≤ k) (hk : k ≤ 14) (hb : b < 256) (hy : y < 256) : ∀ x ∈ docN k (tryNr k b y w) (tryNs k b w) pf w, x < 256 := by
  refine doc_lt k _ _ pf w (by omega) ?_ ?_
  · unfold tryNr; cases w <;> simp <;> split <;> omega
  · unfold tryNs; cases w <;> simp <;> split <;> omega
end Go.Proofs.YtadhiknmkiogjaaDoor
namespace Go.Proofs.YtadhiknmkiogjaaDoor
open Go.RowKit
set_option maxRecDepth 20000
/-- == on controls -/
theorem run_eq_ctl (k nr ns k' nr' ns' : Int) (pf pf' : Bool) (w : World) (E : Bool) (h : E = decide (k = k' ∧ nr = nr' ∧ ns = ns' ∧ pf = pf')) :
    (Op.equalIn 10000 63 (.agg #[.int .i64 k, .int .i64 nr, .int .i64 ns, .bool pf]) (.agg #[.int .i64 k', .int .i64 nr', .int .i64 ns', .bool pf'])).run Tryd.prog w = .ok E w := by
  have e1 : (k == k') = decide (k = k') := rfl
  have e2 : (nr == nr') = decide (nr = nr') := rfl
  have e3 : (ns == ns') = decide (ns = ns') := rfl
  have e4 : (pf == pf') = decide (pf = pf') := by cases pf <;> cases pf' <;> rfl
  by_cases h1 : k = k'
  · by_cases h2 : nr = nr'
    · by_cases h3 : ns = ns'
      · by_cases h4 : pf = pf'
        · rw [decide_eq_true ⟨h1, h2, h3, h4⟩] at h
          rw [decide_eq_true h1] at e1
          rw [decide_eq_true h2] at e2
          rw [decide_eq_true h3] at e3
          rw [decide_eq_true h4] at e4
          subst h
          go_simp
        · rw [decide_eq_false (fun x => h4 x.2.2.2)] at h
          rw [decide_eq_true h1] at e1
          rw [decide_eq_true h2] at e2
          rw [decide_eq_true h3] at e3
          rw [decide_eq_false h4] at e4
          subst h
          go_simp
      · rw [decide_eq_false (fun x => h3 x.2.2.1)] at h
        rw [decide_eq_true h1] at e1
        rw [decide_eq_true h2] at e2
        rw [decide_eq_false h3] at e3
        subst h
        go_simp
    · rw [decide_eq_false (fun x => h2 x.2.1)] at h
      rw [decide_eq_true h1] at e1
      rw [decide_eq_false h2] at e2
      subst h
      go_simp
  · rw [decide_eq_false (fun x => h1 x.1)] at h
    rw [decide_eq_false h1] at e1
    subst h
    go_simp
theorem seq_bytes (a b : List UInt8) (E : Bool) (h : E = decide (a = b)) : ((⟨a.toArray⟩ : ByteArray).toList == (⟨b.toArray⟩ : ByteArray).toList) = E := by
  subst h
  rw [ByteArray.toList_eq, ByteArray.toList_eq, Bool.eq_iff_iff, beq_iff_eq, decide_eq_true_eq]
end Go.Proofs.YtadhiknmkiogjaaDoor
namespace Go.Proofs.YtadhiknmkiogjaaDoor
open Go.RowKit
set_option maxRecDepth 20000
theorem map_num : ∀ (l : List Nat) (u : List UInt8), (∀ x ∈ l, x < 256) → (l.map UInt8.ofNat = u ↔ l = u.map UInt8.toNat)
  | [], [], _ => by simp
  | [], x :: u, _ => by simp
  | a :: l, [], _ => by simp
  | a :: l, x :: u, h => by
    have ih := map_num l u (fun z hz => h z (List.mem_cons_of_mem _ hz))
    have ha := h a List.mem_cons_self
    simp only [List.map_cons, List.cons.injEq, ih]
    apply and_congr_left
    intro _
    constructor
    · intro e; rw [← e]; simp; omega
    · intro e; rw [e]; simp
/-- the second byte, if there is one -/
def sndN : List UInt8 → Nat
  | [] => 0
  | y :: _ => y.toNat
/-- the bytes that are tried: those of kind k, mark p -/
def tryL (k : Nat) (p w : Bool) (b : UInt8) (t : List UInt8) : List Nat := docN k (tryNr k b.toNat (sndN t) w) (tryNs k b.toNat w) p w
theorem hit_doc (k : Nat) (p w : Bool) (b : UInt8) (t : List UInt8) (hk : 1 ≤ k) (hk' : k ≤ 14) (hw : (w && decide (k ≤ 5)) = true → t ≠ []) :
    hitD k p w b.toNat t = decide ((tryL k p w b t).map UInt8.ofNat = (b :: t).take (tryL k p w b t).length) ∧ (tryL k p w b t).length ≤ (b :: t).length ∧ (∀ x ∈ tryL k p w b t, x < 256) := by
  have hb := b.toNat_lt
  have hl : (tryL k p w b t).length = if w && decide (k ≤ 5) then 2 else 1 := doc_len k _ _ p w
  have hx : ∀ x ∈ tryL k p w b t, x < 256 := try_lt k b.toNat _ p w hk hk' hb (by cases t with | nil => decide | cons y t => exact y.toNat_lt)
  refine ⟨?_, ?_, hx⟩
  · rw [show decide ((tryL k p w b t).map UInt8.ofNat = (b :: t).take (tryL k p w b t).length) = decide (tryL k p w b t = ((b :: t).take (tryL k p w b t).length).map UInt8.toNat) from decide_eq_decide.2 (map_num _ _ hx)]
    cases t with
    | nil =>
      have h0 : (w && decide (k ≤ 5)) = false := by
        cases h : (w && decide (k ≤ 5))
        · rfl
        · exact absurd rfl (hw h)
      rw [h0] at hl
      unfold hitD
      rw [h0]
      show decide (tryL k p w b [] = [b.toNat]) = _
      apply decide_eq_decide.2
      rw [hl]
      rfl
    | cons y t =>
      unfold hitD
      show decide (tryL k p w b (y :: t) = [b.toNat] ∨ tryL k p w b (y :: t) = [b.toNat, y.toNat]) = _
      apply decide_eq_decide.2
      generalize tryL k p w b (y :: t) = l at *
      cases h0 : (w && decide (k ≤ 5))
      · rw [h0] at hl
        obtain ⟨z, rfl⟩ := List.length_eq_one_iff.1 hl
        simp
      · rw [h0] at hl
        match l, hl with
        | [z, z'], _ => simp
  · rw [hl]
    cases h0 : (w && decide (k ≤ 5))
    · simp
    · have := hw h0
      cases t with
      | nil => exact absurd rfl this
      | cons y t => simp
theorem snd_lt (t : List UInt8) : sndN t < 256 := by
  cases t with
  | nil => decide
  | cons y t => exact y.toNat_lt
theorem get_seek (b : UInt8) (t : List UInt8) (w : Bool) (h : (w && b.toNat % 4 != 3 && t.isEmpty) = false) : refGet (b :: t) w = match seekD w b.toNat t 28 0 with
    | none => (0, 0, 0, false, 0, 2)
    | some (k, p) => (k, tryNr k b.toNat (sndN t) w, tryNs k b.toNat w, p, (if w && decide (k ≤ 5) then 2 else 1), 0) := by
  unfold refGet
  dsimp only
  rw [h]
  cases t <;> rfl
end Go.Proofs.YtadhiknmkiogjaaDoor
