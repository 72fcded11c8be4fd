/-
The document's own Next and Sent of paths.
-/
import Derived.Test.YtplandmnmdkjmaaDoorPathBase
import Derived.Lib.SmallJoins
import Derived.Lib.ItoaNum
import Derived.BigRegion
import Derived.IntWalk
import Derived.Lib.QuietBelow
import Derived.BigQuiet
import Derived.Deep.QuietTactic
import Derived.Lib.IndexBytes
namespace Go.Proofs.YtplandmnmdkjmaaDoor
open Go.RowKit Go.Sort
set_option maxRecDepth 20000
/-- which entry is next: its number, or -1 -/
def nxtD (L : List Ent) : Int := if fstD (L.drop 2) < (L.drop 2).length then ((2 + fstD (L.drop 2) : Nat) : Int) else -1
set_option maxHeartbeats 1000000 in
theorem rnext_any (a : Option Addr) (cap : Nat) (L : List Ent) (w : World) (hL : L.length ≤ 1000) (h2 : 2 ≤ L.length) (hE : EntsAt w a cap L) :
    Calls Tryd.prog 20 #[.agg #[.slice a L.length cap]] w fun e w' => e = .returned (.int .i64 (nxtD L)) ∧ Below w.heap.size w w' := by
  have HB0 := Lib.hid ((Below.refl _ w).alloc (Nat.le_refl _) (.cells #[.slice a L.length cap] 35))
  have HE := Lib.hid (hE.below HB0.out)
  have HS := Lib.hid (show ∀ k (h : k < L.length), 2 ≤ k → (∀ j (hj : j < k), 2 ≤ j → ∀ hl : j < L.length, L[j].2.2 = true) → L[k].2.2 = false → nxtD L = k from fun k h hk ha h0 => by
    have hd : k - 2 < (L.drop 2).length := by rw [List.length_drop]; omega
    have e : fstD (L.drop 2) = k - 2 := fst_stop _ _ hd (fun j hj => by rw [List.getElem_drop]; exact ha (2 + j) (by omega) (by omega) (by omega)) (by
      rw [List.getElem_drop]
      have e : 2 + (k - 2) = k := by omega
      simp only [e]
      exact h0)
    unfold nxtD
    rw [e, if_pos hd, show 2 + (k - 2) = k from by omega])
  have HA := Lib.hid (show (∀ j (hj : j < L.length), 2 ≤ j → L[j].2.2 = true) → nxtD L = -1 from fun ha => by
    have e : fstD (L.drop 2) = (L.drop 2).length := fst_all _ (fun j hj => by rw [List.getElem_drop]; exact ha _ (by rw [List.length_drop] at hj; omega) (by omega))
    unfold nxtD
    rw [e, if_neg (Nat.lt_irrefl _)])
  obtain ⟨R, hR⟩ : ∃ R, R = nxtD L := ⟨_, rfl⟩
  rw [← hR] at HS HA ⊢
  clear hE hR
  go_enter Tryd.func20, Tryd.ntmps20
  go_wp2
  go_loopw [3] (fun i wx => ∃ k : Nat, 2 ≤ k ∧ k ≤ L.length ∧ i = .int .i64 k ∧ Hid (∀ j (hj : j < k), 2 ≤ j → ∀ hl : j < L.length, L[j].2.2 = true) ∧ wx = w.alloc (.cells #[.slice a L.length cap] 35)) (fun i _ => L.length - (intOf i).toNat)
  case atStart => exact ⟨2, by omega, h2, rfl, Lib.hid (fun j hj h2 => by omega), rfl⟩
  case round =>
    obtain ⟨k, hk2, hk, rfl, HQ, rfl⟩ := hrel
    by_cases hlt : k < L.length
    · have dk : decide ((k : Int) < (L.length : Int)) = true := decide_eq_true (by omega)
      obtain ⟨g, o, rfl, hg, c0, c1, c2⟩ := HE.out.at_ k hlt
      generalize hd : L[k] = d at *
      obtain ⟨db, dn, dm⟩ := d
      simp only at c0 c1 c2
      have HD := Lib.hid hd
      clear hd c0 c1
      cases dm
      · have hf := HS.out k hlt hk2 (fun j hj h2 hl => HQ.out j hj h2 hl) (by rw [HD.out])
        subst hf
        go_wp2
        go_ret
        exact ⟨rfl, HB0.out⟩
      · go_wp2
        go_roundw
        case rel =>
          refine ⟨k + 1, by omega, by omega, by go_num, Lib.hid (fun j hj h2 hl => ?_), by first | trivial | rfl⟩
          by_cases hjk : j = k
          · subst hjk; rw [HD.out]
          · exact HQ.out j (by omega) h2 hl
        case measure => simp [intOf]; omega
    · obtain rfl : k = L.length := by omega
      have dk : decide ((L.length : Int) < (L.length : Int)) = false := decide_eq_false (by omega)
      have hf := HA.out (fun j hj h2 => HQ.out j hj h2 hj)
      subst hf
      go_wp2
      go_ret
      exact ⟨rfl, HB0.out⟩
/-- entry number i has it -/
def markD (L : List Ent) (i : Nat) : List Ent := match L[i]? with | some e => L.set i (e.1, e.2.1, true) | none => L
/-- a path when the next one has sent it -/
def sentL (L : List Ent) : List Ent := markD L (2 + fstD (L.drop 2))
theorem entsV_set : ∀ (L : List Ent) (i : Nat) (e : Ent), i < L.length → entsV (L.set i (e.1, e.2.1, true)) = (((entsV L).set (i * 3) (.string e.1)).set (i * 3 + 1) (.int .i64 e.2.1)).set (i * 3 + 2) (.bool true)
  | [], i, e, h => by simp at h
  | x :: L, 0, e, _ => rfl
  | x :: L, i + 1, e, h => by
    have ih := entsV_set L i e (by simpa using h)
    show entV x ++ entsV (L.set i _) = _
    rw [ih, show (i + 1) * 3 = i * 3 + 3 from by omega]
    show _ = (((entV x ++ entsV L).set (i * 3 + 3) _).set (i * 3 + 3 + 1) _).set (i * 3 + 3 + 2) _
    have hl : (entV x).length = 3 := rfl
    rw [List.set_append_right _ _ (by omega), List.set_append_right _ _ (by omega), List.set_append_right _ _ (by omega), hl, show i * 3 + 3 - 3 = i * 3 from by omega, show i * 3 + 3 + 1 - 3 = i * 3 + 1 from by omega, show i * 3 + 3 + 2 - 3 = i * 3 + 2 from by omega]
theorem set_same {α : Type} (l : List α) (i : Nat) (u : α) (h : l[i]? = some u) : l.set i u = l := by
  apply List.ext_getElem?
  intro j
  by_cases hj : i = j
  · subst hj
    rw [h, List.getElem?_set_self (List.getElem?_eq_some_iff.1 h).1]
  · rw [List.getElem?_set_ne hj]
/-- a mark is stored into a slice of the call's own -/
theorem OwnE.mark {T : TypeId} {w : World} {B g n c : Nat} {L : List Ent} (h : OwnE T w B (.slice (some ⟨g, 0, none⟩) n c) L) (i : Nat) (hi : i < L.length) :
    OwnE T (w.setCell ⟨g, i * 3 + 2, none⟩ (.bool true)) B (.slice (some ⟨g, 0, none⟩) n c) (markD L i) ∧ w.grownBy (w.setCell ⟨g, i * 3 + 2, none⟩ (.bool true)) (some g) := by
  have hn : n = L.length := by
    obtain ⟨a', c', hv, _⟩ := h.ents
    simp only [Value.slice.injEq] at hv
    exact hv.2.1
  subst hn
  obtain ⟨h1, h2⟩ := World.ownsRow.stored h (i * 3 + 2) (.bool true)
  refine ⟨?_, h2⟩
  have he : markD L i = L.set i (L[i].1, L[i].2.1, true) := by
    unfold markD
    rw [List.getElem?_eq_getElem hi]
  unfold OwnE
  rw [he, entsV_set _ _ L[i] hi, List.length_set]
  obtain ⟨k0, k1, _⟩ := entsV_at L i hi
  rw [set_same _ _ _ k0, set_same _ _ _ k1]
  exact h1
theorem mark_len (L : List Ent) (i : Nat) : (markD L i).length = L.length := by
  unfold markD
  split <;> simp
theorem OwnE.some_ {T : TypeId} {w : World} {B : Nat} {v : Value} {L : List Ent} (h : OwnE T w B v L) (h0 : 0 < L.length) : ∃ g c, v = .slice (some ⟨g, 0, none⟩) L.length c ∧ B ≤ g ∧ g < w.heap.size ∧ OwnE T w B (.slice (some ⟨g, 0, none⟩) L.length c) L := by
  rcases h.2 with ⟨_, h1⟩ | ⟨g, c, cur, hv, hb, _⟩
  · omega
  · subst hv
    exact ⟨g, c, rfl, hb, (h.ge rfl).2, h⟩
theorem rsent_after {w w1 w2 : World} {L : List Ent} {v' : Value} (hL : 0 < L.length) (hB : Below w.heap.size w w1) (hR : KeepAt w1 (w.heap.size + 1) 0 (.slice none 0 0)) (ho : OwnE 90 w2 w1.heap.size v' ([] ++ L))
    (hg : (w1.alloc (.cells #[] 90)).grownBy w2 (some w1.heap.size)) :
    ∃ g c, v' = .slice (some ⟨g, 0, none⟩) L.length c ∧ w1.heap.size ≤ g ∧ OwnE 90 w2 w1.heap.size (.slice (some ⟨g, 0, none⟩) L.length c) L ∧ Below w.heap.size w w2 ∧ KeepAt w2 (w.heap.size + 1) 0 (.slice none 0 0) ∧ w.heap.size + 1 ≠ g := by
  rw [List.nil_append] at ho
  have hs := hB.size
  have hl := hR.lt
  rcases ho.2 with ⟨_, h0⟩ | ⟨g, c, cur, hv, hb, _⟩
  · omega
  · subst hv
    have h2 : KeepAt (w1.alloc (.cells #[] 90)) (w.heap.size + 1) 0 (.slice none 0 0) := hR.alloc _
    refine ⟨g, c, rfl, hb, ho, (hB.alloc hs _).grown hg (Nat.le_trans hs (by simp)) (fun k hk => ?_), h2.block (hg.block _ h2.lt (fun e => ?_)) hg.size, by omega⟩
    · have := Option.some.inj hk; omega
    · have := Option.some.inj e; omega
end Go.Proofs.YtplandmnmdkjmaaDoor
