/-
TxqOrder's state as plain facts: what has been put, by class, and how far each class has gone.
-/
import Derived.Test.YtliamhphpnifaaaTxqRefK
namespace Go.Proofs.Ytliamhphpnifaaa
open Go.RowKit
/-- S is in the queue; P c has been put in class c, A c of it has gone -/
structure OInv (Nm : Nat → ByteArray → Prop) (S : List Ent) (P : Nat → List ByteArray) (A : Nat → Nat) : Prop where
  nm : ∀ e ∈ S, ∃ c : Nat, c < 3 ∧ e.cls = (c : Int) ∧ Nm c e.fr
  le : ∀ c, c < 3 → A c ≤ (P c).length
  eq : ∀ c : Nat, c < 3 → (P c).drop (A c) = frs (ofC (c : Int) S)
def oneUp (A : Nat → Nat) (c : Nat) : Nat → Nat := fun k => if k = c then A k + 1 else A k
def onePut (P : Nat → List ByteArray) (c : Nat) (f : ByteArray) : Nat → List ByteArray := fun k => if k = c then P k ++ [f] else P k
theorem OInv.start (Nm : Nat → ByteArray → Prop) : OInv Nm [] (fun _ => []) (fun _ => 0) :=
  ⟨fun _ he => absurd he List.not_mem_nil, fun _ _ => Nat.zero_le _, fun _ _ => rfl⟩
/-- one goes -/
theorem OInv.go {Nm : Nat → ByteArray → Prop} {e : Ent} {r : List Ent} {P : Nat → List ByteArray} {A : Nat → Nat} (h : OInv Nm (e :: r) P A) (hb : byCls (e :: r)) :
    ∃ c : Nat, c < 3 ∧ e.cls = (c : Int) ∧ Nm c e.fr ∧ (∃ hlt : A c < (P c).length, (P c)[A c] = e.fr) ∧ OInv Nm r P (oneUp A c) ∧ ∀ k, k < c → oneUp A c k = (P k).length := by
  obtain ⟨c, hc, hcl, hn⟩ := h.nm e List.mem_cons_self
  have he := h.eq c hc
  have h1 : ofC (c : Int) (e :: r) = e :: ofC (c : Int) r := List.filter_cons_of_pos (by simpa using hcl)
  rw [h1] at he
  have hlt : A c < (P c).length := by
    rcases Nat.lt_or_ge (A c) (P c).length with q | q
    · exact q
    · rw [List.drop_eq_nil_of_le q] at he
      simp at he
  rw [List.drop_eq_getElem_cons hlt] at he
  simp only [List.map_cons, List.cons.injEq] at he
  refine ⟨c, hc, hcl, hn, ⟨hlt, he.1⟩, ⟨fun x hx => h.nm x (List.mem_cons_of_mem _ hx), fun k hk => ?_, fun k hk => ?_⟩, fun k hk => ?_⟩
  · unfold oneUp
    split
    · rename_i q
      subst q
      exact hlt
    · exact h.le k hk
  · unfold oneUp
    split
    · rename_i q
      subst q
      exact he.2
    · rename_i q
      rw [h.eq k hk]
      congr 1
      exact List.filter_cons_of_neg (by simp only [decide_eq_true_eq, hcl]; omega)
  · have hle := (List.pairwise_cons.1 hb).1
    have hnil : ofC (k : Int) (e :: r) = [] := by
      refine List.filter_eq_nil_iff.2 fun x hx => ?_
      simp only [decide_eq_true_eq]
      rcases List.mem_cons.1 hx with rfl | hx
      · omega
      · have := hle x hx
        omega
    have hk3 := h.eq k (by omega)
    rw [hnil] at hk3
    have h2 := h.le k (by omega)
    have h3 := List.drop_eq_nil_iff.1 (show (P k).drop (A k) = [] from hk3)
    unfold oneUp
    rw [if_neg (by omega)]
    omega
/-- one is put -/
theorem OInv.put {Nm : Nat → ByteArray → Prop} {S : List Ent} {P : Nat → List ByteArray} {A : Nat → Nat} (h : OInv Nm S P A) (c : Nat) (hc : c < 3) (k : Int) (f : ByteArray) (hf : Nm c f) (hz : putErr (c : Int) f.size S = 0) :
    OInv Nm (sortE (putE (c : Int) k f S)) (onePut P c f) A := by
  unfold putE
  rw [if_pos hz]
  refine ⟨fun e he => ?_, fun d hd => ?_, fun d hd => ?_⟩
  · have he2 : e ∈ S ++ [⟨(c : Int), k, f⟩] := by
      unfold sortE at he
      simp only [List.mem_append, List.mem_filter] at he
      rcases he with he | he | he <;> simpa using he.1
    rcases List.mem_append.1 he2 with q | q
    · exact h.nm e q
    · rw [List.mem_singleton.1 q]
      exact ⟨c, hc, rfl, hf⟩
  · have := h.le d hd
    unfold onePut
    split
    · rw [List.length_append]
      omega
    · exact this
  · rw [ofC_sort _ (by omega), ofC_append]
    have h1 := h.le d hd
    unfold onePut
    split
    · rename_i q
      subst q
      rw [List.drop_append_of_le_length h1, h.eq d hd]
      show _ = (ofC (d : Int) S ++ ofC (d : Int) _).map Ent.fr
      rw [List.map_append]
      congr 1
      simp [ofC]
    · rename_i q
      rw [h.eq d hd]
      show _ = (ofC (d : Int) S ++ ofC (d : Int) _).map Ent.fr
      rw [List.map_append]
      have hne : ¬ (c : Int) = (d : Int) := by omega
      simp [ofC, hne]
/-- one is not put -/
theorem put_not {c k : Int} {f : ByteArray} {S : List Ent} (hz : putErr c f.size S ≠ 0) : putE c k f S = S := by
  unfold putE
  rw [if_neg hz]
end Go.Proofs.Ytliamhphpnifaaa
