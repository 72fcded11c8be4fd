/-
Pieces as plain facts: what a message is cut into, what a gatherer makes of a piece; the pieces of a message are that message.
-/
import Derived.Test.YtchjljmcgjlkiaaBytes
namespace Go.Proofs.Ytchjljmcgjlkiaa
open Go.RowKit
/-- a piece -/
structure Pc where
  pid : Int
  info : ByteArray
/-- a gatherer's state -/
structure Gs where
  on : Bool
  pid : Int
  left : Int
  text : ByteArray
def zeroP : Pc := ⟨0, ⟨#[]⟩⟩
def zeroG : Gs := ⟨false, 0, 0, ⟨#[]⟩⟩
/-- a piece that goes on: so many follow, and its bytes -/
def goOn (s : Gs) (k : Int) (t : List UInt8) : Gs × Pc × Bool × Int :=
  if !s.on || k + 1 != s.left then (zeroG, zeroP, false, 7)
  else if 600 < (s.text.size : Int) + t.length then (zeroG, zeroP, false, 5)
  else if 0 < k then ({ s with text := s.text ++ ⟨t.toArray⟩, left := k }, zeroP, false, 0)
  else (zeroG, ⟨s.pid, s.text ++ ⟨t.toArray⟩⟩, true, 0)
/-- what a gatherer makes of a piece: its state, the message, whether it is whole, the error -/
def takeD (s : Gs) (p : Pc) : Gs × Pc × Bool × Int :=
  if p.pid < 0 ∨ 255 < p.pid then (s, zeroP, false, 1)
  else if p.pid ≠ 8 then (if 600 < p.info.size then (zeroG, zeroP, false, 5) else (s, p, true, 0))
  else match p.info.data.toList with
    | [] => (zeroG, zeroP, false, 4)
    | x :: l =>
      if 128 ≤ int8 x then
        match l with
        | [] => (zeroG, zeroP, false, 4)
        | y :: t => goOn ⟨true, int8 y, int8 x - 128 + 1, ⟨#[]⟩⟩ (int8 x - 128) t
      else goOn s (int8 x) l
/-- cut into pieces of m bytes -/
def chunkF : Nat → Nat → List UInt8 → List (List UInt8)
  | 0, _, _ => []
  | f + 1, m, l => if l = [] then [] else l.take m :: chunkF f m (l.drop m)
def chunk (m : Nat) (l : List UInt8) : List (List UInt8) := chunkF l.length m l
/-- with their first bytes -/
def heads : Bool → List (List UInt8) → List Pc
  | _, [] => []
  | f, c :: cs => ⟨8, ⟨(byteI (cs.length + if f then 128 else 0) :: c).toArray⟩⟩ :: heads false cs
/-- a message's pieces; the error -/
def splitD (pid : Int) (text : ByteArray) (n1 : Int) : List Pc × Int :=
  if pid < 0 ∨ 255 < pid ∨ n1 < 16 ∨ 256 < n1 then ([], 1)
  else if 600 < text.size then ([], 5)
  else if (text.size : Int) ≤ n1 ∧ pid ≠ 8 then ([⟨pid, text⟩], 0)
  else (heads true (chunk (n1.toNat - 1) (byteI pid :: text.data.toList)), 0)
theorem chunkF_some (m : Nat) (hm : 0 < m) : ∀ f f' l, l.length ≤ f → l.length ≤ f' → chunkF f m l = chunkF f' m l
  | 0, f', l, h, _ => by
    obtain rfl : l = [] := List.length_eq_zero_iff.1 (by omega)
    cases f' <;> simp [chunkF]
  | f + 1, 0, l, _, h => by
    obtain rfl : l = [] := List.length_eq_zero_iff.1 (by omega)
    simp [chunkF]
  | f + 1, f' + 1, l, h, h' => by
    unfold chunkF
    split
    · rfl
    · rename_i hl
      have h1 : 0 < l.length := List.length_pos_iff.2 hl
      rw [chunkF_some m hm f f' (l.drop m) (by simp; omega) (by simp; omega)]
theorem chunk_nil (m : Nat) : chunk m [] = [] := rfl
theorem chunk_cons (m : Nat) (hm : 0 < m) (l : List UInt8) (h : l ≠ []) : chunk m l = l.take m :: chunk m (l.drop m) := by
  have h1 : 0 < l.length := List.length_pos_iff.2 h
  obtain ⟨n, hn⟩ : ∃ n, l.length = n + 1 := ⟨l.length - 1, by omega⟩
  unfold chunk
  rw [hn]
  show (if l = [] then [] else l.take m :: chunkF n m (l.drop m)) = _
  rw [if_neg h, chunkF_some m hm n (l.drop m).length _ (by simp; omega) (Nat.le_refl _)]
theorem chunk_join (m : Nat) (hm : 0 < m) : ∀ n l, l.length ≤ n → (chunk m l).flatten = l
  | 0, l, h => by
    obtain rfl : l = [] := List.length_eq_zero_iff.1 (by omega)
    rfl
  | n + 1, l, h => by
    by_cases hl : l = []
    · subst hl; rfl
    · have h1 : 0 < l.length := List.length_pos_iff.2 hl
      rw [chunk_cons m hm l hl, List.flatten_cons, chunk_join m hm n _ (by simp; omega), List.take_append_drop]
theorem chunk_small (m : Nat) (hm : 0 < m) : ∀ n l, l.length ≤ n → ∀ c ∈ chunk m l, c.length ≤ m ∧ c ≠ []
  | 0, l, h, c, hc => by
    obtain rfl : l = [] := List.length_eq_zero_iff.1 (by omega)
    simp [chunk, chunkF] at hc
  | n + 1, l, h, c, hc => by
    by_cases hl : l = []
    · subst hl; simp [chunk, chunkF] at hc
    · have h1 : 0 < l.length := List.length_pos_iff.2 hl
      rw [chunk_cons m hm l hl] at hc
      rcases List.mem_cons.1 hc with rfl | hc
      · refine ⟨by simp; omega, fun he => ?_⟩
        have := congrArg List.length he
        rw [List.length_take, List.length_nil] at this
        omega
      · exact chunk_small m hm n _ (by simp; omega) c hc
theorem chunk_count (m : Nat) (hm : 15 ≤ m) : ∀ n l, l.length ≤ n → 15 * (chunk m l).length ≤ l.length + 14
  | 0, l, h => by
    obtain rfl : l = [] := List.length_eq_zero_iff.1 (by omega)
    simp [chunk, chunkF]
  | n + 1, l, h => by
    by_cases hl : l = []
    · subst hl; simp [chunk, chunkF]
    · have h1 : 0 < l.length := List.length_pos_iff.2 hl
      rw [chunk_cons m (by omega) l hl, List.length_cons]
      have := chunk_count m hm n (l.drop m) (by simp; omega)
      by_cases h2 : l.length ≤ m
      · have : l.drop m = [] := by simp; omega
        rw [this, chunk_nil]
        simp
        omega
      · rw [List.length_drop] at this
        omega
theorem heads_length : ∀ f cs, (heads f cs).length = cs.length
  | _, [] => rfl
  | f, c :: cs => by simp [heads, heads_length false cs]
theorem heads_small (m : Nat) : ∀ f (cs : List (List UInt8)), (∀ c ∈ cs, c.length ≤ m) → ∀ p ∈ heads f cs, p.info.size ≤ m + 1
  | _, [], _, p, h => by simp [heads] at h
  | f, c :: cs, hc, p, h => by
    rcases List.mem_cons.1 h with rfl | h
    · show (List.toArray _).size ≤ m + 1
      have := hc c List.mem_cons_self
      simp
      exact this
    · exact heads_small m false cs (fun c hm => hc c (List.mem_cons_of_mem _ hm)) p h
/-- none is longer than n1 -/
theorem split_small (pid : Int) (text : ByteArray) (n1 : Int) : ∀ p ∈ (splitD pid text n1).1, (p.info.size : Int) ≤ n1 := by
  intro p hp
  unfold splitD at hp
  split at hp
  · cases hp
  · split at hp
    · cases hp
    · split at hp
      · rename_i h1 h2 h3
        rcases List.mem_cons.1 hp with rfl | hp
        · exact h3.1
        · cases hp
      · rename_i h1 h2 h3
        have h4 : 16 ≤ n1 := by omega
        have := heads_small (n1.toNat - 1) true _ (fun c hc => (chunk_small (n1.toNat - 1) (by omega) _ _ (Nat.le_refl _) c hc).1) p hp
        omega
/-- a state in the midst of a message -/
def midG (pid : Int) (n : Nat) (t : List UInt8) : Gs := ⟨true, pid, n, ⟨t.toArray⟩⟩
theorem app_list (a b : List UInt8) : (⟨a.toArray⟩ : ByteArray) ++ ⟨b.toArray⟩ = ⟨(a ++ b).toArray⟩ := bytes_ext' (by simp)
/-- a piece that is not the first one, taken in the midst -/
theorem take_next (pid : Int) (t c : List UInt8) (n : Nat) (hn : n ≤ 100) (h : t.length + c.length ≤ 600) :
    takeD (midG pid (n + 1) t) ⟨8, ⟨(byteI (n : Int) :: c).toArray⟩⟩ = if n = 0 then (zeroG, ⟨pid, ⟨(t ++ c).toArray⟩⟩, true, 0) else (midG pid n (t ++ c), zeroP, false, 0) := by
  have e : int8 (byteI (n : Int)) = n := int8_byteI _ (by omega) (by omega)
  have hz : ((⟨t.toArray⟩ : ByteArray).size : Int) = t.length := by
    show ((t.toArray.size : Nat) : Int) = _
    simp
  unfold takeD
  rw [if_neg (show ¬ ((8 : Int) < 0 ∨ 255 < (8 : Int)) by decide), if_neg (show ¬ ((8 : Int) ≠ 8) by decide)]
  simp only [e]
  rw [if_neg (by omega)]
  unfold goOn midG
  simp only [hz]
  rw [if_neg (by simp), if_neg (by omega)]
  by_cases h0 : n = 0
  · subst h0
    rw [if_neg (by omega), if_pos rfl, app_list]
  · rw [if_pos (by omega), if_neg h0, app_list]
/-- a piece of another place, taken in the midst: it is dropped, and what had begun -/
theorem take_off (s : Gs) (c : List UInt8) (n : Nat) (hn : n ≤ 100) (h : s.on = false ∨ s.left ≠ (n : Int) + 1) : takeD s ⟨8, ⟨(byteI (n : Int) :: c).toArray⟩⟩ = (zeroG, zeroP, false, 7) := by
  have e : int8 (byteI (n : Int)) = n := int8_byteI _ (by omega) (by omega)
  unfold takeD
  rw [if_neg (show ¬ ((8 : Int) < 0 ∨ 255 < (8 : Int)) by decide), if_neg (show ¬ ((8 : Int) ≠ 8) by decide)]
  simp only [e]
  rw [if_neg (by omega)]
  unfold goOn
  rw [if_pos]
  rcases h with h | h
  · simp [h]
  · simp
    exact Or.inr (fun e => h e.symm)
/-- the first one of several, whatever had begun -/
theorem take_first (s : Gs) (pid : Int) (c : List UInt8) (n : Nat) (hp0 : 0 ≤ pid) (hp1 : pid ≤ 255) (hn : n ≤ 100) (h : c.length ≤ 600) :
    takeD s ⟨8, ⟨(byteI ((n : Int) + 128) :: byteI pid :: c).toArray⟩⟩ = if n = 0 then (zeroG, ⟨pid, ⟨c.toArray⟩⟩, true, 0) else (midG pid n c, zeroP, false, 0) := by
  have e : int8 (byteI ((n : Int) + 128)) = n + 128 := int8_byteI _ (by omega) (by omega)
  have e2 : int8 (byteI pid) = pid := int8_byteI _ hp0 hp1
  unfold takeD
  rw [if_neg (show ¬ ((8 : Int) < 0 ∨ 255 < (8 : Int)) by decide), if_neg (show ¬ ((8 : Int) ≠ 8) by decide)]
  simp only [e, e2]
  rw [if_pos (by omega)]
  have e3 : (n : Int) + 128 - 128 = n := by omega
  rw [e3]
  unfold goOn
  rw [if_neg (by simp), if_neg (show ¬ 600 < (((⟨#[]⟩ : ByteArray).size : Nat) : Int) + c.length by show ¬ 600 < ((0 : Nat) : Int) + c.length; omega)]
  have e4 : (⟨#[]⟩ : ByteArray) ++ ⟨c.toArray⟩ = ⟨c.toArray⟩ := bytes_ext' (by simp)
  rw [e4]
  by_cases h0 : n = 0
  · subst h0
    rfl
  · rw [if_pos (by omega), if_neg h0]
    rfl
end Go.Proofs.Ytchjljmcgjlkiaa
