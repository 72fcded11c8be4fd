/-
Plain: the word of a right call is read as it; its bytes are got as it.
-/
import Derived.Test.YtfmcngchcalcmaaDoorCallKit
namespace Go.Proofs.YtfmcngchcalcmaaDoor
open Go.RowKit Go.Sort
theorem sign_facts (x : UInt8) (h : signD x = true) : upD x = x ∧ x ≠ 45 ∧ x.toNat ≠ 32 ∧ x.toNat < 128 := by
  simp only [signD, Bool.or_eq_true, Bool.and_eq_true, decide_eq_true_eq] at h
  refine ⟨?_, ?_, by omega, by omega⟩
  · unfold upD
    rw [if_neg (by omega)]
  · intro e
    rw [e] at h
    exact absurd h (by decide)
theorem right_facts (b : ByteArray) (n : Int) (h : rightD b n = true) : 1 ≤ b.size ∧ b.size ≤ 6 ∧ 0 ≤ n ∧ n ≤ 15 ∧ ∀ x ∈ b.data.toList, signD x = true := by
  simp only [rightD, Bool.and_eq_true, decide_eq_true_eq] at h
  obtain ⟨⟨⟨⟨h1, h2⟩, h3⟩, h4⟩, h5⟩ := h
  exact ⟨h1, h2, h3, h4, List.all_eq_true.1 h5⟩
theorem map_up (l : List UInt8) (h : ∀ x ∈ l, signD x = true) : l.map upD = l := by
  rw [List.map_congr_left (g := id) (fun x hx => (sign_facts x (h x hx)).1), List.map_id]
theorem fnd_dig (n : Nat) (h : n ≤ 15) : fndD (digD n) 16 = (true, n) := by
  obtain rfl | rfl | rfl | rfl | rfl | rfl | rfl | rfl | rfl | rfl | rfl | rfl | rfl | rfl | rfl | rfl : n = 0 ∨ n = 1 ∨ n = 2 ∨ n = 3 ∨ n = 4 ∨ n = 5 ∨ n = 6 ∨ n = 7 ∨ n = 8 ∨ n = 9 ∨ n = 10 ∨ n = 11 ∨ n = 12 ∨ n = 13 ∨ n = 14 ∨ n = 15 := by omega
  all_goals decide +kernel
theorem back_bytes (b : ByteArray) : (⟨b.data.toList.toArray⟩ : ByteArray) = b := bytes_ext' (by simp)
theorem read_text (b : ByteArray) (n : Int) (h : rightD b n = true) : readD (textD b.data.toList n) = (true, b.data.toList, n.toNat) := by
  obtain ⟨h1, h2, h3, h4, h5⟩ := right_facts b n h
  have h45 : ∀ x ∈ b.data.toList, x ≠ 45 := fun x hx => (sign_facts x (h5 x hx)).2.1
  unfold textD
  by_cases h0 : n = 0
  · subst h0
    rw [if_pos rfl, read_end _ h45, map_up _ h5, back_bytes, h]
    rfl
  · rw [if_neg h0, read_dash _ _ h45, map_up _ h5, back_bytes, fnd_dig n.toNat (by omega)]
    show (if (true && rightD b (n.toNat : Int)) = true then _ else _) = _
    rw [show ((n.toNat : Nat) : Int) = n by omega, h]
    rfl
theorem put_take (l : List UInt8) (n : Nat) (mk la : Bool) (h : l.length ≤ 6) : (putD l n mk la).take 6 = l.map (fun x => UInt8.ofNat (2 * x.toNat)) ++ List.replicate (6 - l.length) 64 := by
  apply List.ext_getElem?
  intro j
  by_cases hj : j < 6
  · have e : (putD l n mk la)[j]? = some (UInt8.ofNat (if j = 6 then 96 + 2 * (n : Int) + mkD mk la else putF l n l.length j).toNat) := by
      unfold putD
      rw [List.getElem?_map, List.getElem?_range (by omega)]
      rfl
    rw [List.getElem?_take_of_lt hj, e, if_neg (by omega)]
    unfold putF
    rw [if_neg (by omega)]
    by_cases hl : j < l.length
    · rw [if_pos hl, List.getElem?_append_left (by simpa using hl), List.getElem?_map, List.getElem?_eq_getElem hl, List.getD_eq_getElem?_getD, List.getElem?_eq_getElem hl]
      simp only [Option.map_some, Option.getD_some, Option.some.injEq]
      congr 1
    · rw [if_neg hl, List.getElem?_append_right (by simp; omega), List.getElem?_replicate]
      rw [if_pos (by simp; omega)]
      rfl
  · rw [List.getElem?_eq_none (by simp [putD]; omega), List.getElem?_eq_none (by simp; omega)]
theorem got_put (l : List UInt8) (n : Nat) (mk la : Bool) (h : l.length ≤ 6) (hs : ∀ x ∈ l, signD x = true) : gotD (putD l n mk la) 6 = l := by
  unfold gotD
  rw [put_take l n mk la h, List.filter_append, List.map_append]
  have e1 : (List.replicate (6 - l.length) (64 : UInt8)).filter (· ≠ 64) = [] := by
    rw [List.filter_eq_nil_iff]
    intro x hx
    rw [(List.mem_replicate.1 hx).2]
    simp
  have hx2 : ∀ x ∈ l, (UInt8.ofNat (2 * x.toNat)).toNat = 2 * x.toNat := fun x hx => by
    have := (sign_facts x (hs x hx)).2.2.2
    rw [UInt8.toNat_ofNat', Nat.mod_eq_of_lt (by omega)]
  have e2 : (l.map (fun x => UInt8.ofNat (2 * x.toNat))).filter (· ≠ 64) = l.map (fun x => UInt8.ofNat (2 * x.toNat)) := by
    rw [List.filter_eq_self]
    intro y hy
    obtain ⟨x, hx, rfl⟩ := List.mem_map.1 hy
    have h32 := (sign_facts x (hs x hx)).2.2.1
    rw [decide_eq_true_eq]
    intro e
    have := congrArg UInt8.toNat e
    rw [hx2 x hx] at this
    have h64 : (64 : UInt8).toNat = 64 := rfl
    omega
  rw [e1, e2, List.map_nil, List.append_nil, List.map_map]
  rw [List.map_congr_left (g := id), List.map_id]
  intro x hx
  apply UInt8.toNat_inj.1
  show (UInt8.ofNat (2 * x.toNat) / 2).toNat = x.toNat
  rw [UInt8.toNat_div, hx2 x hx]
  show 2 * x.toNat / 2 = x.toNat
  omega
theorem put_len (l : List UInt8) (n : Nat) (mk la : Bool) : (putD l n mk la).length = 7 := by simp [putD]
theorem put_six (l : List UInt8) (n : Nat) (mk la : Bool) (hn : n ≤ 15) : ((putD l n mk la).getD 6 0).toNat = (96 + 2 * n + (if mk then 128 else 0) + (if la then 1 else 0)) := by
  have e : (putD l n mk la)[6]? = some (UInt8.ofNat (96 + 2 * (n : Int) + mkD mk la).toNat) := by
    unfold putD
    rw [List.getElem?_map, List.getElem?_range (by omega)]
    rfl
  rw [List.getD_eq_getElem?_getD, e]
  simp only [Option.getD_some]
  rw [UInt8.toNat_ofNat']
  unfold mkD
  cases mk <;> cases la <;> simp <;> omega
theorem get_put (b : ByteArray) (n : Int) (mk la : Bool) (h : rightD b n = true) : getD7 (putD b.data.toList n.toNat mk la) = (true, b.data.toList, n.toNat, mk, la) := by
  obtain ⟨h1, h2, h3, h4, h5⟩ := right_facts b n h
  have hl : b.data.toList.length ≤ 6 := by simpa using h2
  have h6 := put_six b.data.toList n.toNat mk la (by omega)
  have hg := got_put b.data.toList n.toNat mk la hl h5
  have hnn : ((putD b.data.toList n.toNat mk la).getD 6 0).toNat / 2 % 16 = n.toNat := by rw [h6]; cases mk <;> cases la <;> simp <;> omega
  have hmk : decide ((128 : Int) ≤ (((putD b.data.toList n.toNat mk la).getD 6 0).toNat : Int)) = mk := by rw [h6]; cases mk <;> cases la <;> simp <;> omega
  have hla : ((((putD b.data.toList n.toNat mk la).getD 6 0).toNat : Int) % 2 == 1) = la := by rw [h6]; cases mk <;> cases la <;> simp <;> omega
  unfold getD7
  rw [hnn, hmk, hla, hg, if_pos]
  refine ⟨put_len _ _ _ _, ?_, rfl⟩
  rw [back_bytes, show ((n.toNat : Nat) : Int) = n by omega]
  exact h
end Go.Proofs.YtfmcngchcalcmaaDoor
