/-
Plain: frames whose bytes are fed are told; the raw frames of a list, and those that are frames.
-/
import Derived.Test.YteglaenjmeocmaaKissEsc
import Derived.Test.YteglaenjmeocmaaKissEnd
namespace Go.Proofs.Yteglaenjmeocmaa
open Go.RowKit
/-- a frame's bytes, of its first byte and its data -/
def fb (f : Fr) : List UInt8 := 192 :: escs (f.1 :: f.2) ++ [192]
def fbs (F : List Fr) : List UInt8 := F.flatMap fb
theorem fb_len (f : Fr) : (fb f).length ≤ 2 * f.2.length + 4 := by
  have h := escs_len (f.1 :: f.2)
  simp only [fb, List.length_append, List.length_cons, List.length_nil] at h ⊢
  omega
theorem fed_ahead (most bad : Nat) (A : List UInt8) (h : ∀ c ∈ A, c ≠ 192) : fedD most (0, bad, []) A = ((0, bad, []), []) := by
  induction A with
  | nil => rfl
  | cons c A ih =>
    have hc := h c (by simp)
    simp [fedD, stepD, hc, ih (fun x hx => h x (by simp [hx]))]
theorem fed_esc (most bad : Nat) (H : List UInt8) (c : UInt8) (h : H.length < most) : fedD most (1, bad, H) (esc c) = ((1, bad, H ++ [c]), []) := by
  unfold esc
  have hne : H.length ≠ most := by omega
  split
  · rename_i hc; subst hc; simp [fedD, stepD, pushD, hne]
  · split
    · rename_i hc; subst hc; simp [fedD, stepD, pushD, hne]
    · rename_i h1 h2; simp [fedD, stepD, pushD, hne, h1, h2]
theorem fed_escs (most bad : Nat) (T H : List UInt8) (h : H.length + T.length ≤ most) : fedD most (1, bad, H) (escs T) = ((1, bad, H ++ T), []) := by
  induction T generalizing H with
  | nil => simp [escs, fedD]
  | cons c T ih =>
    have e : escs (c :: T) = esc c ++ escs T := by simp [escs]
    simp only [List.length_cons] at h
    rw [e, fedD_append, fed_esc most bad H c (by omega), ih (H ++ [c]) (by simp; omega)]
    simp
theorem fed_frame (most bad p : Nat) (f : Fr) (hp : p ≤ 1) (h : f.2.length + 1 ≤ most) : fedD most (p, bad, []) (fb f) = ((1, bad, []), [f]) := by
  have e0 : fedD most (p, bad, []) [192] = ((1, bad, []), []) := by
    rcases (show p = 0 ∨ p = 1 by omega) with rfl | rfl <;> rfl
  have e1 : fedD most (1, bad, f.1 :: f.2) [192] = ((1, bad, []), [f]) := by
    simp [fedD, stepD]
  have e2 : fb f = [192] ++ (escs (f.1 :: f.2) ++ [192]) := rfl
  rw [e2, fedD_append, e0, fedD_append, fed_escs most bad (f.1 :: f.2) [] (by simp; omega), List.nil_append, e1]
  simp
theorem fed_frames (most bad p : Nat) (F : List Fr) (hp : p ≤ 1) (h : ∀ f ∈ F, f.2.length + 1 ≤ most) : ∃ q, q ≤ 1 ∧ fedD most (p, bad, []) (fbs F) = ((q, bad, []), F) := by
  induction F generalizing p with
  | nil => exact ⟨p, hp, rfl⟩
  | cons f F ih =>
    obtain ⟨q, hq, e⟩ := ih 1 (by omega) (fun g hg => h g (by simp [hg]))
    refine ⟨q, hq, ?_⟩
    have e1 : fbs (f :: F) = fb f ++ fbs F := by simp [fbs]
    rw [e1, fedD_append, fed_frame most bad p f hp (h f (by simp)), e]
    simp
/-- frames are told, whatever stood ahead of them, if it was no FEND -/
theorem fed_through (most : Nat) (A : List UInt8) (F : List Fr) (hA : ∀ c ∈ A, c ≠ 192) (h : ∀ f ∈ F, f.2.length + 1 ≤ most) : ∃ q, q ≤ 1 ∧ fedD most (0, 0, []) (A ++ fbs F) = ((q, 0, []), F) := by
  obtain ⟨q, hq, e⟩ := fed_frames most 0 0 F (by omega) h
  refine ⟨q, hq, ?_⟩
  rw [fedD_append, fed_ahead most 0 A hA, e]
  simp
/-- a frame as it comes: any numbers -/
structure Raw where
  p : Int
  c : Int
  s : ByteArray
def Raw.ok (r : Raw) : Bool := decide (0 ≤ r.p) && decide (r.p ≤ 15) && decide (0 ≤ r.c) && decide (r.c ≤ 15)
def Raw.fr (r : Raw) : Fr := (UInt8.ofNat (16 * r.p.toNat + r.c.toNat), r.s.data.toList)
/-- those that are frames -/
def oks (l : List Raw) : List Fr := (l.filter (·.ok)).map Raw.fr
theorem oks_snoc (l : List Raw) (r : Raw) : oks (l ++ [r]) = oks l ++ (if r.ok then [r.fr] else []) := by
  unfold oks
  rw [List.filter_append, List.map_append]
  by_cases h : r.ok <;> simp [h]
theorem oks_len (l : List Raw) : (oks l).length ≤ l.length := by
  unfold oks; rw [List.length_map]; exact List.length_filter_le _ _
theorem oks_mem (l : List Raw) (n : Nat) (h : ∀ r ∈ l, r.s.size ≤ n) : ∀ f ∈ oks l, f.2.length ≤ n := by
  intro f hf
  obtain ⟨r, hr, rfl⟩ := List.mem_map.1 hf
  have := h r (List.mem_filter.1 hr).1
  simpa [Raw.fr] using this
theorem raw_fb (P C : Nat) (s : ByteArray) : frameBytes P C s = fb ((⟨P, C, s⟩ : Raw).fr) := by
  unfold frameBytes fb
  rw [inner_list]
  simp [Raw.fr]
theorem raw_frV (P C : Nat) (s : ByteArray) (hp : P ≤ 15) (hc : C ≤ 15) : frsV [(⟨P, C, s⟩ : Raw).fr] = [.int .i64 (P : Int), .int .i64 (C : Int), .string s] := by
  have e : ((⟨P, C, s⟩ : Raw).fr).1.toNat = 16 * P + C := by
    show (UInt8.ofNat (16 * ((P : Int)).toNat + ((C : Int)).toNat)).toNat = _
    rw [UInt8.toNat_ofNat', Nat.mod_eq_of_lt (by simp; omega)]; simp
  have e2 : (⟨((⟨P, C, s⟩ : Raw).fr).2.toArray⟩ : ByteArray) = s := bytes_ext' (by simp [Raw.fr])
  show [Value.int .i64 _, .int .i64 _, .string _] = _
  rw [e, e2, show (16 * P + C) / 16 = P from by omega, show (16 * P + C) % 16 = C from by omega]
end Go.Proofs.Yteglaenjmeocmaa
