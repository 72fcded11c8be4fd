/-
Walk of Seal: all texts, and their sum behind them.
-/
import Derived.Test.YtgahmaaoieofhaaFcsLong
import Derived.Test.YtgahmaaoieofhaaShelf
import Derived.Deep.RegionWith
namespace Go.Proofs.Ytgahmaaoieofhaa
open Go.RowKit
def sumOf (l : List UInt8) : Nat := 65535 ^^^ crc 65535 l
def sealL (l : List UInt8) : List UInt8 := l ++ [UInt8.ofNat (sumOf l % 256), UInt8.ofNat (sumOf l / 256)]
theorem sumOf_lt (l : List UInt8) : sumOf l < 65536 := xlt (by omega) (crc_lt l _ (by omega))
theorem join_flat : ∀ (ss : List ByteArray), Lib.join (ss.map (·.data.toList)) [] = flat ss
  | [] => rfl
  | x :: r => by
    rw [List.map_cons, Lib.join_cons, Lib.joinTail]
    have e : (r.map (·.data.toList)).map (([] : List UInt8) ++ ·) = r.map (·.data.toList) := by rw [List.map_map]; exact List.map_congr_left fun _ _ => rfl
    rw [e]; rfl
theorem join_at (lb off cap : Nat) (ss : List ByteArray) (w w2 : World) (hB : Below w.heap.size w w2) (hlb : lb < w.heap.size) (hl : ss.length ≤ 140737488355328) (hcap : ss.length ≤ cap) (hs : (flat ss).length ≤ 140737488355328)
    (hc : ∀ j, j < ss.length → w.cell? ⟨lb, off + j, none⟩ = some (.string (ss.getD j ByteArray.empty))) :
    Calls Try.prog 23 #[.slice (some ⟨lb, off, none⟩) ss.length cap, .string ⟨#[]⟩] w2 fun e w' => e = .returned (.string ⟨(flat ss).toArray⟩) ∧ Below w2.heap.size w2 w' := by
  have h := Try.strings_Join lb off cap ss ⟨#[]⟩ w2 (fun j x hx => by
    have hj := (List.getElem?_eq_some_iff.1 hx).1
    rw [hB.cell (p := ⟨lb, off + j, none⟩) hlb, hc j hj, List.getD_eq_getElem?_getD, hx]; rfl) (Nat.lt_of_lt_of_le hlb hB.size) hl hcap (by rw [join_flat]; exact hs)
  rw [join_flat] at h
  exact h
/-- a sum as two bytes, the lower one first -/
def sumBytes (sm : Nat) : ByteArray := ⟨#[UInt8.ofNat (sm % 256), UInt8.ofNat (sm / 256)]⟩
theorem sumBytes_size (sm : Nat) : (sumBytes sm).size = 2 := rfl
theorem convert_two (sm : Nat) (hsm : sm < 65536) (W : World) (g : Nat)
    (h0 : W.cell? ⟨g, 0, none⟩ = some (.int .u8 (IntKind.u8.wrap (sm : Int)))) (h1 : W.cell? ⟨g, 1, none⟩ = some (.int .u8 (IntKind.u8.wrap ((sm : Int) / 256)))) :
    (convert 40 9 (.slice (some ⟨g, 0, none⟩) 2 2)).run Try.prog W = .ok (.string (sumBytes sm)) W := by
  rw [run_convert_bytes_arg W 40 5 Try.underlying40 Try.underlying5 g 0 2 2 [IntKind.u8.wrap (sm : Int), IntKind.u8.wrap ((sm : Int) / 256)] rfl (fun i hi => by
    rw [Nat.zero_add]
    match i, hi with
    | 0, _ => exact h0
    | 1, _ => exact h1) 9 Try.underlying9]
  congr 2
  unfold strOfNums sumBytes
  simp only [List.map_cons, List.map_nil, IntKind.wrap_u8']
  rw [show ((sm : Int) % 256).toNat = sm % 256 from by omega, show ((sm : Int) / 256 % 256).toNat = sm / 256 from by omega]
theorem ret_seal (L : List UInt8) (sm : Nat) (h : sumOf L = sm) : Ending.returned (.string ({ data := L.toArray } ++ sumBytes sm)) = .returned (.string ⟨(sealL L).toArray⟩) := by
  have e : sumBytes sm = ⟨[UInt8.ofNat (sm % 256), UInt8.ofNat (sm / 256)].toArray⟩ := rfl
  rw [e, ByteArray.mk_append_mk, sealL, h]
set_option maxHeartbeats 400000 in
theorem seal_some (b lb off cap : Nat) (ss : List ByteArray) (w : World) (ht : IsTab w b) (hl : ss.length ≤ 140737488355328) (hcap : ss.length ≤ cap) (hs : (flat ss).length ≤ 140737488355328)
    (hm : ∀ s ∈ ss, s.size ≤ 9223372036854775807) (hlb : lb < w.heap.size)
    (hc : ∀ j, j < ss.length → w.cell? ⟨lb, off + j, none⟩ = some (.string (ss.getD j ByteArray.empty))) :
    Calls Try.prog 16 #[.pointer (some ⟨b, 0, none⟩), .slice (some ⟨lb, off, none⟩) ss.length cap] w fun e w' => e = .returned (.string ⟨(sealL (flat ss)).toArray⟩) ∧ Below w.heap.size w w' := by
  have hsum := sumOf_lt (flat ss)
  have HJ := Lib.hid (fun w2 hB => join_at lb off cap ss w w2 hB hlb hl hcap hs hc)
  have HS := Lib.hid (sum_some b lb off cap ss w ht (by omega) hm hc)
  clear hc hm ht
  have e1 : ((65535 ^^^ crc 65535 (flat ss) : Nat) : Int) = (sumOf (flat ss) : Nat) := rfl
  rw [e1] at HS
  clear e1
  generalize hsm : sumOf (flat ss) = sm at *
  have HSM := Lib.hid hsm
  clear hsm
  go_enter Try.func16, Try.ntmps16
  go_wp2_with (go_at_call 14; refine (HS.out).mono ?_; rintro e w1 ⟨rfl, rfl⟩)
  have hcv := convert_two sm hsum
  have hsz := sumBytes_size sm
  generalize hL : flat ss = L at *
  have HL := Lib.hid hL
  clear hL
  go_region_with (go_at_call 23; first
    | ((with_reducible refine (HJ.out _ (Below.drew (Below.refl _ w))).mono ?_); rintro e w2 ⟨rfl, hb2⟩)
    | ((with_reducible refine (HJ.out _ (Below.drew ((Below.refl _ w).alloc (Nat.le_refl _) (.cells #[.int .u8 (IntKind.u8.wrap (sm : Int)), .int .u8 (IntKind.u8.wrap ((sm : Int) / 256))] 5)))).mono ?_); rintro e w2 ⟨rfl, hb2⟩; have hc0 : w2.cell? ⟨w.heap.size, 0, none⟩ = some (.int .u8 (IntKind.u8.wrap (sm : Int))) := (hb2.cell (p := ⟨w.heap.size, 0, none⟩) (by simp)).trans (by simp); have hc1 : w2.cell? ⟨w.heap.size, 1, none⟩ = some (.int .u8 (IntKind.u8.wrap ((sm : Int) / 256))) := (hb2.cell (p := ⟨w.heap.size, 1, none⟩) (by simp)).trans (by simp)))
  all_goals
    go_wp2
    go_ret
    refine ⟨by rw [HL.out, ← ret_seal L sm HSM.out]; rfl, ?_⟩
  all_goals first
    | exact (((Below.refl _ w).drew.trans hb2).alloc (hb2.size) _)
    | exact (((Below.refl _ w).alloc (Nat.le_refl _) _).drew.trans (hb2.mono (by simp)))
theorem seal0 : sumOf [] = 0 := by decide +kernel
set_option maxHeartbeats 400000 in
theorem seal_nil (b cap : Nat) (a : Option Addr) (w : World) :
    Calls Try.prog 16 #[.pointer (some ⟨b, 0, none⟩), .slice a 0 cap] w fun e w' => e = .returned (.string ⟨(sealL []).toArray⟩) ∧ Below w.heap.size w w' := by
  have hcv := convert_two 0 (by omega)
  have hsz := sumBytes_size 0
  go_enter Try.func16, Try.ntmps16
  go_wp2_with (go_at_call 14; refine (sum_nil _ _ _ _).mono ?_; rintro e w1 ⟨rfl, rfl⟩)
  go_region_with (go_at_call 23; refine (Try.strings_Join_none _ _ _ _).mono ?_; rintro e w2 ⟨rfl, rfl⟩)
  all_goals
    go_wp2
    go_ret
    exact ⟨by rw [← ret_seal [] 0 seal0]; rfl, ((Below.refl _ w).alloc (Nat.le_refl _) _).drew⟩
/-- a text of its own in a new block -/
theorem seal_1 (b n : Nat) (s : ByteArray) (t : TypeId) (w : World) (hn : n = w.heap.size) (ht : IsTab w b) (hb : b < w.heap.size) (hs : s.size ≤ 140737488351232) :
    Calls Try.prog 16 #[.pointer (some ⟨b, 0, none⟩), .slice (some ⟨n, 0, none⟩) 1 1] (w.alloc (.cells #[.string s] t)) fun e w' => e = .returned (.string ⟨(sealL s.data.toList).toArray⟩) ∧ Below w.heap.size w w' := by
  subst hn
  have ef : flat [s] = s.data.toList := by simp [flat]
  have h := seal_some b w.heap.size 0 1 [s] (w.alloc (.cells #[.string s] t)) (ht.alloc hb _) (by simp) (by simp) (by rw [ef]; simp; omega) (by simp; omega) (by simp)
    (fun j hj => by
      obtain rfl : j = 0 := by simpa using hj
      rw [World.cell?_alloc_new]; rfl)
  rw [ef] at h
  exact h.mono fun e w' ⟨he, hB⟩ => ⟨he, ((Below.refl _ w).alloc (Nat.le_refl _) _).trans (hB.mono (by simp))⟩
end Go.Proofs.Ytgahmaaoieofhaa
