/-
The landed code's setAll: the fields of right parameters, one by one.
-/
import Derived.Test.YtmbjhhpnckfppaaXidMaps
import Derived.Test.YtmbjhhpnckfppaaText
import Derived.Deep.DeepCutAuto
namespace Go.Proofs.Ytmbjhhpnckfppaa
open Go.RowKit Go.Maps Go.WideMaps
set_option maxRecDepth 20000
/-- the number of the field so many, how many bytes it has, these -/
def numJ (j : Nat) : Nat := [3, 6, 8, 9, 10].getD j 0
def sizJ (j : Nat) : Nat := [2, 2, 1, 1, 1].getD j 0
def bytJ (a b : Bool) (n k t r : Int) (j : Nat) : List UInt8 := [[canD a b, 0], [byteN (n / 256), byteN (n % 256)], [byteN k], [byteN t], [byteN r]].getD j []
/-- the bytes from the field so many on -/
def restJ (a b : Bool) (n k t r : Int) (j : Nat) : List UInt8 := [bodyL a b n k t r, (bodyL a b n k t r).drop 4, (bodyL a b n k t r).drop 8, (bodyL a b n k t r).drop 11, (bodyL a b n k t r).drop 14, []].getD j []
theorem rest_next (a b : Bool) (n k t r : Int) (j : Nat) (hj : j < 5) : restJ a b n k t r j = UInt8.ofNat (numJ j) :: UInt8.ofNat (sizJ j) :: (bytJ a b n k t r j ++ restJ a b n k t r (j + 1)) ∧ (bytJ a b n k t r j).length = sizJ j := by
  obtain rfl | rfl | rfl | rfl | rfl : j = 0 ∨ j = 1 ∨ j = 2 ∨ j = 3 ∨ j = 4 := by omega
  all_goals exact ⟨rfl, rfl⟩
/-- the numbers that were seen -/
def keysJ (j : Nat) : List Lit := ([.int .u8 3, .int .u8 6, .int .u8 8, .int .u8 9, .int .u8 10] : List Lit).take j
theorem keys_next (j : Nat) (hj : j < 5) : keysJ (j + 1) = keysJ j ++ [.int .u8 (numJ j : Int)] := by
  obtain rfl | rfl | rfl | rfl | rfl : j = 0 ∨ j = 1 ∨ j = 2 ∨ j = 3 ∨ j = 4 := by omega
  all_goals rfl
theorem keys_fresh (j : Nat) (hj : j < 5) : Maps.has (setOf (.agg []) (keysJ j) : DataW Unit) (.int .u8 (numJ j : Int)) = false := by
  obtain rfl | rfl | rfl | rfl | rfl : j = 0 ∨ j = 1 ∨ j = 2 ∨ j = 3 ∨ j = 4 := by omega
  all_goals rfl
theorem sizes_has (j : Nat) (hj : j < 5) : Maps.has sizesD (.int .u8 (numJ j : Int)) = true := by
  obtain rfl | rfl | rfl | rfl | rfl : j = 0 ∨ j = 1 ∨ j = 2 ∨ j = 3 ∨ j = 4 := by omega
  all_goals rfl
theorem sizes_at (j : Nat) (hj : j < 5) : sizesD.atKey (.int .u8 (numJ j : Int)) (.lit (.int .i64 0)) = .lit (.int .i64 (sizJ j : Int)) := by
  obtain rfl | rfl | rfl | rfl | rfl : j = 0 ∨ j = 1 ∨ j = 2 ∨ j = 3 ∨ j = 4 := by omega
  all_goals rfl
/-- the parameters behind so many fields: six cells -/
def ParJ (a b : Bool) (n k t r : Int) (j : Nat) (W : World) (m : Nat) : Prop :=
  C6 W m (.bool (if 1 ≤ j then a else false)) (.bool (if 1 ≤ j then b else false)) (.int .i64 (if 2 ≤ j then n else 64)) (.int .i64 (if 3 ≤ j then k else 4)) (.int .i64 (if 4 ≤ j then t else 20)) (.int .i64 (if 5 ≤ j then r else 5))
theorem ParJ.block {a b : Bool} {n k t r : Int} {j : Nat} {W W' : World} {m : Nat} (h : ParJ a b n k t r j W m) (hb : W'.heap[m]? = W.heap[m]?) (hs : W.heap.size ≤ W'.heap.size) : ParJ a b n k t r j W' m := C6.block h hb hs
theorem byteN_int (n : Int) (h : 0 ≤ n ∧ n ≤ 255) : (((byteN n).toNat : Nat) : Int) = n := (byteN_val n h).symm
theorem set_n1v (m : Nat) (l : ByteArray) (v0 v1 v2 v3 v4 v5 : Value) (v : Int) (w : World) (hl : l.size = 2) (hv : ((l[0].toNat : Nat) : Int) * 256 + ((l[1].toNat : Nat) : Int) = v) (h : C6 w m v0 v1 v2 v3 v4 v5) :
    Calls Try.prog 24 #[.pointer (some ⟨m, 0, none⟩), .int .u8 6, .int .i64 2, .string l] w fun e w' => e = .returned (.bool true) ∧ C6 w' m v0 v1 (.int .i64 v) v3 v4 v5 ∧ w.grownBy w' (some m) := by
  rw [← hv]
  exact set_n1 m l v0 v1 v2 v3 v4 v5 w hl h
theorem set_kv (m : Nat) (l : ByteArray) (v0 v1 v2 v3 v4 v5 : Value) (v : Int) (w : World) (hl : l.size = 1) (hv : ((l[0].toNat : Nat) : Int) = v) (h : C6 w m v0 v1 v2 v3 v4 v5) :
    Calls Try.prog 24 #[.pointer (some ⟨m, 0, none⟩), .int .u8 8, .int .i64 1, .string l] w fun e w' => e = .returned (.bool true) ∧ C6 w' m v0 v1 v2 (.int .i64 v) v4 v5 ∧ w.grownBy w' (some m) := by
  rw [← hv]
  exact set_k m l v0 v1 v2 v3 v4 v5 w hl h
theorem set_t1v (m : Nat) (l : ByteArray) (v0 v1 v2 v3 v4 v5 : Value) (v : Int) (w : World) (hl : l.size = 1) (hv : ((l[0].toNat : Nat) : Int) = v) (h : C6 w m v0 v1 v2 v3 v4 v5) :
    Calls Try.prog 24 #[.pointer (some ⟨m, 0, none⟩), .int .u8 9, .int .i64 1, .string l] w fun e w' => e = .returned (.bool true) ∧ C6 w' m v0 v1 v2 v3 (.int .i64 v) v5 ∧ w.grownBy w' (some m) := by
  rw [← hv]
  exact set_t1 m l v0 v1 v2 v3 v4 v5 w hl h
theorem set_n2v (m : Nat) (l : ByteArray) (v0 v1 v2 v3 v4 v5 : Value) (v : Int) (w : World) (hl : l.size = 1) (hv : ((l[0].toNat : Nat) : Int) = v) (h : C6 w m v0 v1 v2 v3 v4 v5) :
    Calls Try.prog 24 #[.pointer (some ⟨m, 0, none⟩), .int .u8 10, .int .i64 1, .string l] w fun e w' => e = .returned (.bool true) ∧ C6 w' m v0 v1 v2 v3 v4 (.int .i64 v) ∧ w.grownBy w' (some m) := by
  rw [← hv]
  exact set_n2 m l v0 v1 v2 v3 v4 v5 w hl h
/-- a known field is set -/
theorem set_any (a b : Bool) (n k t r : Int) (hr : rightX a b n k t r = true) (j : Nat) (hj : j < 5) (m : Nat) (w : World) (h : ParJ a b n k t r j w m) :
    Calls Try.prog 24 #[.pointer (some ⟨m, 0, none⟩), .int .u8 (numJ j : Int), .int .i64 (sizJ j : Int), .string ⟨(bytJ a b n k t r j).toArray⟩] w fun e w' => e = .returned (.bool true) ∧ ParJ a b n k t r (j + 1) w' m ∧ w.grownBy w' (some m) := by
  obtain ⟨n0, n1, k0, k1, t0, t1, r0, r1⟩ := rightX_facts hr
  obtain rfl | rfl | rfl | rfl | rfl : j = 0 ∨ j = 1 ∨ j = 2 ∨ j = 3 ∨ j = 4 := by omega
  · exact set_able m ⟨#[canD a b, 0]⟩ a b _ _ _ _ _ _ w rfl rfl rfl h
  · exact set_n1v m ⟨#[byteN (n / 256), byteN (n % 256)]⟩ _ _ _ _ _ _ n w rfl (by
      show (((byteN (n / 256)).toNat : Nat) : Int) * 256 + (((byteN (n % 256)).toNat : Nat) : Int) = n
      rw [byteN_int _ (by omega), byteN_int _ (by omega)]
      omega) h
  · exact set_kv m ⟨#[byteN k]⟩ _ _ _ _ _ _ k w rfl (byteN_int k (by omega)) h
  · exact set_t1v m ⟨#[byteN t]⟩ _ _ _ _ _ _ t w rfl (byteN_int t (by omega)) h
  · exact set_n2v m ⟨#[byteN r]⟩ _ _ _ _ _ _ r w rfl (byteN_int r (by omega)) h
/-- what lies in memory behind so many fields: the sizes, what was seen, the parameters -/
structure SaAt (w W : World) (m sb : Nat) (a b : Bool) (n k t r : Int) (j : Nat) : Prop where
  sz : W.ownsMap Try.prog 5 (plainElem Try.prog 3) w.heap.size 5 sizesD
  sn : W.ownsMap Try.prog 5 (unitElem (H := Unit)) sb j (setOf (.agg []) (keysJ j))
  p : ParJ a b n k t r j W m
  g : w.grownBy W (some m)
  ml : m < w.heap.size
  lt : w.heap.size < sb
theorem SaAt.grown {w W W' : World} {m sb : Nat} {a b : Bool} {n k t r : Int} {j : Nat} (h : SaAt w W m sb a b n k t r j) (hg : W.grownBy W' none) : SaAt w W' m sb a b n k t r j := by
  have h1 := h.ml
  have h2 := h.g.size
  exact ⟨h.sz.kept hg (by simp), h.sn.kept hg (by simp), h.p.block (hg.block m (by omega) (by simp)) hg.size, ⟨hg.os.trans h.g.os, hg.tape.trans h.g.tape, hg.output.trans h.g.output, Nat.le_trans h2 hg.size, fun i hi hne => (hg.block i (by omega) (by simp)).trans (h.g.block i hi hne)⟩, h1, h.lt⟩
theorem grown_none_alloc (w : World) (o : Obj) : w.grownBy (w.alloc o) none := World.grownBy_alloc w o none
theorem grown_none_drewN (w : World) (n : Nat) : w.grownBy (w.drewN n) none := ⟨rfl, rfl, rfl, Nat.le_refl _, fun _ _ _ => rfl⟩
/-- behind set, and the store into what was seen -/
theorem SaAt.next {w W W1 W2 : World} {m sb : Nat} {a b : Bool} {n k t r : Int} {j : Nat} (h : SaAt w W m sb a b n k t r j) (hj : j < 5) (hp : ParJ a b n k t r (j + 1) W1 m) (hg : W.grownBy W1 (some m))
    (ho : W2.ownsMap Try.prog 5 (unitElem (H := Unit)) sb (j + 1) ((setOf (.agg []) (keysJ j) : DataW Unit).put (.int .u8 (numJ j : Int)) (.agg []))) (hg2 : W1.grownBy W2 (some sb)) : SaAt w W2 m sb a b n k t r (j + 1) := by
  have h1 := h.ml
  have h2 := h.g.size
  have h3 := h.lt
  have h4 := hg.size
  have h5 := hg2.size
  have e1 : some w.heap.size ≠ some m := fun e => by have := Option.some.inj e; omega
  have e2 : some w.heap.size ≠ some sb := fun e => by have := Option.some.inj e; omega
  refine ⟨(h.sz.kept hg e1).kept hg2 e2, by rw [keys_next j hj, setOf_snoc]; exact ho, hp.block (hg2.block m (by omega) (fun e => by have := Option.some.inj e; omega)) hg2.size, ⟨hg2.os.trans (hg.os.trans h.g.os), hg2.tape.trans (hg.tape.trans h.g.tape), hg2.output.trans (hg.output.trans h.g.output), by omega, fun i hi hne => ?_⟩, h1, h3⟩
  exact (hg2.block i (by omega) (fun e => by have := Option.some.inj e; omega)).trans ((hg.block i (by omega) hne).trans (h.g.block i hi hne))
/-- how long a text is -/
def strS : Value → Nat
  | .string b => b.size
  | _ => 0
set_option maxHeartbeats 1000000 in
theorem setAll_ok (a b : Bool) (n k t r : Int) (hr : rightX a b n k t r = true) (m : Nat) (w : World) (h : ParJ a b n k t r 0 w m) :
    Calls Try.prog 20 #[.pointer (some ⟨m, 0, none⟩), .string ⟨(bodyL a b n k t r).toArray⟩] w fun e w' => e = .returned (.int .i64 0) ∧ ParJ a b n k t r 5 w' m ∧ w.grownBy w' (some m) := by
  have hmm := @run_makeMap Try.prog
  have HSZ := Lib.hid (fun W => sizes_any W)
  have HSET := Lib.hid (fun j hj W h => set_any a b n k t r hr j hj m W h)
  have HP := Lib.hid h
  have HML := Lib.hid h.k0.lt
  have HN := Lib.hid (rest_next a b n k t r)
  obtain ⟨S0, hS0⟩ : ∃ S0 : ByteArray, S0 = ⟨(restJ a b n k t r 0).toArray⟩ := ⟨_, rfl⟩
  rw [show (⟨(bodyL a b n k t r).toArray⟩ : ByteArray) = S0 from hS0.symm]
  have HS0 := Lib.hid hS0
  clear hr h hS0
  go_enter Try.func20, Try.ntmps20
  go_wp2_with fail
  go_at_call 23
  refine (HSZ.out _).mono ?_
  rintro e w1 ⟨rfl, ho, hb⟩
  have hz1 := ho.lt
  have HA := Lib.hid (show SaAt w (w1.alloc (.map #[] 0)) m w1.heap.size a b n k t r 0 from ⟨ho.alloc _, World.ownsMap_made _ _ _ _, HP.out.block ((World.grownBy_alloc w1 _ none).block m (by have := HML.out; have := hb.size; omega) (by simp) |>.trans (hb.block m HML.out)) (by have := hb.size; simp; omega), ⟨hb.os, hb.tape, hb.output, by have := hb.size; simp; omega, fun i hi _ => ((World.grownBy_alloc w1 _ none).block i (by have := hb.size; omega) (by simp)).trans (hb.block i hi)⟩, HML.out, hz1⟩)
  clear ho hb hz1
  go_wp2_with fail
  go_loopw [1] (fun s wx => ∃ (j : Nat) (S : ByteArray), j ≤ 5 ∧ s = .string S ∧ Hid (S = ⟨(restJ a b n k t r j).toArray⟩) ∧ Hid (SaAt w wx m w1.heap.size a b n k t r j)) (fun s _ => strS s)
  case atStart => exact ⟨0, S0, by omega, rfl, HS0, HA⟩
  case round =>
    obtain ⟨j, S, hj, rfl, HSJ, HK⟩ := hrel
    clear HA HS0
    by_cases hlt : j < 5
    · obtain ⟨e1, e2⟩ := HN.out j hlt
      obtain ⟨hsz, hi0, hi1, hs1, hs2⟩ := text_parts (UInt8.ofNat (numJ j)) (UInt8.ofNat (sizJ j)) (bytJ a b n k t r j) (restJ a b n k t r (j + 1)) S (HSJ.out.trans (by rw [e1]))
      have hn8 : (((UInt8.ofNat (numJ j)).toNat : Nat) : Int) = (numJ j : Int) := by
        obtain rfl | rfl | rfl | rfl | rfl : j = 0 ∨ j = 1 ∨ j = 2 ∨ j = 3 ∨ j = 4 := by omega
        all_goals rfl
      have hs8 : (((UInt8.ofNat (sizJ j)).toNat : Nat) : Int) = (sizJ j : Int) := by
        obtain rfl | rfl | rfl | rfl | rfl : j = 0 ∨ j = 1 ∨ j = 2 ∨ j = 3 ∨ j = 4 := by omega
        all_goals rfl
      have hsb : sizJ j ≤ 2 ∧ numJ j ≤ 10 := by
        obtain rfl | rfl | rfl | rfl | rfl : j = 0 ∨ j = 1 ∨ j = 2 ∨ j = 3 ∨ j = 4 := by omega
        all_goals exact ⟨by decide, by decide⟩
      rw [hn8] at hi0
      rw [hs8] at hi1
      rw [e2] at hs1 hs2 hsz
      have hsn := Lib.hid HK.out.sn
      have hsm := Lib.hid HK.out.sz
      have hfr := keys_fresh j hlt
      have hsh := sizes_has j hlt
      have hsa := sizes_at j hlt
      have HSE := Lib.hid (fun W h => HSET.out j hlt W h)
      have HNX := Lib.hid (fun W1 W2 (W : World) (h : SaAt w W m w1.heap.size a b n k t r j) hp hg ho hg2 => h.next (W1 := W1) (W2 := W2) hlt hp hg ho hg2)
      have hrl : (⟨(restJ a b n k t r (j + 1)).toArray⟩ : ByteArray).size < S.size := by
        rw [hsz]
        show (List.toArray _).size < _
        simp
        omega
      have hne := text_some S (by omega)
      have d1 : decide ((S.size : Int) < 2) = false := decide_eq_false (by omega)
      have d2 : decide ((S.size : Int) < 2 + (sizJ j : Int)) = false := decide_eq_false (by omega)
      have hkey := key_byte (numJ j : Int) (by omega)
      obtain ⟨NN, hNN⟩ : ∃ NN : Int, NN = (numJ j : Int) := ⟨_, rfl⟩
      obtain ⟨SS, hSS⟩ : ∃ SS : Int, SS = (sizJ j : Int) := ⟨_, rfl⟩
      rw [← hNN] at hi0 hfr hsh hsa HSE HNX hkey
      rw [← hSS] at hi1 hs1 hs2 d2 hsa HSE
      have hSb : 0 ≤ SS ∧ SS ≤ 2 := by omega
      obtain ⟨hSb0, hSb1⟩ := hSb
      generalize (⟨(bytJ a b n k t r j).toArray⟩ : ByteArray) = FB at *
      generalize hR : (⟨(restJ a b n k t r (j + 1)).toArray⟩ : ByteArray) = R at *
      have HRR := Lib.hid hR
      clear hn8 hs8 hsb e1 e2 hsz hNN hSS hR HSET HN
      have HRL := Lib.hid hrl
      clear hrl
      go_upto_region 5 with (fail)
      go_quiet (fail)
      have HK2 := Lib.hid (HK.out.grown (grown_none_drewN wr nq))
      clear HK hsn hsm
      generalize wr.drewN nq = w2 at *
      have hz0 : ∀ W, (zeroValue 53).run Try.prog W = .ok (.agg #[]) W := fun W => by kernel_rfl
      have hzi : ∀ W, (zeroValue 3).run Try.prog W = .ok (.int .i64 0) W := fun W => by kernel_rfl
      have HZ0 := Lib.hid hz0
      have HZI := Lib.hid hzi
      clear hz0 hzi
      go_upto_region 7 with (at_lookup; refine wpList_lookup_own_unit (H := Unit) _ rfl _ _ 52 rfl 5 53 keyedByte Try.underlying52 (HZ0.out _) w1.heap.size j _ rfl HK2.out.sn _ _ rfl hkey ?_)
      have HK3 := Lib.hid (HK2.out.grown (grown_none_alloc w2 (.cells #[] 53)))
      clear HK2
      go_upto_region 8 with (at_lookup; refine wpList_lookup_own_ok_int (H := Unit) _ rfl _ _ 50 rfl 5 3 .i64 keyedByte Try.underlying50 Try.underlying3 (HZI.out _) w.heap.size 5 _ rfl HK3.out.sz _ _ rfl hkey ?_; intro c hat hwc; have hcS : c = SS := (by rw [hsa] at hat; simp only [DataW.lit.injEq, Lit.int.injEq, true_and] at hat; exact hat.symm); clear hat hwc)
      go_wp2_with fail
      go_at_call 24
      refine (HSE.out _ HK3.out.p).mono ?_
      rintro e w4 ⟨rfl, hp4, hg4⟩
      have hml := HK3.out.ml
      have hsl := HK3.out.lt
      have HO4 := Lib.hid (HK3.out.sn.kept hg4 (fun e => by have := Option.some.inj e; omega))
      have HP4 := Lib.hid hp4
      have HG4 := Lib.hid hg4
      clear hp4 hg4 hcS hsa
      go_wp2_with (at_mapUpdate; refine wpList_mapUpdate_own _ rfl _ _ _ 52 rfl 5 53 keyedByte Try.underlying52 (unitElem (H := Unit)) w1.heap.size j _ rfl HO4.out (by unfold maxLen; omega) _ _ _ rfl rfl hkey _ [] unitElem_mk ?_; intro w5 hown5 hg5; have HN := Lib.hid (HNX.out _ _ _ HK3.out HP4.out HG4.out hown5 hg5); clear hown5 hg5)
      go_roundw
      case rel => exact ⟨j + 1, R, by omega, rfl, Lib.hid HRR.out.symm, HN⟩
      case measure => exact HRL.out
    · obtain rfl : j = 5 := by omega
      have hS : S = ⟨#[]⟩ := HSJ.out
      subst hS
      have HP5 := Lib.hid HK.out.p
      have HG5 := Lib.hid HK.out.g
      clear HK HSJ HSET HN
      go_wp2_with fail
      go_ret
      exact ⟨rfl, HP5.out, HG5.out⟩
end Go.Proofs.Ytmbjhhpnckfppaa
