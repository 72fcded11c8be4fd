/-
The landed code's Put of controls.
The document's own Get of controls, narrow: the walk.
The document's own Decode of frames: which kind it tells, where it tells one.
The landed code's Put of paths.
A right frame's bytes, as plain facts.
Walk of the statement PathBytes.
-/
import Derived.Test.YtgoaepjjegblnaaGreatDoorMix16
import Derived.BigQuiet
import Derived.Deep.QuietTactic
import Derived.Test.YtgoaepjjegblnaaGreatDoorMix23
import Derived.IntWalk
import Derived.Test.YtgoaepjjegblnaaGreatDoorProg
import Derived.BigRegion
import Derived.WalkKit
import Derived.WalkSpells
import Derived.WalkLawsBesides
import Derived.Laws.BitsAllLaws
import Derived.Laws.ShiftsVarLaws
import Derived.Lib.Hide
import Derived.Lib.LaidTab
import Derived.Lib.IndexBytes
import Derived.Lib.QuietBelow
import Derived.Test.YtgoaepjjegblnaaGreatDoorMix18
import Derived.Test.YtgoaepjjegblnaaGreatDoorMix02
import Derived.Lib.SmallJoins
import Derived.Lib.ItoaNum
import Derived.Test.YtgoaepjjegblnaaGreatDoorMix24
import Derived.Test.YtgoaepjjegblnaaGreatDoorMix03
import Derived.Test.YtgoaepjjegblnaaGreatDoorMix17
import Derived.Test.YtgoaepjjegblnaaGreatDoorMix21
import Derived.Scope
import Derived.WalkMore
import Derived.Lib.LazyBuf
import Derived.OrdersHeld
import Derived.Deep.RegionHeld
namespace Go.Proofs.YtgoaepjjegblnaaGreatDoor
open Go.RowKit
set_option maxRecDepth 20000
theorem u8n (N : Nat) (h : N < 256) : (N : Int) = (((UInt8.ofNat N).toNat : Nat) : Int) := by
  have e : (UInt8.ofNat N).toNat = N % 256 := rfl
  omega
theorem OwnB.conv1 (w : World) (n : Nat) (F : Int) (N : Nat) (hF : F = (N : Int)) (hN : N < 256) (hn : n = w.heap.size) :
    (convert 194 9 (.slice (some ⟨n, 0, none⟩) 1 1)).run Tryz.prog (w.alloc (.cells #[.int .u8 F] 5)) = .ok (.string ⟨#[UInt8.ofNat N]⟩) (w.alloc (.cells #[.int .u8 F] 5)) :=
  OwnB.text (OwnB.start w 0 n F (UInt8.ofNat N) (hF.trans (u8n N hN)) hn (by omega)) rfl
theorem OwnB.conv2 (w : World) (n : Nat) (F G : Int) (N M : Nat) (hF : F = (N : Int)) (hN : N < 256) (hG : G = (M : Int)) (hM : M < 256) (hn : n = w.heap.size) :
    (convert 194 9 (.slice (some ⟨n, 0, none⟩) 2 2)).run Tryz.prog (w.alloc (.cells #[.int .u8 F, .int .u8 G] 5)) = .ok (.string ⟨#[UInt8.ofNat N, UInt8.ofNat M]⟩) (w.alloc (.cells #[.int .u8 F, .int .u8 G] 5)) := by
  subst hn
  have h := World.ownsRow_lit (base := 0) (e := 5) (size := 1) w #[.int .u8 F, .int .u8 G] 2 (by omega) (by decide) rfl
  rw [hF, hG, u8n N hN, u8n M hM] at h ⊢
  exact OwnB.text (l := [UInt8.ofNat N, UInt8.ofNat M]) (B := 0) h rfl
set_option maxHeartbeats 1000000 in
theorem cput_one (k nr ns : Nat) (pf wide : Bool) (w : World) (hC : CodesOk w) (hr : rightC k nr ns wide = true) (hk : k < 15) (hnr : nr < 8) (hns : ns < 128) (hw : (wide && hasD k) = false) :
    Calls Tryz.prog 107 #[.agg #[.int .i64 (k : Int), .int .i64 (nr : Int), .int .i64 (ns : Int), .bool pf], .bool wide] w fun e w' => e = .returned (.tuple #[.string ⟨#[UInt8.ofNat (oneN k nr ns pf)]⟩, .int .i64 0]) ∧ Below w.heap.size w w' := by
  have hR := fun W => ccright_any k nr ns pf wide W
  rw [hr] at hR
  have HR := Lib.hid hR
  have HB := Lib.hid (fun b W => bit_any pf b W)
  have HN := Lib.hid (fun W => hasNr_any k W)
  have HB0 := Lib.hid ((Below.refl _ w).alloc (Nat.le_refl _) (.cells #[.int .i64 (k : Int), .int .i64 (nr : Int), .int .i64 (ns : Int), .bool pf] 72))
  have HA := Lib.hid (C4.new w w.heap.size rfl (.int .i64 (k : Int)) (.int .i64 (nr : Int)) (.int .i64 (ns : Int)) (.bool pf) 72)
  have hcc := fun W (hb : Below w.heap.size w W) => (hC.below hb).at_ k hk
  have HCC := Lib.hid hcc
  have hi : (k : Int) < 15 := by omega
  have HO := Lib.hid (one_bits k nr ns pf hk hnr hns)
  generalize oneN k nr ns pf = O at *
  generalize codeD k = C at *
  generalize hasD k = H at *
  clear hR hr hcc
  have key : ∀ x : Int, x = (if pf then 16 else 0) → bits BinOp.or .u8 (bits BinOp.or .u8 C ((ns : Int) * 2)) (bits BinOp.or .u8 ((nr : Int) * 32) x) = (O : Int) := fun x hx => by rw [hx]; exact HO.out.1
  have KEY := Lib.hid key
  have HO2 := Lib.hid HO.out.2
  clear key HO
  cases wide
  · go_enter Tryz.func107, Tryz.ntmps107
    go_wp2_with (go_at_call 158; (with_reducible refine (HR.out _).mono ?_); rintro e w1 ⟨rfl, hb⟩; have HB1 := Lib.hid (HB0.out.trans (hb.mono HB0.out.size)); have HA1 := Lib.hid (HA.out.below hb); have hcc := HCC.out _ HB1.out; obtain ⟨c0, c1, c2, c3, -, -, -, -, cl⟩ := HA1.out; clear hb)
    clear HR HA HCC HB0 HN
    go_quiet (fail)
    go_wp2
    have HA2 := Lib.hid (HA1.out.drewN nq)
    have HB2 := Lib.hid (show Below w.heap.size w (w1.drewN nq) from ⟨HB1.out.os, HB1.out.tape, HB1.out.output, HB1.out.size, HB1.out.block⟩)
    clear c0 c1 c2 c3 cl hcc HB1 HA1
    generalize w1.drewN nq = w2 at *
    obtain ⟨c0, c1, c2, c3, -, -, -, -, cl⟩ := HA2.out
    cases pf
    all_goals
      go_quiet ((go_at_call 162; exact Calls.quiet_of_same (HB.out _ _)))
      have hcv := OwnB.conv1 (w2.drewN nq) w2.heap.size _ O (KEY.out _ rfl) HO2.out rfl
      simp only [if_true, if_false, Bool.false_eq_true] at hcv
      have HB3 := Lib.hid (show Below w.heap.size w (w2.drewN nq) from ⟨HB2.out.os, HB2.out.tape, HB2.out.output, HB2.out.size, HB2.out.block⟩)
      go_wp2
      go_ret2
      exact ⟨rfl, HB3.out.alloc HB3.out.size _⟩
  · cases H
    · go_enter Tryz.func107, Tryz.ntmps107
      go_wp2_with (go_at_call 158; (with_reducible refine (HR.out _).mono ?_); rintro e w1 ⟨rfl, hb⟩; have HB1 := Lib.hid (HB0.out.trans (hb.mono HB0.out.size)); have HA1 := Lib.hid (HA.out.below hb); have hcc := HCC.out _ HB1.out; obtain ⟨c0, c1, c2, c3, -, -, -, -, cl⟩ := HA1.out; clear hb)
      clear HR HA HCC HB0
      go_quiet (fail)
      have HA2 := Lib.hid (HA1.out.drewN nq)
      have HB2 := Lib.hid (show Below w.heap.size w (w1.drewN nq) from ⟨HB1.out.os, HB1.out.tape, HB1.out.output, HB1.out.size, HB1.out.block⟩)
      clear c0 c1 c2 c3 cl hcc HB1 HA1
      generalize w1.drewN nq = w2 at *
      obtain ⟨c0, c1, c2, c3, -, -, -, -, cl⟩ := HA2.out
      go_wp2_with (go_at_call 161; (with_reducible refine (HN.out _).mono ?_); rintro e w3 ⟨rfl, rfl⟩)
      cases pf
      all_goals
        go_quiet ((go_at_call 162; exact Calls.quiet_of_same (HB.out _ _)))
        have hcv := OwnB.conv1 (w3.drewN nq) w3.heap.size _ O (KEY.out _ rfl) HO2.out rfl
        simp only [if_true, if_false, Bool.false_eq_true] at hcv
        have HB3 := Lib.hid (show Below w.heap.size w (w3.drewN nq) from ⟨HB2.out.os, HB2.out.tape, HB2.out.output, HB2.out.size, HB2.out.block⟩)
        go_wp2
        go_ret2
        exact ⟨rfl, HB3.out.alloc HB3.out.size _⟩
    · exact absurd hw (by simp)
set_option maxHeartbeats 1000000 in
theorem cput_two (k nr ns : Nat) (pf : Bool) (w : World) (hC : CodesOk w) (hr : rightC k nr ns true = true) (hk : k < 15) (hnr : nr < 128) (hns : ns < 128) (hw : hasD k = true) :
    Calls Tryz.prog 107 #[.agg #[.int .i64 (k : Int), .int .i64 (nr : Int), .int .i64 (ns : Int), .bool pf], .bool true] w fun e w' => e = .returned (.tuple #[.string ⟨#[UInt8.ofNat (firN k ns), UInt8.ofNat (secN nr pf)]⟩, .int .i64 0]) ∧ Below w.heap.size w w' := by
  have hR := fun W => ccright_any k nr ns pf true W
  rw [hr] at hR
  have HR := Lib.hid hR
  have HB := Lib.hid (fun b W => bit_any pf b W)
  have hN := fun W => hasNr_any k W
  rw [hw] at hN
  have HN := Lib.hid hN
  have HB0 := Lib.hid ((Below.refl _ w).alloc (Nat.le_refl _) (.cells #[.int .i64 (k : Int), .int .i64 (nr : Int), .int .i64 (ns : Int), .bool pf] 72))
  have HA := Lib.hid (C4.new w w.heap.size rfl (.int .i64 (k : Int)) (.int .i64 (nr : Int)) (.int .i64 (ns : Int)) (.bool pf) 72)
  have hcc := fun W (hb : Below w.heap.size w W) => (hC.below hb).at_ k hk
  have HCC := Lib.hid hcc
  have hi : (k : Int) < 15 := by omega
  have HO := Lib.hid (fir_bits k ns hk hns)
  have HQ := Lib.hid (sec_bits nr pf hnr)
  generalize firN k ns = O at *
  generalize secN nr pf = S at *
  generalize codeD k = C at *
  clear hR hr hcc hN hw
  have key : ∀ x : Int, x = (if pf then 1 else 0) → bits BinOp.or .u8 ((nr : Int) * 2) x = (S : Int) := fun x hx => by rw [hx]; exact HQ.out.1
  have KEY := Lib.hid key
  have HQ2 := Lib.hid HQ.out.2
  clear key HQ
  go_enter Tryz.func107, Tryz.ntmps107
  go_wp2_with (go_at_call 158; (with_reducible refine (HR.out _).mono ?_); rintro e w1 ⟨rfl, hb⟩; have HB1 := Lib.hid (HB0.out.trans (hb.mono HB0.out.size)); have HA1 := Lib.hid (HA.out.below hb); have hcc := HCC.out _ HB1.out; obtain ⟨c0, c1, c2, c3, -, -, -, -, cl⟩ := HA1.out; clear hb)
  clear HR HA HCC HB0
  go_quiet (fail)
  have HA2 := Lib.hid (HA1.out.drewN nq)
  have HB2 := Lib.hid (show Below w.heap.size w (w1.drewN nq) from ⟨HB1.out.os, HB1.out.tape, HB1.out.output, HB1.out.size, HB1.out.block⟩)
  clear c0 c1 c2 c3 cl hcc HB1 HA1
  generalize w1.drewN nq = w2 at *
  obtain ⟨c0, c1, c2, c3, -, -, -, -, cl⟩ := HA2.out
  go_wp2_with (go_at_call 161; (with_reducible refine (HN.out _).mono ?_); rintro e w3 ⟨rfl, rfl⟩)
  cases pf
  all_goals
    go_quiet ((go_at_call 162; exact Calls.quiet_of_same (HB.out _ _)))
    have hcv := OwnB.conv2 (w3.drewN nq) w3.heap.size _ _ O S HO.out.1 HO.out.2 (KEY.out _ rfl) HQ2.out rfl
    simp only [if_true, if_false, Bool.false_eq_true] at hcv
    have HB3 := Lib.hid (show Below w.heap.size w (w3.drewN nq) from ⟨HB2.out.os, HB2.out.tape, HB2.out.output, HB2.out.size, HB2.out.block⟩)
    go_wp2
    go_ret2
    exact ⟨rfl, HB3.out.alloc HB3.out.size _⟩
theorem cput_none (k nr ns : Int) (pf wide : Bool) (w : World) (hr : rightC k nr ns wide = false) :
    Calls Tryz.prog 107 #[.agg #[.int .i64 k, .int .i64 nr, .int .i64 ns, .bool pf], .bool wide] w fun e w' => e = .returned (.tuple #[.string ⟨#[]⟩, .int .i64 1]) ∧ Below w.heap.size w w' := by
  have hR := fun W => ccright_any k nr ns pf wide W
  rw [hr] at hR
  have HR := Lib.hid hR
  have HB0 := Lib.hid ((Below.refl _ w).alloc (Nat.le_refl _) (.cells #[.int .i64 k, .int .i64 nr, .int .i64 ns, .bool pf] 72))
  clear hR hr
  go_enter Tryz.func107, Tryz.ntmps107
  go_wp2_with (go_at_call 158; (with_reducible refine (HR.out _).mono ?_); rintro e w1 ⟨rfl, hb⟩; have HB1 := Lib.hid (HB0.out.trans (hb.mono HB0.out.size)); clear hb)
  go_ret2
  exact ⟨rfl, HB1.out⟩
/-- what Put answers -/
def cputE (k nr ns : Int) (pf wide : Bool) : Value := if rightC k nr ns wide then .tuple #[.string ⟨(putB k.toNat nr.toNat ns.toNat pf wide).toArray⟩, .int .i64 0] else .tuple #[.string ⟨#[]⟩, .int .i64 1]
theorem ctlput_any (k nr ns : Int) (pf wide : Bool) (w : World) (hC : CodesOk w) :
    Calls Tryz.prog 107 #[.agg #[.int .i64 k, .int .i64 nr, .int .i64 ns, .bool pf], .bool wide] w fun e w' => e = .returned (cputE k nr ns pf wide) ∧ Below w.heap.size w w' := by
  unfold cputE
  cases hr : rightC k nr ns wide
  · exact cput_none k nr ns pf wide w hr
  · obtain ⟨K, R, S, rfl, rfl, rfl, h1, h2, h3, h4, h5, h6, h7⟩ := rightC_facts hr
    rw [if_pos rfl]
    simp only [Int.toNat_natCast]
    unfold putB
    cases wide
    · rw [if_neg (by simp)]
      exact cput_one K R S pf false w hC hr h2 (h5 rfl).1 h7 rfl
    · cases hh : hasD K
      · rw [if_neg (by simp)]
        exact cput_one K R S pf true w hC hr h2 (by have := h3 hh; omega) h7 (by rw [hh]; rfl)
      · rw [if_pos (by simp)]
        exact cput_two K R S pf w hC hr h2 h6 h7 hh
end Go.Proofs.YtgoaepjjegblnaaGreatDoor
namespace Go.Proofs.YtgoaepjjegblnaaGreatDoor
open Go.RowKit Go.Sort
set_option maxRecDepth 20000
theorem head_at (s : ByteArray) (x : UInt8) (t : List UInt8) (h : s.data.toList = x :: t) (n0 : 0 < s.size) : s[0]'n0 = x := by
  have e : s.data.toList[0]'(by rw [h]; simp) = s[0]'n0 := rfl
  rw [← e]; simp [h]
theorem txt_full (s : ByteArray) (h : 0 < s.size) : s.toList.isEmpty = false := by
  rw [ByteArray.toList_eq]
  cases he : s.data.toList with
  | nil => exact absurd (by have : s.size = s.data.toList.length := by simp
                            rw [this, he]; rfl) (show s.size ≠ 0 by omega)
  | cons x t => rfl
end Go.Proofs.YtgoaepjjegblnaaGreatDoor
namespace Go.Proofs.YtgoaepjjegblnaaGreatDoor
open Go.RowKit Go.Sort
set_option maxRecDepth 20000
/-- which error Decode tells; 0: none -/
def decE (s : List UInt8) (wide : Bool) : Nat :=
  if begE s wide ≠ 0 then begE s wide
  else if pidD ((ctlOf s wide).1 : Int) = true then (if s.length ≤ 7 * (getP 10 [] s).2.length + (ctlOf s wide).2.2.2.2.1 then 4 else infE ((ctlOf s wide).1 : Int) (s.length - (7 * (getP 10 [] s).2.length + (ctlOf s wide).2.2.2.2.1 + 1)))
  else infE ((ctlOf s wide).1 : Int) (s.length - (7 * (getP 10 [] s).2.length + (ctlOf s wide).2.2.2.2.1))
theorem refget_len (s : List UInt8) (w : Bool) : (refGet s w).2.2.2.2.1 ≤ s.length := by
  cases s with
  | nil => simp [refGet]
  | cons b t =>
    unfold refGet
    dsimp only
    split
    · simp
    · rename_i h
      split
      · simp
      · rename_i k p hk
        dsimp only
        cases t with
        | cons y t => simp only [List.length_cons]; split <;> omega
        | nil =>
          rw [if_neg]
          · simp
          · intro hw
            have hw1 : w = true := by cases w; · simp at hw
                                      · rfl
            subst hw1
            have hk5 : k ≤ 5 := by simpa using hw
            have hb : b.toNat % 4 = 3 := by simpa using h
            have e := wide_seek1 ⟨b.toNat, b.toNat_lt⟩ hb
            dsimp only at e
            rw [hk] at e
            obtain ⟨e1, e2, _⟩ := e
            by_cases h0 : findD (b.toNat : Int) true = 0
            · rw [if_pos h0] at e1; cases e1
            · rw [if_neg h0] at e1
              have := e2 h0
              simp only [Option.some.injEq, Prod.mk.injEq] at e1
              omega
end Go.Proofs.YtgoaepjjegblnaaGreatDoor
namespace Go.Proofs.YtgoaepjjegblnaaGreatDoor
open Go.RowKit Go.Sort
set_option maxRecDepth 20000
/-- the bytes of the first k entries of L -/
def bytesP (L : List Ent) (k : Nat) : List UInt8 := (List.range k).flatMap fun i => match L[i]? with | some e => putD e.1.data.toList e.2.1.toNat e.2.2 (decide (i + 1 = L.length)) | none => []
theorem bytesP_next (L : List Ent) (k : Nat) (h : k < L.length) : bytesP L (k + 1) = bytesP L k ++ putD L[k].1.data.toList L[k].2.1.toNat L[k].2.2 (decide (k + 1 = L.length)) := by
  unfold bytesP
  rw [List.range_succ, List.flatMap_append, List.flatMap_singleton, List.getElem?_eq_getElem h]
/-- what Put answers -/
def pputE (L : List Ent) : Value := if rightP L then .tuple #[.string ⟨(bytesP L L.length).toArray⟩, .int .i64 0] else .tuple #[.string ⟨#[]⟩, .int .i64 11]
theorem bytesP_len' (L : List Ent) : ∀ k, k ≤ L.length → (bytesP L k).length = 7 * k
  | 0, _ => rfl
  | k + 1, h => by
    rw [bytesP_next L k (by omega), List.length_append, bytesP_len' L k (by omega), put_len]
    omega
set_option maxHeartbeats 2000000 in
theorem pput_any (tb fb : ByteArray) (tn fn : Int) (tm fm : Bool) (a : Option Addr) (cap : Nat) (D : List Ent) (w : World) (hD : D.length ≤ 1000) (hE : EntsAt w a cap D) :
    Calls Tryz.prog 106 #[.agg #[.string tb, .int .i64 tn, .string fb, .int .i64 fn, .bool tm, .bool fm, .slice a D.length cap]] w fun e w' => e = .returned (pputE ((tb, tn, tm) :: (fb, fn, fm) :: D)) ∧ Below w.heap.size w w' := by
  have HB0 := Lib.hid ((Below.refl _ w).alloc (Nat.le_refl _) (.cells #[.string tb, .int .i64 tn, .string fb, .int .i64 fn, .bool tm, .bool fm, .slice a D.length cap] 57))
  have HP0 := Lib.hid (P7.new w w.heap.size rfl (.string tb) (.int .i64 tn) (.string fb) (.int .i64 fn) (.bool tm) (.bool fm) (.slice a D.length cap) 57)
  have HRI := Lib.hid (fun W (h : Below w.heap.size w W) => pright_any tb fb tn fn tm fm a cap D W hD (hE.below h))
  have HAL := Lib.hid (fun W (h : Below w.heap.size w W) => all_any tb fb tn fn tm fm a cap D W hD (hE.below h))
  obtain ⟨L, hL⟩ : ∃ L, L = (tb, tn, tm) :: (fb, fn, fm) :: D := ⟨_, rfl⟩
  rw [← hL] at HRI HAL ⊢
  clear hE hL
  cases hr : rightP L
  · have HV := Lib.hid (show pputE L = .tuple #[.string ⟨#[]⟩, .int .i64 11] from by unfold pputE; rw [if_neg (by rw [hr]; simp)])
    rw [HV.out]
    rw [hr] at HRI
    go_enter Tryz.func106, Tryz.ntmps106
    go_wp2_with (go_at_call 64; (with_reducible refine (HRI.out _ HB0.out).mono ?_); rintro e w1 ⟨rfl, hb⟩; have HB := Lib.hid (HB0.out.trans (hb.mono HB0.out.size)); clear hb)
    exact bodyPost_ret (v := .tuple #[.string ⟨#[]⟩, .int .i64 11]) (by simp [results, Tryz.results106, go_sem]) rfl ⟨rfl, HB.out⟩
  · have HV := Lib.hid (show pputE L = .tuple #[.string ⟨(bytesP L L.length).toArray⟩, .int .i64 0] from by unfold pputE; rw [if_pos hr])
    rw [HV.out]
    rw [hr] at HRI
    have hll : 2 ≤ L.length ∧ L.length ≤ 10 ∧ ∀ e ∈ L, rightD e.1 e.2.1 = true := by
      unfold rightP at hr
      simp only [Bool.and_eq_true, decide_eq_true_eq] at hr
      exact ⟨hr.1.1.2, hr.1.2, List.all_eq_true.1 hr.1.1.1⟩
    obtain ⟨hl2, hl10, hall⟩ := hll
    have HCP := Lib.hid (show ∀ k (h : k < L.length) la W, Calls Tryz.prog 160 #[.agg #[.string L[k].1, .int .i64 L[k].2.1], .bool L[k].2.2, .bool la] W fun e w' => e = .returned (.tuple #[.string ⟨(putD L[k].1.data.toList L[k].2.1.toNat L[k].2.2 la).toArray⟩, .int .i64 0]) ∧ Below W.heap.size W w' from fun k h la W => by
      have hrk := hall _ (List.getElem_mem h)
      have q := cput_ok L[k].1 L[k].2.1 L[k].2.2 la W (by obtain ⟨_, h2, _⟩ := right_facts _ _ hrk; omega)
      unfold putE at q
      rw [if_pos hrk] at q
      exact q)
    have HN := Lib.hid (bytesP_next L)
    have HLN := Lib.hid (bytesP_len' L)
    obtain ⟨R, hR⟩ : ∃ R, R = bytesP L L.length := ⟨_, rfl⟩
    rw [← hR]
    have HRR := Lib.hid hR
    clear hall hr hR HV
    obtain ⟨p0, q0, pl⟩ := HP0.out.k0
    go_enter Tryz.func106, Tryz.ntmps106
    go_wp2_with (first
      | (go_at_call 64; (with_reducible refine (HRI.out _ HB0.out).mono ?_); rintro e w1 ⟨rfl, hb⟩; have HB := Lib.hid (HB0.out.trans (hb.mono HB0.out.size)); have HP1 := Lib.hid (HP0.out.below hb); clear hb p0 q0 pl; obtain ⟨⟨p0, q0, pl⟩, ⟨p1, q1, -⟩, ⟨p2, q2, -⟩, ⟨p3, q3, -⟩, ⟨p4, q4, -⟩, ⟨p5, q5, -⟩, ⟨p6, q6, -⟩⟩ := HP1.out)
      | (go_at_call 116; (with_reducible refine (HAL.out _ HB.out).mono ?_); rintro e w2 ⟨v, rfl, hv, hb⟩; obtain ⟨va, vc, hvv, hEE⟩ := hv.ents; subst hvv; have HE := Lib.hid hEE; replace HB := Lib.hid (HB.out.trans (hb.mono HB.out.size)); clear hb hv hEE))
    go_loopw [4, 17] (fun s i wx => ∃ k : Nat, k ≤ L.length ∧ i = .int .i64 k ∧ ∃ S : List UInt8, s = .string ⟨S.toArray⟩ ∧ Hid (S = bytesP L k ∧ Below w.heap.size w wx ∧ EntsAt wx va vc L)) (fun _ i _ => L.length - (intOf i).toNat)
    case atStart => exact ⟨0, by omega, rfl, [], rfl, Lib.hid ⟨rfl, HB.out, HE.out⟩⟩
    case round =>
      obtain ⟨k, hk, rfl, S, rfl, HQ⟩ := hrel
      clear HE HB
      by_cases hlt : k < L.length
      · have dk : decide ((k : Int) < (L.length : Int)) = true := decide_eq_true (by omega)
        obtain ⟨g, o, rfl, hg, c0, c1, c2⟩ := HQ.out.2.2.at_ k hlt
        have el : ((k : Int) == (L.length : Int) - 1) = decide (k + 1 = L.length) := by rw [Bool.eq_iff_iff, beq_iff_eq, decide_eq_true_eq]; omega
        have hP := HCP.out k hlt (decide (k + 1 = L.length))
        have hN := HN.out k hlt
        have hSl : S.length ≤ 70 := by rw [HQ.out.1, HLN.out k hk]; omega
        generalize decide (k + 1 = L.length) = la at *
        generalize L[k] = d at *
        obtain ⟨db, dn, dm⟩ := d
        simp only at c0 c1 c2 hP hN
        generalize hput : putD db.data.toList dn.toNat dm la = P at *
        have hPl : P.length = 7 := by rw [← hput]; exact put_len _ _ _ _
        have b1 := fun (w : World) => run_string_add_sum (P := Tryz.prog) (w := w) ⟨S.toArray⟩ ⟨P.toArray⟩ (by show S.toArray.size + P.toArray.size ≤ _; simp; omega)
        rw [show ((⟨S.toArray⟩ : ByteArray) ++ ⟨P.toArray⟩) = ⟨(S ++ P).toArray⟩ from bytes_ext' (by simp [ByteArray.data_append])] at b1
        have HPP := Lib.hid hP
        have HN2 := Lib.hid hN
        obtain ⟨S', hS'⟩ : ∃ S', S' = S ++ P := ⟨_, rfl⟩
        rw [← hS'] at b1
        have HS' := Lib.hid hS'
        have HB := Lib.hid (HQ.out.2.1.alloc HQ.out.2.1.size (.cells #[.string db, .int .i64 dn, .bool dm] 157))
        have HE := Lib.hid (HQ.out.2.2.alloc (.cells #[.string db, .int .i64 dn, .bool dm] 157))
        clear hP hN hput hS' hPl
        go_wp2_with (go_at_call 160; (with_reducible refine (HPP.out _).mono ?_); rintro e w3 ⟨rfl, hb⟩; replace HB := Lib.hid (HB.out.trans (hb.mono HB.out.size)); replace HE := Lib.hid (HE.out.below hb); clear hb)
        go_roundw
        case rel => exact ⟨k + 1, by omega, by go_num, S', rfl, Lib.hid ⟨by rw [HS'.out, HN2.out, ← HQ.out.1], HB.out, HE.out⟩⟩
        case measure => simp [intOf]; omega
      · obtain rfl : k = L.length := by omega
        have dk : decide ((L.length : Int) < (L.length : Int)) = false := decide_eq_false (by omega)
        have hS : S = R := by rw [HRR.out, HQ.out.1]
        subst hS
        go_wp2
        exact bodyPost_ret (v := .tuple #[.string ⟨S.toArray⟩, .int .i64 0]) (by simp [results, Tryz.results106, go_sem]) rfl ⟨rfl, HQ.out.2.1⟩
end Go.Proofs.YtgoaepjjegblnaaGreatDoor
namespace Go.Proofs.YtgoaepjjegblnaaGreatDoor
open Go.RowKit Go.Sort
set_option maxRecDepth 20000
/-- the number's byte -/
def pidB (k pid : Int) : List UInt8 := if pidD k then [UInt8.ofNat pid.toNat] else []
/-- a right frame's bytes -/
def bytesF (L : List Ent) (k nr ns : Int) (pf wide : Bool) (pid : Int) (info : List UInt8) : List UInt8 :=
  bytesP L L.length ++ (putB k.toNat nr.toNat ns.toNat pf wide ++ (pidB k pid ++ info))
end Go.Proofs.YtgoaepjjegblnaaGreatDoor
namespace Go.Proofs.YtgoaepjjegblnaaGreatDoor
open Go.RowKit Go.Sort
set_option maxRecDepth 20000
/-- bytes of calls from number k on, of n in all -/
def restP (n : Nat) : Nat → List Ent → List UInt8
  | _, [] => []
  | k, e :: M => putD e.1.data.toList e.2.1.toNat e.2.2 (decide (k + 1 = n)) ++ restP n (k + 1) M
theorem bytes_rest (L : List Ent) : ∀ k, k ≤ L.length → bytesP L k ++ restP L.length k (L.drop k) = bytesP L L.length := by
  intro k hk
  obtain ⟨j, hj⟩ : ∃ j, j = L.length - k := ⟨_, rfl⟩
  induction j generalizing k with
  | zero =>
    have : k = L.length := by omega
    subst this
    rw [List.drop_length, restP, List.append_nil]
  | succ j ih =>
    have hlt : k < L.length := by omega
    rw [← ih (k + 1) (by omega) (by omega), bytesP_next L k hlt, List.drop_eq_getElem_cons hlt, restP, List.append_assoc]
theorem right_path (L : List Ent) (h : rightP L = true) : (∀ e ∈ L, rightD e.1 e.2.1 = true) ∧ 2 ≤ L.length ∧ L.length ≤ 10 ∧ ordD (L.drop 2) = true := by
  unfold rightP at h
  simp only [Bool.and_eq_true, decide_eq_true_eq] at h
  exact ⟨List.all_eq_true.1 h.1.1.1, h.1.1.2, h.1.2, h.2⟩
end Go.Proofs.YtgoaepjjegblnaaGreatDoor
