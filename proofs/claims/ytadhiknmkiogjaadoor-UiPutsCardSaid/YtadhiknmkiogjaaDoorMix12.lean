/-
The landed code's Put of controls.
A right frame's bytes, as plain facts.
-/
import Derived.Test.YtadhiknmkiogjaaDoorCtlBase
import Derived.BigQuiet
import Derived.Deep.QuietTactic
import Derived.Test.YtadhiknmkiogjaaDoorMix10
import Derived.Test.YtadhiknmkiogjaaDoorMix11
namespace Go.Proofs.YtadhiknmkiogjaaDoor
open Go.RowKit
set_option maxRecDepth 20000
theorem u8n (N : Nat) (h : N < 256) : (N : Int) = (((UInt8.ofNat N).toNat : Nat) : Int) := by
  have e : (UInt8.ofNat N).toNat = N % 256 := rfl
  omega
theorem OwnB.conv1 (w : World) (n : Nat) (F : Int) (N : Nat) (hF : F = (N : Int)) (hN : N < 256) (hn : n = w.heap.size) :
    (convert 93 9 (.slice (some ⟨n, 0, none⟩) 1 1)).run Tryd.prog (w.alloc (.cells #[.int .u8 F] 5)) = .ok (.string ⟨#[UInt8.ofNat N]⟩) (w.alloc (.cells #[.int .u8 F] 5)) :=
  OwnB.text (OwnB.start w 0 n F (UInt8.ofNat N) (hF.trans (u8n N hN)) hn (by omega)) rfl
theorem OwnB.conv2 (w : World) (n : Nat) (F G : Int) (N M : Nat) (hF : F = (N : Int)) (hN : N < 256) (hG : G = (M : Int)) (hM : M < 256) (hn : n = w.heap.size) :
    (convert 93 9 (.slice (some ⟨n, 0, none⟩) 2 2)).run Tryd.prog (w.alloc (.cells #[.int .u8 F, .int .u8 G] 5)) = .ok (.string ⟨#[UInt8.ofNat N, UInt8.ofNat M]⟩) (w.alloc (.cells #[.int .u8 F, .int .u8 G] 5)) := by
  subst hn
  have h := World.ownsRow_lit (base := 0) (e := 5) (size := 1) w #[.int .u8 F, .int .u8 G] 2 (by omega) (by decide) rfl
  rw [hF, hG, u8n N hN, u8n M hM] at h ⊢
  exact OwnB.text (l := [UInt8.ofNat N, UInt8.ofNat M]) (B := 0) h rfl
set_option maxHeartbeats 1000000 in
theorem cput_one (k nr ns : Nat) (pf wide : Bool) (w : World) (hC : CodesOk w) (hr : rightC k nr ns wide = true) (hk : k < 15) (hnr : nr < 8) (hns : ns < 128) (hw : (wide && hasD k) = false) :
    Calls Tryd.prog 33 #[.agg #[.int .i64 (k : Int), .int .i64 (nr : Int), .int .i64 (ns : Int), .bool pf], .bool wide] w fun e w' => e = .returned (.tuple #[.string ⟨#[UInt8.ofNat (oneN k nr ns pf)]⟩, .int .i64 0]) ∧ Below w.heap.size w w' := by
  have hR := fun W => ccright_any k nr ns pf wide W
  rw [hr] at hR
  have HR := Lib.hid hR
  have HB := Lib.hid (fun b W => bit_any pf b W)
  have HN := Lib.hid (fun W => hasNr_any k W)
  have HB0 := Lib.hid ((Below.refl _ w).alloc (Nat.le_refl _) (.cells #[.int .i64 (k : Int), .int .i64 (nr : Int), .int .i64 (ns : Int), .bool pf] 63))
  have HA := Lib.hid (C4.new w w.heap.size rfl (.int .i64 (k : Int)) (.int .i64 (nr : Int)) (.int .i64 (ns : Int)) (.bool pf) 63)
  have hcc := fun W (hb : Below w.heap.size w W) => (hC.below hb).at_ k hk
  have HCC := Lib.hid hcc
  have hi : (k : Int) < 15 := by omega
  have HO := Lib.hid (one_bits k nr ns pf hk hnr hns)
  generalize oneN k nr ns pf = O at *
  generalize codeD k = C at *
  generalize hasD k = H at *
  clear hR hr hcc
  have key : ∀ x : Int, x = (if pf then 16 else 0) → bits BinOp.or .u8 (bits BinOp.or .u8 C ((ns : Int) * 2)) (bits BinOp.or .u8 ((nr : Int) * 32) x) = (O : Int) := fun x hx => by rw [hx]; exact HO.out.1
  have KEY := Lib.hid key
  have HO2 := Lib.hid HO.out.2
  clear key HO
  cases wide
  · go_enter Tryd.func33, Tryd.ntmps33
    go_wp2_with (go_at_call 50; (with_reducible refine (HR.out _).mono ?_); rintro e w1 ⟨rfl, hb⟩; have HB1 := Lib.hid (HB0.out.trans (hb.mono HB0.out.size)); have HA1 := Lib.hid (HA.out.below hb); have hcc := HCC.out _ HB1.out; obtain ⟨c0, c1, c2, c3, -, -, -, -, cl⟩ := HA1.out; clear hb)
    clear HR HA HCC HB0 HN
    go_quiet (fail)
    go_wp2
    have HA2 := Lib.hid (HA1.out.drewN nq)
    have HB2 := Lib.hid (show Below w.heap.size w (w1.drewN nq) from ⟨HB1.out.os, HB1.out.tape, HB1.out.output, HB1.out.size, HB1.out.block⟩)
    clear c0 c1 c2 c3 cl hcc HB1 HA1
    generalize w1.drewN nq = w2 at *
    obtain ⟨c0, c1, c2, c3, -, -, -, -, cl⟩ := HA2.out
    cases pf
    all_goals
      go_quiet ((go_at_call 54; exact Calls.quiet_of_same (HB.out _ _)))
      have hcv := OwnB.conv1 (w2.drewN nq) w2.heap.size _ O (KEY.out _ rfl) HO2.out rfl
      simp only [if_true, if_false, Bool.false_eq_true] at hcv
      have HB3 := Lib.hid (show Below w.heap.size w (w2.drewN nq) from ⟨HB2.out.os, HB2.out.tape, HB2.out.output, HB2.out.size, HB2.out.block⟩)
      go_wp2
      go_ret2
      exact ⟨rfl, HB3.out.alloc HB3.out.size _⟩
  · cases H
    · go_enter Tryd.func33, Tryd.ntmps33
      go_wp2_with (go_at_call 50; (with_reducible refine (HR.out _).mono ?_); rintro e w1 ⟨rfl, hb⟩; have HB1 := Lib.hid (HB0.out.trans (hb.mono HB0.out.size)); have HA1 := Lib.hid (HA.out.below hb); have hcc := HCC.out _ HB1.out; obtain ⟨c0, c1, c2, c3, -, -, -, -, cl⟩ := HA1.out; clear hb)
      clear HR HA HCC HB0
      go_quiet (fail)
      have HA2 := Lib.hid (HA1.out.drewN nq)
      have HB2 := Lib.hid (show Below w.heap.size w (w1.drewN nq) from ⟨HB1.out.os, HB1.out.tape, HB1.out.output, HB1.out.size, HB1.out.block⟩)
      clear c0 c1 c2 c3 cl hcc HB1 HA1
      generalize w1.drewN nq = w2 at *
      obtain ⟨c0, c1, c2, c3, -, -, -, -, cl⟩ := HA2.out
      go_wp2_with (go_at_call 53; (with_reducible refine (HN.out _).mono ?_); rintro e w3 ⟨rfl, rfl⟩)
      cases pf
      all_goals
        go_quiet ((go_at_call 54; exact Calls.quiet_of_same (HB.out _ _)))
        have hcv := OwnB.conv1 (w3.drewN nq) w3.heap.size _ O (KEY.out _ rfl) HO2.out rfl
        simp only [if_true, if_false, Bool.false_eq_true] at hcv
        have HB3 := Lib.hid (show Below w.heap.size w (w3.drewN nq) from ⟨HB2.out.os, HB2.out.tape, HB2.out.output, HB2.out.size, HB2.out.block⟩)
        go_wp2
        go_ret2
        exact ⟨rfl, HB3.out.alloc HB3.out.size _⟩
    · exact absurd hw (by simp)
set_option maxHeartbeats 1000000 in
theorem cput_two (k nr ns : Nat) (pf : Bool) (w : World) (hC : CodesOk w) (hr : rightC k nr ns true = true) (hk : k < 15) (hnr : nr < 128) (hns : ns < 128) (hw : hasD k = true) :
    Calls Tryd.prog 33 #[.agg #[.int .i64 (k : Int), .int .i64 (nr : Int), .int .i64 (ns : Int), .bool pf], .bool true] w fun e w' => e = .returned (.tuple #[.string ⟨#[UInt8.ofNat (firN k ns), UInt8.ofNat (secN nr pf)]⟩, .int .i64 0]) ∧ Below w.heap.size w w' := by
  have hR := fun W => ccright_any k nr ns pf true W
  rw [hr] at hR
  have HR := Lib.hid hR
  have HB := Lib.hid (fun b W => bit_any pf b W)
  have hN := fun W => hasNr_any k W
  rw [hw] at hN
  have HN := Lib.hid hN
  have HB0 := Lib.hid ((Below.refl _ w).alloc (Nat.le_refl _) (.cells #[.int .i64 (k : Int), .int .i64 (nr : Int), .int .i64 (ns : Int), .bool pf] 63))
  have HA := Lib.hid (C4.new w w.heap.size rfl (.int .i64 (k : Int)) (.int .i64 (nr : Int)) (.int .i64 (ns : Int)) (.bool pf) 63)
  have hcc := fun W (hb : Below w.heap.size w W) => (hC.below hb).at_ k hk
  have HCC := Lib.hid hcc
  have hi : (k : Int) < 15 := by omega
  have HO := Lib.hid (fir_bits k ns hk hns)
  have HQ := Lib.hid (sec_bits nr pf hnr)
  generalize firN k ns = O at *
  generalize secN nr pf = S at *
  generalize codeD k = C at *
  clear hR hr hcc hN hw
  have key : ∀ x : Int, x = (if pf then 1 else 0) → bits BinOp.or .u8 ((nr : Int) * 2) x = (S : Int) := fun x hx => by rw [hx]; exact HQ.out.1
  have KEY := Lib.hid key
  have HQ2 := Lib.hid HQ.out.2
  clear key HQ
  go_enter Tryd.func33, Tryd.ntmps33
  go_wp2_with (go_at_call 50; (with_reducible refine (HR.out _).mono ?_); rintro e w1 ⟨rfl, hb⟩; have HB1 := Lib.hid (HB0.out.trans (hb.mono HB0.out.size)); have HA1 := Lib.hid (HA.out.below hb); have hcc := HCC.out _ HB1.out; obtain ⟨c0, c1, c2, c3, -, -, -, -, cl⟩ := HA1.out; clear hb)
  clear HR HA HCC HB0
  go_quiet (fail)
  have HA2 := Lib.hid (HA1.out.drewN nq)
  have HB2 := Lib.hid (show Below w.heap.size w (w1.drewN nq) from ⟨HB1.out.os, HB1.out.tape, HB1.out.output, HB1.out.size, HB1.out.block⟩)
  clear c0 c1 c2 c3 cl hcc HB1 HA1
  generalize w1.drewN nq = w2 at *
  obtain ⟨c0, c1, c2, c3, -, -, -, -, cl⟩ := HA2.out
  go_wp2_with (go_at_call 53; (with_reducible refine (HN.out _).mono ?_); rintro e w3 ⟨rfl, rfl⟩)
  cases pf
  all_goals
    go_quiet ((go_at_call 54; exact Calls.quiet_of_same (HB.out _ _)))
    have hcv := OwnB.conv2 (w3.drewN nq) w3.heap.size _ _ O S HO.out.1 HO.out.2 (KEY.out _ rfl) HQ2.out rfl
    simp only [if_true, if_false, Bool.false_eq_true] at hcv
    have HB3 := Lib.hid (show Below w.heap.size w (w3.drewN nq) from ⟨HB2.out.os, HB2.out.tape, HB2.out.output, HB2.out.size, HB2.out.block⟩)
    go_wp2
    go_ret2
    exact ⟨rfl, HB3.out.alloc HB3.out.size _⟩
theorem cput_none (k nr ns : Int) (pf wide : Bool) (w : World) (hr : rightC k nr ns wide = false) :
    Calls Tryd.prog 33 #[.agg #[.int .i64 k, .int .i64 nr, .int .i64 ns, .bool pf], .bool wide] w fun e w' => e = .returned (.tuple #[.string ⟨#[]⟩, .int .i64 1]) ∧ Below w.heap.size w w' := by
  have hR := fun W => ccright_any k nr ns pf wide W
  rw [hr] at hR
  have HR := Lib.hid hR
  have HB0 := Lib.hid ((Below.refl _ w).alloc (Nat.le_refl _) (.cells #[.int .i64 k, .int .i64 nr, .int .i64 ns, .bool pf] 63))
  clear hR hr
  go_enter Tryd.func33, Tryd.ntmps33
  go_wp2_with (go_at_call 50; (with_reducible refine (HR.out _).mono ?_); rintro e w1 ⟨rfl, hb⟩; have HB1 := Lib.hid (HB0.out.trans (hb.mono HB0.out.size)); clear hb)
  go_ret2
  exact ⟨rfl, HB1.out⟩
/-- what Put answers -/
def cputE (k nr ns : Int) (pf wide : Bool) : Value := if rightC k nr ns wide then .tuple #[.string ⟨(putB k.toNat nr.toNat ns.toNat pf wide).toArray⟩, .int .i64 0] else .tuple #[.string ⟨#[]⟩, .int .i64 1]
theorem ctlput_any (k nr ns : Int) (pf wide : Bool) (w : World) (hC : CodesOk w) :
    Calls Tryd.prog 33 #[.agg #[.int .i64 k, .int .i64 nr, .int .i64 ns, .bool pf], .bool wide] w fun e w' => e = .returned (cputE k nr ns pf wide) ∧ Below w.heap.size w w' := by
  unfold cputE
  cases hr : rightC k nr ns wide
  · exact cput_none k nr ns pf wide w hr
  · obtain ⟨K, R, S, rfl, rfl, rfl, h1, h2, h3, h4, h5, h6, h7⟩ := rightC_facts hr
    rw [if_pos rfl]
    simp only [Int.toNat_natCast]
    unfold putB
    cases wide
    · rw [if_neg (by simp)]
      exact cput_one K R S pf false w hC hr h2 (h5 rfl).1 h7 rfl
    · cases hh : hasD K
      · rw [if_neg (by simp)]
        exact cput_one K R S pf true w hC hr h2 (by have := h3 hh; omega) h7 (by rw [hh]; rfl)
      · rw [if_pos (by simp)]
        exact cput_two K R S pf w hC hr h2 h6 h7 hh
end Go.Proofs.YtadhiknmkiogjaaDoor
namespace Go.Proofs.YtadhiknmkiogjaaDoor
open Go.RowKit Go.Sort
set_option maxRecDepth 20000
/-- the number's byte -/
def pidB (k pid : Int) : List UInt8 := if pidD k then [UInt8.ofNat pid.toNat] else []
/-- a right frame's bytes -/
def bytesF (L : List Ent) (k nr ns : Int) (pf wide : Bool) (pid : Int) (info : List UInt8) : List UInt8 :=
  bytesP L L.length ++ (putB k.toNat nr.toNat ns.toNat pf wide ++ (pidB k pid ++ info))
end Go.Proofs.YtadhiknmkiogjaaDoor
