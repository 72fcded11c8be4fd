/-
The landed list as it lies; the search for a station by a function that is handed in.
strings.Clone.
strings.Clone; a call's cells.
-/
import Derived.Test.YtmgfpnemamedoaaDoorMix01
import Derived.Test.YtmgfpnemamedoaaDoorMix00
import Derived.Test.YtmgfpnemamedoaaDoorMix02
import Derived.Shelf.Abstract
import Derived.Test.YtmgfpnemamedoaaDoorShelf
import Derived.Lib.SmallJoins
import Derived.Lib.ItoaNum
import Derived.Lib.QuietBelow
import Derived.Lib.IndexBytes
import Derived.IntWalk
namespace Go.Proofs.YtmgfpnemamedoaaDoor
open Go.RowKit Go.Sort
set_option maxRecDepth 20000
abbrev ptrH (p : Nat) : Value := .pointer (some ⟨p, 0, none⟩)
/-- a list as it lies: one cell, and its stations -/
structure HdAt (w : World) (p : Nat) (sv : Value) (L : List Hs) : Prop where
  row : RowAt w p [sv]
  own : OwnL encH 42 w (p + 1) sv L
  len : L.length ≤ 8
  small : ∀ h ∈ L, h.cb.size ≤ 1000 ∧ h.vb.size ≤ 1000
section
variable {w w' : World} {p : Nat} {sv : Value} {L : List Hs}
theorem HdAt.below (h : HdAt w p sv L) (hb : Below w.heap.size w w') : HdAt w' p sv L := ⟨h.row.below hb, h.own.below hb, h.len, h.small⟩
theorem HdAt.drew (h : HdAt w p sv L) : HdAt w.drew p sv L := ⟨h.row.drew, h.own.drew, h.len, h.small⟩
theorem HdAt.turn {F : Nat → Prop} (h : HdAt w p sv L) (ht : Turn F w w') (hp : ¬ F p) (hs : ∀ g, sv.ownBlock = some g → ¬ F g) : HdAt w' p sv L := ⟨h.row.turn ht hp, h.own.turn ht hs, h.len, h.small⟩
theorem HdAt.lt (h : HdAt w p sv L) : p < w.heap.size := h.row.lt
end
theorem found_some (c : ByteArray × Int) (L : List Hs) (i : Nat) (hi : i < L.length) (hq : isH c L[i] = true) (hb : ∀ k (_ : k < i) (hk' : k < L.length), isH c L[k] = false) : whereH L c = i ∧ foundH L c = i := by
  have e : whereH L c = i := by
    unfold whereH
    rw [List.findIdx_eq hi]
    exact ⟨hq, fun j hj => by have := hb j hj (by omega); rw [this]⟩
  refine ⟨e, ?_⟩
  unfold foundH
  rw [e, if_pos hi]
theorem found_none (c : ByteArray × Int) (L : List Hs) (hb : ∀ k (hk' : k < L.length), isH c L[k] = false) : foundH L c = -1 ∧ whereH L c = L.length := by
  have e : whereH L c = L.length := by
    unfold whereH
    rw [List.findIdx_eq_length]
    intro x hx
    obtain ⟨k, hk, rfl⟩ := List.mem_iff_getElem.1 hx
    exact hb k hk
  refine ⟨?_, e⟩
  unfold foundH
  rw [e, if_neg (Nat.lt_irrefl _)]
/-- is's function -/
theorem cis1_23 (b : Nat) (c : ByteArray × Int) (h : Hs) (w : World) (hr : RowAt w b [.string c.1, .int .i64 c.2]) :
    Calls Tryd.prog 38 #[.agg (hsL h).toArray, ptrH b] w fun e w' => e = .returned (.bool (isH c h)) ∧ Below w.heap.size w w' := by
  have hb0 := (Below.refl w.heap.size w).alloc (Nat.le_refl _) (.cells (hsL h).toArray 42)
  have hR := hr.below hb0
  have b0 := hR.cell 0 rfl
  have b1 := hR.cell 1 rfl
  have HB := Lib.hid hb0
  obtain ⟨r, hre⟩ : ∃ r, r = decide ((h.cb, h.cn) = (c.1, c.2)) := ⟨_, rfl⟩
  have heq := fun W => run_eq_call18 h.cb c.1 h.cn c.2 W r hre
  have his : isH c h = r := hre.symm
  rw [his]
  clear hr hR hb0 hre his
  go_enter Tryd.func38, Tryd.ntmps38
  go_wp2_with fail
  exact bodyPost_ret (v := .bool r) (by simp [results, Tryd.results38, go_sem]) rfl ⟨rfl, HB.out⟩
set_option maxHeartbeats 1000000 in
theorem cindex23 (b : Nat) (c : ByteArray × Int) (ad : Option Addr) (n cap : Nat) (L : List Hs) (w : World) (hn : L.length = n) (h : AtL encH w ad L) (hl : n ≤ 8) (hr : RowAt w b [.string c.1, .int .i64 c.2]) :
    Calls Tryd.prog 37 #[.slice ad n cap, .func (.func 38) #[] #[ptrH b]] w fun e w' => e = .returned (.int .i64 (foundH L c)) ∧ Below w.heap.size w w' := by
  have HN := Lib.hid hn
  have HA := Lib.hid h
  have hent := enters_of Tryd.func38 (by kernel_rfl) rfl
  have HI := Lib.hid (fun x W (hb : Below w.heap.size w W) => cis1_23 b c x W (hr.below hb))
  clear hn h hr
  go_enter Tryd.func37, Tryd.ntmps37
  go_wp2_with fail
  go_loopw [5, 8] (fun _ v wx => ∃ i : Nat, i ≤ n ∧ v = .int .i64 i ∧ Hid ((∀ k (hk : k < i) (hk' : k < L.length), isH c L[k] = false) ∧ Below w.heap.size w wx)) (fun _ v _ => n - (intOf v).toNat)
  case atStart => exact ⟨0, Nat.zero_le _, rfl, Lib.hid ⟨fun k hk => absurd hk (Nat.not_lt_zero _), Below.refl _ _⟩⟩
  case round =>
    obtain ⟨i, hi, rfl, HK⟩ := hrel
    by_cases hlt : i < n
    · have hL : i < L.length := by rw [HN.out]; exact hlt
      obtain ⟨g, o, rfl, -⟩ := HA.out.some_ (by omega)
      have hat := HA.out.below HK.out.2
      have c0 := hat.get i hL 0 rfl
      have c1 := hat.get i hL 1 rfl
      have c2 := hat.get i hL 2 rfl
      have c3 := hat.get i hL 3 rfl
      have c4 := hat.get i hL 4 rfl
      have c5 := hat.get i hL 5 rfl
      simp only [show encH.n = 6 from rfl, Nat.add_zero] at c0 c1 c2 c3 c4 c5
      have HB := Lib.hid HK.out.2
      have HKK := Lib.hid HK.out.1
      have HFS := Lib.hid (found_some c L i hL)
      have HIX := Lib.hid (show ∀ W, Below w.heap.size w W → Calls Tryd.prog 38 #[.agg #[.string L[i].cb, .int .i64 L[i].cn, .string L[i].vb, .int .i64 L[i].vn, .int .i64 L[i].cnt, .int .i64 L[i].at_], ptrH b] W fun e w' => e = .returned (.bool (isH c L[i])) ∧ Below W.heap.size W w' from fun W hb => HI.out L[i] W hb)
      have HST := Lib.hid (show isH c L[i] = false → ∀ k (hk : k < i + 1) (hk' : k < L.length), isH c L[k] = false from fun h0 k hk hk' => by
        by_cases e : k = i
        · subst e; exact h0
        · exact HKK.out k (by omega) hk')
      clear hat HK
      cases hq : isH c L[i] with
      | true =>
        have HR := Lib.hid (HFS.out hq HKK.out).2
        rw [hq] at HIX
        clear hq HST HFS
        generalize L[i] = x at *
        obtain ⟨xb, xn, yb, yn, xc, xt⟩ := x
        simp only at c0 c1 c2 c3 c4 c5 HIX
        go_wp2_with (go_at_call 38; (with_reducible refine (HIX.out _ HB.out).mono ?_); rintro e w1 ⟨rfl, hb⟩; have HB2 := Lib.hid (HB.out.trans (hb.mono HB.out.size)); clear hb)
        exact bodyPost_ret (v := .int .i64 i) (by simp [results, Tryd.results37, go_sem]) rfl ⟨by rw [HR.out], HB2.out⟩
      | false =>
        have HR := Lib.hid (HST.out hq)
        rw [hq] at HIX
        clear hq HST HFS
        generalize L[i] = x at *
        obtain ⟨xb, xn, yb, yn, xc, xt⟩ := x
        simp only at c0 c1 c2 c3 c4 c5 HIX
        go_wp2_with (go_at_call 38; (with_reducible refine (HIX.out _ HB.out).mono ?_); rintro e w1 ⟨rfl, hb⟩; have HB2 := Lib.hid (HB.out.trans (hb.mono HB.out.size)); clear hb)
        go_roundw
        case rel => exact ⟨i + 1, by omega, by go_num, Lib.hid ⟨HR.out, HB2.out⟩⟩
        case measure => simp [intOf]; omega
    · have HR := Lib.hid (found_none c L fun k hk => HK.out.1 k (by have := HN.out; omega) hk).1
      have e : i = n := by omega
      clear e
      go_wp2_with fail
      exact bodyPost_ret (v := .int .i64 (-1)) (by simp [results, Tryd.results37, go_sem]) rfl ⟨by rw [HR.out], HK.out.2⟩
theorem cwhere23 (b : Nat) (c : ByteArray × Int) (p : Nat) (sv : Value) (L : List Hs) (w : World) (h : HdAt w p sv L) (hr : RowAt w b [.string c.1, .int .i64 c.2]) :
    Calls Tryd.prog 22 #[ptrH p, .func (.func 38) #[] #[ptrH b]] w fun e w' => e = .returned (.int .i64 (foundH L c)) ∧ Below w.heap.size w w' := by
  obtain ⟨ad, cap, rfl, hA⟩ := h.own.see
  have c0 := h.row.cell 0 rfl
  have HI := Lib.hid (cindex23 b c ad L.length cap L w rfl hA h.len hr)
  generalize foundH L c = r at *
  generalize L.length = n at *
  clear h hr hA
  go_enter Tryd.func22, Tryd.ntmps22
  go_wp2_with (go_at_call 37; (with_reducible refine HI.out.mono ?_); rintro e w1 ⟨rfl, hb⟩; have HB := Lib.hid hb; clear hb)
  exact bodyPost_ret (v := .int .i64 r) (by simp [results, Tryd.results22, go_sem]) rfl ⟨rfl, HB.out⟩
theorem cis23 (c : ByteArray × Int) (w : World) : Calls Tryd.prog 23 #[.agg #[.string c.1, .int .i64 c.2]] w fun e w' => (∃ b, e = .returned (.func (.func 38) #[] #[ptrH b]) ∧ w.heap.size ≤ b ∧ RowAt w' b [.string c.1, .int .i64 c.2]) ∧ Below w.heap.size w w' := by
  have HB := Lib.hid ((Below.refl w.heap.size w).alloc (Nat.le_refl _) (.cells #[.string c.1, .int .i64 c.2] 27))
  have HR := Lib.hid (RowAt.new w w.heap.size rfl [.string c.1, .int .i64 c.2] 27)
  have hmf : ∀ (fn : Fn) (first cap : Array Value) (W : World), (Instr.makeFunc fn first cap).run Tryd.prog W = .ok (.func fn first cap) W := fun _ _ _ _ => rfl
  go_enter Tryd.func23, Tryd.ntmps23
  go_wp2_with fail
  exact bodyPost_ret (v := .func (.func 38) #[] #[ptrH w.heap.size]) (by simp [results, Tryd.results23, go_sem]) rfl ⟨⟨_, rfl, Nat.le_refl _, HR.out⟩, HB.out⟩
end Go.Proofs.YtmgfpnemamedoaaDoor
namespace Go.Proofs.YtmgfpnemamedoaaDoor
open Go.RowKit
set_option maxRecDepth 20000
theorem clone_any (s : ByteArray) (w : World) (h : s.size ≤ 140737488351232) : Calls Tryd.prog 25 #[.string s] w fun e w' => e = .returned (.string s) ∧ Below w.heap.size w w' := by
  have HC := Lib.hid (Tryd.stringslite_Clone s w (by omega))
  clear h
  go_enter Tryd.func25, Tryd.ntmps25
  go_wp2_with (go_at_call 39; (with_reducible refine HC.out.mono ?_); rintro e w1 ⟨rfl, hb⟩; have HB := Lib.hid hb; clear hb)
  go_ret
  exact ⟨rfl, HB.out⟩
end Go.Proofs.YtmgfpnemamedoaaDoor
namespace Go.Proofs.YtmgfpnemamedoaaDoor
open Go.RowKit Go.Sort
set_option maxRecDepth 20000
/-- a call's cells -/
def CAt1 (w W : World) (b : ByteArray) (n : Int) : Prop := (W.cell? ⟨w.heap.size, 0, none⟩ = some (.string b) ∧ W.cell? ⟨w.heap.size, 1, none⟩ = some (.int .i64 n)) ∧ Below w.heap.size w W ∧ w.heap.size < W.heap.size
theorem CAt1.start (w : World) (b : ByteArray) (n : Int) : CAt1 w (w.alloc (.cells #[.string b, .int .i64 n] 27)) b n :=
  ⟨⟨World.cell?_alloc_at _ _ _ _ rfl, World.cell?_alloc_at _ _ _ _ rfl⟩, (Below.refl _ w).alloc (Nat.le_refl _) _, by simp⟩
theorem CAt1.below {w W W' : World} {b : ByteArray} {n : Int} (h : CAt1 w W b n) (hb : Below W.heap.size W W') : CAt1 w W' b n := by
  obtain ⟨⟨x0, x1⟩, hw, hs⟩ := h
  have q := fun (m i : Nat) (hm : m < W.heap.size) => hb.cell (p := ⟨m, i, none⟩) hm
  exact ⟨⟨(q _ _ hs).trans x0, (q _ _ hs).trans x1⟩, hw.trans (hb.mono hw.size), Nat.lt_of_lt_of_le hs hb.size⟩
end Go.Proofs.YtmgfpnemamedoaaDoor
