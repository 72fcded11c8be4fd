/-
The landed code's all.
Contracts of Go's library at this translation, laid: one application each.
strings.Clone.
strings.Clone; a call's cells.
-/
import Derived.Test.YtgoaepjjegblnaaGreatDoorMix01
import Derived.Test.YtgoaepjjegblnaaGreatDoorMix02
import Derived.Lib.SmallJoins
import Derived.Lib.ItoaNum
import Derived.Lib.QuietBelow
import Derived.Lib.IndexBytes
import Derived.IntWalk
import Derived.Shelf.Strings.Trim
import Derived.Shelf.LaysM
import Derived.Shelf.Strconv.Clone
import Derived.Test.YtgoaepjjegblnaaGreatDoorProg
import Derived.Test.YtgoaepjjegblnaaGreatDoorMix00
namespace Go.Proofs.YtgoaepjjegblnaaGreatDoor
open Go.RowKit Go.Sort
set_option maxRecDepth 20000
set_option maxHeartbeats 1000000 in
theorem all_any (tb fb : ByteArray) (tn fn : Int) (tm fm : Bool) (a : Option Addr) (cap : Nat) (D : List Ent) (w : World) (hD : D.length ≤ 1000) (hE : EntsAt w a cap D) :
    Calls Tryz.prog 116 #[.agg #[.string tb, .int .i64 tn, .string fb, .int .i64 fn, .bool tm, .bool fm, .slice a D.length cap]] w fun e w' => ∃ v, e = .returned v ∧ OwnE 157 w' w.heap.size v ((tb, tn, tm) :: (fb, fn, fm) :: D) ∧ Below w.heap.size w w' := by
  have hb0 : Below w.heap.size w (w.alloc (.cells #[.string tb, .int .i64 tn, .string fb, .int .i64 fn, .bool tm, .bool fm, .slice a D.length cap] 57)) := (Below.refl _ w).alloc (Nat.le_refl _) _
  have HO := Lib.hid (OwnE.lit2 (w.alloc (.cells #[.string tb, .int .i64 tn, .string fb, .int .i64 fn, .bool tm, .bool fm, .slice a D.length cap] 57)) (w.heap.size + 1) w.heap.size (by simp) (by omega) tb fb tn fn tm fm 157)
  have HB0 := Lib.hid (hb0.alloc hb0.size (.cells #[.string tb, .int .i64 tn, .bool tm, .string fb, .int .i64 fn, .bool fm] 157))
  have HE := Lib.hid (hE.below HB0.out)
  have HL := Lib.hid (show [(tb, tn, tm), (fb, fn, fm)].length + D.length ≤ 100000 from by simp; omega)
  clear hE hb0
  go_enter Tryz.func116, Tryz.ntmps116
  go_wp2_with (at_builtin; refine wpList_append_ents infoD Tryz.underlying55 _ rfl (.tmp 13) (.tmp 15) rfl _ _ [(tb, tn, tm), (fb, fn, fm)] D rfl HO.out _ _ rfl HE.out HL.out HB0.out.size ?_; intro v' w1 hown hgr hov; have HX := Lib.hid (And.intro hown (HB0.out.grown hgr HB0.out.size (fun k hk => (HO.out.ge hk).1))); clear hown hgr hov)
  go_ret
  exact ⟨v', rfl, HX.out.1, HX.out.2⟩
theorem right_cons (x y : Ent) (D : List Ent) : rightP (x :: y :: D) = (decide (D.length ≤ 8) && ordD D && ((x :: y :: D).all fun e => rightD e.1 e.2.1)) := by
  unfold rightP
  generalize (List.all (x :: y :: D) fun e => rightD e.1 e.2.1) = A
  have h1 : decide (2 ≤ (x :: y :: D).length) = true := decide_eq_true (by simp)
  have h2 : decide ((x :: y :: D).length ≤ 10) = decide (D.length ≤ 8) := decide_eq_decide.2 (by simp)
  rw [h1, h2]
  show (A && true && _ && ordD D) = _
  cases A <;> simp
set_option maxHeartbeats 1000000 in
theorem pright_any (tb fb : ByteArray) (tn fn : Int) (tm fm : Bool) (a : Option Addr) (cap : Nat) (D : List Ent) (w : World) (hD : D.length ≤ 1000) (hE : EntsAt w a cap D) :
    Calls Tryz.prog 64 #[.agg #[.string tb, .int .i64 tn, .string fb, .int .i64 fn, .bool tm, .bool fm, .slice a D.length cap]] w fun e w' => e = .returned (.bool (rightP ((tb, tn, tm) :: (fb, fn, fm) :: D))) ∧ Below w.heap.size w w' := by
  rw [right_cons]
  obtain ⟨W0, hW0⟩ : ∃ W0, W0 = (w.alloc (.cells #[.string tb, .int .i64 tn, .string fb, .int .i64 fn, .bool tm, .bool fm, .slice a D.length cap] 57)) := ⟨_, rfl⟩
  have hb0 : Below w.heap.size w W0 := by rw [hW0]; exact (Below.refl _ w).alloc (Nat.le_refl _) _
  have HK := Lib.hid (show P7 W0 w.heap.size _ _ _ _ _ _ _ from hW0 ▸ P7.new w w.heap.size rfl (.string tb) (.int .i64 tn) (.string fb) (.int .i64 fn) (.bool tm) (.bool fm) (.slice a D.length cap) 57)
  have HB0 := Lib.hid hb0
  have HIN := Lib.hid (fun W (h : Below w.heap.size w W) => inOrder_any a cap D W hD (hE.below h))
  have HAL := Lib.hid (fun W (h : Below w.heap.size w W) => all_any tb fb tn fn tm fm a cap D W hD (hE.below h))
  have HRI := Lib.hid (fun b n W => cright_any b n W)
  obtain ⟨L, hL⟩ : ∃ L, L = (tb, tn, tm) :: (fb, fn, fm) :: D := ⟨_, rfl⟩
  rw [← hL] at HAL ⊢
  have hLl : L.length ≤ 1002 := by rw [hL]; simp; omega
  have HN := Lib.hid (show ∀ k (h : k < L.length), rightD L[k].1 L[k].2.1 = false → (L.all fun e => rightD e.1 e.2.1) = false from fun k h hx => by
    rw [List.all_eq_false]
    exact ⟨L[k], List.getElem_mem h, by rw [hx]; simp⟩)
  have HY := Lib.hid (show (∀ k (h : k < L.length), rightD L[k].1 L[k].2.1 = true) → (L.all fun e => rightD e.1 e.2.1) = true from fun hx => by
    rw [List.all_eq_true]
    intro x hm
    obtain ⟨i, hi, rfl⟩ := List.getElem_of_mem hm
    exact hx i hi)
  generalize (L.all fun e => rightD e.1 e.2.1) = A at *
  generalize ordD D = O at *
  clear hL hE hb0
  by_cases h8 : D.length ≤ 8
  · have d8 : decide ((8 : Int) < (D.length : Int)) = false := decide_eq_false (by omega)
    rw [decide_eq_true h8, Bool.true_and]
    subst hW0
    cases O
    · rw [Bool.false_and]
      go_enter Tryz.func64, Tryz.ntmps64
      go_wp2_with (go_at_call 115; (with_reducible refine (HIN.out _ HB0.out).mono ?_); rintro e w1 ⟨rfl, hb⟩; have HB := Lib.hid (HB0.out.trans (hb.mono HB0.out.size)); clear hb)
      go_ret
      exact ⟨rfl, HB.out⟩
    · rw [Bool.true_and]
      go_enter Tryz.func64, Tryz.ntmps64
      go_wp2_with (first
        | (go_at_call 115; (with_reducible refine (HIN.out _ HB0.out).mono ?_); rintro e w1 ⟨rfl, hb⟩; have HB := Lib.hid (HB0.out.trans (hb.mono HB0.out.size)); have HK1 := Lib.hid (HK.out.below hb); clear hb HK; obtain ⟨⟨c0, -, cl⟩, ⟨c1, -, -⟩, ⟨c2, -, -⟩, ⟨c3, -, -⟩, ⟨c4, -, -⟩, ⟨c5, -, -⟩, ⟨c6, -, -⟩⟩ := HK1.out)
        | (go_at_call 116; (with_reducible refine (HAL.out _ HB.out).mono ?_); rintro e w2 ⟨v, rfl, hv, hb⟩; have HE2 := Lib.hid hv.ents; replace HB := Lib.hid (HB.out.trans (hb.mono HB.out.size)); clear hb hv; obtain ⟨va, vc, hvv, hEE⟩ := HE2.out; subst hvv; have HE := Lib.hid hEE; clear hEE HE2))
      go_loopw [18] (fun i wx => ∃ k : Nat, k ≤ L.length ∧ i = .int .i64 k ∧ Hid ((∀ j (hj : j < k), ∀ hl : j < L.length, rightD L[j].1 L[j].2.1 = true) ∧ Below w.heap.size w wx ∧ EntsAt wx va vc L)) (fun i _ => L.length - (intOf i).toNat)
      case atStart => exact ⟨0, by omega, rfl, Lib.hid ⟨fun j hj => by omega, HB.out, HE.out⟩⟩
      case round =>
        obtain ⟨k, hk, rfl, HQ⟩ := hrel
        clear HE HB c0 c1 c2 c3 c4 c5 c6 HK1 cl
        by_cases hlt : k < L.length
        · have dk : decide ((k : Int) < (L.length : Int)) = true := decide_eq_true (by omega)
          obtain ⟨g, o, rfl, hg, c0, c1, c2⟩ := HQ.out.2.2.at_ k hlt
          have HN2 := Lib.hid (HN.out k hlt)
          generalize hd : L[k] = d at *
          obtain ⟨db, dn, dm⟩ := d
          simp only at c0 c1 c2 HN2
          have HDD := Lib.hid hd
          clear hd
          have HRR := Lib.hid (HRI.out db dn)
          have HB := Lib.hid (HQ.out.2.1.alloc HQ.out.2.1.size (.cells #[.string db, .int .i64 dn, .bool dm] 157))
          have HE := Lib.hid (HQ.out.2.2.alloc (.cells #[.string db, .int .i64 dn, .bool dm] 157))
          cases hr : rightD db dn
          · have hf := HN2.out hr
            subst hf
            rw [hr] at HRR
            go_wp2_with (go_at_call 90; (with_reducible refine (HRR.out _).mono ?_); rintro e w3 ⟨rfl, hb⟩; replace HB := Lib.hid (HB.out.trans (hb.mono HB.out.size)); clear hb)
            go_ret
            exact ⟨rfl, HB.out⟩
          · rw [hr] at HRR
            go_wp2_with (go_at_call 90; (with_reducible refine (HRR.out _).mono ?_); rintro e w3 ⟨rfl, hb⟩; replace HB := Lib.hid (HB.out.trans (hb.mono HB.out.size)); replace HE := Lib.hid (HE.out.below hb); clear hb)
            go_roundw
            case rel =>
              refine ⟨k + 1, by omega, by go_num, Lib.hid ⟨fun j hj hl => ?_, HB.out, HE.out⟩⟩
              by_cases hjk : j = k
              · subst hjk; rw [HDD.out]; exact hr
              · exact HQ.out.1 j (by omega) hl
            case measure => simp [intOf]; omega
        · obtain rfl : k = L.length := by omega
          have dk : decide ((L.length : Int) < (L.length : Int)) = false := decide_eq_false (by omega)
          have hf := HY.out (fun j hj => HQ.out.1 j hj hj)
          subst hf
          go_wp2
          go_ret
          exact ⟨rfl, HQ.out.2.1⟩
  · have d8 : decide ((8 : Int) < (D.length : Int)) = true := decide_eq_true (by omega)
    rw [decide_eq_false h8, Bool.false_and, Bool.false_and]
    subst hW0
    go_enter Tryz.func64, Tryz.ntmps64
    go_wp2_with fail
    go_ret
    exact ⟨rfl, HB0.out⟩
end Go.Proofs.YtgoaepjjegblnaaGreatDoor
namespace Go.Proofs
open Go.Shelf
def Tryz.lays162_ren : Go.Shelf.Ren := ⟨fun | 162 => 236 | 232 => 237 | 227 => 238 | 234 => 239 | 236 => 240 | 228 => 241 | 271 => 242 | 151 => 243 | 120 => 244 | 197 => 245 | 152 => 246 | 260 => 247 | 137 => 248 | 119 => 249 | 224 => 250 | 225 => 251 | 217 => 252 | 266 => 253 | n => n, fun | 9 => 9 | 4 => 4 | 3 => 3 | 5 => 5 | 117 => 323 | 116 => 322 | 0 => 0 | 124 => 326 | 21 => 21 | 105 => 327 | 46 => 238 | 119 => 334 | 139 => 337 | 138 => 336 | n => n, fun | 3 => 1 | 4 => 2 | n => n⟩
theorem Tryz.lays162 : Go.Proofs.Lays.n162 Tryz.prog Tryz.lays162_ren := {
  mixed := by kernel_rfl
  f119 := Tryz.func249.trans (congrArg some (by kernel_rfl))
  f120 := Tryz.func244.trans (congrArg some (by kernel_rfl))
  f137 := Tryz.func248.trans (congrArg some (by kernel_rfl))
  f151 := Tryz.func243.trans (congrArg some (by kernel_rfl))
  f152 := Tryz.func246.trans (congrArg some (by kernel_rfl))
  f162 := Tryz.func236.trans (congrArg some (by kernel_rfl))
  f197 := Tryz.func245.trans (congrArg some (by kernel_rfl))
  f217 := Tryz.func252.trans (congrArg some (by kernel_rfl))
  f224 := Tryz.func250.trans (congrArg some (by kernel_rfl))
  f225 := Tryz.func251.trans (congrArg some (by kernel_rfl))
  f227 := Tryz.func238.trans (congrArg some (by kernel_rfl))
  f228 := Tryz.func241.trans (congrArg some (by kernel_rfl))
  f232 := Tryz.func237.trans (congrArg some (by kernel_rfl))
  f234 := Tryz.func239.trans (congrArg some (by kernel_rfl))
  f236 := Tryz.func240.trans (congrArg some (by kernel_rfl))
  f260 := Tryz.func247.trans (congrArg some (by kernel_rfl))
  f266 := Tryz.func253.trans (congrArg some (by kernel_rfl))
  f271 := Tryz.func242.trans (congrArg some (by kernel_rfl))
  t0 := Tryz.underlying0
  a0 := Tryz.isAgg0
  z0 := Tryz.sizeOf0
  v0 := Tryz.zeroValue0
  t3 := Tryz.underlying3
  a3 := Tryz.isAgg3
  z3 := Tryz.sizeOf3
  v3 := Tryz.zeroValue3
  t4 := Tryz.underlying4
  a4 := Tryz.isAgg4
  z4 := Tryz.sizeOf4
  v4 := Tryz.zeroValue4
  t5 := Tryz.underlying5
  a5 := Tryz.isAgg5
  z5 := Tryz.sizeOf5
  v5 := Tryz.zeroValue5
  t9 := Tryz.underlying9
  a9 := Tryz.isAgg9
  z9 := Tryz.sizeOf9
  v9 := Tryz.zeroValue9
  t21 := Tryz.underlying21
  a21 := Tryz.isAgg21
  z21 := Tryz.sizeOf21
  v21 := Tryz.zeroValue21
  t46 := Tryz.underlying238
  a46 := Tryz.isAgg238
  z46 := Tryz.sizeOf238
  v46 := Tryz.zeroValue238
  t105 := Tryz.underlying327
  a105 := Tryz.isAgg327
  z105 := Tryz.sizeOf327
  v105 := Tryz.zeroValue327
  t116 := Tryz.underlying322
  a116 := Tryz.isAgg322
  z116 := Tryz.sizeOf322
  t117 := Tryz.underlying323
  a117 := Tryz.isAgg323
  z117 := Tryz.sizeOf323
  v117 := Tryz.zeroValue323
  t119 := Tryz.underlying334
  a119 := Tryz.isAgg334
  z119 := Tryz.sizeOf334
  t124 := Tryz.underlying326
  a124 := Tryz.isAgg326
  z124 := Tryz.sizeOf326
  v124 := Tryz.zeroValue326
  t138 := Tryz.underlying336
  a138 := Tryz.isAgg336
  z138 := Tryz.sizeOf336
  v138 := Tryz.zeroValue336
  t139 := Tryz.underlying337
  a139 := Tryz.isAgg337
  z139 := Tryz.sizeOf337
  v139 := Tryz.zeroValue337
  g3 := by kernel_rfl
  g4 := by kernel_rfl }
open Go.RowKit in
theorem Tryz.strings_TrimRight_one (s : ByteArray) (c : UInt8) (hc : c.toNat < 128) (w : World) (hs : s.size ≤ 9223372036854775807) :
    Calls Tryz.prog 236 #[.string s, .string ⟨#[c]⟩] w fun e w' => e = .returned (.string ⟨(Lib.trimRightB s.data.toList c).toArray⟩) ∧ w' = w := Any.strings_TrimRight_one Tryz.lays162 s c hc w hs
def Tryz.laysM316_ren : Go.Shelf.Ren := ⟨fun | 316 => 157 | n => n, fun | 9 => 9 | 3 => 3 | 4 => 4 | 37 => 194 | 0 => 0 | 127 => 275 | 5 => 5 | n => n, fun | n => n⟩
theorem Tryz.laysM316 : Go.Proofs.LaysM.n316 Tryz.prog Tryz.laysM316_ren := {
  mixed := by kernel_rfl
  f316 := Tryz.func157.trans (congrArg some (by kernel_rfl))
  t0 := Tryz.underlying0
  a0 := Tryz.isAgg0
  z0 := Tryz.sizeOf0
  v0 := Tryz.zeroValue0
  t3 := Tryz.underlying3
  a3 := Tryz.isAgg3
  z3 := Tryz.sizeOf3
  v3 := Tryz.zeroValue3
  t4 := Tryz.underlying4
  a4 := Tryz.isAgg4
  z4 := Tryz.sizeOf4
  v4 := Tryz.zeroValue4
  t9 := Tryz.underlying9
  a9 := Tryz.isAgg9
  z9 := Tryz.sizeOf9
  v9 := Tryz.zeroValue9
  t37 := Tryz.underlying194
  a37 := Tryz.isAgg194
  z37 := Tryz.sizeOf194
  v37 := Tryz.zeroValue194
  t127 := Tryz.underlying275
  a127 := Tryz.isAgg275
  z127 := Tryz.sizeOf275
  v127 := Tryz.zeroValue275
  t5 := Tryz.underlying5
  a5 := Tryz.isAgg5
  z5 := Tryz.sizeOf5
  v5 := Tryz.zeroValue5
  i0 := by kernel_rfl
  i3 := by kernel_rfl
  i4 := by kernel_rfl
  i5 := by kernel_rfl
  i9 := by kernel_rfl
  i37 := by kernel_rfl
  i127 := by kernel_rfl }
open Go.RowKit in
theorem Tryz.stringslite_Clone (s : ByteArray) (w : World) (hlim : s.size ≤ 281474976710656) :
    Calls Tryz.prog 157 #[.string s] w fun e w' => e = .returned (.string s) ∧ Below w.heap.size w w' := Any.stringslite_Clone Tryz.laysM316 s w hlim
end Go.Proofs
namespace Go.Proofs.YtgoaepjjegblnaaGreatDoor
open Go.RowKit
set_option maxRecDepth 20000
theorem clone_any (s : ByteArray) (w : World) (h : s.size ≤ 140737488351232) : Calls Tryz.prog 104 #[.string s] w fun e w' => e = .returned (.string s) ∧ Below w.heap.size w w' := by
  have HC := Lib.hid (Tryz.stringslite_Clone s w (by omega))
  clear h
  go_enter Tryz.func104, Tryz.ntmps104
  go_wp2_with (go_at_call 157; (with_reducible refine HC.out.mono ?_); rintro e w1 ⟨rfl, hb⟩; have HB := Lib.hid hb; clear hb)
  go_ret
  exact ⟨rfl, HB.out⟩
end Go.Proofs.YtgoaepjjegblnaaGreatDoor
namespace Go.Proofs.YtgoaepjjegblnaaGreatDoor
open Go.RowKit Go.Sort
set_option maxRecDepth 20000
/-- a call's cells -/
def CAt1 (w W : World) (b : ByteArray) (n : Int) : Prop := (W.cell? ⟨w.heap.size, 0, none⟩ = some (.string b) ∧ W.cell? ⟨w.heap.size, 1, none⟩ = some (.int .i64 n)) ∧ Below w.heap.size w W ∧ w.heap.size < W.heap.size
theorem CAt1.start (w : World) (b : ByteArray) (n : Int) : CAt1 w (w.alloc (.cells #[.string b, .int .i64 n] 54)) b n :=
  ⟨⟨World.cell?_alloc_at _ _ _ _ rfl, World.cell?_alloc_at _ _ _ _ rfl⟩, (Below.refl _ w).alloc (Nat.le_refl _) _, by simp⟩
theorem CAt1.below {w W W' : World} {b : ByteArray} {n : Int} (h : CAt1 w W b n) (hb : Below W.heap.size W W') : CAt1 w W' b n := by
  obtain ⟨⟨x0, x1⟩, hw, hs⟩ := h
  have q := fun (m i : Nat) (hm : m < W.heap.size) => hb.cell (p := ⟨m, i, none⟩) hm
  exact ⟨⟨(q _ _ hs).trans x0, (q _ _ hs).trans x1⟩, hw.trans (hb.mono hw.size), Nat.lt_of_lt_of_le hs hb.size⟩
end Go.Proofs.YtgoaepjjegblnaaGreatDoor
