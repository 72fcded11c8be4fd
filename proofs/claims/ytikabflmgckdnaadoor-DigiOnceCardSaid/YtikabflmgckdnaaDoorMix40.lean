/-
The walk of DigiNone.
What is handed in: a slice of anything that takes so many cells, opened by how one of them is; ints, bytes, arrays of two bytes.
What is handed in: a call, a slice of calls, a slice of texts; what the table of controls holds, out of the rows' conditions.
-/
import Derived.Test.YtikabflmgckdnaaDoorMix39
import Derived.Test.YtikabflmgckdnaaDoorMix30
import Derived.Test.YtikabflmgckdnaaDoorRows
import Derived.ProofKit
import Derived.SizedLaws
import Derived.Lib.SmallJoins
import Derived.Deep.Slices
import Derived.Deep.Fields
import Derived.Deep.Strs
import Derived.ChangeMaps5
import Derived.Test.YtikabflmgckdnaaDoorMix33
import Derived.Test.YtikabflmgckdnaaDoorTie
import Derived.Lay
import Derived.LaidMore
import Derived.Stop.LaidErr
import Derived.Stop.Joined
import Derived.Lib.LaidTab
import Derived.Shelf.Vars
import Derived.SevenTiedAt
import Derived.Deep.DeepHandedRow
namespace Go.Proofs.YtikabflmgckdnaaDoor
open Go.RowKit Go.Sort
set_option maxRecDepth 20000
theorem great_one (s : ByteArray) : greatB18 [s] = decide (1000 < s.size) := by
  unfold greatB18
  simp
set_option maxHeartbeats 1000000 in
theorem dinone_any {D : DiP} (hD : DiC D) (s : ByteArray) (b : ByteArray) (n : Int) (w : World) (hC : CodesOk w) : Calls Tryd.prog 5 #[.string s, .agg #[.string b, .int .i64 n]] w fun e w' => e = .returned (.bool true) ∧ Below w.heap.size w w' := by
  have hb0 := (Below.refl w.heap.size w).alloc (Nat.le_refl _) (.cells #[.string b, .int .i64 n] 23)
  have HAW := Lib.hid (cawake18 hD _ (hC.below hb0))
  have HR0 := Lib.hid (RowAt.new w w.heap.size rfl [.string b, .int .i64 n] 23)
  have HB0 := Lib.hid hb0
  have HGR := Lib.hid (fun W => great18 (some ⟨W.heap.size, 0, none⟩) 1 1 [s] (W.alloc (.cells #[.string s] 9)) rfl (AtL.made encS 9 W W.heap.size s [.string s] rfl rfl))
  rw [great_one] at HGR
  have HON := Lib.hid (fun W h => hD.on0 W s h)
  have HMI := Lib.hid (fun W => hD.mine0 W b n)
  have HCO := Lib.hid (fun W => hD.counts0 W)
  clear hb0 hD hC
  cases hg : decide (1000 < s.size) with
  | true =>
    rw [hg] at HGR
    clear hg HON HMI HCO
    go_enter Tryd.func5, Tryd.ntmps5
    go_wp2_with (first
      | (go_at_call 6; (with_reducible refine HAW.out.mono ?_); rintro e w1 ⟨rfl, hb⟩; have hb1 := HB0.out.trans (hb.mono HB0.out.size); have HB1 := Lib.hid (hb1.alloc hb1.size (.cells #[.string s] 9)); clear hb hb1)
      | (go_at_call 7; (with_reducible refine (HGR.out _).mono ?_); rintro e w2 ⟨rfl, rfl⟩))
    exact bodyPost_ret (v := .bool true) (by simp [results, Tryd.results5, go_sem]) rfl ⟨rfl, HB1.out⟩
  | false =>
    have hs : s.size ≤ 1000 := by
      rw [decide_eq_false_iff_not] at hg
      omega
    rw [hg] at HGR
    have HON2 := Lib.hid (fun W => HON.out W hs)
    clear hg HON
    go_enter Tryd.func5, Tryd.ntmps5
    go_wp2_with (first
      | (go_at_call 6; (with_reducible refine HAW.out.mono ?_); rintro e w1 ⟨rfl, hb⟩; have hb1 := hb.alloc hb.size (.cells #[.string s] 9); have HB1 := Lib.hid (HB0.out.trans (hb1.mono HB0.out.size)); have HR1 := Lib.hid (HR0.out.below hb1); clear hb hb1)
      | (go_at_call 7; (with_reducible refine (HGR.out _).mono ?_); rintro e w2 ⟨rfl, rfl⟩)
      | (go_at_call 10; (with_reducible refine (HON2.out _).mono ?_); rintro e w3 ⟨rfl, hb⟩; have HB3 := Lib.hid (HB1.out.trans (hb.mono HB1.out.size)); have HR3 := Lib.hid (HR1.out.below hb); clear hb)
      | (go_at_call 15; (with_reducible refine (HCO.out _).mono ?_); rintro e w4 ⟨rfl, hb⟩; have HB4 := Lib.hid (HB3.out.trans (hb.mono HB3.out.size)); have HR4 := Lib.hid (HR3.out.below hb); clear hb; have x0 := HR4.out.cell 0 rfl; have x1 := HR4.out.cell 1 rfl)
      | (go_at_call 16; (with_reducible refine (HMI.out _).mono ?_); rintro e w5 ⟨rfl, hb⟩; have HB5 := Lib.hid (HB4.out.trans (hb.mono HB4.out.size)); clear hb))
    exact bodyPost_ret (v := .bool true) (by simp [results, Tryd.results5, go_sem]) rfl ⟨rfl, HB5.out⟩
end Go.Proofs.YtikabflmgckdnaaDoor
namespace Go.Proofs.YtikabflmgckdnaaDoor
open Go.ChangeShapes Go.WideShapes Go.ChangeAt Go.RowKit Go.Joins Go.Deep
theorem Tryd.ownS : ownKnob Tryd.prog.godebug = none := by kernel_rfl
theorem Tryd.laidOutS : laidOutB Tryd.prog = true := by kernel_rfl
/-- an int is as wide as one -/
theorem bounds_i64 {n : Int} (h : (Lit.int .i64 n).wf = true) : -9223372036854775808 ≤ n ∧ n ≤ 9223372036854775807 := by
  simp only [Lit.wf, Bool.and_eq_true, decide_eq_true_eq] at h
  exact h
theorem byte_nat {n : Int} (h : (Lit.int .u8 n).wf = true) : ∃ b : Nat, n = (b : Int) ∧ b < 256 := by
  simp only [Lit.wf, Bool.and_eq_true, decide_eq_true_eq] at h
  have h3 : 0 ≤ n ∧ n ≤ 255 := h
  obtain ⟨b, hb⟩ := Int.eq_ofNat_of_zero_le h3.1
  exact ⟨b, hb, by omega⟩
/-- bytes as numbers -/
def encB : Enc Nat := ⟨1, by omega, fun b => [.int .u8 (b : Int)], fun _ => rfl, fun _ u hu => by rw [List.mem_singleton.1 hu]; rfl⟩
theorem byte_at {w : World} {g o : Nat} {L : List Nat} (h : AtL encB w (some ⟨g, o, none⟩) L) (k : Nat) (hk : k < L.length) : w.cell? ⟨g, o + k, none⟩ = some (.int .u8 (L[k] : Int)) := by
  have := h.get k hk 0 (u := .int .u8 (L[k] : Int)) rfl
  simpa [encB] using this
/-- one int's cell -/
theorem int_cells {H : Type} {enc : TypeId × Value → H} {w : World} {base n : Nat} {spare : Nat → Bool} {held : Bool} {cs : List Value} {y : DataW H × List MemPlace} {t : TypeId} (ht : Tryd.prog.underlying t = some (.int .i64))
    (h : DataW.trod enc Tryd.prog w base spare held n t cs = some y) : ∃ k : Int, cs = [.int .i64 k] ∧ -9223372036854775808 ≤ k ∧ k ≤ 9223372036854775807 := by
  obtain ⟨k, q, -, hw⟩ := DataW.trod_int ht h
  exact ⟨k, q, bounds_i64 hw⟩
/-- one byte's cell -/
theorem byte_cells {H : Type} {enc : TypeId × Value → H} {w : World} {base n : Nat} {spare : Nat → Bool} {held : Bool} {cs : List Value} {y : DataW H × List MemPlace} {t : TypeId} (ht : Tryd.prog.underlying t = some (.int .u8))
    (h : DataW.trod enc Tryd.prog w base spare held n t cs = some y) : ∃ k : Nat, cs = [.int .u8 (k : Int)] ∧ k < 256 := by
  obtain ⟨k, q, -, hw⟩ := DataW.trod_int ht h
  obtain ⟨b, rfl, hb⟩ := byte_nat hw
  exact ⟨b, q, hb⟩
/-- a slice of anything, out of one of them -/
theorem open_list {α : Type} [Inhabited α] (E : Enc α) (Q : α → Prop) {H : Type} {enc : TypeId × Value → H} {w : World} {fuel : Nat} {a0 : Option Addr} {len cap : Nat} {x : DataW H × List MemPlace} {ts te : TypeId}
    (ht : Tryd.prog.underlying ts = some (.slice te)) (hn : Tryd.prog.cellsOf te = E.n)
    (hone : ∀ (n : Nat) (cs : List Value) (y : DataW H × List MemPlace), cs.length = E.n → DataW.trod enc Tryd.prog w 0 (fun _ => true) true n te cs = some y → ∃ a, cs = E.enc a ∧ Q a)
    (h : DataW.trod enc Tryd.prog w 0 (fun _ => true) true fuel ts [.slice a0 len cap] = some x) : ∃ L : List α, L.length = len ∧ AtL E w a0 L ∧ ∀ y ∈ L, Q y := by
  rcases open_slice ht h with ⟨hcs, _⟩ | ⟨a, len', cap', m, n, D, Pl, hcs, _, hl, _, hm, _, hi⟩
  · simp at hcs
    obtain ⟨rfl, rfl, rfl⟩ := hcs
    exact ⟨[], rfl, AtL.nil _ _ _, fun y hy => by cases hy⟩
  · simp at hcs
    obtain ⟨rfl, rfl, rfl⟩ := hcs
    simp only [if_true] at hm
    have each : ∀ i, i < len → ∃ k : α, Q k ∧ ∀ j u, (E.enc k)[j]? = some u → w.cell? (a.add (i * E.n + j)) = some u := by
      intro i hlt
      obtain ⟨cs', hc, hts⟩ := hi i (by omega)
      rw [hn] at hc
      obtain ⟨hlc, _, hat⟩ := World.cells?_some hc
      obtain ⟨k, hr, hb⟩ := hone _ _ _ (by first | exact hlc | simpa using hlc | omega) hts
      refine ⟨k, hb, fun j u hj => ?_⟩
      have hjn : j < E.n := by
        have := (List.getElem?_eq_some_iff.1 hj).1
        rwa [E.len] at this
      have q0 := hat j hjn
      rw [add_add, hr] at q0
      rw [q0]
      exact hj
    obtain ⟨R, hR⟩ := choose_lt each
    refine ⟨(List.range len).map R, by simp, fun k h => ?_, fun y hy => ?_⟩
    · have hk : k < len := by simpa using h
      obtain ⟨b, off, spot⟩ := a
      have hne : ∃ u, (E.enc (R 0))[0]? = some u := ⟨_, List.getElem?_eq_getElem (by rw [E.len]; exact E.pos)⟩
      obtain ⟨u0, hu0⟩ := hne
      have hspot : spot = none := by simpa [Addr.add] using World.cell?_spot ((hR 0 (by omega)).2 0 u0 hu0)
      subst hspot
      have e : ((List.range len).map R)[k] = R k := by simp
      have hb : b < w.heap.size := World.block_lt_of_cell? w ⟨b, off + (0 * E.n + 0), none⟩ (by
        have := (hR 0 (by omega)).2 0 u0 hu0
        rwa [add_plain] at this)
      refine ⟨b, off, rfl, hb, fun j u hj => ?_⟩
      rw [e] at hj
      have q0 := (hR k hk).2 j u hj
      rw [add_plain] at q0
      rw [Nat.add_assoc]
      exact q0
    · obtain ⟨i, hi', rfl⟩ := List.mem_map.1 hy
      exact (hR i (by simpa using hi')).1
theorem array_two' {a : Array Value} (h : a.size = 2) : ∃ x y, a = #[x, y] := by
  obtain ⟨l⟩ := a
  match l, h with
  | [x, y], _ => exact ⟨x, y, rfl⟩
end Go.Proofs.YtikabflmgckdnaaDoor
namespace Go.Proofs.YtikabflmgckdnaaDoor
open Go.ChangeShapes Go.WideShapes Go.ChangeAt Go.RowKit Go.Joins Go.Deep Go.Sort
set_option maxRecDepth 100000
theorem g_codes18 : Tryd.prog.globalNamed "squelch/ctl.codes" = some 0 := by kernel_rfl
theorem codes_datum18 : (Rows.laid_squelch_ctl_codes : DataW Unit) = Lib.tabData .u8 codeL := by kernel_rfl
theorem codes_laid18 {W : World} {r : List (String × DataW Unit)} (h : laidMet Tryd.prog (("squelch/ctl.codes", Rows.laid_squelch_ctl_codes) :: r) W) : CodesOk W := by
  rw [codes_datum18] at h
  have k := Lib.tabIs_of_head g_codes18 (t := 115) (e := 5) (by kernel_rfl) Tryd.underlying115 Tryd.underlying5 (by kernel_rfl) (by kernel_rfl) h
  exact ⟨fun i hi => k.cell g_codes18 i hi⟩
theorem vars_digi {W : World} (h : laidMetH Tryd.prog Rows.digiNoneRow.laid W) : CodesOk W := by
  rw [MakeChecks.laidMetH_plain _ _ _ (by kernel_rfl)] at h
  exact codes_laid18 h
theorem met_digi (os : Os) (args : Array Value) : laidMetH Tryd.prog Rows.digiNoneRow.laid ((World.laidAll Tryd.prog os Rows.digiNoneRow.laid).forCall (fun _ _ => 0) ⟨#[], args, []⟩).memory := by
  rw [MakeChecks.laidMetH_plain _ _ _ (by kernel_rfl)]
  exact laidMet_laidAll _ (by kernel_rfl) (by kernel_rfl)
theorem Tryd.cellsCall18 : Tryd.prog.cellsOf 23 = 2 := by kernel_rfl
/-- a call that came in -/
theorem open_call18 {H : Type} {enc : TypeId × Value → H} {w : World} {base b0 : Nat} {spare : Nat → Bool} {held : Bool} {r : Reach} {v : Value} {d : DataW H} {ps : List MemPlace}
    (hv : Value.okWide Tryd.prog w r b0 23 v) (h : DataW.Trod enc Tryd.prog w base spare held 23 v d ps) : ps = [] ∧ ∃ (b : ByteArray) (n : Int), v = .agg #[.string b, .int .i64 n] := by
  obtain ⟨c0, c1, y0, y1, m, rfl, rfl, rfl, hy0, hy1⟩ := open_agg2 Tryd.underlying23 (by kernel_rfl) Tryd.cellsCall18 hv h
  obtain ⟨s, e0, rfl, ws⟩ := DataW.trod_string Tryd.underlying9 hy0
  obtain ⟨n, e1, rfl, _⟩ := DataW.trod_int Tryd.underlying3 hy1
  simp at e0 e1
  subst e0 e1
  exact ⟨rfl, s, n, rfl⟩
instance inhCl18 : Inhabited Cl := ⟨⟨ByteArray.empty, 0⟩⟩
instance inhS18 : Inhabited ByteArray := ⟨ByteArray.empty⟩
/-- a slice of calls that came in -/
theorem open_calls18 {H : Type} {enc : TypeId × Value → H} {w : World} {fuel : Nat} {a0 : Option Addr} {len cap : Nat} {x : DataW H × List MemPlace} (h : DataW.trod enc Tryd.prog w 0 (fun _ => true) true fuel 24 [.slice a0 len cap] = some x) :
    ∃ C : List Cl, C.length = len ∧ CallsAt w a0 C ∧ (a0 = none → cap = 0) := by
  obtain ⟨C, h1, h2, -⟩ := open_list encCl (fun _ => True) Tryd.underlying24 Tryd.cellsCall18 (fun n cs y hl ht => by
    obtain ⟨xs, n', _, hx, _, hlen, hg⟩ := DataW.trod_struct Tryd.underlying23 ht
    match cs, hl with
    | [c0, c1], _ =>
      match xs, hlen with
      | [y0, y1], _ =>
        have g0 := (show DataW.trod enc Tryd.prog w 0 (fun _ => true) true n' 9 (List.take (Tryd.prog.cellsOf 9) (List.drop 0 [c0, c1])) = some y0 from hg 0 _ rfl)
        have g1 := (show DataW.trod enc Tryd.prog w 0 (fun _ => true) true n' 3 (List.take (Tryd.prog.cellsOf 3) (List.drop 1 [c0, c1])) = some y1 from hg 1 _ rfl)
        rw [show Tryd.prog.cellsOf 9 = 1 by kernel_rfl] at g0
        rw [show Tryd.prog.cellsOf 3 = 1 by kernel_rfl] at g1
        obtain ⟨s, e0, -, -⟩ := DataW.trod_string Tryd.underlying9 g0
        obtain ⟨k, e1, -, -⟩ := DataW.trod_int Tryd.underlying3 g1
        simp at e0 e1
        subst e0 e1
        exact ⟨(s, k), rfl, trivial⟩) h
  refine ⟨C, h1, h2.calls, fun h0 => ?_⟩
  rcases open_slice Tryd.underlying24 h with ⟨hcs, _⟩ | ⟨a, len', cap', m, n, D, Pl, hcs, _⟩
  · simp at hcs
    exact hcs.2.2
  · simp at hcs
    rw [h0] at hcs
    cases hcs.1
/-- a slice of texts that came in -/
theorem open_texts18 {H : Type} {enc : TypeId × Value → H} {w : World} {fuel : Nat} {a0 : Option Addr} {len cap : Nat} {x : DataW H × List MemPlace} (h : DataW.trod enc Tryd.prog w 0 (fun _ => true) true fuel 25 [.slice a0 len cap] = some x) :
    ∃ L : List ByteArray, L.length = len ∧ AtL encS w a0 L := by
  obtain ⟨L, h1, h2, -⟩ := open_list encS (fun _ => True) Tryd.underlying25 (by kernel_rfl) (fun _ _ _ _ ht => by
    obtain ⟨s, q, -, -⟩ := DataW.trod_string Tryd.underlying9 ht
    exact ⟨s, q, trivial⟩) h
  exact ⟨L, h1, h2⟩
end Go.Proofs.YtikabflmgckdnaaDoor
