/-
What the two tables hold, out of the rows' conditions; worlds that meet them; a control that came in.
-/
import Derived.Test.YtplandmnmdkjmaaDoorCtlBase
import Derived.Test.YtplandmnmdkjmaaDoorCtlName
import Derived.Test.YtplandmnmdkjmaaDoorRows
import Derived.Test.YtplandmnmdkjmaaDoorTie
import Derived.ProofKit
import Derived.Lay
import Derived.LaidMore
import Derived.Stop.LaidErr
import Derived.Stop.Joined
import Derived.Lib.LaidTab
import Derived.Shelf.Vars
import Derived.SevenTiedAt
import Derived.Deep.DeepHandedRow
import Derived.SizedLaws
import Derived.Lib.SmallJoins
import Derived.ChangeMaps5
import Derived.BigRegion
import Derived.IntWalk
import Derived.WalkKit
import Derived.WalkSpells
import Derived.WalkLawsBesides
import Derived.Laws.BitsAllLaws
import Derived.Laws.ShiftsVarLaws
import Derived.Lib.Hide
import Derived.BigQuiet
import Derived.Deep.QuietTactic
namespace Go.Proofs.YtplandmnmdkjmaaDoor
open Go.ChangeShapes Go.WideShapes Go.ChangeAt Go.RowKit Go.Joins
set_option maxRecDepth 100000
theorem Tryd.ownC : ownKnob Tryd.prog.godebug = none := by kernel_rfl
theorem Tryd.laidOutC : laidOutB Tryd.prog = true := by kernel_rfl
theorem Tryd.cellsCtl : Tryd.prog.cellsOf 28 = 4 := by kernel_rfl
theorem g_codes : Tryd.prog.globalNamed "squelch/ctl.codes" = some 0 := by kernel_rfl
theorem g_names : Tryd.prog.globalNamed "squelch/ctl.names" = some 1 := by kernel_rfl
theorem codes_datum : (Rows.laid_squelch_ctl_codes : DataW Unit) = Lib.tabData .u8 codeL := by kernel_rfl
theorem codes_laid {W : World} {r : List (String × DataW Unit)} (h : laidMet Tryd.prog (("squelch/ctl.codes", Rows.laid_squelch_ctl_codes) :: r) W) : CodesOk W := by
  rw [codes_datum] at h
  have k := Lib.tabIs_of_head g_codes (t := 100) (e := 5) (by kernel_rfl) Tryd.underlying100 Tryd.underlying5 (by kernel_rfl) (by kernel_rfl) h
  exact ⟨fun i hi => k.cell g_codes i hi⟩
/-- an array of texts that reads as the table holds the table's texts, cell for cell -/
theorem cells_of_strs {H : Type} {enc : TypeId × Value → H} {P : Program} {w : World} {base : Nat} {sp : Nat → Bool} {held : Bool} {fuel : Nat} {t e : TypeId} {n : Nat} {cs : List Value} {zs : List (List UInt8)} {p : List MemPlace}
    (ht : P.underlying t = some (.array n e)) (he : P.underlying e = some .string) (hce : P.cellsOf e = 1) (hct : P.cellsOf t = n)
    (h : DataW.trod enc P w base sp held fuel t cs = some (.agg (zs.map fun z => .lit (.string z)), p)) : cs = zs.map fun z => Value.string ⟨z.toArray⟩ := by
  cases fuel with
  | zero => simp [DataW.trod] at h
  | succ fuel =>
    simp only [DataW.trod, ht, hce, hct, Nat.mul_one] at h
    split at h
    · rename_i hl
      obtain ⟨xs, hm, hx⟩ := Option.map_eq_some_iff.1 h
      have hxs : xs.map (·.1) = zs.map fun z => (DataW.lit (.string z) : DataW H) := by
        have := congrArg Prod.fst hx
        simpa using this
      have hxl : xs.length = n := by simpa using Lib.mapM_length hm
      have hzl : zs.length = n := by
        have := congrArg List.length hxs
        simp at this
        omega
      apply List.ext_getElem?
      intro i
      by_cases hi : i < n
      · obtain ⟨b, hb, hf⟩ := Lib.mapM_at hm i i (by simp [hi])
        obtain ⟨z, hc, rfl, _⟩ := DataW.trod_string he hf
        have h1 : cs[i]? = some (.string z) := by
          have := congrArg (·[0]?) hc
          simpa [List.getElem?_take, List.getElem?_drop] using this
        have h2 : (xs.map (·.1))[i]? = some (DataW.lit (.string z.data.toList) : DataW H) := by simp [hb]
        rw [hxs] at h2
        simp only [List.getElem?_map, Option.map_eq_some_iff, DataW.lit.injEq, Lit.string.injEq] at h2
        obtain ⟨z', hz', e⟩ := h2
        subst e
        simp [h1, hz']
      · rw [List.getElem?_eq_none (by omega), List.getElem?_eq_none (by simp; omega)]
    · cases h
theorem names_datum : (Rows.laid_squelch_ctl_names : DataW Unit) = .agg (nameL.map fun z => .lit (.string z)) := by kernel_rfl
theorem names_laid {W : World} {r : List (String × DataW Unit)} (h : laidMet Tryd.prog (("squelch/ctl.names", Rows.laid_squelch_ctl_names) :: r) W) : NamesOk W := by
  rw [names_datum] at h
  obtain ⟨ps, ⟨g', t', cs, fuel, p, q, hg', ht', hvar, hd, _, _⟩, _⟩ := h
  obtain rfl := Option.some.inj (g_names.symm.trans hg')
  obtain rfl : 112 = t' := Option.some.inj ((show (Tryd.prog.globals[1]?).map (·.type) = some 112 by kernel_rfl).symm.trans ht')
  have hcs : cs = (nameL.map fun z => Value.string ⟨z.toArray⟩).toArray := by rw [← cells_of_strs Tryd.underlying112 Tryd.underlying9 (by kernel_rfl) (by kernel_rfl) hd]
  rw [hcs] at hvar
  refine ⟨fun i hi => ?_⟩
  have k := World.var?_cell g_names hvar i
  have hl : i < nameL.length := hi
  simpa [nameD, List.getD, hl] using k
/-- a control that came in -/
theorem open_ctl {H : Type} {enc : TypeId × Value → H} {w : World} {base b0 : Nat} {spare : Nat → Bool} {held : Bool} {r : Reach} {v : Value} {d : DataW H} {ps : List MemPlace}
    (hv : Value.okWide Tryd.prog w r b0 28 v) (h : DataW.Trod enc Tryd.prog w base spare held 28 v d ps) : ps = [] ∧ ∃ (k nr ns : Int) (pf : Bool), v = .agg #[.int .i64 k, .int .i64 nr, .int .i64 ns, .bool pf] := by
  obtain ⟨c0, c1, c2, c3, y0, y1, y2, y3, m, rfl, rfl, rfl, hy0, hy1, hy2, hy3⟩ := open_agg4 Tryd.underlying28 (by kernel_rfl) Tryd.cellsCtl hv h
  obtain ⟨a, e0, rfl, _⟩ := DataW.trod_int Tryd.underlying3 hy0
  obtain ⟨b, e1, rfl, _⟩ := DataW.trod_int Tryd.underlying3 hy1
  obtain ⟨c, e2, rfl, _⟩ := DataW.trod_int Tryd.underlying3 hy2
  obtain ⟨d, e3, rfl⟩ := DataW.trod_bool Tryd.underlying4 hy3
  simp at e0 e1 e2 e3
  subst e0 e1 e2 e3
  exact ⟨rfl, a, b, c, d, rfl⟩
end Go.Proofs.YtplandmnmdkjmaaDoor
