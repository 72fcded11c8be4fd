/-
The landed queue meets the contracts.
-/
import Derived.Test.YtliamhphpnifaaaTxqCPut
import Derived.Test.YtliamhphpnifaaaTxqCTake
namespace Go.Proofs.Ytliamhphpnifaaa
open Go.RowKit
set_option maxRecDepth 20000
theorem cput16 (w : World) (q : Nat) (S : List Ent) (F : Nat → Prop) (c k : Int) (f : ByteArray) (h : QuL w q S F) (hf : f.size ≤ 1000) : Calls Try.prog 9 #[ptrQ q, .int .i64 c, .int .i64 k, .string f] w (PutTo w q S F c k f) := by
  by_cases hc : 0 ≤ c ∧ c ≤ 2
  · by_cases h3 : 333 < f.size
    · exact cput16_long c k f q S F w h hc h3 hf
    · by_cases hr : roomE c S = 0
      · exact cput16_full c k f q S F w h hc (by omega) hr
      · obtain ⟨i, rfl⟩ : ∃ i : Nat, c = i := ⟨c.toNat, by omega⟩
        exact cput16_ok i (by omega) k f q S F w h (by omega) hr
  · exact cput16_cls c k f q S F w h hc
theorem quC : QuC QuL where
  mem := quL_mem
  stay := quL_stay
  inv := quL_ok
  new := cnew16
  put := cput16
  take := fun w q S F most bytes h => ctake16 q S F most bytes w h
  drop := fun w q S F a n c K h hn hl hA haF => cdrop16 q S F a n c K w h hn hl hA haF
  count := fun w q S F k h => ccount16 k q S F w h
  len := fun w q S F h => clen16 q S F w h
  room := fun w q S F c h => croom16 c q S F w h
  all := fun w q S F h => (fall16 q S F w h).mono fun e w' ⟨v, he, ho, hb⟩ => by
    obtain ⟨a, c, hv, hA⟩ := ho.see
    exact ⟨a, c, by rw [he, hv, frs_len], hA, hb⟩
  put0 := fun w c k f _ => cput16_nil c k f w
  take0 := fun w most bytes => ctake16_nil most bytes w
  drop0 := fun w a n c _ _ _ _ => cdrop16_nil a n c w
  count0 := fun w k => ccount16_nil k w
  len0 := fun w => clen16_nil w
  room0 := fun w c => croom16_nil c w
  all0 := fun w => (fall16_nil w).mono fun e w' ⟨he, hb⟩ => ⟨none, 0, he, hb⟩
end Go.Proofs.Ytliamhphpnifaaa
