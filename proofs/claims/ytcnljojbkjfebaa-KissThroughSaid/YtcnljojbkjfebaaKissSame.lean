/-
Walks of Plain and of the document's own Same.
-/
import Derived.Test.YtcnljojbkjfebaaKissEnd
import Derived.BigQuiet
import Derived.Deep.QuietTactic
namespace Go.Proofs.Ytcnljojbkjfebaa
open Go.RowKit
/-- a slice of frames, as a caller may read it -/
def Frs (w : World) (v : Value) (F : List Fr) : Prop :=
  ∃ a cap, v = .slice a F.length cap ∧ (0 < F.length → ∃ g, a = some ⟨g, 0, none⟩ ∧ g < w.heap.size ∧ ∀ j u, (frsV F)[j]? = some u → w.cell? ⟨g, j, none⟩ = some u)
theorem OwnF.frs {T : TypeId} {w : World} {B : Nat} {v : Value} {F : List Fr} (h : OwnF T w B v F) : Frs w v F := by
  rcases h.2 with ⟨hv, h0⟩ | ⟨g, cap, cur, hv, hb, hg, rest⟩
  · exact ⟨none, 0, by rw [h0]; exact hv, fun hp => by omega⟩
  · refine ⟨_, cap, hv, fun _ => ⟨g, rfl, (h.ge (by rw [hv]; rfl)).2, fun j u hj => ?_⟩⟩
    have := World.ownsRow.cells h (g := g) (by rw [hv]; rfl) j u hj
    have e : (⟨g, 0, none⟩ : Addr).add j = ⟨g, j, none⟩ := by unfold Addr.add; split <;> simp_all
    rwa [e] at this
theorem Frs.below {w w' : World} {v : Value} {F : List Fr} (h : Frs w v F) (hb : Below w.heap.size w w') : Frs w' v F := by
  obtain ⟨a, cap, hv, hc⟩ := h
  refine ⟨a, cap, hv, fun hp => ?_⟩
  obtain ⟨g, ha, hg, hk⟩ := hc hp
  exact ⟨g, ha, Nat.lt_of_lt_of_le hg hb.size, fun j u hj => (hb.cell (p := ⟨g, j, none⟩) hg).trans (hk j u hj)⟩
theorem frsV_at (F : List Fr) (k : Nat) (h : k < F.length) : (frsV F)[k * 3]? = some (.int .i64 ((F[k].1.toNat / 16 : Nat) : Int)) ∧ (frsV F)[k * 3 + 1]? = some (.int .i64 ((F[k].1.toNat % 16 : Nat) : Int)) ∧ (frsV F)[k * 3 + 2]? = some (.string ⟨F[k].2.toArray⟩) := by
  induction F generalizing k with
  | nil => simp at h
  | cons f F ih =>
    have e : frsV (f :: F) = frV f ++ frsV F := rfl
    have hl : (frV f).length = 3 := rfl
    cases k with
    | zero => rw [e]; simp [frV]
    | succ k =>
      have hk : k < F.length := by simpa using h
      obtain ⟨a, b, c⟩ := ih k hk
      rw [e]
      refine ⟨?_, ?_, ?_⟩
      · rw [List.getElem?_append_right (by omega), hl, show (k + 1) * 3 - 3 = k * 3 from by omega, a]; rfl
      · rw [List.getElem?_append_right (by omega), hl, show (k + 1) * 3 + 1 - 3 = k * 3 + 1 from by omega, b]; rfl
      · rw [List.getElem?_append_right (by omega), hl, show (k + 1) * 3 + 2 - 3 = k * 3 + 2 from by omega, c]; rfl
theorem infoR : (Try.prog.info? 30).map (fun i => (i.zero, i.size, i.bytes)) = some (some (.agg #[.int .i64 0, .int .i64 0, .string ⟨#[]⟩]), 3, 32) := by kernel_rfl
/-- behind an append of a frame that was laid -/
theorem plain_after {w0 wr w1 : World} {T : TypeId} {tv tv' : Value} {F : List Fr} {f : Fr} {news : List Value} {o1 o2 : Obj} (h : OwnF T wr w0.heap.size tv F) (hb : Below w0.heap.size w0 wr)
    (hown1 : w1.ownsRow w0.heap.size T 3 tv' (F.length + 1) (frsV F ++ news)) (hn : news = frsV [f]) (hg : ((wr.alloc o1).alloc o2).grownBy w1 tv.ownBlock) : OwnF T w1 w0.heap.size tv' (F ++ [f]) ∧ Below w0.heap.size w0 w1 := by
  refine ⟨?_, ((hb.alloc hb.size o1).alloc (by have := hb.size; simp; omega) o2).grown hg (by have := hb.size; simp; omega) (fun k hk => (h.ge hk).1)⟩
  unfold OwnF
  rw [List.length_append, frsV_append, ← hn]
  exact hown1
/-- what Plain leaves -/
def PlainTo (w : World) (F : List Fr) (e : Ending) (w' : World) : Prop := ∃ tv, e = .returned tv ∧ OwnF 30 w' w.heap.size tv F ∧ Below w.heap.size w w'
theorem plain_nil (a : Option Addr) (cap : Nat) (w : World) : Calls Try.prog 16 #[.slice a 0 cap] w fun e w' => PlainTo w [] e w' := by
  go_enter Try.func16, Try.ntmps16
  go_wp2
  refine wp_loop_rounds 1 ?_
  rw [rounds_succ]
  go_wp2
  go_ret
  exact ⟨_, rfl, OwnF.nil _ _ _, Below.refl _ _⟩
set_option maxHeartbeats 1000000 in
theorem plain_some (g cap : Nat) (F : List Fr) (w : World) (hF : F.length ≤ 1000000) (hg : g < w.heap.size) (hc : ∀ j u, (frsV F)[j]? = some u → w.cell? ⟨g, j, none⟩ = some u) :
    Calls Try.prog 16 #[.slice (some ⟨g, 0, none⟩) F.length cap] w fun e w' => PlainTo w F e w' := by
  obtain ⟨i0, hi, hz0, hz1, hz2⟩ := info_parts infoR
  have HC := Lib.hid hc
  clear hc
  go_enter Try.func16, Try.ntmps16
  go_wp2
  go_loopw [3, 8] (fun tv i wx => ∃ k : Nat, k ≤ F.length ∧ i = .int .i64 k ∧ Hid (OwnF 30 wx w.heap.size tv (F.take k) ∧ Below w.heap.size w wx)) (fun _ i _ => F.length - (intOf i).toNat)
  case atStart => exact ⟨0, by omega, rfl, OwnF.nil _ _ _, Below.refl _ _⟩
  case round =>
    obtain ⟨k, hk, rfl, HR⟩ := hrel
    by_cases hlt : k < F.length
    · obtain ⟨a0, a1, a2⟩ := frsV_at F k hlt
      have c0 := (HR.out.2.cell (p := ⟨g, k * 3, none⟩) hg).trans (HC.out _ _ a0)
      have c1 := (HR.out.2.cell (p := ⟨g, k * 3 + 1, none⟩) hg).trans (HC.out _ _ a1)
      have c2 := (HR.out.2.cell (p := ⟨g, k * 3 + 2, none⟩) hg).trans (HC.out _ _ a2)
      have ht : F.take (k + 1) = F.take k ++ [F[k]] := List.take_succ_eq_append_getElem hlt
      have hlen : (F.take k).length = k := by rw [List.length_take]; omega
      obtain ⟨f, hf⟩ : ∃ f, f = F[k] := ⟨_, rfl⟩
      rw [← hf] at c0 c1 c2 ht
      have HT := Lib.hid ht
      have HL := Lib.hid hlen
      have HN := Lib.hid (show [Value.int .i64 ((f.1.toNat : Int) / 16), .int .i64 ((f.1.toNat : Int) % 16), .string ⟨f.2.toArray⟩] = frsV [f] from rfl)
      have HS := Lib.hid HR.out.2.size
      have HO := Lib.hid HR.out.1
      have HB := Lib.hid HR.out.2
      clear a0 a1 a2 hf ht hlen HR
      go_wp2_with (first
        | (at_builtin; refine wpList_append_own _ rfl (.tmp 12) (.tmp 14) 43 rfl w.heap.size 30 i0 _ 3 32 Try.underlying43 hi hz0 hz1 hz2 rfl (by decide) _ _ _ rfl (World.ownsRow.alloc (World.ownsRow.alloc HO.out _) _) ⟨wr.heap.size + 1, 0, none⟩ 1 1 [.int .i64 ((f.1.toNat : Int) / 16), .int .i64 ((f.1.toNat : Int) % 16), .string ⟨f.2.toArray⟩] rfl rfl (cells_new' _ _ (by simp) #[.int .i64 ((f.1.toNat : Int) / 16), .int .i64 ((f.1.toNat : Int) % 16), .string ⟨f.2.toArray⟩] _) (by rw [HN.out]; exact frsV_one _) (by have := HL.out; unfold maxLen; omega) (by have := HL.out; omega) (by have := HS.out; simp; omega) ?_; intro v' w1 hown1 hgrow1 _; have HX := Lib.hid (plain_after HO.out HB.out hown1 HN.out hgrow1); clear hown1 hgrow1))
      go_roundw
      case rel => exact ⟨k + 1, by omega, by go_num, by rw [HT.out]; exact HX.out⟩
      case measure => simp [intOf]; omega
    · obtain rfl : k = F.length := by omega
      rw [List.take_length] at HR
      go_wp2
      go_ret
      exact ⟨_, rfl, HR.out⟩
theorem plain_any (v : Value) (F : List Fr) (w : World) (hF : F.length ≤ 1000000) (hv : Frs w v F) : Calls Try.prog 16 #[v] w fun e w' => PlainTo w F e w' := by
  obtain ⟨a, cap, rfl, hc⟩ := hv
  by_cases h0 : F.length = 0
  · obtain rfl := List.length_eq_zero_iff.1 h0
    exact plain_nil a cap w
  · obtain ⟨g, rfl, hg, hk⟩ := hc (by omega)
    exact plain_some g cap F w hF hg hk
/-- frames as values -/
def frS (f : Fr) : Value := .agg #[.int .i64 ((f.1.toNat / 16 : Nat) : Int), .int .i64 ((f.1.toNat % 16 : Nat) : Int), .string ⟨f.2.toArray⟩]
theorem same_no (a b : Option Addr) (n m c d : Nat) (w : World) (h : n ≠ m) : Calls Try.prog 15 #[.slice a n c, .slice b m d] w fun e w' => e = .returned (.bool false) ∧ w = w' := by
  have t1 : ((n : Int) != (m : Int)) = true := by rw [bne_iff_ne]; omega
  clear h
  go_enter Try.func15, Try.ntmps15
  go_wp2
  go_ret
  exact ⟨rfl, rfl⟩
set_option maxHeartbeats 1000000 in
theorem same_yes (u v : Value) (F : List Fr) (w : World) (hF : F.length ≤ 1000000) (hu : Frs w u F) (hv : Frs w v F) : Calls Try.prog 15 #[u, v] w fun e w' => e = .returned (.bool true) ∧ ∃ n, w' = w.drewN n := by
  obtain ⟨a, c, rfl, ha⟩ := hu
  obtain ⟨b, d, rfl, hb⟩ := hv
  have HA := Lib.hid ha
  have HB := Lib.hid hb
  clear ha hb
  go_enter Try.func15, Try.ntmps15
  go_wp2
  go_loopw [5] (fun i wx => ∃ k : Nat, k ≤ F.length ∧ i = .int .i64 k ∧ ∃ n, wx = w.drewN n) (fun i _ => F.length - (intOf i).toNat)
  case atStart => exact ⟨0, by omega, rfl, 0, rfl⟩
  case round =>
    obtain ⟨k, hk, rfl, n, rfl⟩ := hrel
    by_cases hlt : k < F.length
    · obtain ⟨g1, rfl, _, h1⟩ := HA.out (by omega)
      obtain ⟨g2, rfl, _, h2⟩ := HB.out (by omega)
      obtain ⟨a0, a1, a2⟩ := frsV_at F k hlt
      have c0 := h1 _ _ a0
      have c1 := h1 _ _ a1
      have c2 := h1 _ _ a2
      have d0 := h2 _ _ a0
      have d1 := h2 _ _ a1
      have d2 := h2 _ _ a2
      obtain ⟨f, hf⟩ : ∃ f, f = F[k] := ⟨_, rfl⟩
      rw [← hf] at c0 c1 c2 d0 d1 d2
      clear a0 a1 a2 h1 h2 hf
      go_wp2
      go_quiet (fail)
      go_wp2
      go_roundw
      case rel => exact ⟨k + 1, by omega, by go_num, n + nq, by simp⟩
      case measure => simp [intOf]; omega
    · obtain rfl : k = F.length := by omega
      go_wp2
      go_ret
      exact ⟨rfl, n, rfl⟩
end Go.Proofs.Ytcnljojbkjfebaa
