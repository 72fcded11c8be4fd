/-
Walks of the document's own Feed and New.
-/
import Derived.Test.YtcnljojbkjfebaaKissRefS
import Derived.Test.YtcnljojbkjfebaaKissSame
namespace Go.Proofs.Ytcnljojbkjfebaa
open Go.RowKit
theorem DefAt.same {w w' : World} {b : Nat} {most place bad : Int} {v : Value} (h : DefAt w b most place bad v) (hb : w'.heap[b]? = w.heap[b]?) : DefAt w' b most place bad v := by
  obtain ⟨⟨d0, d1, d2, d3⟩, z1, z2, z3⟩ := h
  unfold DefAt
  rw [World.cell?_of_block (a := ⟨b, 0, none⟩) hb, World.cell?_of_block (a := ⟨b, 1, none⟩) hb, World.cell?_of_block (a := ⟨b, 2, none⟩) hb, World.cell?_of_block (a := ⟨b, 3, none⟩) hb,
    World.frozen?_of_block (a := ⟨b, 1, none⟩) hb, World.frozen?_of_block (a := ⟨b, 2, none⟩) hb, World.frozen?_of_block (a := ⟨b, 3, none⟩) hb]
  exact ⟨⟨d0, d1, d2, d3⟩, z1, z2, z3⟩
theorem DefIs.lt {av : Nat} {w : World} {b : Nat} {most place bad : Int} {held : List UInt8} (h : DefIs av w b most place bad held) : b < w.heap.size := by
  obtain ⟨v, ⟨⟨d0, _⟩, _⟩, _⟩ := h
  exact World.block_lt_of_cell? w ⟨b, 0, none⟩ d0
theorem DefIs.alloc {av : Nat} {w : World} {b : Nat} {most place bad : Int} {held : List UInt8} (h : DefIs av w b most place bad held) (o : Obj) : DefIs av (w.alloc o) b most place bad held := by
  obtain ⟨v, hD, hH⟩ := h
  exact ⟨v, hD.alloc o, hH.alloc o⟩
/-- what the document's Feed leaves -/
def RefTo (av : Nat) (w : World) (b most : Nat) (tgt : St × List Fr) (e : Ending) (w' : World) : Prop :=
  ∃ tv, e = .returned tv ∧ DefIs av w' b most tgt.1.1 tgt.1.2.1 tgt.1.2.2 ∧ OwnF 30 w' w.heap.size tv tgt.2 ∧ w.grownBy w' (some b)
/-- a frame that is told leaves nothing that is held -/
theorem told_empty (most place bad : Nat) (held : List UInt8) (c : UInt8) (f : Fr) (h : (stepD most place bad held c).2 = some f) : (stepD most place bad held c).1.2.2 = [] := by
  simp only [stepD] at h ⊢
  split at h
  · split at h <;> simp at h
  · rename_i h0
    rw [if_neg h0]
    split at h
    · rename_i h1
      rw [if_pos h1]
      split at h
      · rename_i h2; rw [if_pos h2]
      · split at h <;> simp at h
    · split at h
      · simp at h
      · split at h
        · simp at h
        · split at h <;> simp at h
theorem fed_take (most : Nat) (st : St) (s : ByteArray) (k : Nat) (h : k < s.size) : fedD most st (s.data.toList.take (k + 1)) =
    ((stepD most (fedD most st (s.data.toList.take k)).1.1 (fedD most st (s.data.toList.take k)).1.2.1 (fedD most st (s.data.toList.take k)).1.2.2 s[k]).1,
     (fedD most st (s.data.toList.take k)).2 ++ (stepD most (fedD most st (s.data.toList.take k)).1.1 (fedD most st (s.data.toList.take k)).1.2.1 (fedD most st (s.data.toList.take k)).1.2.2 s[k]).2.toList) := by
  have hl : k < s.data.toList.length := by simpa using h
  have e1 : s.data.toList.take (k + 1) = s.data.toList.take k ++ [s[k]] := List.take_succ_eq_append_getElem hl
  rw [e1, fedD_snoc]
theorem ref_after {av : Nat} {w0 w1 w2 : World} {b most : Nat} {place bad : Int} {tv tv' : Value} {F : List Fr} {f : Fr} {news : List Value} {o1 o2 : Obj} (hD : DefIs av w1 b most place bad []) (hb : b < w0.heap.size)
    (h : OwnF 30 w1 w0.heap.size tv F) (hg0 : w0.grownBy w1 (some b))
    (hown1 : w2.ownsRow w0.heap.size 30 3 tv' (F.length + 1) (frsV F ++ news)) (hn : news = frsV [f]) (hg : ((w1.alloc o1).alloc o2).grownBy w2 tv.ownBlock) :
    DefIs av w2 b most place bad [] ∧ OwnF 30 w2 w0.heap.size tv' (F ++ [f]) ∧ w0.grownBy w2 (some b) := by
  have hg2 := grown_trans (grown_trans (World.grownBy_alloc w1 o1 _) (World.grownBy_alloc (w1.alloc o1) o2 _)) hg
  have hlt := hD.lt
  obtain ⟨v, hD, hH⟩ := hD
  have hv : v = .slice none 0 0 := by
    rcases hH with ⟨_, hv⟩ | ⟨h0, _⟩
    · exact hv
    · simp at h0
  subst hv
  refine ⟨⟨_, hD.same (hg2.block b hlt (fun e => by have := (h.ge e.symm).1; omega)), HeldV.nil _ _⟩, ?_, ?_⟩
  · unfold OwnF
    rw [List.length_append, frsV_append, ← hn]
    exact hown1
  · exact ⟨hg2.os.trans hg0.os, hg2.tape.trans hg0.tape, hg2.output.trans hg0.output, Nat.le_trans hg0.size hg2.size, fun i hi hne => (hg2.block i (Nat.lt_of_lt_of_le hi hg0.size) (fun e => by have := (h.ge e.symm).1; omega)).trans (hg0.block i hi hne)⟩
set_option maxHeartbeats 1000000 in
theorem rfeed_any (av b most : Nat) (st : St) (s : ByteArray) (w : World) (hav : av < w.heap.size) (hm : most ≤ 4096) (hi : InvD most st) (hbad : st.2.1 ≤ 100000) (hs : s.size ≤ 50000) (hD : DefIs av w b most st.1 st.2.1 st.2.2) :
    Calls Try.prog 18 #[.pointer (some ⟨b, 0, none⟩), .string s] w fun e w' => RefTo av w b most (fedD most st s.data.toList) e w' := by
  obtain ⟨i0, hi0, hz0, hz1, hz2⟩ := info_parts infoR
  have hb0 := hD.lt
  have HD := Lib.hid hD
  have HI := Lib.hid hi
  clear hD hi
  go_enter Try.func18, Try.ntmps18
  go_wp2
  go_loopw [5, 6] (fun tv i wx => ∃ k : Nat, k ≤ s.size ∧ i = .int .i64 k ∧ Hid (DefIs av wx b most (fedD most st (s.data.toList.take k)).1.1 (fedD most st (s.data.toList.take k)).1.2.1 (fedD most st (s.data.toList.take k)).1.2.2 ∧ OwnF 30 wx w.heap.size tv (fedD most st (s.data.toList.take k)).2 ∧ w.grownBy wx (some b))) (fun _ i _ => s.size - (intOf i).toNat)
  case atStart => exact ⟨0, by omega, rfl, HD.out.alloc _, World.ownsRow_lit (base := w.heap.size) (e := 30) (size := 3) w #[] 0 (Nat.le_refl _) (by decide) rfl, grown_alloc (grown_refl w _) _⟩
  case round =>
    obtain ⟨k, hk, rfl, HR⟩ := hrel
    obtain ⟨hDk, hFk, hGk⟩ := HR.out
    by_cases hlt : k < s.size
    · have hnx := fed_take most st s k hlt
      have hinv := fedD_inv most st (s.data.toList.take k) HI.out
      have hkl : (s.data.toList.take k).length ≤ k := List.length_take_le _ _
      obtain ⟨q, hq⟩ : ∃ q, q = fedD most st (s.data.toList.take k) := ⟨_, rfl⟩
      rw [← hq] at hDk hFk hnx hinv
      have h1 := hinv.1.1
      have h2 := hinv.1.2.1
      have h3 := hinv.2.1
      have h4 := hinv.2.2
      have hBy := byte_any b most q.1.1 q.1.2.1 q.1.2.2 s[k] wr (Nat.lt_of_lt_of_le hav hGk.size) h1 (by omega) (by omega) hDk
      have hte := told_empty most q.1.1 q.1.2.1 q.1.2.2 s[k]
      obtain ⟨r, hr⟩ : ∃ r, r = stepD most q.1.1 q.1.2.1 q.1.2.2 s[k] := ⟨_, rfl⟩
      rw [← hr] at hBy hnx hte
      have HBY := Lib.hid hBy
      have HNX := Lib.hid hnx
      have HTE := Lib.hid hte
      have HFk := Lib.hid hFk
      have HGk := Lib.hid hGk
      have hql : q.2.length ≤ 50000 := by omega
      clear HR hq hDk hFk hGk hnx hinv h1 h2 h3 h4 hBy hte hr hkl
      obtain ⟨st2, told⟩ := r
      simp only at HBY HNX HTE
      cases told with
      | none =>
        simp only [toldV, noFrame] at HBY
        go_wp2_with fail
        refine (HBY.out).mono ?_
        rintro e w1 ⟨rfl, hD1, hG1⟩
        have HX := Lib.hid (show DefIs av w1 b most st2.1 st2.2.1 st2.2.2 from hD1)
        have HG1 := Lib.hid (grown_trans HGk.out hG1)
        have HF1 := Lib.hid (HFk.out.grown hG1 (fun g hg e => by have := (HFk.out.ge hg).1; have := Option.some.inj e; omega))
        clear hD1 hG1 HFk HGk HBY
        go_wp2_with fail
        go_roundw
        case rel =>
          refine ⟨k + 1, by omega, by go_num, ?_⟩
          rw [HNX.out]
          simp only [Option.toList_none, List.append_nil]
          exact ⟨HX.out.alloc _, HF1.out.grown (World.grownBy_alloc _ _ none) (fun g hg e => by cases e), grown_alloc HG1.out _⟩
        case measure => simp [intOf]; omega
      | some f =>
        have hst : st2.2.2 = [] := HTE.out f rfl
        obtain ⟨x, l⟩ := f
        simp only [toldV, aFrame] at HBY
        go_wp2_with fail
        refine (HBY.out).mono ?_
        rintro e w1 ⟨rfl, hD1, hG1⟩
        have HX := Lib.hid (show DefIs av w1 b most st2.1 st2.2.1 [] from hst ▸ hD1)
        have HG1 := Lib.hid (grown_trans HGk.out hG1)
        have HF1 := Lib.hid (HFk.out.grown hG1 (fun g hg e => by have := (HFk.out.ge hg).1; have := Option.some.inj e; omega))
        have HST := Lib.hid hst
        have HN := Lib.hid (show [Value.int .i64 ((x.toNat : Int) / 16), .int .i64 ((x.toNat : Int) % 16), .string ⟨l.toArray⟩] = frsV [(x, l)] from rfl)
        have hz := HG1.out.size
        clear hD1 hG1 HFk HGk HBY hst HTE
        go_wp2_with (first
          | (at_builtin; refine wpList_append_own _ rfl (.tmp 25) (.tmp 27) 43 rfl w.heap.size 30 i0 _ 3 32 Try.underlying43 hi0 hz0 hz1 hz2 rfl (by decide) _ _ _ rfl (World.ownsRow.alloc (World.ownsRow.alloc HF1.out _) _) ⟨w1.heap.size + 1, 0, none⟩ 1 1 [.int .i64 ((x.toNat : Int) / 16), .int .i64 ((x.toNat : Int) % 16), .string ⟨l.toArray⟩] rfl rfl (cells_new' _ _ (by simp) #[.int .i64 ((x.toNat : Int) / 16), .int .i64 ((x.toNat : Int) % 16), .string ⟨l.toArray⟩] _) (by rw [HN.out]; exact frsV_one _) (by unfold maxLen; omega) (by omega) (by simp; omega) ?_; intro v' w2 hown1 hgrow1 _; have HY := Lib.hid (ref_after HX.out hb0 HF1.out HG1.out hown1 HN.out hgrow1); clear hown1 hgrow1))
        go_roundw
        case rel =>
          refine ⟨k + 1, by omega, by go_num, ?_⟩
          rw [HNX.out, HST.out]
          exact HY.out
        case measure => simp [intOf]; omega
    · obtain rfl : k = s.size := by omega
      have hTl : s.data.toList.length = s.size := by simp
      rw [List.take_of_length_le (by omega)] at hDk hFk
      have HDk := Lib.hid hDk
      have HFk := Lib.hid hFk
      have HGk := Lib.hid hGk
      clear hDk hFk hGk HR hTl
      go_wp2
      go_ret
      exact ⟨_, rfl, HDk.out, HFk.out, HGk.out⟩
theorem rnew_if (n : Int) (w : World) : Calls Try.prog 13 #[.int .i64 n] w fun e w' =>
    e = .returned (.pointer (some ⟨w.heap.size, 0, none⟩)) ∧ w' = w.alloc (.cells #[.int .i64 (if n < 1 then 1 else if 4096 < n then 4096 else n), .int .i64 0, .int .i64 0, .slice none 0 0] 41) := by
  by_cases h1 : n < 1
  · go_enter Try.func13, Try.ntmps13
    go_wp2
    go_ret
    exact ⟨rfl, rfl⟩
  by_cases h2 : 4096 < n
  · go_enter Try.func13, Try.ntmps13
    go_wp2
    go_ret
    exact ⟨rfl, rfl⟩
  · go_enter Try.func13, Try.ntmps13
    go_wp2
    go_ret
    exact ⟨rfl, rfl⟩
theorem new_DefIs (av : Nat) (w : World) (most : Nat) : DefIs av (w.alloc (.cells #[.int .i64 most, .int .i64 0, .int .i64 0, .slice none 0 0] 41)) w.heap.size most 0 0 [] := by
  refine ⟨.slice none 0 0, ⟨⟨?_, ?_, ?_, ?_⟩, ?_, ?_, ?_⟩, HeldV.nil _ _⟩
  · rw [World.cell?_alloc_new]; rfl
  · rw [World.cell?_alloc_new]; rfl
  · rw [World.cell?_alloc_new]; rfl
  · rw [World.cell?_alloc_new]; rfl
  · exact World.frozen?_alloc_at _ _ _ _ rfl
  · exact World.frozen?_alloc_at _ _ _ _ rfl
  · exact World.frozen?_alloc_at _ _ _ _ rfl
theorem rnew_any (n : Int) (w : World) : Calls Try.prog 13 #[.int .i64 n] w fun e w' =>
    e = .returned (.pointer (some ⟨w.heap.size, 0, none⟩)) ∧ (∀ av, DefIs av w' w.heap.size (capD n) 0 0 []) ∧ Below w.heap.size w w' ∧ w'.heap.size = w.heap.size + 1 :=
  (rnew_if n w).mono fun e w' ⟨he, hw⟩ => by
    subst hw
    rw [capD_if]
    exact ⟨he, fun av => new_DefIs av w _, (Below.refl _ _).alloc (Nat.le_refl _) _, by simp⟩
end Go.Proofs.Ytcnljojbkjfebaa
