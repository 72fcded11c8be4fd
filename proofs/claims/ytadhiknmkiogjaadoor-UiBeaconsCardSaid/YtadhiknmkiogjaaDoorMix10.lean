/-
Frames as plain facts: what is wrong with one.
The landed code's all.
-/
import Derived.Test.YtadhiknmkiogjaaDoorPathBase
import Derived.Test.YtadhiknmkiogjaaDoorCtlBase
import Derived.Test.YtadhiknmkiogjaaDoorCallBase
import Derived.Lib.SmallJoins
import Derived.Lib.ItoaNum
import Derived.Lib.QuietBelow
import Derived.Lib.IndexBytes
import Derived.IntWalk
namespace Go.Proofs.YtadhiknmkiogjaaDoor
open Go.RowKit Go.Sort
set_option maxRecDepth 20000
/-- the protocol's number is right -/
def pidOk (k pid : Int) : Bool := if pidD k then decide (0 ≤ pid) && decide (pid ≤ 255) else decide (pid = 0)
/-- what is wrong with information of n bytes -/
def infE (k : Int) (n : Nat) : Nat := if n = 0 then 0 else if infoC k then (if 256 < n then 5 else 0) else 2
/-- what is wrong with a frame -/
def wrongF (L : List Ent) (k nr ns : Int) (wide : Bool) (pid : Int) (n : Nat) : Nat :=
  if rightP L then (if rightC k nr ns wide && pidOk k pid then infE k n else 1) else 11
theorem infE_le (k : Int) (n : Nat) : infE k n ≤ 5 := by
  unfold infE
  split
  · omega
  · split
    · split <;> omega
    · omega
theorem wrong_path {L : List Ent} {k nr ns : Int} {wide : Bool} {pid : Int} {n : Nat} (h : rightP L = false) : wrongF L k nr ns wide pid n = 11 := by unfold wrongF; rw [h]; rfl
theorem wrong_arg {L : List Ent} {k nr ns : Int} {wide : Bool} {pid : Int} {n : Nat} (h : rightP L = true) (h2 : (rightC k nr ns wide && pidOk k pid) = false) : wrongF L k nr ns wide pid n = 1 := by unfold wrongF; rw [h, h2]; rfl
theorem wrong_info {L : List Ent} {k nr ns : Int} {wide : Bool} {pid : Int} {n : Nat} (h : rightP L = true) (h2 : (rightC k nr ns wide && pidOk k pid) = true) : wrongF L k nr ns wide pid n = infE k n := by unfold wrongF; rw [h, h2]; rfl
/-- of a right frame -/
theorem right_frame {L : List Ent} {k nr ns : Int} {wide : Bool} {pid : Int} {n : Nat} (h : wrongF L k nr ns wide pid n = 0) : rightP L = true ∧ rightC k nr ns wide = true ∧ pidOk k pid = true ∧ infE k n = 0 := by
  unfold wrongF at h
  cases h1 : rightP L
  · rw [h1] at h; simp at h
  · cases h2 : rightC k nr ns wide
    · rw [h1, h2] at h; simp at h
    · cases h3 : pidOk k pid
      · rw [h1, h2, h3] at h; simp at h
      · rw [h1, h2, h3] at h
        exact ⟨rfl, rfl, rfl, by simpa using h⟩
theorem inf_facts {k : Int} {n : Nat} (h : infE k n = 0) : n ≤ 256 ∧ (n ≠ 0 → infoC k = true) := by
  unfold infE at h
  by_cases h0 : n = 0
  · exact ⟨by omega, fun q => absurd h0 q⟩
  · rw [if_neg h0] at h
    cases h1 : infoC k
    · rw [h1] at h; simp at h
    · rw [h1] at h
      refine ⟨?_, fun _ => rfl⟩
      by_cases h2 : 256 < n
      · rw [if_pos rfl, if_pos h2] at h; omega
      · omega
theorem pid_facts {k pid : Int} (h : pidOk k pid = true) : ∃ P : Nat, pid = P ∧ P < 256 ∧ (pidD k = false → P = 0) := by
  unfold pidOk at h
  cases h1 : pidD k
  · rw [h1] at h
    have e : pid = 0 := by simpa using h
    exact ⟨0, e, by omega, fun _ => rfl⟩
  · rw [h1] at h
    have e : 0 ≤ pid ∧ pid ≤ 255 := by simpa using h
    exact ⟨pid.toNat, by omega, by omega, fun q => by cases q⟩
end Go.Proofs.YtadhiknmkiogjaaDoor
namespace Go.Proofs.YtadhiknmkiogjaaDoor
open Go.RowKit Go.Sort
set_option maxRecDepth 20000
set_option maxHeartbeats 1000000 in
theorem all_any (tb fb : ByteArray) (tn fn : Int) (tm fm : Bool) (a : Option Addr) (cap : Nat) (D : List Ent) (w : World) (hD : D.length ≤ 1000) (hE : EntsAt w a cap D) :
    Calls Tryd.prog 49 #[.agg #[.string tb, .int .i64 tn, .string fb, .int .i64 fn, .bool tm, .bool fm, .slice a D.length cap]] w fun e w' => ∃ v, e = .returned v ∧ OwnE 79 w' w.heap.size v ((tb, tn, tm) :: (fb, fn, fm) :: D) ∧ Below w.heap.size w w' := by
  have hb0 : Below w.heap.size w (w.alloc (.cells #[.string tb, .int .i64 tn, .string fb, .int .i64 fn, .bool tm, .bool fm, .slice a D.length cap] 58)) := (Below.refl _ w).alloc (Nat.le_refl _) _
  have HO := Lib.hid (OwnE.lit2 (w.alloc (.cells #[.string tb, .int .i64 tn, .string fb, .int .i64 fn, .bool tm, .bool fm, .slice a D.length cap] 58)) (w.heap.size + 1) w.heap.size (by simp) (by omega) tb fb tn fn tm fm 79)
  have HB0 := Lib.hid (hb0.alloc hb0.size (.cells #[.string tb, .int .i64 tn, .bool tm, .string fb, .int .i64 fn, .bool fm] 79))
  have HE := Lib.hid (hE.below HB0.out)
  have HL := Lib.hid (show [(tb, tn, tm), (fb, fn, fm)].length + D.length ≤ 100000 from by simp; omega)
  clear hE hb0
  go_enter Tryd.func49, Tryd.ntmps49
  go_wp2_with (at_builtin; refine wpList_append_ents infoD Tryd.underlying56 _ rfl (.tmp 13) (.tmp 15) rfl _ _ [(tb, tn, tm), (fb, fn, fm)] D rfl HO.out _ _ rfl HE.out HL.out HB0.out.size ?_; intro v' w1 hown hgr hov; have HX := Lib.hid (And.intro hown (HB0.out.grown hgr HB0.out.size (fun k hk => (HO.out.ge hk).1))); clear hown hgr hov)
  go_ret
  exact ⟨v', rfl, HX.out.1, HX.out.2⟩
theorem right_cons (x y : Ent) (D : List Ent) : rightP (x :: y :: D) = (decide (D.length ≤ 8) && ordD D && ((x :: y :: D).all fun e => rightD e.1 e.2.1)) := by
  unfold rightP
  generalize (List.all (x :: y :: D) fun e => rightD e.1 e.2.1) = A
  have h1 : decide (2 ≤ (x :: y :: D).length) = true := decide_eq_true (by simp)
  have h2 : decide ((x :: y :: D).length ≤ 10) = decide (D.length ≤ 8) := decide_eq_decide.2 (by simp)
  rw [h1, h2]
  show (A && true && _ && ordD D) = _
  cases A <;> simp
set_option maxHeartbeats 1000000 in
theorem pright_any (tb fb : ByteArray) (tn fn : Int) (tm fm : Bool) (a : Option Addr) (cap : Nat) (D : List Ent) (w : World) (hD : D.length ≤ 1000) (hE : EntsAt w a cap D) :
    Calls Tryd.prog 30 #[.agg #[.string tb, .int .i64 tn, .string fb, .int .i64 fn, .bool tm, .bool fm, .slice a D.length cap]] w fun e w' => e = .returned (.bool (rightP ((tb, tn, tm) :: (fb, fn, fm) :: D))) ∧ Below w.heap.size w w' := by
  rw [right_cons]
  obtain ⟨W0, hW0⟩ : ∃ W0, W0 = (w.alloc (.cells #[.string tb, .int .i64 tn, .string fb, .int .i64 fn, .bool tm, .bool fm, .slice a D.length cap] 58)) := ⟨_, rfl⟩
  have hb0 : Below w.heap.size w W0 := by rw [hW0]; exact (Below.refl _ w).alloc (Nat.le_refl _) _
  have HK := Lib.hid (show P7 W0 w.heap.size _ _ _ _ _ _ _ from hW0 ▸ P7.new w w.heap.size rfl (.string tb) (.int .i64 tn) (.string fb) (.int .i64 fn) (.bool tm) (.bool fm) (.slice a D.length cap) 58)
  have HB0 := Lib.hid hb0
  have HIN := Lib.hid (fun W (h : Below w.heap.size w W) => inOrder_any a cap D W hD (hE.below h))
  have HAL := Lib.hid (fun W (h : Below w.heap.size w W) => all_any tb fb tn fn tm fm a cap D W hD (hE.below h))
  have HRI := Lib.hid (fun b n W => cright_any b n W)
  obtain ⟨L, hL⟩ : ∃ L, L = (tb, tn, tm) :: (fb, fn, fm) :: D := ⟨_, rfl⟩
  rw [← hL] at HAL ⊢
  have hLl : L.length ≤ 1002 := by rw [hL]; simp; omega
  have HN := Lib.hid (show ∀ k (h : k < L.length), rightD L[k].1 L[k].2.1 = false → (L.all fun e => rightD e.1 e.2.1) = false from fun k h hx => by
    rw [List.all_eq_false]
    exact ⟨L[k], List.getElem_mem h, by rw [hx]; simp⟩)
  have HY := Lib.hid (show (∀ k (h : k < L.length), rightD L[k].1 L[k].2.1 = true) → (L.all fun e => rightD e.1 e.2.1) = true from fun hx => by
    rw [List.all_eq_true]
    intro x hm
    obtain ⟨i, hi, rfl⟩ := List.getElem_of_mem hm
    exact hx i hi)
  generalize (L.all fun e => rightD e.1 e.2.1) = A at *
  generalize ordD D = O at *
  clear hL hE hb0
  by_cases h8 : D.length ≤ 8
  · have d8 : decide ((8 : Int) < (D.length : Int)) = false := decide_eq_false (by omega)
    rw [decide_eq_true h8, Bool.true_and]
    subst hW0
    cases O
    · rw [Bool.false_and]
      go_enter Tryd.func30, Tryd.ntmps30
      go_wp2_with (go_at_call 48; (with_reducible refine (HIN.out _ HB0.out).mono ?_); rintro e w1 ⟨rfl, hb⟩; have HB := Lib.hid (HB0.out.trans (hb.mono HB0.out.size)); clear hb)
      go_ret
      exact ⟨rfl, HB.out⟩
    · rw [Bool.true_and]
      go_enter Tryd.func30, Tryd.ntmps30
      go_wp2_with (first
        | (go_at_call 48; (with_reducible refine (HIN.out _ HB0.out).mono ?_); rintro e w1 ⟨rfl, hb⟩; have HB := Lib.hid (HB0.out.trans (hb.mono HB0.out.size)); have HK1 := Lib.hid (HK.out.below hb); clear hb HK; obtain ⟨⟨c0, -, cl⟩, ⟨c1, -, -⟩, ⟨c2, -, -⟩, ⟨c3, -, -⟩, ⟨c4, -, -⟩, ⟨c5, -, -⟩, ⟨c6, -, -⟩⟩ := HK1.out)
        | (go_at_call 49; (with_reducible refine (HAL.out _ HB.out).mono ?_); rintro e w2 ⟨v, rfl, hv, hb⟩; have HE2 := Lib.hid hv.ents; replace HB := Lib.hid (HB.out.trans (hb.mono HB.out.size)); clear hb hv; obtain ⟨va, vc, hvv, hEE⟩ := HE2.out; subst hvv; have HE := Lib.hid hEE; clear hEE HE2))
      go_loopw [18] (fun i wx => ∃ k : Nat, k ≤ L.length ∧ i = .int .i64 k ∧ Hid ((∀ j (hj : j < k), ∀ hl : j < L.length, rightD L[j].1 L[j].2.1 = true) ∧ Below w.heap.size w wx ∧ EntsAt wx va vc L)) (fun i _ => L.length - (intOf i).toNat)
      case atStart => exact ⟨0, by omega, rfl, Lib.hid ⟨fun j hj => by omega, HB.out, HE.out⟩⟩
      case round =>
        obtain ⟨k, hk, rfl, HQ⟩ := hrel
        clear HE HB c0 c1 c2 c3 c4 c5 c6 HK1 cl
        by_cases hlt : k < L.length
        · have dk : decide ((k : Int) < (L.length : Int)) = true := decide_eq_true (by omega)
          obtain ⟨g, o, rfl, hg, c0, c1, c2⟩ := HQ.out.2.2.at_ k hlt
          have HN2 := Lib.hid (HN.out k hlt)
          generalize hd : L[k] = d at *
          obtain ⟨db, dn, dm⟩ := d
          simp only at c0 c1 c2 HN2
          have HDD := Lib.hid hd
          clear hd
          have HRR := Lib.hid (HRI.out db dn)
          have HB := Lib.hid (HQ.out.2.1.alloc HQ.out.2.1.size (.cells #[.string db, .int .i64 dn, .bool dm] 79))
          have HE := Lib.hid (HQ.out.2.2.alloc (.cells #[.string db, .int .i64 dn, .bool dm] 79))
          cases hr : rightD db dn
          · have hf := HN2.out hr
            subst hf
            rw [hr] at HRR
            go_wp2_with (go_at_call 26; (with_reducible refine (HRR.out _).mono ?_); rintro e w3 ⟨rfl, hb⟩; replace HB := Lib.hid (HB.out.trans (hb.mono HB.out.size)); clear hb)
            go_ret
            exact ⟨rfl, HB.out⟩
          · rw [hr] at HRR
            go_wp2_with (go_at_call 26; (with_reducible refine (HRR.out _).mono ?_); rintro e w3 ⟨rfl, hb⟩; replace HB := Lib.hid (HB.out.trans (hb.mono HB.out.size)); replace HE := Lib.hid (HE.out.below hb); clear hb)
            go_roundw
            case rel =>
              refine ⟨k + 1, by omega, by go_num, Lib.hid ⟨fun j hj hl => ?_, HB.out, HE.out⟩⟩
              by_cases hjk : j = k
              · subst hjk; rw [HDD.out]; exact hr
              · exact HQ.out.1 j (by omega) hl
            case measure => simp [intOf]; omega
        · obtain rfl : k = L.length := by omega
          have dk : decide ((L.length : Int) < (L.length : Int)) = false := decide_eq_false (by omega)
          have hf := HY.out (fun j hj => HQ.out.1 j hj hj)
          subst hf
          go_wp2
          go_ret
          exact ⟨rfl, HQ.out.2.1⟩
  · have d8 : decide ((8 : Int) < (D.length : Int)) = true := decide_eq_true (by omega)
    rw [decide_eq_false h8, Bool.false_and, Bool.false_and]
    subst hW0
    go_enter Tryd.func30, Tryd.ntmps30
    go_wp2_with fail
    go_ret
    exact ⟨rfl, HB0.out⟩
end Go.Proofs.YtadhiknmkiogjaaDoor
