/-
The walk of SeqTakes (written by tools/gen11/gen_takes.py).
-/
import Derived.Test.YtmokibjeanbabaaSeqCBoth
import Derived.Test.YtmokibjeanbabaaSeqRTakeC
namespace Go.Proofs.Ytmokibjeanbabaa
open Go.RowKit
set_option maxRecDepth 20000
/-- both windows, ahead of a round -/
structure TsAt (w : World) (p q : Nat) (m k : Int) (t : Ti) (W : World) : Prop where
  c : ∃ F, InL W p m k t F ∧ (∀ b, F b → w.heap.size ≤ b) ∧ ¬ F q
  r : RowAt W q (tiV m k t)
  bel : Below w.heap.size w W
  l2 : w.heap.size ≤ q
theorem TsAt.below {w W W' : World} {p q : Nat} {m k : Int} {t : Ti} (h : TsAt w p q m k t W) (hb : Below W.heap.size W W') : TsAt w p q m k t W' := by
  obtain ⟨F, hI, hF, hq⟩ := h.c
  exact ⟨⟨F, hI.below hb, hF, hq⟩, h.r.below hb, h.bel.trans (hb.mono h.bel.size), h.l2⟩
theorem TsAt.drew {w W : World} {p q : Nat} {m k : Int} {t : Ti} (h : TsAt w p q m k t W) : TsAt w p q m k t W.drew := h.below ((Below.refl _ W).drew)
/-- the landed one has moved on -/
structure TsOn (w : World) (p q : Nat) (m k : Int) (t t' : Ti) (v : Value) (L : List Int) (W X : World) : Prop where
  c : ∃ F, InL X p m k t' F ∧ (∀ b, F b → w.heap.size ≤ b) ∧ ¬ F q
  r : RowAt X q (tiV m k t)
  bel : Below w.heap.size w X
  l2 : w.heap.size ≤ q
  own : OwnL encI 3 X W.heap.size v L
  lt : q < W.heap.size
theorem TsAt.take {w W : World} {p q : Nat} {m k : Int} {t : Ti} (h : TsAt w p q m k t W) (hok : TiOk m k t) (ns : Int) {t' : Ti} {L : List Int} {x : Int} (hE : takeT m k t ns = (t', L, x)) : Calls Try.prog 26 #[.pointer (some ⟨p, 0, none⟩), .int .i64 ns] W fun e X =>
    ∃ v, e = .returned (.tuple #[v, .int .i64 x]) ∧ TsOn w p q m k t t' v L W X := by
  obtain ⟨F, hI, hF, hq⟩ := h.c
  have hT := ctake11_any p m k t F ns W hI hok
  rw [hE] at hT
  refine hT.mono fun e X ⟨v, F', he, ho, hI', ht, hg⟩ => ⟨v, he, ⟨F', hI', hg.ge hF h.bel.size, fun hf => ?_⟩, h.r.turn ht hq, h.bel.trans (ht.below h.bel.size hF), h.l2, ho, (h.r.get 0 rfl).lt⟩
  rcases hg q hf with h1 | h1
  · exact hq h1
  · have := (h.r.get 0 rfl).lt
    omega
theorem TsOn.both {w W X Y : World} {p q : Nat} {m k : Int} {t t' : Ti} {v : Value} {L : List Int} (h : TsOn w p q m k t t' v L W X) (hr : RowAt Y q (tiV m k t')) (t2 : Turn (fun x => x = q) X Y) : TsAt w p q m k t' Y ∧ SeeL encI Y v L := by
  obtain ⟨F, hI, hF, hq⟩ := h.c
  have hX := h.bel.size
  refine ⟨⟨⟨F, hI.stay ⟨t2.size, fun b hb => t2.block b (inC.mem hI b hb) (fun e => hq (e ▸ hb))⟩, hF, hq⟩, hr, h.bel.trans (t2.below hX (fun b e => by rw [e]; exact h.l2)), h.l2⟩, ?_⟩
  refine (h.own.turn t2 fun g e he => ?_).see
  have := (h.own.ge e).1
  have := h.lt
  omega
theorem count_high {c : List Bool} {k : Nat} (h0 : c.getD 0 false = false) (h : ∀ i : Nat, k ≤ i → c.getD i false = false) (hk : 1 ≤ k) : c.count true < k := by
  have e : c.count true = (c.take k).count true + (c.drop k).count true := by rw [← List.count_append, List.take_append_drop]
  have hd : (c.drop k).count true = 0 := by
    rw [List.count_eq_zero]
    intro hm
    obtain ⟨i, hi, he⟩ := List.mem_iff_getElem.1 hm
    rw [List.getElem_drop] at he
    have := h (k + i) (by omega)
    rw [List.getD_eq_getElem?_getD, List.getElem?_eq_getElem (by rw [List.length_drop] at hi; omega)] at this
    simp only [Option.getD_some] at this
    rw [he] at this
    cases this
  have ht : (c.take k).count true < k := by
    match c, k, h0, hk with
    | [], k, _, hk => simp; omega
    | b :: l, k + 1, h0, _ =>
      have hb : b = false := by simpa using h0
      subst hb
      rw [List.take_succ_cons, List.count_cons]
      have := List.count_le_length (a := true) (l := l.take k)
      rw [List.length_take] at this
      simp
      omega
  omega
theorem held_lt {m k : Int} {t : Ti} (hok : TiOk m k t) : heldT t < k := by
  obtain ⟨n, hn⟩ : ∃ n : Nat, k = (n : Int) := ⟨k.toNat, by have := hok.kb; omega⟩
  have := count_high (k := n) hok.head (fun i hi => hok.high i (by omega)) (by have := hok.kb; omega)
  unfold heldT
  omega
theorem takeT_vr {m k : Int} {t : Ti} (hok : TiOk m k t) (ns : Int) : (takeT m k t ns).1.vr ≤ t.vr + 128 := by
  unfold takeT
  split
  · show t.vr ≤ _
    omega
  · split
    · show t.vr ≤ _
      omega
    · split
      · show t.vr ≤ _
        omega
      · have := runT_le (t.came.set (farN m (t.vr % m) ns).toNat true)
        rw [List.length_set, hok.len] at this
        show t.vr + (runT _ : Nat) ≤ t.vr + 128
        omega
theorem missT_most {m k : Int} {t : Ti} (hok : TiOk m k t) : (missT m t).length ≤ 1000 := by
  have h1 := missN_len m t.vr t.came (lastT t.came - 1)
  have h2 := lastT_le t.came
  rw [hok.len] at h2
  have e : missT m t = missN m t.vr t.came (lastT t.came - 1) := rfl
  rw [e]
  omega
/-- the document's window, all zero -/
def zeroI : Array Value := (tiV 0 0 ⟨0, List.replicate 128 false⟩).toArray
theorem zeroIn (W : World) : (zeroValue 51).run Try.prog W = .ok (.agg zeroI) W := by kernel_rfl
theorem zeroI_set (m k : Int) : (zeroI.setIfInBounds 0 (.int .i64 m)).setIfInBounds 1 (.int .i64 k) = (tiV m k ⟨0, List.replicate 128 false⟩).toArray := rfl
set_option maxHeartbeats 1000000 in
theorem seqtakes_bad_none (m k : Int) (a : Option Addr) (n cc : Nat) (w : World) (h : modR m = false) : Calls Try.prog 5 #[.int .i64 m, .int .i64 k, .slice a n cc] w fun e w' => e = .returned (.bool true) ∧ Below w.heap.size w w' := by
  have HAW := Lib.hid (fun W => cseqawake W)
  have HN := Lib.hid (fun W => cnewin_no m k W (Or.inl h))
  have HM := Lib.hid (fun W => rmod_any m W)
  rw [h] at HM
  clear h
  go_enter Try.func5, Try.ntmps5
  go_wp2_with (first | (go_at_call 8; (with_reducible refine (HAW.out _).mono ?_); rintro e w1 ⟨rfl, hb⟩; have HB1 := Lib.hid hb; clear hb) | (go_at_call 25; (with_reducible refine (HN.out _).mono ?_); rintro e w1 ⟨rfl, rfl⟩) | (go_at_call 14; (with_reducible refine (HM.out _).mono ?_); rintro e w1 ⟨rfl, rfl⟩))
  exact bodyPost_ret (v := .bool true) (by simp [results, Try.results5, go_sem]) rfl ⟨rfl, HB1.out⟩
set_option maxHeartbeats 1000000 in
theorem seqtakes_bad_narrow (k : Int) (a : Option Addr) (n cc : Nat) (w : World) (h : k < 1 ∨ 8 < 2 * k) : Calls Try.prog 5 #[.int .i64 8, .int .i64 k, .slice a n cc] w fun e w' => e = .returned (.bool true) ∧ Below w.heap.size w w' := by
  have HAW := Lib.hid (fun W => cseqawake W)
  have HN := Lib.hid (fun W => cnewin_no 8 k W (Or.inr h))
  have HM := Lib.hid (fun W => rmod_any 8 W)
  rw [show modR 8 = true from rfl] at HM
  by_cases hk : k < 1
  · have d0 : decide (k < 1) = true := decide_eq_true hk
    clear h hk
    go_enter Try.func5, Try.ntmps5
    go_wp2_with (first | (go_at_call 8; (with_reducible refine (HAW.out _).mono ?_); rintro e w1 ⟨rfl, hb⟩; have HB1 := Lib.hid hb; clear hb) | (go_at_call 25; (with_reducible refine (HN.out _).mono ?_); rintro e w1 ⟨rfl, rfl⟩) | (go_at_call 14; (with_reducible refine (HM.out _).mono ?_); rintro e w1 ⟨rfl, rfl⟩))
    exact bodyPost_ret (v := .bool true) (by simp [results, Try.results5, go_sem]) rfl ⟨rfl, HB1.out⟩
  · have d0 : decide (k < 1) = false := decide_eq_false hk
    have d1 : decide (4 < k) = true := decide_eq_true (by omega)
    clear h hk
    go_enter Try.func5, Try.ntmps5
    go_wp2_with (first | (go_at_call 8; (with_reducible refine (HAW.out _).mono ?_); rintro e w1 ⟨rfl, hb⟩; have HB1 := Lib.hid hb; clear hb) | (go_at_call 25; (with_reducible refine (HN.out _).mono ?_); rintro e w1 ⟨rfl, rfl⟩) | (go_at_call 14; (with_reducible refine (HM.out _).mono ?_); rintro e w1 ⟨rfl, rfl⟩))
    exact bodyPost_ret (v := .bool true) (by simp [results, Try.results5, go_sem]) rfl ⟨rfl, HB1.out⟩
set_option maxHeartbeats 1000000 in
theorem seqtakes_bad_wide (k : Int) (a : Option Addr) (n cc : Nat) (w : World) (h : k < 1 ∨ 128 < 2 * k) : Calls Try.prog 5 #[.int .i64 128, .int .i64 k, .slice a n cc] w fun e w' => e = .returned (.bool true) ∧ Below w.heap.size w w' := by
  have HAW := Lib.hid (fun W => cseqawake W)
  have HN := Lib.hid (fun W => cnewin_no 128 k W (Or.inr h))
  have HM := Lib.hid (fun W => rmod_any 128 W)
  rw [show modR 128 = true from rfl] at HM
  by_cases hk : k < 1
  · have d0 : decide (k < 1) = true := decide_eq_true hk
    clear h hk
    go_enter Try.func5, Try.ntmps5
    go_wp2_with (first | (go_at_call 8; (with_reducible refine (HAW.out _).mono ?_); rintro e w1 ⟨rfl, hb⟩; have HB1 := Lib.hid hb; clear hb) | (go_at_call 25; (with_reducible refine (HN.out _).mono ?_); rintro e w1 ⟨rfl, rfl⟩) | (go_at_call 14; (with_reducible refine (HM.out _).mono ?_); rintro e w1 ⟨rfl, rfl⟩))
    exact bodyPost_ret (v := .bool true) (by simp [results, Try.results5, go_sem]) rfl ⟨rfl, HB1.out⟩
  · have d0 : decide (k < 1) = false := decide_eq_false hk
    have d1 : decide (64 < k) = true := decide_eq_true (by omega)
    clear h hk
    go_enter Try.func5, Try.ntmps5
    go_wp2_with (first | (go_at_call 8; (with_reducible refine (HAW.out _).mono ?_); rintro e w1 ⟨rfl, hb⟩; have HB1 := Lib.hid hb; clear hb) | (go_at_call 25; (with_reducible refine (HN.out _).mono ?_); rintro e w1 ⟨rfl, rfl⟩) | (go_at_call 14; (with_reducible refine (HM.out _).mono ?_); rintro e w1 ⟨rfl, rfl⟩))
    exact bodyPost_ret (v := .bool true) (by simp [results, Try.results5, go_sem]) rfl ⟨rfl, HB1.out⟩
theorem see_at {α : Type} {E : Enc α} {w : World} {a : Option Addr} {n c : Nat} {L : List α} (h : SeeL E w (.slice a n c) L) : AtL E w a L := by
  obtain ⟨a', c', hv, hA⟩ := h
  simp only [Value.slice.injEq] at hv
  rw [hv.1]
  exact hA
set_option maxHeartbeats 2000000 in
theorem seqtakes_ok (m k : Int) (a : Option Addr) (n cc : Nat) (L : List Int) (w : World) (hn : L.length = n) (hA : AtL encI w a L) (hmd : m = 8 ∨ m = 128) (hk : 1 ≤ k ∧ 2 * k ≤ m) : Calls Try.prog 5 #[.int .i64 m, .int .i64 k, .slice a n cc] w fun e w' => e = .returned (.bool true) ∧ Below w.heap.size w w' := by
  have HAW := Lib.hid (fun W => cseqawake W)
  have HN := Lib.hid (fun W => cnewin_yes m k W hmd hk)
  have HM := Lib.hid (fun W => rmod_any m W)
  rw [show modR m = true from by rcases hmd with e | e <;> subst e <;> rfl] at HM
  have d0 : decide (k < 1) = false := decide_eq_false (by omega)
  obtain ⟨H, hH⟩ : ∃ H : Int, m.tdiv 2 = H := ⟨_, rfl⟩
  have hH2 : 2 * H = m := by rcases hmd with e | e <;> subst e <;> (rw [← hH]; decide)
  have zH : IntKind.i64.wrap H = H := i64_small' _ (by omega) (by omega)
  have d1 : decide (H < k) = false := decide_eq_false (by omega)
  have HKK := Lib.hid hk
  have HMD := Lib.hid hmd
  have hm0 : ¬ (m = 0) := by omega
  have hzi := zeroIn
  by_cases hz : 400 < n
  · have dz : decide ((400 : Int) < (n : Int)) = true := decide_eq_true (by omega)
    clear hn hA hk hz hmd hH2
    go_enter Try.func5, Try.ntmps5
    go_wp2_with (first | (go_at_call 8; (with_reducible refine (HAW.out _).mono ?_); rintro e w1 ⟨rfl, hb⟩; have HB1 := Lib.hid hb; clear hb) | (go_at_call 25; (with_reducible refine (HN.out _).mono ?_); rintro e w2 ⟨p, F, rfl, hI, hF, hb⟩; have HB2 := Lib.hid (HB1.out.trans (hb.mono HB1.out.size)); clear hI hF hb) | (go_at_call 14; (with_reducible refine (HM.out _).mono ?_); rintro e w3 ⟨rfl, rfl⟩))
    exact bodyPost_ret (v := .bool true) (by simp [results, Try.results5, go_sem]) rfl ⟨rfl, HB2.out⟩
  · have dz : decide ((400 : Int) < (n : Int)) = false := decide_eq_false (by omega)
    have hn4 : n ≤ 400 := by omega
    have HNN := Lib.hid hn
    have HA := Lib.hid hA
    clear hn hA hk hz hmd hH2
    go_enter Try.func5, Try.ntmps5
    go_upto_region 11 with (first | (go_at_call 8; (with_reducible refine (HAW.out _).mono ?_); rintro e w1 ⟨rfl, hb⟩; have HB1 := Lib.hid hb; clear hb) | (go_at_call 25; (with_reducible refine (HN.out _).mono ?_); rintro e w2 ⟨p, F, rfl, hI, hF, hb⟩; have HI2 := Lib.hid (And.intro hI (And.intro (fun b h => Nat.le_trans HB1.out.size (hF b h)) (HB1.out.trans (hb.mono HB1.out.size)))); clear hI hF hb) | (go_at_call 14; (with_reducible refine (HM.out _).mono ?_); rintro e w2 ⟨rfl, rfl⟩))
    rw [zeroI_set m k]
    have HTS := Lib.hid (show TsAt w p w2.heap.size m k ⟨0, List.replicate 128 false⟩ (w2.alloc (.cells (tiV m k ⟨0, List.replicate 128 false⟩).toArray 51)) from
      ⟨⟨F, HI2.out.1.below ((Below.refl _ _).alloc (Nat.le_refl _) _), HI2.out.2.1, fun hf => by have := inC.mem HI2.out.1 _ hf; omega⟩, RowAt.new w2 w2.heap.size rfl _ 51, HI2.out.2.2.alloc HI2.out.2.2.size _, HI2.out.2.2.size⟩)
    clear HAW HN HM d0 d1 dz hzi HI2 zH hH
    generalize w2.alloc (.cells (tiV m k ⟨0, List.replicate 128 false⟩).toArray 51) = w4 at *
    generalize w2.heap.size = q at *
    go_wp2_with fail
    go_loopw [58] (fun v wx => ∃ (j : Nat) (t : Ti), j ≤ n ∧ v = .int .i64 j ∧ t.vr ≤ 128 * (j : Int) ∧ Hid (TiOk m k t ∧ TsAt w p q m k t wx)) (fun v _ => n - (intOf v).toNat)
    case atStart => exact ⟨0, ⟨0, List.replicate 128 false⟩, Nat.zero_le _, rfl, by simp, Lib.hid ⟨(Thru.start HMD.out HKK.out).ti, HTS.out⟩⟩
    case round =>
      obtain ⟨j, t, hj, rfl, hso, HK⟩ := hrel
      clear HTS
      have HOK := Lib.hid HK.out.1
      have HTS := Lib.hid HK.out.2
      clear HK
      by_cases hlt : j < n
      · have hL : j < L.length := by rw [HNN.out]; exact hlt
        obtain ⟨g, o, rfl, _⟩ := HA.out.some_ (by omega)
        have x0 := int_at (HA.out.below HTS.out.bel) j hL
        generalize L[j] = y at *
        obtain ⟨⟨t2, L2, x2⟩, hE⟩ : ∃ x, takeT m k t y = x := ⟨_, rfl⟩
        have HT1 := Lib.hid (fun W (h : TsAt w p q m k t W) => h.take HOK.out y hE)
        have HT2 := Lib.hid (fun W (h : RowAt W q (tiV m k t)) => rtake11_any q m k t y W h HOK.out)
        have hok2 := HOK.out.take y (by omega)
        have hvr := takeT_vr HOK.out y
        have hmost := takeT_most HOK.out y
        rw [hE] at HT2 hok2 hvr hmost
        have hso2 : t2.vr ≤ 128 * ((j + 1 : Nat) : Int) := by
          have : t2.vr ≤ t.vr + 128 := hvr
          omega
        have HOK2 := Lib.hid (show TiOk m k t2 from hok2)
        have HLL := Lib.hid (show L2.length ≤ 1000 from Nat.le_trans hmost (by omega))
        clear hE hok2 hvr hmost hso HOK
        go_upto_region 16 with (first | (go_at_call 26; (with_reducible refine (HT1.out _ HTS.out).mono ?_); rintro e w5 ⟨v1, rfl, hon⟩; obtain ⟨a1, c1, hv1, -⟩ := hon.own.see; subst hv1; have HON := Lib.hid hon; clear hon) | (go_at_call 27; (with_reducible refine (HT2.out _ HON.out.r).mono ?_); rintro e w6 ⟨⟨v2, rfl, ho2⟩, hr2, ht2⟩; obtain ⟨a2, c2, hv2, hA2⟩ := ho2.see; subst hv2; have HA2 := Lib.hid hA2; have HTS2 := Lib.hid (HON.out.both hr2 ht2).1; have HA1 := Lib.hid (see_at (HON.out.both hr2 ht2).2); clear hA2 ho2 hr2 ht2))
        clear HT1 HT2 HON HTS x0
        obtain ⟨A2, hA2⟩ : ∃ A, t2.vr % m = A := ⟨_, rfl⟩
        obtain ⟨y1, y2, -, -⟩ := rem_num m t2.vr HMD.out HOK2.out.vb.1
        rw [hA2] at y1 y2
        have HTT := Lib.hid (And.intro y1 y2)
        have HVR := Lib.hid (fun W (h : TsAt w p q m k t2 W) => show Calls Try.prog 28 #[.pointer (some ⟨p, 0, none⟩)] W fun e w' => e = .returned (.int .i64 A2) ∧ w' = W from by
          obtain ⟨F, hI, -⟩ := h.c
          rw [← hA2]
          exact cvr_any p m k t2 F W hI)
        have HHD := Lib.hid (fun W (h : TsAt w p q m k t2 W) => show Calls Try.prog 29 #[.pointer (some ⟨p, 0, none⟩)] W fun e w' => e = .returned (.int .i64 (heldT t2)) ∧ w' = W from by
          obtain ⟨F, hI, -⟩ := h.c
          exact cheld_any p m k t2 F W hI)
        have HRH := Lib.hid (fun W (h : TsAt w p q m k t2 W) => rheld_any q m k t2 W h.r HOK2.out.len)
        have HMS := Lib.hid (fun W (h : TsAt w p q m k t2 W) => show Calls Try.prog 31 #[.pointer (some ⟨p, 0, none⟩)] W fun e w' => ∃ v, e = .returned v ∧ OwnL encI 3 w' W.heap.size v (missT m t2) ∧ Below W.heap.size W w' from by
          obtain ⟨F, hI, -⟩ := h.c
          exact cmissing_any p m k t2 F W hI HOK2.out)
        have HRM := Lib.hid (fun W (h : TsAt w p q m k t2 W) => rmiss_any q m k t2 W h.r HOK2.out)
        have HLM := Lib.hid (missT_most HOK2.out)
        have HLT := Lib.hid (show decide (k ≤ heldT t2) = false from decide_eq_false (by have := held_lt HOK2.out; omega))
        generalize missT m t2 = LM at *
        generalize heldT t2 = H2 at *
        clear y1 y2 hA2
        refine wp_region_facts (fun W W' => Below W.heap.size W W') (fun W => TsAt w p q m k t2 W ∧ AtL encI W a1 L2 ∧ AtL encI W a2 L2)
          (fun j' v W => factsOf ([.is (.slice a1 L2.length c1), .is (.slice a2 L2.length c2), .is (.bool true), .is (.bool false), .is (.bool false), .is (.int .i64 x2), .is (.int .i64 x2), .is (.bool false), .is (.bool false), .is (.bool false), .is (.pointer (some ⟨p, 0, none⟩)), .is (.int .i64 A2), .is (.pointer (some ⟨q, 0, none⟩)), .is (.pointer (some ⟨q, 0, none⟩)), .is (.pointer (some ⟨q, 2, none⟩)), .is (.int .i64 t2.vr), .is (.int .i64 m), .is (.int .i64 A2), .is (.bool false), .is (.bool false)] ++ [.is (.bool false), .is (.pointer (some ⟨p, 0, none⟩)), .is (.int .i64 H2), .is (.pointer (some ⟨q, 0, none⟩)), .is (.int .i64 H2), .is (.bool false), .is (.bool false), .is (.bool false), .is (.pointer (some ⟨p, 0, none⟩)), .any, .is (.pointer (some ⟨q, 0, none⟩)), .any, .is (.bool true), .is (.bool false), .is (.bool false), .is (.bool false), .is (.pointer (some ⟨p, 0, none⟩)), .is (.int .i64 H2), .is (.int .i64 k), .is (.bool false), .is (.bool false)]) j' v W ∧ (j' = 29 ∨ j' = 31 → SeeL encI W v LM))
          (by kernel_rfl) (by kernel_rfl) (fun j' v W W' hb h => ⟨facts_stay _ j' v W W' hb h.1, fun e => (h.2 e).below hb⟩) (fun W W' hb h => ⟨h.1.below hb, h.2.1.below hb, h.2.2.below hb⟩) (fun i => [u74, u75, u76, u77, u78, u79, u80, u81, u82, u83, u84, u85, u86, u87, u88, u89, u90, u91, u92, u93, u94, u95, u96, u97, u98, u99, u100, u101, u102, u103, u104, u105, u106, u107, u108, u109, u110, u111, u112, u113, u114].getD i undef) (by kernel_rfl) ⟨HTS2.out.drew, HA1.out.drew, HA2.out.drew⟩ ?F1 ?hF1 ?hstep1 ?hend1
        case hF1 =>
          intro u
          simp only [fillAct]
          go_simp
          rfl
        case hstep1 =>
          clear HTS2 HA1 HA2
          refine FSteps.cons ?_ ?_
          · intro u W hS hd K hK
            clear hd
            simp only [upd, reduceIte, Nat.reduceEqDiff] at hK
            go_simp
            exact hK.out _ _ (Below.refl _ _) ⟨rfl, (fun e => absurd e (by decide))⟩
          refine FSteps.cons ?_ ?_
          · intro u W hS hd K hK
            clear hd
            simp only [upd, reduceIte, Nat.reduceEqDiff] at hK
            go_simp
            exact hK.out _ _ (Below.refl _ _) ⟨rfl, (fun e => absurd e (by decide))⟩
          refine FSteps.cons ?_ ?_
          · intro u W hS hd K hK
            have h0 : u 0 = _ := (hd 0 rfl).1
            have h1 : u 1 = _ := (hd 1 rfl).1
            clear hd
            simp only [upd, h0, h1, reduceIte, Nat.reduceEqDiff] at hK
            go_simp
            go_at_call 20
            refine (isame_yes _ _ L2 W ⟨_, _, rfl, hS.2.1⟩ ⟨_, _, rfl, hS.2.2⟩ HLL.out).mono ?_
            rintro e wc ⟨rfl, hb⟩
            exact hK.out _ _ hb ⟨rfl, (fun e => absurd e (by decide))⟩
          refine FSteps.cons ?_ ?_
          · intro u W hS hd K hK
            have h2 : u 2 = _ := (hd 2 rfl).1
            clear hd
            simp only [upd, h2, reduceIte, Nat.reduceEqDiff] at hK
            go_simp
            exact hK.out _ _ (Below.refl _ _) ⟨rfl, (fun e => absurd e (by decide))⟩
          refine FSteps.cons ?_ ?_
          · intro u W hS hd K hK
            have h3 : u 3 = _ := (hd 3 rfl).1
            clear hd
            simp only [upd, h3, reduceIte, Nat.reduceEqDiff] at hK
            go_simp
            exact hK.out _ _ (Below.refl _ _) ⟨rfl, (fun e => absurd e (by decide))⟩
          refine FSteps.cons ?_ ?_
          · intro u W hS hd K hK
            have h4 : u 4 = _ := (hd 4 rfl).1
            clear hd
            simp only [upd, h4, reduceIte, Nat.reduceEqDiff] at hK
            go_simp
            exact hK.out _ _ (Below.refl _ _) ⟨rfl, (fun e => absurd e (by decide))⟩
          refine FSteps.cons ?_ ?_
          · intro u W hS hd K hK
            have h4 : u 4 = _ := (hd 4 rfl).1
            clear hd
            simp only [upd, h4, reduceIte, Nat.reduceEqDiff] at hK
            go_simp
            exact hK.out _ _ (Below.refl _ _) ⟨rfl, (fun e => absurd e (by decide))⟩
          refine FSteps.cons ?_ ?_
          · intro u W hS hd K hK
            have h4 : u 4 = _ := (hd 4 rfl).1
            have h5 : u 5 = _ := (hd 5 rfl).1
            have h6 : u 6 = _ := (hd 6 rfl).1
            clear hd
            simp only [upd, h4, h5, h6, reduceIte, Nat.reduceEqDiff] at hK
            go_simp
            exact hK.out _ _ (Below.refl _ _) ⟨rfl, (fun e => absurd e (by decide))⟩
          refine FSteps.cons ?_ ?_
          · intro u W hS hd K hK
            have h4 : u 4 = _ := (hd 4 rfl).1
            have h7 : u 7 = _ := (hd 7 rfl).1
            clear hd
            simp only [upd, h4, h7, reduceIte, Nat.reduceEqDiff] at hK
            go_simp
            exact hK.out _ _ (Below.refl _ _) ⟨rfl, (fun e => absurd e (by decide))⟩
          refine FSteps.cons ?_ ?_
          · intro u W hS hd K hK
            have h8 : u 8 = _ := (hd 8 rfl).1
            clear hd
            simp only [upd, h8, reduceIte, Nat.reduceEqDiff] at hK
            go_simp
            exact hK.out _ _ (Below.refl _ _) ⟨rfl, (fun e => absurd e (by decide))⟩
          refine FSteps.cons ?_ ?_
          · intro u W hS hd K hK
            have h9 : u 9 = _ := (hd 9 rfl).1
            clear hd
            simp only [upd, h9, reduceIte, Nat.reduceEqDiff] at hK
            go_simp
            exact hK.out _ _ (Below.refl _ _) ⟨rfl, (fun e => absurd e (by decide))⟩
          refine FSteps.cons ?_ ?_
          · intro u W hS hd K hK
            have h9 : u 9 = _ := (hd 9 rfl).1
            have h10 : u 10 = _ := (hd 10 rfl).1
            clear hd
            simp only [upd, h9, h10, reduceIte, Nat.reduceEqDiff] at hK
            go_simp
            go_at_call 28
            refine (HVR.out _ hS.1).mono ?_
            rintro e wc ⟨rfl, rfl⟩
            exact hK.out _ _ (Below.refl _ _) ⟨rfl, (fun e => absurd e (by decide))⟩
          refine FSteps.cons ?_ ?_
          · intro u W hS hd K hK
            have h9 : u 9 = _ := (hd 9 rfl).1
            clear hd
            simp only [upd, h9, reduceIte, Nat.reduceEqDiff] at hK
            go_simp
            exact hK.out _ _ (Below.refl _ _) ⟨rfl, (fun e => absurd e (by decide))⟩
          refine FSteps.cons ?_ ?_
          · intro u W hS hd K hK
            have h9 : u 9 = _ := (hd 9 rfl).1
            have h12 : u 12 = _ := (hd 12 rfl).1
            clear hd
            simp only [upd, h9, h12, reduceIte, Nat.reduceEqDiff] at hK
            go_simp
            exact hK.out _ _ (Below.refl _ _) ⟨rfl, (fun e => absurd e (by decide))⟩
          refine FSteps.cons ?_ ?_
          · intro u W hS hd K hK
            have h9 : u 9 = _ := (hd 9 rfl).1
            have h13 : u 13 = _ := (hd 13 rfl).1
            clear hd
            simp only [upd, h9, h13, reduceIte, Nat.reduceEqDiff] at hK
            go_simp
            exact hK.out _ _ (Below.refl _ _) ⟨rfl, (fun e => absurd e (by decide))⟩
          refine FSteps.cons ?_ ?_
          · intro u W hS hd K hK
            have h9 : u 9 = _ := (hd 9 rfl).1
            have h14 : u 14 = _ := (hd 14 rfl).1
            clear hd
            simp only [upd, h9, h14, reduceIte, Nat.reduceEqDiff] at hK
            have c0 := (show W.cell? ⟨q, 2, none⟩ = some (.int .i64 t2.vr) from hS.1.r.cell 2 rfl)
            go_simp
            exact hK.out _ _ (Below.refl _ _) ⟨rfl, (fun e => absurd e (by decide))⟩
          refine FSteps.cons ?_ ?_
          · intro u W hS hd K hK
            have h9 : u 9 = _ := (hd 9 rfl).1
            clear hd
            simp only [upd, h9, reduceIte, Nat.reduceEqDiff] at hK
            go_simp
            exact hK.out _ _ (Below.refl _ _) ⟨rfl, (fun e => absurd e (by decide))⟩
          refine FSteps.cons ?_ ?_
          · intro u W hS hd K hK
            have h9 : u 9 = _ := (hd 9 rfl).1
            have h15 : u 15 = _ := (hd 15 rfl).1
            have h16 : u 16 = _ := (hd 16 rfl).1
            clear hd
            simp only [upd, h9, h15, h16, reduceIte, Nat.reduceEqDiff] at hK
            have y1 := HTT.out.1
            have y2 := HTT.out.2
            go_simp
            exact hK.out _ _ (Below.refl _ _) ⟨rfl, (fun e => absurd e (by decide))⟩
          refine FSteps.cons ?_ ?_
          · intro u W hS hd K hK
            have h9 : u 9 = _ := (hd 9 rfl).1
            have h11 : u 11 = _ := (hd 11 rfl).1
            have h17 : u 17 = _ := (hd 17 rfl).1
            clear hd
            simp only [upd, h9, h11, h17, reduceIte, Nat.reduceEqDiff] at hK
            go_simp
            exact hK.out _ _ (Below.refl _ _) ⟨rfl, (fun e => absurd e (by decide))⟩
          refine FSteps.cons ?_ ?_
          · intro u W hS hd K hK
            have h9 : u 9 = _ := (hd 9 rfl).1
            have h18 : u 18 = _ := (hd 18 rfl).1
            clear hd
            simp only [upd, h9, h18, reduceIte, Nat.reduceEqDiff] at hK
            go_simp
            exact hK.out _ _ (Below.refl _ _) ⟨rfl, (fun e => absurd e (by decide))⟩
          refine FSteps.cons ?_ ?_
          · intro u W hS hd K hK
            have h19 : u 19 = _ := (hd 19 rfl).1
            clear hd
            simp only [upd, h19, reduceIte, Nat.reduceEqDiff] at hK
            go_simp
            exact hK.out _ _ (Below.refl _ _) ⟨rfl, (fun e => absurd e (by decide))⟩
          refine FSteps.cons ?_ ?_
          · intro u W hS hd K hK
            have h20 : u 20 = _ := (hd 20 rfl).1
            clear hd
            simp only [upd, h20, reduceIte, Nat.reduceEqDiff] at hK
            go_simp
            exact hK.out _ _ (Below.refl _ _) ⟨rfl, (fun e => absurd e (by decide))⟩
          refine FSteps.cons ?_ ?_
          · intro u W hS hd K hK
            have h20 : u 20 = _ := (hd 20 rfl).1
            have h21 : u 21 = _ := (hd 21 rfl).1
            clear hd
            simp only [upd, h20, h21, reduceIte, Nat.reduceEqDiff] at hK
            go_simp
            go_at_call 29
            refine (HHD.out _ hS.1).mono ?_
            rintro e wc ⟨rfl, rfl⟩
            exact hK.out _ _ (Below.refl _ _) ⟨rfl, (fun e => absurd e (by decide))⟩
          refine FSteps.cons ?_ ?_
          · intro u W hS hd K hK
            have h20 : u 20 = _ := (hd 20 rfl).1
            clear hd
            simp only [upd, h20, reduceIte, Nat.reduceEqDiff] at hK
            go_simp
            exact hK.out _ _ (Below.refl _ _) ⟨rfl, (fun e => absurd e (by decide))⟩
          refine FSteps.cons ?_ ?_
          · intro u W hS hd K hK
            have h20 : u 20 = _ := (hd 20 rfl).1
            have h23 : u 23 = _ := (hd 23 rfl).1
            clear hd
            simp only [upd, h20, h23, reduceIte, Nat.reduceEqDiff] at hK
            go_simp
            go_at_call 30
            refine (HRH.out _ hS.1).mono ?_
            rintro e wc ⟨rfl, rfl⟩
            exact hK.out _ _ (Below.refl _ _) ⟨rfl, (fun e => absurd e (by decide))⟩
          refine FSteps.cons ?_ ?_
          · intro u W hS hd K hK
            have h20 : u 20 = _ := (hd 20 rfl).1
            have h22 : u 22 = _ := (hd 22 rfl).1
            have h24 : u 24 = _ := (hd 24 rfl).1
            clear hd
            simp only [upd, h20, h22, h24, reduceIte, Nat.reduceEqDiff] at hK
            go_simp
            exact hK.out _ _ (Below.refl _ _) ⟨rfl, (fun e => absurd e (by decide))⟩
          refine FSteps.cons ?_ ?_
          · intro u W hS hd K hK
            have h20 : u 20 = _ := (hd 20 rfl).1
            have h25 : u 25 = _ := (hd 25 rfl).1
            clear hd
            simp only [upd, h20, h25, reduceIte, Nat.reduceEqDiff] at hK
            go_simp
            exact hK.out _ _ (Below.refl _ _) ⟨rfl, (fun e => absurd e (by decide))⟩
          refine FSteps.cons ?_ ?_
          · intro u W hS hd K hK
            have h26 : u 26 = _ := (hd 26 rfl).1
            clear hd
            simp only [upd, h26, reduceIte, Nat.reduceEqDiff] at hK
            go_simp
            exact hK.out _ _ (Below.refl _ _) ⟨rfl, (fun e => absurd e (by decide))⟩
          refine FSteps.cons ?_ ?_
          · intro u W hS hd K hK
            have h27 : u 27 = _ := (hd 27 rfl).1
            clear hd
            simp only [upd, h27, reduceIte, Nat.reduceEqDiff] at hK
            go_simp
            exact hK.out _ _ (Below.refl _ _) ⟨rfl, (fun e => absurd e (by decide))⟩
          refine FSteps.cons ?_ ?_
          · intro u W hS hd K hK
            have h27 : u 27 = _ := (hd 27 rfl).1
            have h28 : u 28 = _ := (hd 28 rfl).1
            clear hd
            simp only [upd, h27, h28, reduceIte, Nat.reduceEqDiff] at hK
            go_simp
            go_at_call 31
            refine (HMS.out _ hS.1).mono ?_
            rintro e wc ⟨v, rfl, ho, hb⟩
            exact hK.out _ _ hb ⟨trivial, fun _ => ho.see⟩
          refine FSteps.cons ?_ ?_
          · intro u W hS hd K hK
            have h27 : u 27 = _ := (hd 27 rfl).1
            clear hd
            simp only [upd, h27, reduceIte, Nat.reduceEqDiff] at hK
            go_simp
            exact hK.out _ _ (Below.refl _ _) ⟨rfl, (fun e => absurd e (by decide))⟩
          refine FSteps.cons ?_ ?_
          · intro u W hS hd K hK
            have h27 : u 27 = _ := (hd 27 rfl).1
            have h30 : u 30 = _ := (hd 30 rfl).1
            clear hd
            simp only [upd, h27, h30, reduceIte, Nat.reduceEqDiff] at hK
            go_simp
            go_at_call 32
            refine (HRM.out _ hS.1).mono ?_
            rintro e wc ⟨⟨v, rfl, ho⟩, hb⟩
            exact hK.out _ _ hb ⟨trivial, fun _ => ho.see⟩
          refine FSteps.cons ?_ ?_
          · intro u W hS hd K hK
            have h27 : u 27 = _ := (hd 27 rfl).1
            obtain ⟨a29, c29, h29, A29⟩ := ((hd 29 rfl).2 (Or.inl rfl))
            obtain ⟨a31, c31, h31, A31⟩ := ((hd 31 rfl).2 (Or.inr rfl))
            clear hd
            simp only [upd, h27, h29, h31, reduceIte, Nat.reduceEqDiff] at hK
            go_simp
            go_at_call 20
            refine (isame_yes _ _ LM W ⟨_, _, rfl, A29⟩ ⟨_, _, rfl, A31⟩ HLM.out).mono ?_
            rintro e wc ⟨rfl, hb⟩
            exact hK.out _ _ hb ⟨rfl, (fun e => absurd e (by decide))⟩
          refine FSteps.cons ?_ ?_
          · intro u W hS hd K hK
            have h27 : u 27 = _ := (hd 27 rfl).1
            have h32 : u 32 = _ := (hd 32 rfl).1
            clear hd
            simp only [upd, h27, h32, reduceIte, Nat.reduceEqDiff] at hK
            go_simp
            exact hK.out _ _ (Below.refl _ _) ⟨rfl, (fun e => absurd e (by decide))⟩
          refine FSteps.cons ?_ ?_
          · intro u W hS hd K hK
            have h27 : u 27 = _ := (hd 27 rfl).1
            have h33 : u 33 = _ := (hd 33 rfl).1
            clear hd
            simp only [upd, h27, h33, reduceIte, Nat.reduceEqDiff] at hK
            go_simp
            exact hK.out _ _ (Below.refl _ _) ⟨rfl, (fun e => absurd e (by decide))⟩
          refine FSteps.cons ?_ ?_
          · intro u W hS hd K hK
            have h34 : u 34 = _ := (hd 34 rfl).1
            clear hd
            simp only [upd, h34, reduceIte, Nat.reduceEqDiff] at hK
            go_simp
            exact hK.out _ _ (Below.refl _ _) ⟨rfl, (fun e => absurd e (by decide))⟩
          refine FSteps.cons ?_ ?_
          · intro u W hS hd K hK
            have h35 : u 35 = _ := (hd 35 rfl).1
            clear hd
            simp only [upd, h35, reduceIte, Nat.reduceEqDiff] at hK
            go_simp
            exact hK.out _ _ (Below.refl _ _) ⟨rfl, (fun e => absurd e (by decide))⟩
          refine FSteps.cons ?_ ?_
          · intro u W hS hd K hK
            have h35 : u 35 = _ := (hd 35 rfl).1
            have h36 : u 36 = _ := (hd 36 rfl).1
            clear hd
            simp only [upd, h35, h36, reduceIte, Nat.reduceEqDiff] at hK
            go_simp
            go_at_call 29
            refine (HHD.out _ hS.1).mono ?_
            rintro e wc ⟨rfl, rfl⟩
            exact hK.out _ _ (Below.refl _ _) ⟨rfl, (fun e => absurd e (by decide))⟩
          refine FSteps.cons ?_ ?_
          · intro u W hS hd K hK
            have h35 : u 35 = _ := (hd 35 rfl).1
            clear hd
            simp only [upd, h35, reduceIte, Nat.reduceEqDiff] at hK
            go_simp
            exact hK.out _ _ (Below.refl _ _) ⟨rfl, (fun e => absurd e (by decide))⟩
          refine FSteps.cons ?_ ?_
          · intro u W hS hd K hK
            have h35 : u 35 = _ := (hd 35 rfl).1
            have h37 : u 37 = _ := (hd 37 rfl).1
            have h38 : u 38 = _ := (hd 38 rfl).1
            clear hd
            simp only [upd, h35, h37, h38, reduceIte, Nat.reduceEqDiff] at hK
            have dk := HLT.out
            go_simp
            exact hK.out _ _ (Below.refl _ _) ⟨rfl, (fun e => absurd e (by decide))⟩
          refine FSteps.cons ?_ ?_
          · intro u W hS hd K hK
            have h35 : u 35 = _ := (hd 35 rfl).1
            have h39 : u 39 = _ := (hd 39 rfl).1
            clear hd
            simp only [upd, h35, h39, reduceIte, Nat.reduceEqDiff] at hK
            go_simp
            exact hK.out _ _ (Below.refl _ _) ⟨rfl, (fun e => absurd e (by decide))⟩
          exact trivial
        case hend1 =>
          intro u w6 hS hd
          have h40 : u 40 = _ := (hd 40 rfl).1
          have HTS6 := Lib.hid hS.1
          clear hd hS HTS2 HA1 HA2
          rw [h40]
          go_wp2_with fail
          go_roundw
          case rel =>
            (repeat apply Exists.intro)
            refine ⟨⟨j + 1, t2, hlt, ?_, hso2, Lib.hid ⟨HOK2.out, HTS6.out⟩⟩, rfl⟩
            go_num
          case measure => simp [intOf]; omega
      · have dj : decide ((j : Int) < (n : Int)) = false := decide_eq_false (by omega)
        go_wp2_with fail
        exact bodyPost_ret (v := .bool true) (by simp [results, Try.results5, go_sem]) rfl ⟨rfl, HTS.out.bel⟩
theorem seqtakes_any (m k : Int) (a : Option Addr) (n cc : Nat) (L : List Int) (w : World) (hn : L.length = n) (hA : AtL encI w a L) : Calls Try.prog 5 #[.int .i64 m, .int .i64 k, .slice a n cc] w fun e w' => e = .returned (.bool true) ∧ Below w.heap.size w w' := by
  cases hm : modR m with
  | false => exact seqtakes_bad_none m k a n cc w hm
  | true =>
    by_cases hk : 1 ≤ k ∧ 2 * k ≤ m
    · exact seqtakes_ok m k a n cc L w hn hA (modR_yes hm) hk
    · rcases modR_yes hm with e | e <;> subst e
      · exact seqtakes_bad_narrow k a n cc w (by omega)
      · exact seqtakes_bad_wide k a n cc w (by omega)
end Go.Proofs.Ytmokibjeanbabaa
