/-
The document's example of links: a SABM comes.
The document's example of links, in the law's words; a new table as the law makes it.
What the law of refused calls keeps, as plain facts.
The calls that the law of refused calls makes: the first one, once more, and to others.
-/
import Derived.Test.YtgoaepjjegblnaaGreatDoorMix42
import Derived.Test.YtgoaepjjegblnaaGreatDoorMix43
import Derived.Test.YtgoaepjjegblnaaGreatDoorMix36
import Derived.Test.YtgoaepjjegblnaaGreatDoorMix35
import Derived.Test.YtgoaepjjegblnaaGreatDoorMix12
namespace Go.Proofs.YtgoaepjjegblnaaGreatDoor
open Go.RowKit Go.Sort
set_option maxRecDepth 20000
def exS21 : List UInt8 := bytesF [(⟨#[77, 69]⟩, 1, true), (⟨#[65]⟩, 0, false)] 6 0 0 true false 0 []
def usualX : Xq := ⟨false, false, 64, 4, 20, 5⟩
def exF21 : Fi := ⟨⟨#[77, 69]⟩, 1, ⟨#[65]⟩, 0, true, false, [], 6, 0, 0, true, 0, ⟨#[]⟩⟩
theorem ex21_wrong : wrongF [(⟨#[77, 69]⟩, 1, true), (⟨#[65]⟩, 0, false)] 6 0 0 false 0 0 = 0 := by decide +kernel
theorem ex21_len : exS21.length = 15 := by decide +kernel
theorem ex21_for : forD (⟨#[77, 69]⟩, 1) exS21 = true := by decide +kernel
theorem ex21_dec : decE exS21 false = 0 := by decide +kernel
theorem ex21_path : pathL exS21 = [(⟨#[77, 69]⟩, 1, true), (⟨#[65]⟩, 0, false)] := by decide +kernel
theorem ex21_ctl : ((ctlOf exS21 false).1, (ctlOf exS21 false).2.1, (ctlOf exS21 false).2.2.1, (ctlOf exS21 false).2.2.2.1) = (6, 0, 0, true) := by decide +kernel
theorem ex21_head : headN exS21 false = 15 := by decide +kernel
theorem ex21_right : rightP ((⟨#[77, 69]⟩, 1, true) :: (⟨#[65]⟩, 0, !true) :: freshD []) = true := by decide +kernel
theorem cown21 (w : World) : Calls Tryz.prog 43 #[] w fun e w' => e = .returned (clV ⟨#[77, 69]⟩ 1) ∧ Below w.heap.size w w' := by
  go_enter Tryz.func43, Tryz.ntmps43
  go_wp2_with fail
  have S := RowAt.new w w.heap.size rfl [.string ⟨#[77, 69]⟩, .int .i64 1] 54
  exact bodyPost_ret (v := clV ⟨#[77, 69]⟩ 1) (by simp [results, Tryz.results43, go_sem, S.cell 0 rfl, S.cell 1 rfl]) rfl ⟨rfl, (Below.refl _ w).alloc (Nat.le_refl _) _⟩
theorem ex21_via (w : World) : Calls Tryz.prog 77 #[clV ⟨#[65]⟩ 0, clV ⟨#[77, 69]⟩ 1, .bool true, .slice none 0 0] w fun e w' =>
    (∃ da dc, e = .returned (.tuple #[.agg #[.string ⟨#[77, 69]⟩, .int .i64 1, .string ⟨#[65]⟩, .int .i64 0, .bool true, .bool false, .slice da 0 dc], .int .i64 0]) ∧ EntsAt w' da dc []) ∧ Below w.heap.size w w' := by
  have h := via_own ⟨#[65]⟩ ⟨#[77, 69]⟩ 0 1 true none 0 [] w (by simp) (fun k hk => absurd hk (by simp)) (by decide) (by decide) (fun x hx => absurd hx (by simp))
  rw [ex21_right] at h
  simp only [if_true] at h
  refine h.mono ?_
  rintro e w' ⟨⟨da, dc, h1, h2, -⟩, h3⟩
  exact ⟨⟨da, dc, h1, h2⟩, h3⟩
theorem ex21_enc (da : Option Addr) (dc : Nat) (w : World) (hC : CodesOk w) (hE : EntsAt w da dc []) : Calls Tryz.prog 57 #[.agg #[.string ⟨#[77, 69]⟩, .int .i64 1, .string ⟨#[65]⟩, .int .i64 0, .bool true, .bool false, .slice da 0 dc, .int .i64 6, .int .i64 0, .int .i64 0, .bool true, .int .i64 0, .string ⟨#[]⟩], .bool false] w fun e w' =>
    e = .returned (.tuple #[.string ⟨exS21.toArray⟩, .int .i64 0]) ∧ Below w.heap.size w w' := enc_yes ⟨#[77, 69]⟩ ⟨#[65]⟩ 1 0 true false da dc [] 6 0 0 true 0 ⟨#[]⟩ false w hC (by decide) hE ex21_wrong
set_option maxHeartbeats 1000000 in
theorem csabm21 (w : World) (hC : CodesOk w) : Calls Tryz.prog 89 #[clV ⟨#[65]⟩ 0, clV ⟨#[77, 69]⟩ 1] w fun e w' => e = .returned (.string ⟨exS21.toArray⟩) ∧ Below w.heap.size w w' := by
  have HB0 := Lib.hid (show Below w.heap.size w ((w.alloc (.cells #[.string ⟨#[65]⟩, .int .i64 0] 54)).alloc (.cells #[.string ⟨#[77, 69]⟩, .int .i64 1] 54)) from ((Below.refl _ w).alloc (Nat.le_refl _) _).alloc (by simp) _)
  have HVI := Lib.hid (fun W => ex21_via W)
  have HEN := Lib.hid (fun da dc W (hb : Below w.heap.size w W) hE => ex21_enc da dc W (hC.below hb) hE)
  clear hC
  generalize exS21 = S at *
  go_enter Tryz.func89, Tryz.ntmps89
  go_wp2_with (first
    | (go_at_call 77; (with_reducible refine (HVI.out _).mono ?_); rintro e w1 ⟨⟨da, dc, rfl, hE⟩, hb⟩; have hb1 := HB0.out.trans (hb.mono HB0.out.size); have HB1 := Lib.hid (hb1.alloc hb1.size (.cells #[.string ⟨#[77, 69]⟩, .int .i64 1, .string ⟨#[65]⟩, .int .i64 0, .bool true, .bool false, .slice da 0 dc] 57)); have HE1 := Lib.hid (hE.alloc (.cells #[.string ⟨#[77, 69]⟩, .int .i64 1, .string ⟨#[65]⟩, .int .i64 0, .bool true, .bool false, .slice da 0 dc] 57)); clear hb hb1 hE)
    | (go_at_call 57; (with_reducible refine (HEN.out da dc _ HB1.out HE1.out).mono ?_); rintro e w2 ⟨rfl, hb⟩; have HB2 := Lib.hid (HB1.out.trans (hb.mono HB1.out.size)); clear hb))
  exact bodyPost_ret (v := .string ⟨S.toArray⟩) (by simp [results, Tryz.results89, go_sem]) rfl ⟨rfl, HB2.out⟩
theorem ex21_get (w : World) : Calls Tryz.prog 144 #[.string ⟨exS21.toArray⟩] w fun e w' => (∃ da dc, e = .returned (.tuple #[.agg #[.string exF21.tb, .int .i64 exF21.tn, .string exF21.fb, .int .i64 exF21.fn, .bool exF21.tm, .bool exF21.fm, .slice da exF21.D.length dc], .int .i64 14, .int .i64 0])) ∧ Below w.heap.size w w' := by
  have hd : decB exS21 = true := by
    unfold decB
    rw [ex21_dec]
    rfl
  have h := cget18 ⟨exS21.toArray⟩ (by show exS21.toArray.size ≤ _; rw [List.size_toArray, ex21_len]; decide) (⟨#[77, 69]⟩, 1, true) (⟨#[65]⟩, 0, false) [] hd ex21_path w
  refine h.mono ?_
  rintro e w' ⟨⟨da, dc, h1, -⟩, h3⟩
  exact ⟨⟨da, dc, h1⟩, h3⟩
theorem ex21_decode (w : World) (hC : CodesOk w) : Calls Tryz.prog 56 #[.string ⟨exS21.toArray⟩, .bool false] w fun e w' => (∃ da dc, e = .returned (.tuple #[.agg #[.string exF21.tb, .int .i64 exF21.tn, .string exF21.fb, .int .i64 exF21.fn, .bool exF21.tm, .bool exF21.fm, .slice da exF21.D.length dc, .int .i64 exF21.kind, .int .i64 exF21.nr, .int .i64 exF21.ns, .bool exF21.pf, .int .i64 exF21.pid, .string exF21.info], .int .i64 0]) ∧ EntsAt w' da dc exF21.D ∧ ∀ q, da = some q → w.heap.size ≤ q.block) ∧ Below w.heap.size w w' := by
  refine (fdecx_any ⟨exS21.toArray⟩ false w (by show exS21.toArray.size ≤ _; rw [List.size_toArray, ex21_len]; decide) hC).mono ?_
  rintro e w' ⟨-, h2, h3⟩
  obtain ⟨x, y, D, da, dc, pid, info, hx, rfl, hE, hq, hp, -⟩ := h2 ex21_dec
  have hx' : pathL exS21 = x :: y :: D := hx
  rw [ex21_path] at hx'
  simp only [List.cons.injEq] at hx'
  obtain ⟨rfl, rfl, rfl⟩ := hx'
  have hc := ex21_ctl
  simp only [Prod.mk.injEq] at hc
  obtain ⟨c1, c2, c3, c4⟩ := hc
  have c1' : (ctlOf (⟨exS21.toArray⟩ : ByteArray).data.toList false).1 = 6 := c1
  obtain ⟨rfl, hi⟩ := hp (by rw [c1']; decide +kernel)
  have hi' : info.data.toList = exS21.drop (headN exS21 false) := hi
  rw [ex21_head, List.drop_of_length_le (Nat.le_of_eq ex21_len)] at hi'
  have hinf : info = ⟨#[]⟩ := bytes_ext' hi'
  subst hinf
  have c2' : (ctlOf (⟨exS21.toArray⟩ : ByteArray).data.toList false).2.1 = 0 := c2
  have c3' : (ctlOf (⟨exS21.toArray⟩ : ByteArray).data.toList false).2.2.1 = 0 := c3
  have c4' : (ctlOf (⟨exS21.toArray⟩ : ByteArray).data.toList false).2.2.2.1 = true := c4
  refine ⟨⟨da, dc, ?_, hE, hq⟩, h3⟩
  rw [c1', c2', c3', c4']
  rfl
end Go.Proofs.YtgoaepjjegblnaaGreatDoor
namespace Go.Proofs.YtgoaepjjegblnaaGreatDoor
open Go.RowKit Go.Sort
set_option maxRecDepth 20000
/-- where the one frame that was told lies -/
theorem one_frame {w : World} {fv ev : Value} {b : Bool} {o : Ot} {G : Nat → Prop} (h : OuV w (ouV fv ev b) o G) {fm : Fm} (hf : o.frames = [fm]) : ∃ g c, fv = .slice (some ⟨g, 0, none⟩) 1 c ∧ w.cell? ⟨g, 7, none⟩ = some (.int .i64 fm.kind) := by
  obtain ⟨fv', ev', L, hv, hO, -⟩ := h
  have he : fv = fv' := by
    simp only [Value.agg.injEq, Array.mk.injEq, List.cons.injEq] at hv
    exact hv.1
  subst he
  have hs := hO.same
  rw [hf] at hs
  match L, hs with
  | [x], hs =>
    have hx : x.f = fm := by simpa using hs
    obtain ⟨g, c, hv2, -, -, hA⟩ := hO.frames.some_ (by simp)
    have hc := hA.get 0 (by simp) 7 (u := .int .i64 x.f.kind) rfl
    rw [hx] at hc
    exact ⟨g, c, hv2, by simpa using hc⟩
def exT21 : Tb := ⟨⟨#[77, 69]⟩, 1, usualX, [], 0⟩
theorem usual_ok21 : usualX.ok = true := by decide +kernel
/-- a new table of the law's -/
theorem cnew21_law (w : World) : Calls Tryz.prog 42 #[clV ⟨#[77, 69]⟩ 1, .agg #[.bool false, .bool false, .int .i64 64, .int .i64 4, .int .i64 20, .int .i64 5]] w fun e w' => ∃ p, e = .returned (.tuple #[ptr20 p, .int .i64 0]) ∧ ∃ tv, TbAt w' p tv [] exT21 ∧ (∀ k, footT p tv [] k → w.heap.size ≤ k) ∧ Below w.heap.size w w' := by
  refine (cnew21_yes ⟨#[77, 69]⟩ 1 usualX w (by decide +kernel) usual_ok21 (by decide)).mono ?_
  rintro e w' ⟨p, he, F, ⟨tv, L, hT, rfl⟩, hF, hb⟩
  have hL : L = [] := by
    have := hT.same
    exact List.map_eq_nil_iff.1 this
  subst hL
  exact ⟨p, he, tv, hT, hF, hb⟩
theorem turn_below {w w1 w2 : World} {F : Nat → Prop} (h1 : Below w.heap.size w w1) (ht : Turn F w1 w2) (hF : ∀ k, F k → w.heap.size ≤ k) : Below w.heap.size w w2 := h1.trans (ht.below h1.size hF)
set_option maxHeartbeats 4000000 in
theorem cawake21 (w : World) (hC : CodesOk w) : Calls Tryz.prog 41 #[] w fun e w' => e = .returned (.bool true) ∧ Below w.heap.size w w' := by
  have HOW := Lib.hid (fun W => cown21 W)
  have HUS := Lib.hid (fun W => usual_any W)
  have HNW := Lib.hid (fun W => cnew21_law W)
  have HSA := Lib.hid (fun W (hb : Below w.heap.size w W) => csabm21 W (hC.below hb))
  have hlen : (⟨exS21.toArray⟩ : ByteArray).size ≤ 1000 := by
    show exS21.toArray.size ≤ _
    rw [List.size_toArray, ex21_len]
    decide
  have HTK := Lib.hid (fun W p tv (hb : Below w.heap.size w W) (h : TbAt W p tv [] exT21) => ctake21 W p tv [] exT21 ⟨exS21.toArray⟩ exF21 14 h (by decide) ⟨by decide, by decide⟩ usual_ok21 hlen (hC.below hb) ex21_for (fun W' _ => ex21_get W') (fun W' hb' => ex21_decode W' ((hC.below hb).below hb')) rfl rfl (by decide) rfl (by decide +kernel) ex21_wrong)
  have HSF := Lib.hid (sabm_facts exT21 exF21 rfl)
  clear hC hlen
  generalize (⟨exS21.toArray⟩ : ByteArray) = S at *
  go_enter Tryz.func41, Tryz.ntmps41
  go_upto_region 5 with (first
    | (go_at_call 43; (with_reducible refine (HOW.out _).mono ?_); rintro e w1 ⟨rfl, hb⟩; first | (have HB3 := Lib.hid (HB2.out.trans (hb.mono HB2.out.size)); have HT3 := Lib.hid (HT2.out.below hb); clear hb) | (have HB1 := Lib.hid hb; clear hb))
    | (go_at_call 44; (with_reducible refine (HUS.out _).mono ?_); rintro e w2 ⟨rfl, hb⟩; have HBU := Lib.hid (HB1.out.trans (hb.mono HB1.out.size)); clear hb)
    | (go_at_call 42; (with_reducible refine (HNW.out _).mono ?_); rintro e w3 ⟨p, rfl, tv, hT, hF, hb⟩; have HB2 := Lib.hid (HBU.out.trans (hb.mono HBU.out.size)); have HT2 := Lib.hid hT; have HF2 := Lib.hid (show ∀ k, footT p tv [] k → w.heap.size ≤ k from fun k hk => Nat.le_trans HBU.out.size (hF k hk)); clear hb hT hF)
    | (go_at_call 89; (with_reducible refine (HSA.out _ HB3.out).mono ?_); rintro e w4 ⟨rfl, hb⟩; have HB4 := Lib.hid (HB3.out.trans (hb.mono HB3.out.size)); have HT4 := Lib.hid (HT3.out.below hb); clear hb)
    | (go_at_call 88; (with_reducible refine (HTK.out _ _ _ HB4.out HT4.out).mono ?_); rintro e w5 ⟨v, u, tv', fv, ev, G, rfl, hid, hpb, hpn, hlk, hT5, hac, hov, htu, hgu⟩; have HT5 := Lib.hid hT5; have HID := Lib.hid hid; have HLK := Lib.hid hlk; have HAC := Lib.hid hac; have HOV := Lib.hid hov; have HB5 := Lib.hid (turn_below HB4.out htu HF2.out); clear hid hpb hpn hlk hT5 hac hov htu hgu))
  obtain ⟨g, rfl, hrow⟩ := HAC.out
  obtain ⟨h, c, rfl, h7⟩ := one_frame HOV.out HSF.out.2.1
  have a0 := hrow.cell 0 rfl
  have a3 := hrow.cell 3 rfl
  have hst := cstate21 w5 p tv' ([] ++ [u]) _ 1 HT5.out (by simp)
  have he : stateT ([] ++ [u]) 1 = 3 := by
    have h1 : isNo 1 u = true := by
      unfold isNo
      rw [HID.out]
      rfl
    unfold stateT
    rw [List.nil_append, List.find?_cons_of_pos h1]
    simp only
    rw [HLK.out]
    exact HSF.out.1
  rw [he] at hst
  have HST := Lib.hid hst
  clear hrow hst he HAC
  rw [show exT21.given + 1 = 1 from rfl] at a0
  go_wp2_with (go_at_call 47; (with_reducible refine HST.out.mono ?_); rintro e w6 ⟨rfl, hb⟩; have HB6 := Lib.hid (HB5.out.trans (hb.mono HB5.out.size)); clear hb)
  exact bodyPost_ret (v := .bool true) (by simp [results, Tryz.results41, go_sem]) rfl ⟨rfl, HB6.out⟩
end Go.Proofs.YtgoaepjjegblnaaGreatDoor
namespace Go.Proofs.YtgoaepjjegblnaaGreatDoor
open Go.RowKit Go.Sort
set_option maxRecDepth 20000
def rdC (c : ByteArray × Int) : Bool := rightD c.1 c.2
theorem ord_fresh (C : List (ByteArray × Int)) : ordD (freshD C) = true := by
  unfold ordD
  rw [List.all_eq_true]
  intro e he
  have := List.mem_of_mem_drop he
  simp only [freshD, List.mem_map] at this
  obtain ⟨c, -, rfl⟩ := this
  rfl
theorem all_fresh (C : List (ByteArray × Int)) : ((freshD C).all fun e => rightD e.1 e.2.1) = C.all rdC := by
  unfold freshD
  rw [List.all_map]
  rfl
theorem okWay_eq {T : Tb} {cb : ByteArray} {cn : Int} (C : List (ByteArray × Int)) (h : rightD cb cn = true) (hT : rightD T.ob T.on = true) : okWay T cb cn C = (decide (C.length ≤ 8) && C.all rdC) := by
  unfold okWay
  rw [right_cons, ord_fresh, List.all_cons, List.all_cons, all_fresh]
  simp only [h, hT, Bool.true_and, Bool.and_true]
  rw [show (freshD C).length = C.length by simp [freshD]]
abbrev zB : ByteArray := ⟨#[90, 90, 90]⟩
theorem z_peer : ∀ i : Fin 6, (rightD zB (i.val : Int) && !decide ((zB, (i.val : Int)) = ((⟨#[77, 69]⟩ : ByteArray), (1 : Int)))) = true := by decide +kernel
theorem z_way : ∀ i : Fin 6, rightP ((zB, (i.val : Int), true) :: ((⟨#[77, 69]⟩ : ByteArray), (1 : Int), false) :: freshD []) = true := by decide +kernel
structure Inv (cb : ByteArray) (cn : Int) (i : Nat) (L : List En) (T : Tb) : Prop where
  ob : T.ob = ⟨#[77, 69]⟩
  on : T.on = 1
  can : T.can = usualX
  given : T.given = ((min i 3 : Nat) : Int) + 1
  len : L.length = min i 3 + 1
  ids : ∀ e ∈ L, 1 ≤ e.id ∧ e.id ≤ 4
  peers : ∀ e ∈ L, (e.pb, e.pn) = (cb, cn) ∨ ∃ j : Nat, j < i ∧ (e.pb, e.pn) = (zB, (j : Int))
section
variable {cb : ByteArray} {cn : Int} {i : Nat} {L : List En} {T : Tb}
theorem Inv.start {u : En} {ep : List Ep} (hid : u.id = exT21.given + 1) (hb : u.pb = cb) (hn : u.pn = cn) : Inv cb cn 0 ([] ++ [u]) { exT21 with given := exT21.given + 1, ents := ep } := by
  have e : u.id = 1 := hid
  refine ⟨rfl, rfl, rfl, rfl, rfl, fun x hx => ?_, fun x hx => ?_⟩
  · rw [List.mem_singleton.1 hx, e]
    decide
  · rw [List.mem_singleton.1 hx, hb, hn]
    exact Or.inl rfl
theorem Inv.fresh (h : Inv cb cn i L T) (hne : (zB, (i : Int)) ≠ (cb, cn)) : findT L zB (i : Int) = 0 := by
  have hf : L.find? (isTo zB (i : Int)) = none := by
    rw [List.find?_eq_none]
    intro e he hq
    have hq' : (e.pb, e.pn) = (zB, (i : Int)) := of_decide_eq_true hq
    rcases h.peers e he with hp | ⟨j, hj, hp⟩
    · exact hne (hq'.symm.trans hp)
    · have := (Prod.mk.inj (hp.symm.trans hq')).2
      omega
  unfold findT
  rw [hf]
theorem Inv.more (h : Inv cb cn i L T) (hi : i < 3) {u : En} {ep : List Ep} (hid : u.id = T.given + 1) (hb : u.pb = zB) (hn : u.pn = (i : Int)) : Inv cb cn (i + 1) (L ++ [u]) { T with given := T.given + 1, ents := ep } := by
  have hg := h.given
  refine ⟨h.ob, h.on, h.can, ?_, ?_, fun x hx => ?_, fun x hx => ?_⟩
  · show T.given + 1 = _
    rw [hg]
    omega
  · rw [List.length_append, h.len, List.length_singleton]
    omega
  · rcases List.mem_append.1 hx with hx | hx
    · exact h.ids x hx
    · rw [List.mem_singleton.1 hx, hid, hg]
      omega
  · rcases List.mem_append.1 hx with hx | hx
    · exact (h.peers x hx).imp id fun ⟨j, hj, e⟩ => ⟨j, by omega, e⟩
    · rw [List.mem_singleton.1 hx, hb, hn]
      exact Or.inr ⟨i, by omega, rfl⟩
theorem Inv.same (h : Inv cb cn i L T) (hi : 3 ≤ i) : Inv cb cn (i + 1) L T :=
  ⟨h.ob, h.on, h.can, by rw [h.given]; omega, by rw [h.len]; omega, h.ids, fun e he => (h.peers e he).imp id fun ⟨j, hj, e⟩ => ⟨j, by omega, e⟩⟩
theorem ids_absent {L : List En} (h : ∀ e ∈ L, 1 ≤ e.id ∧ e.id ≤ 4) {n : Int} (hn : ¬ (1 ≤ n ∧ n ≤ 4)) : L.find? (isNo n) = none := by
  rw [List.find?_eq_none]
  intro e he hq
  have : e.id = n := by
    unfold isNo at hq
    exact beq_iff_eq.1 hq
  have := h e he
  omega
end
theorem fine_next (C : List (ByteArray × Int)) (k : Nat) (hk : k < C.length) : (decide (C.length ≤ 8) && (C.take (k + 1)).all rdC) = ((decide (C.length ≤ 8) && (C.take k).all rdC) && rdC C[k]) := by
  rw [List.take_succ_eq_append_getElem hk, List.all_append, List.all_cons, List.all_nil, Bool.and_true, Bool.and_assoc]
end Go.Proofs.YtgoaepjjegblnaaGreatDoor
namespace Go.Proofs.YtgoaepjjegblnaaGreatDoor
open Go.RowKit Go.Sort
set_option maxRecDepth 20000
/-- the table amid the law's calls: off all that was there ahead of block B -/
structure ZAt (B : Nat) (w1 : World) (p : Nat) (cb : ByteArray) (cn : Int) (i : Nat) (tv : Value) (L : List En) (T : Tb) (W : World) : Prop where
  inv : Inv cb cn i L T
  tab : TbAt W p tv L T
  bel : Below B w1 W
  off : ∀ k, footT p tv L k → B ≤ k
theorem ZAt.below {B : Nat} {w1 : World} {p : Nat} {cb : ByteArray} {cn : Int} {i : Nat} {tv : Value} {L : List En} {T : Tb} {W W' : World} (h : ZAt B w1 p cb cn i tv L T W) (hB : B ≤ w1.heap.size) (hb : Below W.heap.size W W') : ZAt B w1 p cb cn i tv L T W' :=
  ⟨h.inv, h.tab.below hb, h.bel.trans (hb.mono (Nat.le_trans hB h.bel.size)), h.off⟩
theorem conn_first (w1 W : World) (p : Nat) (tv : Value) (cb : ByteArray) (cn : Int) (a : Option Addr) (cap : Nat) (C : List (ByteArray × Int)) (hT : TbAt W p tv [] exT21) (hb : Below w1.heap.size w1 W) (hF : ∀ k, footT p tv [] k → w1.heap.size ≤ k)
    (hp : cb.size ≤ 140737488351232) (hC : C.length ≤ 1000) (hE : CallsAt W a C) (hs : ∀ x ∈ C, x.1.size ≤ 140737488351232) (hk : okPeer exT21 cb cn = true) (hw : okWay exT21 cb cn C = true) :
    Calls Tryz.prog 46 #[ptr20 p, clV cb cn, .slice a C.length cap] W fun e w' => ∃ g u tv', e = .returned (.tuple #[.int .i64 1, .slice (some ⟨g, 0, none⟩) 1 1, .int .i64 0]) ∧ ∃ ep,
      ZAt w1.heap.size w1 p cb cn 0 tv' [u] { exT21 with given := 1, ents := ep } w' ∧ stateT [u] 1 = 2 ∧ findT [u] cb cn ≠ 0 := by
  refine (cconn21_ok W p tv [] exT21 cb cn a cap C hT (by simp) (by decide) hp hC hE hs usual_ok21 ⟨by decide, by decide⟩ hk hw rfl (by decide)).mono ?_
  rintro e w' ⟨v, u, tv', fv, ev, G, rfl, hid, hpb, hpn, hlk, hT', ⟨g, rfl, -⟩, -, htu, hgu⟩
  have e1 : u.id = 1 := hid
  refine ⟨g, u, tv', rfl, _, ⟨Inv.start hid hpb hpn, hT', hb.trans (htu.below hb.size hF), hgu.ge hF hb.size⟩, ?_, ?_⟩
  · have h1 : isNo 1 u = true := by
      unfold isNo
      rw [e1]
      rfl
    unfold stateT
    rw [List.find?_cons_of_pos h1]
    simp only
    rw [hlk]
    rfl
  · have h1 : isTo cb cn u = true := by
      unfold isTo
      rw [hpb, hpn]
      exact decide_eq_true rfl
    unfold findT
    rw [List.find?_cons_of_pos h1]
    simp only
    rw [e1]
    decide
theorem conn_again (w1 W : World) (p : Nat) (tv : Value) (u : En) (ep : List Ep) (cb : ByteArray) (cn : Int) (a : Option Addr) (cap : Nat) (C : List (ByteArray × Int)) (hZ : ZAt w1.heap.size w1 p cb cn 0 tv [u] { exT21 with given := 1, ents := ep } W)
    (hp : cb.size ≤ 140737488351232) (hC : C.length ≤ 1000) (hE : CallsAt W a C) (hs : ∀ x ∈ C, x.1.size ≤ 140737488351232) (hk : okPeer exT21 cb cn = true) (hw : okWay exT21 cb cn C = true) (hf : findT [u] cb cn ≠ 0) :
    Calls Tryz.prog 46 #[ptr20 p, clV cb cn, .slice a C.length cap] W fun e w' => e = .returned (.tuple #[.int .i64 0, actN, .int .i64 8]) ∧ ZAt w1.heap.size w1 p cb cn 0 tv [u] { exT21 with given := 1, ents := ep } w' :=
  (cconn21_there W p tv [u] { exT21 with given := 1, ents := ep } cb cn a cap C hZ.tab (by simp) (by show exT21.ob.size ≤ 100000; decide) hp hC hE hs usual_ok21 ⟨by show (0 : Int) ≤ 1; decide, by show (1 : Int) ≤ 100000; decide⟩ hk hw hf).mono fun e w' ⟨h1, h2⟩ => ⟨h1, hZ.below (Nat.le_refl _) h2⟩
section
variable (w1 W : World) (p : Nat) (tv : Value) (cb : ByteArray) (cn : Int) (i : Nat) (L : List En) (T : Tb) (hZ : ZAt w1.heap.size w1 p cb cn i tv L T W) (hi : i < 6) (hne : (zB, (i : Int)) ≠ (cb, cn))
include hZ hi hne
theorem conn_z (h3 : i < 3) : Calls Tryz.prog 46 #[ptr20 p, clV zB (i : Int), .slice none 0 0] W fun e w' => ∃ m v, e = .returned (.tuple #[.int .i64 m, v, .int .i64 0]) ∧ ∃ tv' L' T', ZAt w1.heap.size w1 p cb cn (i + 1) tv' L' T' w' := by
  have hI := hZ.inv
  have hk : okPeer T zB (i : Int) = true := by
    unfold okPeer
    rw [hI.ob, hI.on]
    exact z_peer ⟨i, hi⟩
  have hw : okWay T zB (i : Int) [] = true := by
    unfold okWay
    rw [hI.ob, hI.on]
    exact z_way ⟨i, hi⟩
  have hln := hI.len
  have hgv := hI.given
  refine (cconn21_ok W p tv L T zB (i : Int) none 0 [] hZ.tab (by omega) (by rw [hI.ob]; decide) (by decide) (by simp) (fun k hk => absurd hk (by simp)) (fun x hx => absurd hx (by simp)) (by rw [hI.can]; exact usual_ok21) (by omega) hk hw (hI.fresh hne) (by omega)).mono ?_
  rintro e w' ⟨v, u, tv', fv, ev, G, rfl, hid, hpb, hpn, hlk, hT', -, -, htu, hgu⟩
  exact ⟨_, _, rfl, tv', _, _, hI.more h3 hid hpb hpn, hT', hZ.bel.trans (htu.below hZ.bel.size hZ.off), hgu.ge hZ.off hZ.bel.size⟩
theorem conn_zfull (h3 : 3 ≤ i) : Calls Tryz.prog 46 #[ptr20 p, clV zB (i : Int), .slice none 0 0] W fun e w' => e = .returned (.tuple #[.int .i64 0, actN, .int .i64 6]) ∧ ∃ tv' L' T', ZAt w1.heap.size w1 p cb cn (i + 1) tv' L' T' w' := by
  have hI := hZ.inv
  have hk : okPeer T zB (i : Int) = true := by
    unfold okPeer
    rw [hI.ob, hI.on]
    exact z_peer ⟨i, hi⟩
  have hw : okWay T zB (i : Int) [] = true := by
    unfold okWay
    rw [hI.ob, hI.on]
    exact z_way ⟨i, hi⟩
  have hln := hI.len
  have hgv := hI.given
  refine (cconn21_full W p tv L T zB (i : Int) none 0 [] hZ.tab (by omega) (by rw [hI.ob]; decide) (by decide) (by simp) (fun k hk => absurd hk (by simp)) (fun x hx => absurd hx (by simp)) (by rw [hI.can]; exact usual_ok21) (by omega) hk hw (hI.fresh hne) (by omega)).mono ?_
  rintro e w' ⟨h1, h2⟩
  have hz := hZ.below (Nat.le_refl _) h2
  exact ⟨h1, tv, L, T, hI.same h3, hz.tab, hz.bel, hz.off⟩
end
end Go.Proofs.YtgoaepjjegblnaaGreatDoor
