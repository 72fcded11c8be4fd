/-
A link as plain facts: what it holds, and what each of its steps makes of that. (Own text of the verifier.)
The landed link's along: a way in memory of its own.
Pieces and a gatherer's state as they lie.
What a landed box has to answer (contracts); a box and the document's one, apart.
The library's Delete of the first one: of pieces, of messages.
How the landed box lies: a slice of messages, each a slice of pieces, each in a block of its own.
-/
import Derived.Test.YtgoaepjjegblnaaGreatDoorMix06
import Derived.Test.YtgoaepjjegblnaaGreatDoorMix07
import Derived.Test.YtgoaepjjegblnaaGreatDoorMix05
import Derived.Deep.DeepCutAuto
import Derived.Deep.RegionHeld
import Derived.ArgAppend
import Derived.BigQuiet
namespace Go.Proofs.YtgoaepjjegblnaaGreatDoor
set_option maxRecDepth 20000
/-- parameters -/
structure Xq where
  wide : Bool
  srej : Bool
  n1 : Int
  k : Int
  t1 : Int
  n2 : Int
def noX : Xq := ⟨false, false, 0, 0, 0, 0⟩
def Xq.ok (p : Xq) : Bool := rightX p.wide p.srej p.n1 p.k p.t1 p.n2
/-- what holds from now on -/
def fitX (agreed can : Xq) (wide : Bool) : Xq :=
  let p := if agreed.ok then agreed else can
  ⟨wide, wide && p.srej, p.n1, min p.k (mostD wide (wide && p.srej)), p.t1, p.n2⟩
/-- a way, which none has sent: to, from, between -/
structure Wy where
  tb : ByteArray
  tn : Int
  fb : ByteArray
  fn : Int
  D : List (ByteArray × Int)
/-- a frame that is told -/
structure Fm where
  way : Wy
  cmd : Bool
  kind : Int
  nr : Int
  ns : Int
  pf : Bool
  pid : Int
  info : ByteArray
structure Ev where
  kind : Int
  pid : Int
  text : ByteArray
structure Ot where
  frames : List Fm
  events : List Ev
  fresh : Bool
def noO : Ot := ⟨[], [], false⟩
/-- what a link has while it is up -/
structure Upp where
  box : Bx
  outs : So
  opn : Nat → Option Pc
  ins : Ti
  kept : Nat → Option Pc
  asked : Nat → Option Unit
  ga : Gs
structure Lk where
  ans : Option Sm
  t1 : Int
  t3 : Int
  ran : Int
  tries : Int
  up : Option Upp
  busy : Bool
  polling : Bool
  rejected : Bool
  held : Bool
  way : Wy
  can : Xq
  agreed : Xq
  holds : Xq
  state : Int
  asks : Int
  wasUp : Bool
  told : Int
  again : Int
  came : Int
  dropped : Int
  polls : Int
def newK (w : Wy) (can : Xq) : Lk := ⟨none, 0, 0, 0, 0, none, false, false, false, false, w, can, noX, noX, 0, 0, false, 0, 0, 0, 0, 0⟩
def modX (p : Xq) : Int := if p.wide then 128 else 8
def aheadX (p : Xq) : Int := if p.wide then 64 else 1
def newU : Upp := ⟨noB, ⟨0, 0⟩, fun _ => none, ⟨0, List.replicate 128 false⟩, fun _ => none, fun _ => none, zeroG⟩
/-- T1 of the answers -/
def ansT (a : Option Sm) : Int := match a with | none => 0 | some s => s.t1
namespace Lk
def learn (s : Lk) (t : Int) : Lk := { s with ans := some (Sm.new t) }
def start (s : Lk) : Lk := { s with t1 := ansT s.ans, t3 := 0, ran := 0 }
def stop (s : Lk) : Lk := { s with t1 := 0, t3 := 0, ran := 0, tries := 0 }
def run (s : Lk) (awaited : Bool) : Lk := if awaited ∧ s.t1 = 0 then s.start else if awaited = false ∧ s.t3 = 0 then { s with t3 := 300 } else s
def pass (s : Lk) : Lk × Bool × Bool :=
  if s.t1 > 0 then ({ s with t1 := s.t1 - 1, ran := s.ran + 1 }, decide (s.t1 - 1 = 0), false)
  else if s.t3 > 0 then ({ s with t3 := s.t3 - 1 }, false, decide (s.t3 - 1 = 0))
  else (s, false, false)
/-- so many numbers are open -/
def nOpn (s : Lk) : Nat := match s.up with | none => 0 | some u => cnt20 u.opn
def nBox (s : Lk) : Nat := match s.up with | none => 0 | some u => u.box.M.length
def awaits (s : Lk) : Bool := s.polling || decide (0 < s.nOpn)
def keepTime (s : Lk) : Lk := s.run s.awaits
def waits (s : Lk) : Int := (s.nBox : Int) + if 0 < s.nOpn then 1 else 0
def isWide (s : Lk) : Bool := decide (s.state = 3) && s.holds.wide
def params (s : Lk) : Xq := if s.state = 3 then s.holds else s.can
def drop (s : Lk) : Lk := { s with up := none, busy := false, polling := false, rejected := false }
def vr (s : Lk) : Int := match s.up with | none => 0 | some u => u.ins.vr % modX s.holds
end Lk
/-- a frame is told -/
def Ot.tell (o : Ot) (f : Fm) : Ot := { o with frames := o.frames ++ [f] }
def Ot.say (o : Ot) (e : Ev) : Ot := { o with events := o.events ++ [e] }
/-- parameters' bytes, if they are right -/
def xInfo (B : ByteArray) (kind : Int) : ByteArray := if kind = 13 then B else ⟨#[]⟩
namespace Lk
variable (B : Xq → ByteArray)
def tellPlain (s : Lk) (o : Ot) (cmd : Bool) (kind : Int) (pf : Bool) : Ot := o.tell ⟨s.way, cmd, kind, 0, 0, pf, 0, xInfo (B s.can) kind⟩
def tellAsks (s : Lk) (o : Ot) : Ot := s.tellPlain B o true s.asks true
def await (s : Lk) (o : Ot) (st kind : Int) : Lk × Ot :=
  let s' := { s.drop with state := st, asks := kind, tries := 0 }.start
  (s', s'.tellAsks B o)
def fall (s : Lk) (o : Ot) (kind : Int) : Lk × Ot :=
  ({ s.drop with ans := none, t1 := 0, t3 := 0, ran := 0, tries := 0, state := 0, wasUp := false }, if kind = 0 then o else o.say ⟨kind, 0, ⟨#[]⟩⟩)
def rise (s : Lk) (o : Ot) (wide : Bool) : Lk × Ot :=
  let kind : Int := if s.state = 3 ∨ s.wasUp = true then 5 else 1
  let h := fitX s.agreed s.can wide
  let s1 : Lk := { s with state := 3, wasUp := false, holds := h, up := some newU, busy := false, polling := false, rejected := false }
  (((s1.learn h.t1).stop).keepTime, { (o.say ⟨kind, 0, ⟨#[]⟩⟩) with fresh := true })
end Lk
end Go.Proofs.YtgoaepjjegblnaaGreatDoor
namespace Go.Proofs.YtgoaepjjegblnaaGreatDoor
open Go.RowKit Go.Sort
set_option maxRecDepth 20000
theorem RowAt.set7 {W : World} {m : Nat} {x0 x1 x2 x3 x4 x5 x6 : Value} (h : RowAt W m [x0, x1, x2, x3, x4, x5, x6]) (u0 u1 u2 u3 u4 u5 u6 : Value) : RowAt (((((((W.setCell ⟨m, 0, none⟩ u0).setCell ⟨m, 1, none⟩ u1).setCell ⟨m, 2, none⟩ u2).setCell ⟨m, 3, none⟩ u3).setCell ⟨m, 4, none⟩ u4).setCell ⟨m, 5, none⟩ u5).setCell ⟨m, 6, none⟩ u6) m [u0, u1, u2, u3, u4, u5, u6] :=
  ((((((h.put 0 u0 [u0, x1, x2, x3, x4, x5, x6] rfl).put 1 u1 [u0, u1, x2, x3, x4, x5, x6] rfl).put 2 u2 [u0, u1, u2, x3, x4, x5, x6] rfl).put 3 u3 [u0, u1, u2, u3, x4, x5, x6] rfl).put 4 u4 [u0, u1, u2, u3, u4, x5, x6] rfl).put 5 u5 [u0, u1, u2, u3, u4, u5, x6] rfl).put 6 u6 _ rfl
theorem RowAt.off7 {W : World} {m g : Nat} {L : List Value} (h : RowAt W m L) (hg : g ≠ m) (u0 u1 u2 u3 u4 u5 u6 : Value) : RowAt (((((((W.setCell ⟨g, 0, none⟩ u0).setCell ⟨g, 1, none⟩ u1).setCell ⟨g, 2, none⟩ u2).setCell ⟨g, 3, none⟩ u3).setCell ⟨g, 4, none⟩ u4).setCell ⟨g, 5, none⟩ u5).setCell ⟨g, 6, none⟩ u6) m L :=
  ((((((h.other u0 hg).other u1 hg).other u2 hg).other u3 hg).other u4 hg).other u5 hg).other u6 hg
theorem EntsAt.off {W : World} {a : Option Addr} {cap : Nat} {L : List Ent} {g p : Nat} (h : EntsAt W a cap L) (hg : ∀ q, a = some q → q.block ≠ g) (u : Value) : EntsAt (W.setCell ⟨g, p, none⟩ u) a cap L :=
  h.same (fun q hq => Below.heap_setCell _ _ _ _ (hg q hq)) (by simp [World.setCell])
theorem EntsAt.off7 {W : World} {a : Option Addr} {cap : Nat} {L : List Ent} {g : Nat} (h : EntsAt W a cap L) (hg : ∀ q, a = some q → q.block ≠ g) (u0 u1 u2 u3 u4 u5 u6 : Value) : EntsAt (((((((W.setCell ⟨g, 0, none⟩ u0).setCell ⟨g, 1, none⟩ u1).setCell ⟨g, 2, none⟩ u2).setCell ⟨g, 3, none⟩ u3).setCell ⟨g, 4, none⟩ u4).setCell ⟨g, 5, none⟩ u5).setCell ⟨g, 6, none⟩ u6) a cap L :=
  ((((((h.off hg u0).off hg u1).off hg u2).off hg u3).off hg u4).off hg u5).off hg u6
def callsD (D : List Ent) : List (ByteArray × Int) := D.map fun e => (e.1, e.2.1)
theorem calls_next (D : List Ent) (k : Nat) (h : k < D.length) : callsD (D.take (k + 1)) = callsD (D.take k) ++ [(D[k].1, D[k].2.1)] := by
  unfold callsD
  rw [List.take_succ_eq_append_getElem h, List.map_append]
  rfl
theorem right_small {x y : Ent} {D : List Ent} (h : rightP (x :: y :: D) = true) : D.length ≤ 8 ∧ ∀ e ∈ x :: y :: D, e.1.size ≤ 100 := by
  rw [right_cons, Bool.and_eq_true, Bool.and_eq_true, List.all_eq_true] at h
  refine ⟨of_decide_eq_true h.1.1, fun e he => ?_⟩
  have := h.2 e he
  simp only [rightD, Bool.and_eq_true, decide_eq_true_eq] at this
  omega
/-- what holds in a round -/
structure AlAt (w : World) (p r : Nat) (t0 t1 t2 t3 t4 t5 : Value) (a : Option Addr) (cap : Nat) (D : List Ent) (tv : Value) (C : List (ByteArray × Int)) (W : World) : Prop where
  row : RowAt W p [t0, t1, t2, t3, t4, t5, .slice a D.length cap]
  res : RowAt W r [.string ⟨#[]⟩, .int .i64 0, .string ⟨#[]⟩, .int .i64 0, .bool false, .bool false, .slice none 0 0]
  own : OwnL encCl 54 W (w.heap.size + 2) tv C
  bel : Below w.heap.size w W
  sz : w.heap.size + 2 ≤ W.heap.size
  pe : p = w.heap.size
  re : r = w.heap.size + 1
theorem AlAt.below {w : World} {p r : Nat} {t0 t1 t2 t3 t4 t5 : Value} {a : Option Addr} {cap : Nat} {D : List Ent} {tv : Value} {C : List (ByteArray × Int)} {W W' : World} (h : AlAt w p r t0 t1 t2 t3 t4 t5 a cap D tv C W) (hb : Below W.heap.size W W') : AlAt w p r t0 t1 t2 t3 t4 t5 a cap D tv C W' :=
  ⟨h.row.below hb, h.res.below hb, h.own.below hb, h.bel.trans (hb.mono h.bel.size), Nat.le_trans h.sz hb.size, h.pe, h.re⟩
theorem AlAt.alloc {w : World} {p r : Nat} {t0 t1 t2 t3 t4 t5 : Value} {a : Option Addr} {cap : Nat} {D : List Ent} {tv : Value} {C : List (ByteArray × Int)} {W : World} (h : AlAt w p r t0 t1 t2 t3 t4 t5 a cap D tv C W) (o : Obj) : AlAt w p r t0 t1 t2 t3 t4 t5 a cap D tv C (W.alloc o) := h.below ((Below.refl _ W).alloc (Nat.le_refl _) o)
theorem AlAt.appended {w : World} {p r : Nat} {t0 t1 t2 t3 t4 t5 : Value} {a : Option Addr} {cap : Nat} {D : List Ent} {tv v' : Value} {C C' : List (ByteArray × Int)} {W W' : World} (h : AlAt w p r t0 t1 t2 t3 t4 t5 a cap D tv C W) (hg : W.grownBy W' tv.ownBlock) (hown : OwnL encCl 54 W' (w.heap.size + 2) v' C') :
    AlAt w p r t0 t1 t2 t3 t4 t5 a cap D v' C' W' := by
  have hne : ∀ b, b < w.heap.size + 2 → tv.ownBlock ≠ some b := fun b hb e => by have := (h.own.ge e).1; omega
  have hp := h.pe
  have hr := h.re
  exact ⟨h.row.block (hg.block p h.row.lt fun e => hne p (by omega) e.symm) hg.size, h.res.block (hg.block r h.res.lt fun e => hne r (by omega) e.symm) hg.size, hown, h.own.appended h.bel (by omega) (Nat.le_trans (by omega) h.sz) hg, Nat.le_trans h.sz hg.size, hp, hr⟩
set_option maxHeartbeats 4000000 in
theorem along_any (tb fb : ByteArray) (tn fn : Int) (tm fm c : Bool) (a : Option Addr) (cap : Nat) (D : List Ent) (w : World) (hE : EntsAt w a cap D) (hr : rightP ((tb, tn, c) :: (fb, fn, !c) :: freshD (callsD D)) = true) :
    Calls Tryz.prog 67 #[.agg #[.string tb, .int .i64 tn, .string fb, .int .i64 fn, .bool tm, .bool fm, .slice a D.length cap], .bool c] w fun e w' =>
      (∃ da dc, e = .returned (.agg #[.string tb, .int .i64 tn, .string fb, .int .i64 fn, .bool c, .bool (!c), .slice da D.length dc]) ∧ EntsAt w' da dc (freshD (callsD D)) ∧ ∀ q, da = some q → w.heap.size ≤ q.block ∧ q.block < w'.heap.size) ∧ Below w.heap.size w w' := by
  obtain ⟨h8, hsz⟩ := right_small hr
  have hDl : D.length ≤ 8 := by simpa [freshD, callsD] using h8
  have H8 := Lib.hid hDl
  have hA0 : AlAt w w.heap.size (w.heap.size + 1) (.string tb) (.int .i64 tn) (.string fb) (.int .i64 fn) (.bool tm) (.bool fm) a cap D (.slice none 0 0) []
      ((w.alloc (.cells #[.string tb, .int .i64 tn, .string fb, .int .i64 fn, .bool tm, .bool fm, .slice a D.length cap] 57)).alloc (.cells #[.string ⟨#[]⟩, .int .i64 0, .string ⟨#[]⟩, .int .i64 0, .bool false, .bool false, .slice none 0 0] 57)) :=
    ⟨(RowAt.new w _ rfl [.string tb, .int .i64 tn, .string fb, .int .i64 fn, .bool tm, .bool fm, .slice a D.length cap] 57).alloc _, RowAt.new _ _ (by simp) [.string ⟨#[]⟩, .int .i64 0, .string ⟨#[]⟩, .int .i64 0, .bool false, .bool false, .slice none 0 0] 57, OwnL.nil _ _ _ _, ((Below.refl _ w).alloc (Nat.le_refl _) _).alloc (by simp) _, by simp, rfl, rfl⟩
  have HA0 := Lib.hid hA0
  have HE := Lib.hid hE
  have HVI := Lib.hid (fun (W : World) (ca : Option Addr) (cc : Nat) (h : CallsAt W ca (callsD D)) => via_own fb tb fn tn c ca cc (callsD D) W (by simp [callsD]; omega) h (by have := hsz (fb, fn, !c) (by simp); simp only at this; omega) (by have := hsz (tb, tn, c) (by simp); simp only at this; omega) (fun x hx => by
    have := hsz (x.1, x.2, false) (by simp only [freshD, List.mem_cons, List.mem_map]; exact Or.inr (Or.inr ⟨x, hx, rfl⟩))
    simp only at this
    omega))
  simp only [hr, if_true] at HVI
  have HLC := Lib.hid (show (callsD D).length = D.length by simp [callsD])
  have HLF := Lib.hid (show (freshD (callsD D)).length = D.length by simp [callsD, freshD])
  have HNX := Lib.hid (calls_next D)
  have HTL := Lib.hid (show callsD (D.take D.length) = callsD D by rw [List.take_length])
  have HTK := Lib.hid (show ∀ k, k ≤ D.length → (callsD (D.take k)).length = k from fun k hk => by simp [callsD]; omega)
  have c6 := hA0.row.cell 6 rfl
  clear hA0 hE hr h8 hsz hDl
  generalize hnc : (!c) = nc at *
  clear hnc
  go_enter Tryz.func67, Tryz.ntmps67
  go_wp2_with fail
  clear c6
  go_loopw [5, 11] (fun tv iv wx => ∃ k : Nat, k ≤ D.length ∧ iv = .int .i64 k ∧ Hid (AlAt w w.heap.size (w.heap.size + 1) (.string tb) (.int .i64 tn) (.string fb) (.int .i64 fn) (.bool tm) (.bool fm) a cap D tv (callsD (D.take k)) wx)) (fun _ iv _ => D.length - (intOf iv).toNat)
  case atStart => exact ⟨0, Nat.zero_le _, rfl, HA0⟩
  case round =>
    obtain ⟨k, hk, rfl, HQ⟩ := hrel
    clear HA0
    by_cases hlt : k < D.length
    · have dk : decide ((k : Int) < (D.length : Int)) = true := decide_eq_true (by omega)
      obtain ⟨g, o, rfl, hg, c0, c1, c2⟩ := (HE.out.below HQ.out.bel).at_ k hlt
      have HN := Lib.hid (HNX.out k hlt)
      have HLL := Lib.hid (HTK.out k hk)
      generalize callsD (D.take k) = C at *
      generalize D[k] = d at *
      obtain ⟨db, dn, dm⟩ := d
      simp only at c0 c1 c2 HN
      obtain ⟨ta, tl, tc, rfl⟩ := OwnL.form' HQ.out.own
      have HQ1 := Lib.hid ((HQ.out.alloc (.cells #[.string db, .int .i64 dn, .bool dm] 157)).alloc (.cells #[.string db, .int .i64 dn] 54))
      have HM := Lib.hid (AtL.made encCl 54 (wr.alloc (.cells #[.string db, .int .i64 dn, .bool dm] 157)) (wr.heap.size + 1) (db, dn) [.string db, .int .i64 dn] rfl (by simp))
      have HSZ := HQ.out.sz
      have HZI := Lib.hid (show wrap64 ((k : Int) + 1) = (k : Int) + 1 from IntWalk.wrap64_in _ (by have := H8.out; omega))
      go_wp2_with (at_builtin; refine wpList_append_one encCl 54 91 Tryz.underlying91 infoCl rfl (by decide) _ rfl (.tmp 15) (.tmp 18) rfl (w.heap.size + 2) (.slice ta tl tc) C rfl HQ1.out.own (wr.heap.size + 1) 1 rfl (db, dn) HM.out (by have := H8.out; have := HLL.out; omega) (by simp; omega) ?_; intro v2 w3 hown hgr hwh; have HQ3 := Lib.hid (HQ1.out.appended hgr hown); clear hown hgr hwh)
      go_roundw
      case rel => exact ⟨k + 1, by omega, by rw [HZI.out]; rfl, HN.out ▸ HQ3.out⟩
      case measure =>
        rw [HZI.out]
        simp [intOf]
        omega
    · obtain rfl : k = D.length := by omega
      have dk : decide ((D.length : Int) < (D.length : Int)) = false := decide_eq_false (by omega)
      rw [HTL.out] at HQ
      obtain ⟨ca, cc, htv, hcc⟩ := HQ.out.own.see
      have HCC := Lib.hid (HVI.out _ ca cc hcc.calls)
      rw [HLC.out] at htv HCC
      subst htv
      rw [HLF.out] at HCC
      have e0 := HQ.out.row.cell 0 rfl
      have e1 := HQ.out.row.cell 1 rfl
      have e2 := HQ.out.row.cell 2 rfl
      have e3 := HQ.out.row.cell 3 rfl
      have HRW := Lib.hid HQ.out.row
      go_upto_region 8 with (go_at_call 77; (with_reducible refine HCC.out.mono ?_); rintro e w4 ⟨⟨da, dc, rfl, hEA, hge⟩, hb⟩; have HQ4 := Lib.hid (HQ.out.below hb); have HEA := Lib.hid hEA; have HGE := Lib.hid hge; clear hEA hge hb e0 e1 e2 e3; obtain ⟨f0, g0, -⟩ := HQ4.out.row.get 0 rfl; obtain ⟨f1, g1, -⟩ := HQ4.out.row.get 1 rfl; obtain ⟨f2, g2, -⟩ := HQ4.out.row.get 2 rfl; obtain ⟨f3, g3, -⟩ := HQ4.out.row.get 3 rfl; obtain ⟨f4, g4, -⟩ := HQ4.out.row.get 4 rfl; obtain ⟨f5, g5, -⟩ := HQ4.out.row.get 5 rfl; obtain ⟨f6, g6, -⟩ := HQ4.out.row.get 6 rfl)
      have HP5 := Lib.hid (HQ4.out.row.set7 (.string tb) (.int .i64 tn) (.string fb) (.int .i64 fn) (.bool c) (.bool nc) (.slice da D.length dc))
      have HR5 := Lib.hid (HQ4.out.res.off7 (g := w.heap.size) (by omega) (.string tb) (.int .i64 tn) (.string fb) (.int .i64 fn) (.bool c) (.bool nc) (.slice da D.length dc))
      have HB5 := Lib.hid (set7_below HQ4.out.bel (Nat.le_refl _) (.string tb) (.int .i64 tn) (.string fb) (.int .i64 fn) (.bool c) (.bool nc) (.slice da D.length dc))
      have HE5 := Lib.hid (HEA.out.off7 (g := w.heap.size) (fun q hq => by have := (HGE.out q hq).1; have := HQ.out.sz; omega) (.string tb) (.int .i64 tn) (.string fb) (.int .i64 fn) (.bool c) (.bool nc) (.slice da D.length dc))
      have HSZ5 := Lib.hid (show w4.heap.size = (((((((w4.setCell ⟨w.heap.size, 0, none⟩ (.string tb)).setCell ⟨w.heap.size, 1, none⟩ (.int .i64 tn)).setCell ⟨w.heap.size, 2, none⟩ (.string fb)).setCell ⟨w.heap.size, 3, none⟩ (.int .i64 fn)).setCell ⟨w.heap.size, 4, none⟩ (.bool c)).setCell ⟨w.heap.size, 5, none⟩ (.bool nc)).setCell ⟨w.heap.size, 6, none⟩ (.slice da D.length dc)).heap.size by simp [World.setCell])
      clear f0 f1 f2 f3 f4 f5 f6 g0 g1 g2 g3 g4 g5 g6 HEA
      generalize (((((((w4.setCell ⟨w.heap.size, 0, none⟩ (.string tb)).setCell ⟨w.heap.size, 1, none⟩ (.int .i64 tn)).setCell ⟨w.heap.size, 2, none⟩ (.string fb)).setCell ⟨w.heap.size, 3, none⟩ (.int .i64 fn)).setCell ⟨w.heap.size, 4, none⟩ (.bool c)).setCell ⟨w.heap.size, 5, none⟩ (.bool nc)).setCell ⟨w.heap.size, 6, none⟩ (.slice da D.length dc)) = w5 at *
      have p0 := HP5.out.cell 0 rfl
      have p1 := HP5.out.cell 1 rfl
      have p2 := HP5.out.cell 2 rfl
      have p3 := HP5.out.cell 3 rfl
      have p4 := HP5.out.cell 4 rfl
      have p5 := HP5.out.cell 5 rfl
      have p6 := HP5.out.cell 6 rfl
      obtain ⟨f0, g0, -⟩ := HR5.out.get 0 rfl
      obtain ⟨f1, g1, -⟩ := HR5.out.get 1 rfl
      obtain ⟨f2, g2, -⟩ := HR5.out.get 2 rfl
      obtain ⟨f3, g3, -⟩ := HR5.out.get 3 rfl
      obtain ⟨f4, g4, -⟩ := HR5.out.get 4 rfl
      obtain ⟨f5, g5, -⟩ := HR5.out.get 5 rfl
      obtain ⟨f6, g6, -⟩ := HR5.out.get 6 rfl
      go_wp2_with fail
      have HP6 := HR5.out.set7 (.string tb) (.int .i64 tn) (.string fb) (.int .i64 fn) (.bool c) (.bool nc) (.slice da D.length dc)
      have HB6 := set7_below (m := w.heap.size + 1) HB5.out (by omega) (.string tb) (.int .i64 tn) (.string fb) (.int .i64 fn) (.bool c) (.bool nc) (.slice da D.length dc)
      have HE6 := HE5.out.off7 (g := w.heap.size + 1) (fun q hq => by have := (HGE.out q hq).1; have := HQ.out.sz; omega) (.string tb) (.int .i64 tn) (.string fb) (.int .i64 fn) (.bool c) (.bool nc) (.slice da D.length dc)
      exact bodyPost_ret (v := .agg #[.string tb, .int .i64 tn, .string fb, .int .i64 fn, .bool c, .bool nc, .slice da D.length dc]) (by simp [results, Tryz.results67, go_sem, HP6.cell 0 rfl, HP6.cell 1 rfl, HP6.cell 2 rfl, HP6.cell 3 rfl, HP6.cell 4 rfl, HP6.cell 5 rfl, HP6.cell 6 rfl]) rfl ⟨⟨da, dc, rfl, HE6, fun q hq => ⟨Nat.le_trans HQ.out.bel.size (HGE.out q hq).1, Nat.lt_of_lt_of_le (HGE.out q hq).2 (Nat.le_trans (Nat.le_of_eq HSZ5.out) (by simp [World.setCell]))⟩⟩, HB6⟩
end Go.Proofs.YtgoaepjjegblnaaGreatDoor
namespace Go.Proofs.YtgoaepjjegblnaaGreatDoor
set_option maxRecDepth 20000
open Go.RowKit
def encP : Enc Pc := ⟨2, by omega, fun p => [.int .i64 p.pid, .string p.info], fun _ => rfl, fun p u hu => by
  rcases List.mem_cons.1 hu with rfl | hu
  · rfl
  · rw [List.mem_singleton.1 hu]; rfl⟩
def pcV (p : Pc) : Value := .agg #[.int .i64 p.pid, .string p.info]
end Go.Proofs.YtgoaepjjegblnaaGreatDoor
namespace Go.Proofs.YtgoaepjjegblnaaGreatDoor
open Go.RowKit
set_option maxRecDepth 20000
/-- how a box lies: at a block, for this n1, with these messages, in which blocks -/
abbrev BoP := World → Nat → Int → Bx → (Nat → Prop) → Prop
abbrev ptrB (a : Nat) : Value := .pointer (some ⟨a, 0, none⟩)
structure BoC (B : BoP) : Prop where
  mem : ∀ {w q n1 b F}, B w q n1 b F → ∀ k, F k → k < w.heap.size
  stay : ∀ {w w' q n1 b F}, B w q n1 b F → SameOn F w w' → B w' q n1 b F
  newNo : ∀ (n1 : Int) (w : World), n1 < 16 ∨ 256 < n1 → Calls Tryz.prog 212 #[.int .i64 n1] w fun e w' => e = .returned (.tuple #[.pointer none, .int .i64 1]) ∧ Below w.heap.size w w'
  newYes : ∀ (n1 : Int) (w : World), ¬ (n1 < 16 ∨ 256 < n1) → Calls Tryz.prog 212 #[.int .i64 n1] w fun e w' => ∃ q, e = .returned (.tuple #[ptrB q, .int .i64 0]) ∧ ∃ F, B w' q n1 noB F ∧ (∀ k, F k → w.heap.size ≤ k) ∧ Below w.heap.size w w'
  put : ∀ (w : World) (q : Nat) (n1 pid : Int) (text : ByteArray) (b : Bx) (F : Nat → Prop), B w q n1 b F → BOk b → 0 ≤ b.cnt ∧ b.cnt ≤ 100000 → text.size ≤ 1000 → Calls Tryz.prog 73 #[ptrB q, .int .i64 pid, .string text] w fun e w' =>
    e = .returned (.int .i64 (putErrB n1 pid text b)) ∧ ∃ F', B w' q n1 (putBx n1 pid text b) F' ∧ Turn F w w' ∧ Grew F F' w
  next : ∀ (w : World) (q : Nat) (n1 : Int) (b : Bx) (F : Nat → Prop), B w q n1 b F → BOk b → Calls Tryz.prog 172 #[ptrB q] w fun e w' =>
    e = .returned (.tuple #[pcV (nextB b).2.1, .bool (nextB b).2.2]) ∧ ∃ F', B w' q n1 (nextB b).1 F' ∧ Turn F w w' ∧ Grew F F' w
  len : ∀ (w : World) (q : Nat) (n1 : Int) (b : Bx) (F : Nat → Prop), B w q n1 b F → BOk b → Calls Tryz.prog 122 #[ptrB q] w fun e w' => e = .returned (.int .i64 (b.M.length : Nat)) ∧ Below w.heap.size w w'
  put0 : ∀ (w : World) (pid : Int) (text : ByteArray), text.size ≤ 1000 → Calls Tryz.prog 73 #[.pointer none, .int .i64 pid, .string text] w fun e w' => e = .returned (.int .i64 1) ∧ Below w.heap.size w w'
  next0 : ∀ (w : World), Calls Tryz.prog 172 #[.pointer none] w fun e w' => e = .returned (.tuple #[pcV zeroP, .bool false]) ∧ Below w.heap.size w w'
  len0 : ∀ (w : World), Calls Tryz.prog 122 #[.pointer none] w fun e w' => e = .returned (.int .i64 0) ∧ Below w.heap.size w w'
section
variable {B : BoP} (hC : BoC B) {w0 W W' : World} {q p : Nat} {n1 c : Int} {b : Bx} {D : List (Int × Pc)} {K : Nat → Prop}
include hC
omit hC
include hC
omit hC in
end
end Go.Proofs.YtgoaepjjegblnaaGreatDoor
namespace Go.Proofs.YtgoaepjjegblnaaGreatDoor
open Go.RowKit
set_option maxRecDepth 20000
/-- a message as it lies: a slice of pieces -/
structure Ms where
  g : Nat
  c : Nat
  ps : List Pc
def Ms.v (m : Ms) : Value := .slice (some ⟨m.g, 0, none⟩) m.ps.length m.c
def encM : Enc Ms := ⟨1, by omega, fun m => [m.v], fun _ => rfl, fun _ u hu => by rw [List.mem_singleton.1 hu]; rfl⟩
end Go.Proofs.YtgoaepjjegblnaaGreatDoor
namespace Go.Proofs.YtgoaepjjegblnaaGreatDoor
open Go.RowKit
set_option maxRecDepth 20000
abbrev OwnP19 (w : World) (B : Nat) (v : Value) (L : List Pc) : Prop := OwnL encP 118 w B v L
abbrev OwnM19 (w : World) (B : Nat) (v : Value) (Z : List Ms) : Prop := OwnL encM 38 w B v Z
abbrev footB (q : Nat) (v : Value) (Z : List Ms) (k : Nat) : Prop := k = q ∨ v.ownBlock = some k ∨ ∃ m ∈ Z, m.g = k
/-- laid open -/
structure BoAt (w : World) (q : Nat) (n1 cnt : Int) (v : Value) (Z : List Ms) : Prop where
  row : RowAt w q [.int .i64 n1, v, .int .i64 cnt]
  own : OwnM19 w 0 v Z
  each : ∀ m ∈ Z, OwnP19 w 0 m.v m.ps
  apart : (Z.map Ms.g).Nodup
  nq : v.ownBlock ≠ some q
  eq_ : ∀ m ∈ Z, m.g ≠ q
  nv : ∀ m ∈ Z, v.ownBlock ≠ some m.g
/-- closed -/
def BoL : BoP := fun w q n1 b F => ∃ v Z, BoAt w q n1 b.cnt v Z ∧ Z.map Ms.ps = b.M ∧ F = footB q v Z
section
variable {w w' : World} {q : Nat} {n1 cnt : Int} {v : Value} {Z : List Ms}
theorem BoAt.mem (h : BoAt w q n1 cnt v Z) : ∀ k, footB q v Z k → k < w.heap.size := by
  rintro k (rfl | e | ⟨m, hm, rfl⟩)
  · exact h.row.lt
  · exact (h.own.ge e).2
  · exact ((h.each m hm).ge rfl).2
theorem BoAt.stay (h : BoAt w q n1 cnt v Z) (hs : SameOn (footB q v Z) w w') : BoAt w' q n1 cnt v Z :=
  ⟨h.row.block (hs.2 q (Or.inl rfl)) hs.1, h.own.same fun g e => hs.2 g (Or.inr (Or.inl e)), fun m hm => (h.each m hm).same fun g e => hs.2 g (Or.inr (Or.inr ⟨m, hm, by cases e; rfl⟩)), h.apart, h.nq, h.eq_, h.nv⟩
end
end Go.Proofs.YtgoaepjjegblnaaGreatDoor
