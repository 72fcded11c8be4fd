/-
The document's own Agree.
-/
import Derived.Test.YtmbjhhpnckfppaaXidBase
import Derived.Deep.DeepCutAuto
namespace Go.Proofs.Ytmbjhhpnckfppaa
open Go.RowKit
set_option maxRecDepth 20000
/-- memory where the document agrees: both, the answer, what is made -/
structure RgAt (w W : World) (a' b' : Bool) (n' k' t' r' : Int) (x y : Bool) (n k t r : Int) (p q : Bool) (pn pk pt pr : Int) : Prop where
  x : C6 W w.heap.size (.bool x) (.bool y) (.int .i64 n) (.int .i64 k) (.int .i64 t) (.int .i64 r)
  y : C6 W (w.heap.size + 1) (.bool a') (.bool b') (.int .i64 n') (.int .i64 k') (.int .i64 t') (.int .i64 r')
  z : C6 W (w.heap.size + 1 + 1) (.bool false) (.bool false) (.int .i64 0) (.int .i64 0) (.int .i64 0) (.int .i64 0)
  p : C6 W (w.heap.size + 1 + 1 + 1) (.bool p) (.bool q) (.int .i64 pn) (.int .i64 pk) (.int .i64 pt) (.int .i64 pr)
  bel : Below w.heap.size w W
theorem RgAt.put2 {w W : World} {x y a' b' p q : Bool} {n k t r n' k' t' r' pn pk pt pr : Int} (h : RgAt w W a' b' n' k' t' r' x y n k t r p q pn pk pt pr) (v : Int) : RgAt w (W.setCell ⟨w.heap.size + 1 + 1 + 1, 2, none⟩ (.int .i64 v)) a' b' n' k' t' r' x y n k t r p q v pk pt pr :=
  ⟨h.x.other _ (by omega), h.y.other _ (by omega), h.z.other _ (by omega), h.p.put2 _, h.bel.setCell (p := ⟨w.heap.size + 1 + 1 + 1, 2, none⟩) (by show w.heap.size ≤ w.heap.size + 1 + 1 + 1; omega) _⟩
theorem RgAt.put3 {w W : World} {x y a' b' p q : Bool} {n k t r n' k' t' r' pn pk pt pr : Int} (h : RgAt w W a' b' n' k' t' r' x y n k t r p q pn pk pt pr) (v : Int) : RgAt w (W.setCell ⟨w.heap.size + 1 + 1 + 1, 3, none⟩ (.int .i64 v)) a' b' n' k' t' r' x y n k t r p q pn v pt pr :=
  ⟨h.x.other _ (by omega), h.y.other _ (by omega), h.z.other _ (by omega), h.p.put3 _, h.bel.setCell (p := ⟨w.heap.size + 1 + 1 + 1, 3, none⟩) (by show w.heap.size ≤ w.heap.size + 1 + 1 + 1; omega) _⟩
theorem RgAt.put4 {w W : World} {x y a' b' p q : Bool} {n k t r n' k' t' r' pn pk pt pr : Int} (h : RgAt w W a' b' n' k' t' r' x y n k t r p q pn pk pt pr) (v : Int) : RgAt w (W.setCell ⟨w.heap.size + 1 + 1 + 1, 4, none⟩ (.int .i64 v)) a' b' n' k' t' r' x y n k t r p q pn pk v pr :=
  ⟨h.x.other _ (by omega), h.y.other _ (by omega), h.z.other _ (by omega), h.p.put4 _, h.bel.setCell (p := ⟨w.heap.size + 1 + 1 + 1, 4, none⟩) (by show w.heap.size ≤ w.heap.size + 1 + 1 + 1; omega) _⟩
theorem RgAt.put5 {w W : World} {x y a' b' p q : Bool} {n k t r n' k' t' r' pn pk pt pr : Int} (h : RgAt w W a' b' n' k' t' r' x y n k t r p q pn pk pt pr) (v : Int) : RgAt w (W.setCell ⟨w.heap.size + 1 + 1 + 1, 5, none⟩ (.int .i64 v)) a' b' n' k' t' r' x y n k t r p q pn pk pt v :=
  ⟨h.x.other _ (by omega), h.y.other _ (by omega), h.z.other _ (by omega), h.p.put5 _, h.bel.setCell (p := ⟨w.heap.size + 1 + 1 + 1, 5, none⟩) (by show w.heap.size ≤ w.heap.size + 1 + 1 + 1; omega) _⟩
theorem RgAt.put0 {w W : World} {x y a' b' p q : Bool} {n k t r n' k' t' r' pn pk pt pr : Int} (h : RgAt w W a' b' n' k' t' r' x y n k t r p q pn pk pt pr) (v : Bool) : RgAt w (W.setCell ⟨w.heap.size + 1 + 1 + 1, 0, none⟩ (.bool v)) a' b' n' k' t' r' x y n k t r v q pn pk pt pr :=
  ⟨h.x.other _ (by omega), h.y.other _ (by omega), h.z.other _ (by omega), h.p.put0 _, h.bel.setCell (p := ⟨w.heap.size + 1 + 1 + 1, 0, none⟩) (by show w.heap.size ≤ w.heap.size + 1 + 1 + 1; omega) _⟩
theorem RgAt.put1 {w W : World} {x y a' b' p q : Bool} {n k t r n' k' t' r' pn pk pt pr : Int} (h : RgAt w W a' b' n' k' t' r' x y n k t r p q pn pk pt pr) (v : Bool) : RgAt w (W.setCell ⟨w.heap.size + 1 + 1 + 1, 1, none⟩ (.bool v)) a' b' n' k' t' r' x y n k t r p v pn pk pt pr :=
  ⟨h.x.other _ (by omega), h.y.other _ (by omega), h.z.other _ (by omega), h.p.put1 _, h.bel.setCell (p := ⟨w.heap.size + 1 + 1 + 1, 1, none⟩) (by show w.heap.size ≤ w.heap.size + 1 + 1 + 1; omega) _⟩
theorem RgAt.new (w : World) (a b a' b' : Bool) (n k t r n' k' t' r' : Int) (T : TypeId) : RgAt w ((((w.alloc (.cells #[.bool a, .bool b, .int .i64 n, .int .i64 k, .int .i64 t, .int .i64 r] T)).alloc (.cells #[.bool a', .bool b', .int .i64 n', .int .i64 k', .int .i64 t', .int .i64 r'] T)).alloc (.cells #[.bool false, .bool false, .int .i64 0, .int .i64 0, .int .i64 0, .int .i64 0] T)).alloc (.cells #[.bool a, .bool b, .int .i64 n, .int .i64 k, .int .i64 t, .int .i64 r] T)) a' b' n' k' t' r' a b n k t r a b n k t r :=
  ⟨(((C6.new w _ rfl _ _ _ _ _ _ _).alloc _).alloc _).alloc _, ((C6.new _ _ (by simp) _ _ _ _ _ _ _).alloc _).alloc _, (C6.new _ _ (by simp) _ _ _ _ _ _ _).alloc _, C6.new _ _ (by simp) _ _ _ _ _ _ _, ((((Below.refl _ w).alloc (Nat.le_refl _) _).alloc (by simp) _).alloc (by simp; omega) _).alloc (by simp; omega) _⟩
set_option maxHeartbeats 2000000 in
theorem ragree_any (a b a' b' : Bool) (n k t r n' k' t' r' : Int) (w : World) : Calls Try.prog 14 #[.agg #[.bool a, .bool b, .int .i64 n, .int .i64 k, .int .i64 t, .int .i64 r], .agg #[.bool a', .bool b', .int .i64 n', .int .i64 k', .int .i64 t', .int .i64 r']] w fun e w' => e = .returned (.agg #[.bool (a && a'), .bool (b && b'), .int .i64 (min n n'), .int .i64 (min k (min k' (mostD (a && a') (b && b')))), .int .i64 (max t t'), .int .i64 (min r r')]) ∧ Below w.heap.size w w' := by
  have HM := Lib.hid (fun W => rmost_any (a && a') (b && b') W)
  generalize mostD (a && a') (b && b') = M at *
  go_enter Try.func14, Try.ntmps14
  go_upto_region 2 with (fail)
  have HAG := Lib.hid (RgAt.new w a b a' b' n k t r n' k' t' r' 25)
  generalize (((w.alloc (.cells #[.bool a, .bool b, .int .i64 n, .int .i64 k, .int .i64 t, .int .i64 r] 25)).alloc (.cells #[.bool a', .bool b', .int .i64 n', .int .i64 k', .int .i64 t', .int .i64 r'] 25)).alloc (.cells #[.bool false, .bool false, .int .i64 0, .int .i64 0, .int .i64 0, .int .i64 0] 25)).alloc (.cells #[.bool a, .bool b, .int .i64 n, .int .i64 k, .int .i64 t, .int .i64 r] 25) = w0 at *
  go_cut [] (fun wx => Hid (RgAt w wx a' b' n' k' t' r' a b n k t r (a && a') b n k t r))
  case first =>
    rcases a with _ | _
    all_goals
      obtain ⟨⟨⟨a0, -, -⟩, ⟨a1, -, -⟩, ⟨a2, -, -⟩, ⟨a3, -, -⟩, ⟨a4, -, -⟩, ⟨a5, -, -⟩⟩, ⟨⟨b0, -, -⟩, ⟨b1, -, -⟩, ⟨b2, -, -⟩, ⟨b3, -, -⟩, ⟨b4, -, -⟩, ⟨b5, -, -⟩⟩, ⟨⟨z0, y0, -⟩, ⟨z1, y1, -⟩, ⟨z2, y2, -⟩, ⟨z3, y3, -⟩, ⟨z4, y4, -⟩, ⟨z5, y5, -⟩⟩, ⟨⟨p0, q0, -⟩, ⟨p1, q1, -⟩, ⟨p2, q2, -⟩, ⟨p3, q3, -⟩, ⟨p4, q4, -⟩, ⟨p5, q5, -⟩⟩, -⟩ := HAG.out
      go_wp2_with fail
      go_meet
      exact HAG.out.put0 _
  case rest =>
    clear HAG
    have HAG := Lib.hid hcut.out
    clear hcut
    go_upto_region 3 with (fail)
    go_cut [] (fun wx => Hid (RgAt w wx a' b' n' k' t' r' a b n k t r (a && a') (b && b') n k t r))
    case first =>
      rcases b with _ | _
      all_goals
        obtain ⟨⟨⟨a0, -, -⟩, ⟨a1, -, -⟩, ⟨a2, -, -⟩, ⟨a3, -, -⟩, ⟨a4, -, -⟩, ⟨a5, -, -⟩⟩, ⟨⟨b0, -, -⟩, ⟨b1, -, -⟩, ⟨b2, -, -⟩, ⟨b3, -, -⟩, ⟨b4, -, -⟩, ⟨b5, -, -⟩⟩, ⟨⟨z0, y0, -⟩, ⟨z1, y1, -⟩, ⟨z2, y2, -⟩, ⟨z3, y3, -⟩, ⟨z4, y4, -⟩, ⟨z5, y5, -⟩⟩, ⟨⟨p0, q0, -⟩, ⟨p1, q1, -⟩, ⟨p2, q2, -⟩, ⟨p3, q3, -⟩, ⟨p4, q4, -⟩, ⟨p5, q5, -⟩⟩, -⟩ := HAG.out
        go_wp2_with fail
        go_meet
        exact HAG.out.put1 _
    case rest =>
      clear HAG
      have HAG := Lib.hid hcut.out
      clear hcut
      obtain ⟨⟨⟨a0, -, -⟩, ⟨a1, -, -⟩, ⟨a2, -, -⟩, ⟨a3, -, -⟩, ⟨a4, -, -⟩, ⟨a5, -, -⟩⟩, ⟨⟨b0, -, -⟩, ⟨b1, -, -⟩, ⟨b2, -, -⟩, ⟨b3, -, -⟩, ⟨b4, -, -⟩, ⟨b5, -, -⟩⟩, ⟨⟨z0, y0, -⟩, ⟨z1, y1, -⟩, ⟨z2, y2, -⟩, ⟨z3, y3, -⟩, ⟨z4, y4, -⟩, ⟨z5, y5, -⟩⟩, ⟨⟨p0, q0, -⟩, ⟨p1, q1, -⟩, ⟨p2, q2, -⟩, ⟨p3, q3, -⟩, ⟨p4, q4, -⟩, ⟨p5, q5, -⟩⟩, -⟩ := HAG.out
      go_upto_if 26 with (fail)
      clear a0 a1 a2 a3 a4 a5 b0 b1 b2 b3 b4 b5 z0 y0 z1 y1 z2 y2 z3 y3 z4 y4 z5 y5 p0 q0 p1 q1 p2 q2 p3 q3 p4 q4 p5 q5
      go_cut [] (fun wx => Hid (RgAt w wx a' b' n' k' t' r' a b n k t r (a && a') (b && b') (min n n') k t r))
      case first =>
        obtain ⟨⟨⟨a0, -, -⟩, ⟨a1, -, -⟩, ⟨a2, -, -⟩, ⟨a3, -, -⟩, ⟨a4, -, -⟩, ⟨a5, -, -⟩⟩, ⟨⟨b0, -, -⟩, ⟨b1, -, -⟩, ⟨b2, -, -⟩, ⟨b3, -, -⟩, ⟨b4, -, -⟩, ⟨b5, -, -⟩⟩, ⟨⟨z0, y0, -⟩, ⟨z1, y1, -⟩, ⟨z2, y2, -⟩, ⟨z3, y3, -⟩, ⟨z4, y4, -⟩, ⟨z5, y5, -⟩⟩, ⟨⟨p0, q0, -⟩, ⟨p1, q1, -⟩, ⟨p2, q2, -⟩, ⟨p3, q3, -⟩, ⟨p4, q4, -⟩, ⟨p5, q5, -⟩⟩, -⟩ := HAG.out
        by_cases hq : n' < n
        · have dq := decide_eq_true hq
          go_wp2_with fail
          go_meet
          rw [show min n n' = n' from by omega]
          exact HAG.out.put2 _
        · have dq := decide_eq_false hq
          go_wp2_with fail
          go_meet
          rw [show min n n' = n from by omega]
          exact HAG.out
      case rest =>
        clear HAG
        have HAG := Lib.hid hcut.out
        clear hcut
        generalize hN : min n n' = N at *
        obtain ⟨⟨⟨a0, -, -⟩, ⟨a1, -, -⟩, ⟨a2, -, -⟩, ⟨a3, -, -⟩, ⟨a4, -, -⟩, ⟨a5, -, -⟩⟩, ⟨⟨b0, -, -⟩, ⟨b1, -, -⟩, ⟨b2, -, -⟩, ⟨b3, -, -⟩, ⟨b4, -, -⟩, ⟨b5, -, -⟩⟩, ⟨⟨z0, y0, -⟩, ⟨z1, y1, -⟩, ⟨z2, y2, -⟩, ⟨z3, y3, -⟩, ⟨z4, y4, -⟩, ⟨z5, y5, -⟩⟩, ⟨⟨p0, q0, -⟩, ⟨p1, q1, -⟩, ⟨p2, q2, -⟩, ⟨p3, q3, -⟩, ⟨p4, q4, -⟩, ⟨p5, q5, -⟩⟩, -⟩ := HAG.out
        go_upto_if 34 with (fail)
        clear a0 a1 a2 a3 a4 a5 b0 b1 b2 b3 b4 b5 z0 y0 z1 y1 z2 y2 z3 y3 z4 y4 z5 y5 p0 q0 p1 q1 p2 q2 p3 q3 p4 q4 p5 q5
        go_cut [] (fun wx => Hid (RgAt w wx a' b' n' k' t' r' a b n k t r (a && a') (b && b') N (min k k') t r))
        case first =>
          obtain ⟨⟨⟨a0, -, -⟩, ⟨a1, -, -⟩, ⟨a2, -, -⟩, ⟨a3, -, -⟩, ⟨a4, -, -⟩, ⟨a5, -, -⟩⟩, ⟨⟨b0, -, -⟩, ⟨b1, -, -⟩, ⟨b2, -, -⟩, ⟨b3, -, -⟩, ⟨b4, -, -⟩, ⟨b5, -, -⟩⟩, ⟨⟨z0, y0, -⟩, ⟨z1, y1, -⟩, ⟨z2, y2, -⟩, ⟨z3, y3, -⟩, ⟨z4, y4, -⟩, ⟨z5, y5, -⟩⟩, ⟨⟨p0, q0, -⟩, ⟨p1, q1, -⟩, ⟨p2, q2, -⟩, ⟨p3, q3, -⟩, ⟨p4, q4, -⟩, ⟨p5, q5, -⟩⟩, -⟩ := HAG.out
          by_cases hq : k' < k
          · have dq := decide_eq_true hq
            go_wp2_with fail
            go_meet
            rw [show min k k' = k' from by omega]
            exact HAG.out.put3 _
          · have dq := decide_eq_false hq
            go_wp2_with fail
            go_meet
            rw [show min k k' = k from by omega]
            exact HAG.out
        case rest =>
          clear HAG
          have HAG := Lib.hid hcut.out
          clear hcut
          obtain ⟨⟨⟨a0, -, -⟩, ⟨a1, -, -⟩, ⟨a2, -, -⟩, ⟨a3, -, -⟩, ⟨a4, -, -⟩, ⟨a5, -, -⟩⟩, ⟨⟨b0, -, -⟩, ⟨b1, -, -⟩, ⟨b2, -, -⟩, ⟨b3, -, -⟩, ⟨b4, -, -⟩, ⟨b5, -, -⟩⟩, ⟨⟨z0, y0, -⟩, ⟨z1, y1, -⟩, ⟨z2, y2, -⟩, ⟨z3, y3, -⟩, ⟨z4, y4, -⟩, ⟨z5, y5, -⟩⟩, ⟨⟨p0, q0, -⟩, ⟨p1, q1, -⟩, ⟨p2, q2, -⟩, ⟨p3, q3, -⟩, ⟨p4, q4, -⟩, ⟨p5, q5, -⟩⟩, -⟩ := HAG.out
          go_upto_if 42 with (fail)
          clear a0 a1 a2 a3 a4 a5 b0 b1 b2 b3 b4 b5 z0 y0 z1 y1 z2 y2 z3 y3 z4 y4 z5 y5 p0 q0 p1 q1 p2 q2 p3 q3 p4 q4 p5 q5
          go_cut [] (fun wx => Hid (RgAt w wx a' b' n' k' t' r' a b n k t r (a && a') (b && b') N (min k k') t (min r r')))
          case first =>
            obtain ⟨⟨⟨a0, -, -⟩, ⟨a1, -, -⟩, ⟨a2, -, -⟩, ⟨a3, -, -⟩, ⟨a4, -, -⟩, ⟨a5, -, -⟩⟩, ⟨⟨b0, -, -⟩, ⟨b1, -, -⟩, ⟨b2, -, -⟩, ⟨b3, -, -⟩, ⟨b4, -, -⟩, ⟨b5, -, -⟩⟩, ⟨⟨z0, y0, -⟩, ⟨z1, y1, -⟩, ⟨z2, y2, -⟩, ⟨z3, y3, -⟩, ⟨z4, y4, -⟩, ⟨z5, y5, -⟩⟩, ⟨⟨p0, q0, -⟩, ⟨p1, q1, -⟩, ⟨p2, q2, -⟩, ⟨p3, q3, -⟩, ⟨p4, q4, -⟩, ⟨p5, q5, -⟩⟩, -⟩ := HAG.out
            by_cases hq : r' < r
            · have dq := decide_eq_true hq
              go_wp2_with fail
              go_meet
              rw [show min r r' = r' from by omega]
              exact HAG.out.put5 _
            · have dq := decide_eq_false hq
              go_wp2_with fail
              go_meet
              rw [show min r r' = r from by omega]
              exact HAG.out
          case rest =>
            clear HAG
            have HAG := Lib.hid hcut.out
            clear hcut
            obtain ⟨⟨⟨a0, -, -⟩, ⟨a1, -, -⟩, ⟨a2, -, -⟩, ⟨a3, -, -⟩, ⟨a4, -, -⟩, ⟨a5, -, -⟩⟩, ⟨⟨b0, -, -⟩, ⟨b1, -, -⟩, ⟨b2, -, -⟩, ⟨b3, -, -⟩, ⟨b4, -, -⟩, ⟨b5, -, -⟩⟩, ⟨⟨z0, y0, -⟩, ⟨z1, y1, -⟩, ⟨z2, y2, -⟩, ⟨z3, y3, -⟩, ⟨z4, y4, -⟩, ⟨z5, y5, -⟩⟩, ⟨⟨p0, q0, -⟩, ⟨p1, q1, -⟩, ⟨p2, q2, -⟩, ⟨p3, q3, -⟩, ⟨p4, q4, -⟩, ⟨p5, q5, -⟩⟩, -⟩ := HAG.out
            go_upto_if 50 with (fail)
            clear a0 a1 a2 a3 a4 a5 b0 b1 b2 b3 b4 b5 z0 y0 z1 y1 z2 y2 z3 y3 z4 y4 z5 y5 p0 q0 p1 q1 p2 q2 p3 q3 p4 q4 p5 q5
            go_cut [] (fun wx => Hid (RgAt w wx a' b' n' k' t' r' a b n k t r (a && a') (b && b') N (min k k') (max t t') (min r r')))
            case first =>
              obtain ⟨⟨⟨a0, -, -⟩, ⟨a1, -, -⟩, ⟨a2, -, -⟩, ⟨a3, -, -⟩, ⟨a4, -, -⟩, ⟨a5, -, -⟩⟩, ⟨⟨b0, -, -⟩, ⟨b1, -, -⟩, ⟨b2, -, -⟩, ⟨b3, -, -⟩, ⟨b4, -, -⟩, ⟨b5, -, -⟩⟩, ⟨⟨z0, y0, -⟩, ⟨z1, y1, -⟩, ⟨z2, y2, -⟩, ⟨z3, y3, -⟩, ⟨z4, y4, -⟩, ⟨z5, y5, -⟩⟩, ⟨⟨p0, q0, -⟩, ⟨p1, q1, -⟩, ⟨p2, q2, -⟩, ⟨p3, q3, -⟩, ⟨p4, q4, -⟩, ⟨p5, q5, -⟩⟩, -⟩ := HAG.out
              by_cases hq : t < t'
              · have dq := decide_eq_true hq
                go_wp2_with fail
                go_meet
                rw [show max t t' = t' from by omega]
                exact HAG.out.put4 _
              · have dq := decide_eq_false hq
                go_wp2_with fail
                go_meet
                rw [show max t t' = t from by omega]
                exact HAG.out
            case rest =>
              clear HAG
              have HAG := Lib.hid hcut.out
              clear hcut
              generalize hT : max t t' = TT at *
              generalize hR : min r r' = RR at *
              generalize hK : min k k' = KK at *
              have HKN := Lib.hid hN
              have HKT := Lib.hid hT
              have HKR := Lib.hid hR
              have HKK := Lib.hid hK
              clear hN hT hR hK
              obtain ⟨⟨⟨a0, -, -⟩, ⟨a1, -, -⟩, ⟨a2, -, -⟩, ⟨a3, -, -⟩, ⟨a4, -, -⟩, ⟨a5, -, -⟩⟩, ⟨⟨b0, -, -⟩, ⟨b1, -, -⟩, ⟨b2, -, -⟩, ⟨b3, -, -⟩, ⟨b4, -, -⟩, ⟨b5, -, -⟩⟩, ⟨⟨z0, y0, -⟩, ⟨z1, y1, -⟩, ⟨z2, y2, -⟩, ⟨z3, y3, -⟩, ⟨z4, y4, -⟩, ⟨z5, y5, -⟩⟩, ⟨⟨p0, q0, -⟩, ⟨p1, q1, -⟩, ⟨p2, q2, -⟩, ⟨p3, q3, -⟩, ⟨p4, q4, -⟩, ⟨p5, q5, -⟩⟩, -⟩ := HAG.out
              go_upto_if 62 with (go_at_call 10; (with_reducible refine (HM.out _).mono ?_); rintro e wd ⟨rfl, rfl⟩)
              clear a0 a1 a2 a3 a4 a5 b0 b1 b2 b3 b4 b5 z0 y0 z1 y1 z2 y2 z3 y3 z4 y4 z5 y5 p0 q0 p1 q1 p2 q2 p3 q3 p4 q4 p5 q5
              go_cut [] (fun wx => Hid (RgAt w wx a' b' n' k' t' r' a b n k t r (a && a') (b && b') N (min KK M) TT RR))
              case first =>
                obtain ⟨⟨⟨a0, -, -⟩, ⟨a1, -, -⟩, ⟨a2, -, -⟩, ⟨a3, -, -⟩, ⟨a4, -, -⟩, ⟨a5, -, -⟩⟩, ⟨⟨b0, -, -⟩, ⟨b1, -, -⟩, ⟨b2, -, -⟩, ⟨b3, -, -⟩, ⟨b4, -, -⟩, ⟨b5, -, -⟩⟩, ⟨⟨z0, y0, -⟩, ⟨z1, y1, -⟩, ⟨z2, y2, -⟩, ⟨z3, y3, -⟩, ⟨z4, y4, -⟩, ⟨z5, y5, -⟩⟩, ⟨⟨p0, q0, -⟩, ⟨p1, q1, -⟩, ⟨p2, q2, -⟩, ⟨p3, q3, -⟩, ⟨p4, q4, -⟩, ⟨p5, q5, -⟩⟩, -⟩ := HAG.out
                by_cases hq : M < KK
                · have dq := decide_eq_true hq
                  go_wp2_with fail
                  go_meet
                  rw [show min KK M = M from by omega]
                  exact HAG.out.put3 _
                · have dq := decide_eq_false hq
                  go_wp2_with fail
                  go_meet
                  rw [show min KK M = KK from by omega]
                  exact HAG.out
              case rest =>
                clear HAG
                have HAG := Lib.hid hcut.out
                clear hcut
                have hk : min KK M = min k (min k' M) := by have := HKK.out; omega
                rw [hk] at HAG
                obtain ⟨KM, hKM⟩ : ∃ KM, KM = min k (min k' M) := ⟨_, rfl⟩
                rw [← hKM] at HAG
                have HKM := Lib.hid hKM
                clear hKM hk
                obtain ⟨⟨⟨a0, -, -⟩, ⟨a1, -, -⟩, ⟨a2, -, -⟩, ⟨a3, -, -⟩, ⟨a4, -, -⟩, ⟨a5, -, -⟩⟩, ⟨⟨b0, -, -⟩, ⟨b1, -, -⟩, ⟨b2, -, -⟩, ⟨b3, -, -⟩, ⟨b4, -, -⟩, ⟨b5, -, -⟩⟩, ⟨⟨z0, y0, -⟩, ⟨z1, y1, -⟩, ⟨z2, y2, -⟩, ⟨z3, y3, -⟩, ⟨z4, y4, -⟩, ⟨z5, y5, -⟩⟩, ⟨⟨p0, q0, -⟩, ⟨p1, q1, -⟩, ⟨p2, q2, -⟩, ⟨p3, q3, -⟩, ⟨p4, q4, -⟩, ⟨p5, q5, -⟩⟩, -⟩ := HAG.out
                have hn : ¬ w.heap.size + 1 + 1 + 1 = w.heap.size + 1 + 1 := by omega
                generalize hPA : (a && a') = PA at *
                generalize hPB : (b && b') = PB at *
                have HPA := Lib.hid hPA
                have HPB := Lib.hid hPB
                clear hPA hPB
                go_wp2_with fail
                have S6 := stored6 (.bool PA) (.bool PB) (.int .i64 N) (.int .i64 KM) (.int .i64 TT) (.int .i64 RR) HAG.out.z
                have HBF := Lib.hid (set6_below (m := w.heap.size + 1 + 1) HAG.out.bel (by omega) (.bool PA) (.bool PB) (.int .i64 N) (.int .i64 KM) (.int .i64 TT) (.int .i64 RR))
                exact bodyPost_ret (v := .agg #[.bool PA, .bool PB, .int .i64 N, .int .i64 KM, .int .i64 TT, .int .i64 RR]) (by simp [results, Try.results14, go_sem, S6.k0.cell, S6.k1.cell, S6.k2.cell, S6.k3.cell, S6.k4.cell, S6.k5.cell]) rfl ⟨by rw [HKM.out, ← HKN.out, ← HKT.out, ← HKR.out, ← HPA.out, ← HPB.out], HBF.out⟩
end Go.Proofs.Ytmbjhhpnckfppaa
