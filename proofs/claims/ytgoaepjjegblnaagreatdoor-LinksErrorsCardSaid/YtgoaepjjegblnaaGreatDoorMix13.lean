/-
The landed code's Put.
The landed link tells what it asks, what it answers, what came.
-/
import Derived.Test.YtgoaepjjegblnaaGreatDoorMix12
import Derived.Test.YtgoaepjjegblnaaGreatDoorMix07
namespace Go.Proofs.YtgoaepjjegblnaaGreatDoor
open Go.RowKit
set_option maxRecDepth 20000
/-- what can be done, as a byte -/
def canD (a b : Bool) : UInt8 := if a then (if b then 6 else 2) else if b then 4 else 0
theorem can_or (a b : Bool) : bits BinOp.or .u8 (if a then 2 else 0) (if b then 4 else 0) = (((canD a b).toNat : Nat) : Int) := by cases a <;> cases b <;> decide +kernel
/-- a small number as a byte -/
def byteN (n : Int) : UInt8 := UInt8.ofNat n.toNat
theorem byteN_val (n : Int) (h : 0 ≤ n ∧ n ≤ 255) : n = (((byteN n).toNat : Nat) : Int) := by
  have e : (byteN n).toNat = n.toNat % 256 := rfl
  omega
/-- the fields of right parameters -/
def bodyL (a b : Bool) (n k t r : Int) : List UInt8 := [3, 2, canD a b, 0, 6, 2, byteN (n / 256), byteN (n % 256), 8, 1, byteN k, 9, 1, byteN t, 10, 1, byteN r]
/-- the bytes of right parameters -/
def putX (a b : Bool) (n k t r : Int) : List UInt8 := [130, 128, 0, 17] ++ bodyL a b n k t r
/-- what each operation of the long sum yields -/
def putFacts (a b : Bool) (n k t r : Int) (m : Nat) : List Fact :=
  [.is (.pointer (some ⟨m, 0, none⟩)), .is (.bool a), .is (.int .u8 (if a then 2 else 0)), .is (.pointer (some ⟨m, 1, none⟩)), .is (.bool b), .is (.int .u8 (if b then 4 else 0)),
   .is (.int .u8 (((canD a b).toNat : Nat) : Int)), .row [canD a b, 0], .is (.string (fieldT 3 [canD a b, 0])),
   .is (.pointer (some ⟨m, 2, none⟩)), .is (.int .i64 n), .is (.int .i64 (n / 256)), .is (.int .u8 (((byteN (n / 256)).toNat : Nat) : Int)), .is (.pointer (some ⟨m, 2, none⟩)), .is (.int .i64 n), .is (.int .u8 (((byteN (n % 256)).toNat : Nat) : Int)), .row [byteN (n / 256), byteN (n % 256)], .is (.string (fieldT 6 [byteN (n / 256), byteN (n % 256)])), .is (.string (fieldT 3 [canD a b, 0] ++ fieldT 6 [byteN (n / 256), byteN (n % 256)])),
   .is (.pointer (some ⟨m, 3, none⟩)), .is (.int .i64 k), .is (.int .u8 (((byteN k).toNat : Nat) : Int)), .row [byteN k], .is (.string (fieldT 8 [byteN k])), .is (.string (fieldT 3 [canD a b, 0] ++ fieldT 6 [byteN (n / 256), byteN (n % 256)] ++ fieldT 8 [byteN k])),
   .is (.pointer (some ⟨m, 4, none⟩)), .is (.int .i64 t), .is (.int .u8 (((byteN t).toNat : Nat) : Int)), .row [byteN t], .is (.string (fieldT 9 [byteN t])), .is (.string (fieldT 3 [canD a b, 0] ++ fieldT 6 [byteN (n / 256), byteN (n % 256)] ++ fieldT 8 [byteN k] ++ fieldT 9 [byteN t])),
   .is (.pointer (some ⟨m, 5, none⟩)), .is (.int .i64 r), .is (.int .u8 (((byteN r).toNat : Nat) : Int)), .row [byteN r], .is (.string (fieldT 10 [byteN r])), .is (.string (fieldT 3 [canD a b, 0] ++ fieldT 6 [byteN (n / 256), byteN (n % 256)] ++ fieldT 8 [byteN k] ++ fieldT 9 [byteN t] ++ fieldT 10 [byteN r])),
   .is (.string ⟨(bodyL a b n k t r).toArray⟩)]
set_option maxHeartbeats 1000000 in
theorem xput_yes (a b : Bool) (n k t r : Int) (w : World) (hr : rightX a b n k t r = true) : Calls Tryz.prog 201 #[.agg #[.bool a, .bool b, .int .i64 n, .int .i64 k, .int .i64 t, .int .i64 r]] w fun e w' => e = .returned (.tuple #[.string ⟨(putX a b n k t r).toArray⟩, .int .i64 0]) ∧ Below w.heap.size w w' := by
  have HA := Lib.hid (C6.new w w.heap.size rfl (.bool a) (.bool b) (.int .i64 n) (.int .i64 k) (.int .i64 t) (.int .i64 r) 23)
  have HB := Lib.hid ((Below.refl _ w).alloc (Nat.le_refl _) (.cells #[.bool a, .bool b, .int .i64 n, .int .i64 k, .int .i64 t, .int .i64 r] 23))
  obtain ⟨n0, n1, k0, k1, t0, t1, r0, r1⟩ := rightX_facts hr
  have hR := fun W => xright_any a b n k t r W
  rw [hr] at hR
  have HR := Lib.hid hR
  obtain ⟨⟨c0, -, -⟩, ⟨c1, -, -⟩, ⟨c2, -, -⟩, ⟨c3, -, -⟩, ⟨c4, -, -⟩, ⟨c5, -, -⟩⟩ := HA.out
  clear hR
  go_enter Tryz.func201, Tryz.ntmps201
  go_wp2_with (go_at_call 66; (with_reducible refine (HR.out _).mono ?_); rintro e w1 ⟨rfl, hb⟩; have HB1 := Lib.hid (HB.out.trans (hb.mono HB.out.size)); have HA1 := Lib.hid (HA.out.below hb); clear hb c0 c1 c2 c3 c4 c5)
  have E12 := Lib.hid (show IntKind.u8.wrap (n / 256) = (((byteN (n / 256)).toNat : Nat) : Int) from by rw [IntWalk.u8_in _ (by omega)]; exact byteN_val _ (by omega))
  have E15 := Lib.hid (show IntKind.u8.wrap n = (((byteN (n % 256)).toNat : Nat) : Int) from by rw [IntKind.wrap_u8]; exact byteN_val _ (by omega))
  have E21 := Lib.hid (show IntKind.u8.wrap k = (((byteN k).toNat : Nat) : Int) from by rw [IntWalk.u8_in _ (by omega)]; exact byteN_val _ (by omega))
  have E27 := Lib.hid (show IntKind.u8.wrap t = (((byteN t).toNat : Nat) : Int) from by rw [IntWalk.u8_in _ (by omega)]; exact byteN_val _ (by omega))
  have E33 := Lib.hid (show IntKind.u8.wrap r = (((byteN r).toNat : Nat) : Int) from by rw [IntWalk.u8_in _ (by omega)]; exact byteN_val _ (by omega))
  clear n0 n1 k0 k1 t0 t1 r0 r1
  refine wp_region_facts (fun W W' => Below W.heap.size W W') (fun W => C6 W w.heap.size (.bool a) (.bool b) (.int .i64 n) (.int .i64 k) (.int .i64 t) (.int .i64 r) ∧ Below w.heap.size w W) (factsOf (putFacts a b n k t r w.heap.size)) (by kernel_rfl) (by kernel_rfl) (facts_stay _) (fun W W' hb h => ⟨h.1.below hb, h.2.trans (hb.mono h.2.size)⟩) (fun _ => undef) (by kernel_rfl) ⟨HA1.out.drew, HB1.out.drew⟩ ?F ?hF ?hstep ?hend
  case hF =>
    intro u
    simp only [fillAct]
    go_simp
    rfl
  case hstep =>
    have HX := Lib.hid (fun (on : Bool) (b : Int) (W : World) => xbit_any on b W)
    have hor := can_or a b
    refine FSteps.cons ?_ ?_
    · intro u W hS hd K hK
      clear hd
      simp only [upd, reduceIte, Nat.reduceEqDiff] at hK
      go_simp
      exact hK.out _ _ (Below.refl _ _) rfl
    refine FSteps.cons ?_ ?_
    · intro u W hS hd K hK
      have h0 : u 0 = _ := hd 0 rfl
      clear hd
      simp only [upd, h0, reduceIte, Nat.reduceEqDiff] at hK
      have c := hS.1.k0.cell
      go_simp
      exact hK.out _ _ (Below.refl _ _) rfl
    refine FSteps.cons ?_ ?_
    · intro u W hS hd K hK
      have h1 : u 1 = _ := hd 1 rfl
      clear hd
      simp only [upd, h1, reduceIte, Nat.reduceEqDiff] at hK
      go_simp
      go_at_call 228
      refine (HX.out _ _ _).mono ?_
      rintro e wc ⟨rfl, rfl⟩
      exact hK.out _ _ (Below.refl _ _) rfl
    refine FSteps.cons ?_ ?_
    · intro u W hS hd K hK
      clear hd
      simp only [upd, reduceIte, Nat.reduceEqDiff] at hK
      go_simp
      exact hK.out _ _ (Below.refl _ _) rfl
    refine FSteps.cons ?_ ?_
    · intro u W hS hd K hK
      have h3 : u 3 = _ := hd 3 rfl
      clear hd
      simp only [upd, h3, reduceIte, Nat.reduceEqDiff] at hK
      have c := hS.1.k1.cell
      go_simp
      exact hK.out _ _ (Below.refl _ _) rfl
    refine FSteps.cons ?_ ?_
    · intro u W hS hd K hK
      have h4 : u 4 = _ := hd 4 rfl
      clear hd
      simp only [upd, h4, reduceIte, Nat.reduceEqDiff] at hK
      go_simp
      go_at_call 228
      refine (HX.out _ _ _).mono ?_
      rintro e wc ⟨rfl, rfl⟩
      exact hK.out _ _ (Below.refl _ _) rfl
    refine FSteps.cons ?_ ?_
    · intro u W hS hd K hK
      have h2 : u 2 = _ := hd 2 rfl
      have h5 : u 5 = _ := hd 5 rfl
      clear hd
      simp only [upd, h2, h5, reduceIte, Nat.reduceEqDiff] at hK
      go_simp
      exact hK.out _ _ (Below.refl _ _) rfl
    refine FSteps.cons ?_ ?_
    · intro u W hS hd K hK
      have h6 : u 6 = _ := hd 6 rfl
      clear hd
      simp only [upd, h6, reduceIte, Nat.reduceEqDiff] at hK
      go_simp
      exact hK.out _ _ ((Below.refl _ W).alloc (Nat.le_refl _) _) ⟨_, rfl, BytesAt.two W _ _ _ (canD a b) 0 rfl rfl rfl⟩
    refine FSteps.cons ?_ ?_
    · intro u W hS hd K hK
      obtain ⟨g7, h7, b7⟩ : ∃ g, u 7 = .slice (some ⟨g, 0, none⟩) _ _ ∧ BytesAt W g _ := hd 7 rfl
      clear hd
      simp only [upd, h7, reduceIte, Nat.reduceEqDiff] at hK
      have HF := field_any 3 g7 2 [canD a b, 0] W b7 (by simp)
      clear b7
      go_simp
      go_at_call 227
      refine HF.mono ?_
      rintro e wc ⟨rfl, hb⟩
      exact hK.out _ _ hb rfl
    refine FSteps.cons ?_ ?_
    · intro u W hS hd K hK
      clear hd
      simp only [upd, reduceIte, Nat.reduceEqDiff] at hK
      go_simp
      exact hK.out _ _ (Below.refl _ _) rfl
    refine FSteps.cons ?_ ?_
    · intro u W hS hd K hK
      have h9 : u 9 = _ := hd 9 rfl
      clear hd
      simp only [upd, h9, reduceIte, Nat.reduceEqDiff] at hK
      have c := hS.1.k2.cell
      go_simp
      exact hK.out _ _ (Below.refl _ _) rfl
    refine FSteps.cons ?_ ?_
    · intro u W hS hd K hK
      have h10 : u 10 = _ := hd 10 rfl
      clear hd
      simp only [upd, h10, reduceIte, Nat.reduceEqDiff] at hK
      go_simp
      exact hK.out _ _ (Below.refl _ _) rfl
    refine FSteps.cons ?_ ?_
    · intro u W hS hd K hK
      have h11 : u 11 = _ := hd 11 rfl
      clear hd
      simp only [upd, h11, reduceIte, Nat.reduceEqDiff] at hK
      go_simp
      exact hK.out _ _ (Below.refl _ _) (congrArg (Value.int .u8) E12.out)
    refine FSteps.cons ?_ ?_
    · intro u W hS hd K hK
      clear hd
      simp only [upd, reduceIte, Nat.reduceEqDiff] at hK
      go_simp
      exact hK.out _ _ (Below.refl _ _) rfl
    refine FSteps.cons ?_ ?_
    · intro u W hS hd K hK
      have h13 : u 13 = _ := hd 13 rfl
      clear hd
      simp only [upd, h13, reduceIte, Nat.reduceEqDiff] at hK
      have c := hS.1.k2.cell
      go_simp
      exact hK.out _ _ (Below.refl _ _) rfl
    refine FSteps.cons ?_ ?_
    · intro u W hS hd K hK
      have h14 : u 14 = _ := hd 14 rfl
      clear hd
      simp only [upd, h14, reduceIte, Nat.reduceEqDiff] at hK
      go_simp
      exact hK.out _ _ (Below.refl _ _) (congrArg (Value.int .u8) E15.out)
    refine FSteps.cons ?_ ?_
    · intro u W hS hd K hK
      have h12 : u 12 = _ := hd 12 rfl
      have h15 : u 15 = _ := hd 15 rfl
      clear hd
      simp only [upd, h12, h15, reduceIte, Nat.reduceEqDiff] at hK
      go_simp
      exact hK.out _ _ ((Below.refl _ W).alloc (Nat.le_refl _) _) ⟨_, rfl, BytesAt.two W _ _ _ (byteN (n / 256)) (byteN (n % 256)) rfl rfl rfl⟩
    refine FSteps.cons ?_ ?_
    · intro u W hS hd K hK
      obtain ⟨g16, h16, b16⟩ : ∃ g, u 16 = .slice (some ⟨g, 0, none⟩) _ _ ∧ BytesAt W g _ := hd 16 rfl
      clear hd
      simp only [upd, h16, reduceIte, Nat.reduceEqDiff] at hK
      have HF := field_any 6 g16 2 [byteN (n / 256), byteN (n % 256)] W b16 (by simp)
      clear b16
      go_simp
      go_at_call 227
      refine HF.mono ?_
      rintro e wc ⟨rfl, hb⟩
      exact hK.out _ _ hb rfl
    refine FSteps.cons ?_ ?_
    · intro u W hS hd K hK
      have h8 : u 8 = _ := hd 8 rfl
      have h17 : u 17 = _ := hd 17 rfl
      clear hd
      simp only [upd, h8, h17, reduceIte, Nat.reduceEqDiff] at hK
      go_simp
      exact hK.out _ _ (Below.refl _ _) rfl
    refine FSteps.cons ?_ ?_
    · intro u W hS hd K hK
      clear hd
      simp only [upd, reduceIte, Nat.reduceEqDiff] at hK
      go_simp
      exact hK.out _ _ (Below.refl _ _) rfl
    refine FSteps.cons ?_ ?_
    · intro u W hS hd K hK
      have h19 : u 19 = _ := hd 19 rfl
      clear hd
      simp only [upd, h19, reduceIte, Nat.reduceEqDiff] at hK
      have c := hS.1.k3.cell
      go_simp
      exact hK.out _ _ (Below.refl _ _) rfl
    refine FSteps.cons ?_ ?_
    · intro u W hS hd K hK
      have h20 : u 20 = _ := hd 20 rfl
      clear hd
      simp only [upd, h20, reduceIte, Nat.reduceEqDiff] at hK
      go_simp
      exact hK.out _ _ (Below.refl _ _) (congrArg (Value.int .u8) E21.out)
    refine FSteps.cons ?_ ?_
    · intro u W hS hd K hK
      have h21 : u 21 = _ := hd 21 rfl
      clear hd
      simp only [upd, h21, reduceIte, Nat.reduceEqDiff] at hK
      go_simp
      exact hK.out _ _ ((Below.refl _ W).alloc (Nat.le_refl _) _) ⟨_, rfl, BytesAt.one W _ _ (byteN k) rfl rfl⟩
    refine FSteps.cons ?_ ?_
    · intro u W hS hd K hK
      obtain ⟨g22, h22, b22⟩ : ∃ g, u 22 = .slice (some ⟨g, 0, none⟩) _ _ ∧ BytesAt W g _ := hd 22 rfl
      clear hd
      simp only [upd, h22, reduceIte, Nat.reduceEqDiff] at hK
      have HF := field_any 8 g22 1 [byteN k] W b22 (by simp)
      clear b22
      go_simp
      go_at_call 227
      refine HF.mono ?_
      rintro e wc ⟨rfl, hb⟩
      exact hK.out _ _ hb rfl
    refine FSteps.cons ?_ ?_
    · intro u W hS hd K hK
      have h18 : u 18 = _ := hd 18 rfl
      have h23 : u 23 = _ := hd 23 rfl
      clear hd
      simp only [upd, h18, h23, reduceIte, Nat.reduceEqDiff] at hK
      go_simp
      exact hK.out _ _ (Below.refl _ _) rfl
    refine FSteps.cons ?_ ?_
    · intro u W hS hd K hK
      clear hd
      simp only [upd, reduceIte, Nat.reduceEqDiff] at hK
      go_simp
      exact hK.out _ _ (Below.refl _ _) rfl
    refine FSteps.cons ?_ ?_
    · intro u W hS hd K hK
      have h25 : u 25 = _ := hd 25 rfl
      clear hd
      simp only [upd, h25, reduceIte, Nat.reduceEqDiff] at hK
      have c := hS.1.k4.cell
      go_simp
      exact hK.out _ _ (Below.refl _ _) rfl
    refine FSteps.cons ?_ ?_
    · intro u W hS hd K hK
      have h26 : u 26 = _ := hd 26 rfl
      clear hd
      simp only [upd, h26, reduceIte, Nat.reduceEqDiff] at hK
      go_simp
      exact hK.out _ _ (Below.refl _ _) (congrArg (Value.int .u8) E27.out)
    refine FSteps.cons ?_ ?_
    · intro u W hS hd K hK
      have h27 : u 27 = _ := hd 27 rfl
      clear hd
      simp only [upd, h27, reduceIte, Nat.reduceEqDiff] at hK
      go_simp
      exact hK.out _ _ ((Below.refl _ W).alloc (Nat.le_refl _) _) ⟨_, rfl, BytesAt.one W _ _ (byteN t) rfl rfl⟩
    refine FSteps.cons ?_ ?_
    · intro u W hS hd K hK
      obtain ⟨g28, h28, b28⟩ : ∃ g, u 28 = .slice (some ⟨g, 0, none⟩) _ _ ∧ BytesAt W g _ := hd 28 rfl
      clear hd
      simp only [upd, h28, reduceIte, Nat.reduceEqDiff] at hK
      have HF := field_any 9 g28 1 [byteN t] W b28 (by simp)
      clear b28
      go_simp
      go_at_call 227
      refine HF.mono ?_
      rintro e wc ⟨rfl, hb⟩
      exact hK.out _ _ hb rfl
    refine FSteps.cons ?_ ?_
    · intro u W hS hd K hK
      have h24 : u 24 = _ := hd 24 rfl
      have h29 : u 29 = _ := hd 29 rfl
      clear hd
      simp only [upd, h24, h29, reduceIte, Nat.reduceEqDiff] at hK
      go_simp
      exact hK.out _ _ (Below.refl _ _) rfl
    refine FSteps.cons ?_ ?_
    · intro u W hS hd K hK
      clear hd
      simp only [upd, reduceIte, Nat.reduceEqDiff] at hK
      go_simp
      exact hK.out _ _ (Below.refl _ _) rfl
    refine FSteps.cons ?_ ?_
    · intro u W hS hd K hK
      have h31 : u 31 = _ := hd 31 rfl
      clear hd
      simp only [upd, h31, reduceIte, Nat.reduceEqDiff] at hK
      have c := hS.1.k5.cell
      go_simp
      exact hK.out _ _ (Below.refl _ _) rfl
    refine FSteps.cons ?_ ?_
    · intro u W hS hd K hK
      have h32 : u 32 = _ := hd 32 rfl
      clear hd
      simp only [upd, h32, reduceIte, Nat.reduceEqDiff] at hK
      go_simp
      exact hK.out _ _ (Below.refl _ _) (congrArg (Value.int .u8) E33.out)
    refine FSteps.cons ?_ ?_
    · intro u W hS hd K hK
      have h33 : u 33 = _ := hd 33 rfl
      clear hd
      simp only [upd, h33, reduceIte, Nat.reduceEqDiff] at hK
      go_simp
      exact hK.out _ _ ((Below.refl _ W).alloc (Nat.le_refl _) _) ⟨_, rfl, BytesAt.one W _ _ (byteN r) rfl rfl⟩
    refine FSteps.cons ?_ ?_
    · intro u W hS hd K hK
      obtain ⟨g34, h34, b34⟩ : ∃ g, u 34 = .slice (some ⟨g, 0, none⟩) _ _ ∧ BytesAt W g _ := hd 34 rfl
      clear hd
      simp only [upd, h34, reduceIte, Nat.reduceEqDiff] at hK
      have HF := field_any 10 g34 1 [byteN r] W b34 (by simp)
      clear b34
      go_simp
      go_at_call 227
      refine HF.mono ?_
      rintro e wc ⟨rfl, hb⟩
      exact hK.out _ _ hb rfl
    refine FSteps.cons ?_ ?_
    · intro u W hS hd K hK
      have h30 : u 30 = _ := hd 30 rfl
      have h35 : u 35 = _ := hd 35 rfl
      clear hd
      simp only [upd, h30, h35, reduceIte, Nat.reduceEqDiff] at hK
      go_simp
      exact hK.out _ _ (Below.refl _ _) rfl
    refine FSteps.cons ?_ ?_
    · intro u W hS hd K hK
      have h36 : u 36 = _ := hd 36 rfl
      clear hd
      simp only [upd, h36, reduceIte, Nat.reduceEqDiff] at hK
      go_simp
      exact hK.out _ _ (Below.refl _ _) rfl
    exact trivial
  case hend =>
    intro u w2 hS hd
    have h37 : u 37 = _ := hd 37 rfl
    clear hd
    have HB2 := Lib.hid hS.2
    have hbs : (⟨(bodyL a b n k t r).toArray⟩ : ByteArray).size = 17 := rfl
    have HT := Lib.hid (show (⟨#[130, 128]⟩ : ByteArray) ++ ⟨#[0, 17]⟩ ++ ⟨(bodyL a b n k t r).toArray⟩ = ⟨(putX a b n k t r).toArray⟩ from bytes_ext' (by simp [ByteArray.data_append, putX]))
    generalize (⟨(bodyL a b n k t r).toArray⟩ : ByteArray) = B at *
    have hcv : (convert 194 9 (.slice (some ⟨w2.heap.size, 0, none⟩) 2 2)).run Tryz.prog (w2.alloc (.cells #[.int .u8 0, .int .u8 17] 5)) = .ok (.string ⟨#[0, 17]⟩) (w2.alloc (.cells #[.int .u8 0, .int .u8 17] 5)) :=
      BytesAt.conv (cap := 2) (BytesAt.two w2 w2.heap.size 0 17 0 17 rfl rfl rfl)
    clear hS
    go_wp2
    go_ret2
    exact ⟨congrArg (fun x => Ending.returned (.tuple #[.string x, .int .i64 0])) HT.out, HB2.out.alloc HB2.out.size _⟩
end Go.Proofs.YtgoaepjjegblnaaGreatDoor
namespace Go.Proofs.YtgoaepjjegblnaaGreatDoor
open Go.RowKit
set_option maxRecDepth 20000
/-- parameters' bytes -/
def xB (p : Xq) : ByteArray := ⟨(putX p.wide p.srej p.n1 p.k p.t1 p.n2).toArray⟩
section
variable {w : World} {p q : Nat} {s : Lk} {o : Ot} {H : Nat → Prop}
theorem LO.cells (h : LO w p q s o H) {W : World} (hs : SameOn H w W) : ∃ x, RowAt W p (lkRow x s) := by
  obtain ⟨F, G, ⟨x, P, hL, hF⟩, -, -, hH⟩ := h.stay hs
  exact ⟨x, hL.row⟩
theorem ctellPlain20 (w : World) (p q : Nat) (s : Lk) (o : Ot) (H : Nat → Prop) (cmd : Bool) (kind : Int) (pf : Bool) (h : LO w p q s o H) (hy : s.way.ok) (hc : s.can.ok = true) (hm : o.frames.length ≤ 1000) :
    Calls Tryz.prog 166 #[ptr20 p, ptr20 q, .bool cmd, .int .i64 kind, .bool pf] w (LOTo w p q H s (s.tellPlain xB o cmd kind pf) (.tuple #[])) := by
  have HT := Lib.hid (fun (W : World) (hb : Below w.heap.size w W) (info : ByteArray) => ctell20 W p q s o H cmd kind 0 0 pf 0 info (h.below hb) hy hm)
  obtain ⟨x, hr⟩ := h.cells ⟨Nat.le_refl _, fun _ _ => rfl⟩
  have e0 := hr.cell 23 rfl
  have e1 := hr.cell 24 rfl
  have e2 := hr.cell 25 rfl
  have e3 := hr.cell 26 rfl
  have e4 := hr.cell 27 rfl
  have e5 := hr.cell 28 rfl
  have HX := Lib.hid (xput_yes s.can.wide s.can.srej s.can.n1 s.can.k s.can.t1 s.can.n2 w hc)
  obtain ⟨ot, hot⟩ : ∃ ot, ot = s.tellPlain xB o cmd kind pf := ⟨_, rfl⟩
  rw [← hot]
  unfold Lk.tellPlain xInfo at hot
  clear h hy hc hm hr
  by_cases hk : kind = 13
  · have dk : (kind == 13) = true := by simpa using hk
    rw [if_pos hk] at hot
    have HO := Lib.hid hot
    have HS := Lib.hid (show (⟨(putX s.can.wide s.can.srej s.can.n1 s.can.k s.can.t1 s.can.n2).toArray⟩ : ByteArray) = xB s.can from rfl)
    rw [HS.out] at HX
    clear hk hot HS
    go_enter Tryz.func166, Tryz.ntmps166
    go_wp2_with (first
      | (go_at_call 201; (with_reducible refine HX.out.mono ?_); rintro e w1 ⟨rfl, hb⟩; have HB := Lib.hid hb; clear hb)
      | (go_at_call 173; (with_reducible refine (HT.out _ HB.out _).mono ?_); rintro e w2 ⟨rfl, hq⟩))
    rw [HO.out]
    exact bodyPost_end (v := .tuple #[]) (by simp [results, Tryz.results166, go_sem]) rfl (LOTo.then_ ⟨rfl, hq⟩ (Turn.of_below HB.out) (Grew.refl _ _))
  · have dk : (kind == 13) = false := by simpa using hk
    rw [if_neg hk] at hot
    have HO := Lib.hid hot
    clear hk hot HX
    go_enter Tryz.func166, Tryz.ntmps166
    go_wp2_with (go_at_call 173; (with_reducible refine (HT.out _ (Below.refl _ _) _).mono ?_); rintro e w2 ⟨rfl, hq⟩)
    rw [HO.out]
    exact bodyPost_end (v := .tuple #[]) (by simp [results, Tryz.results166, go_sem]) rfl ⟨rfl, hq⟩
theorem ctellAsks20 (w : World) (p q : Nat) (s : Lk) (o : Ot) (H : Nat → Prop) (h : LO w p q s o H) (hy : s.way.ok) (hc : s.can.ok = true) (hm : o.frames.length ≤ 1000) :
    Calls Tryz.prog 114 #[ptr20 p, ptr20 q] w (LOTo w p q H s (s.tellAsks xB o) (.tuple #[])) := by
  have HT := Lib.hid (ctellPlain20 w p q s o H true s.asks true h hy hc hm)
  obtain ⟨x, hr⟩ := h.cells ⟨Nat.le_refl _, fun _ _ => rfl⟩
  have e0 := hr.cell 42 rfl
  clear h hy hc hm hr
  go_enter Tryz.func114, Tryz.ntmps114
  go_wp2_with (go_at_call 166; (with_reducible refine HT.out.mono ?_); rintro e w2 ⟨rfl, hq⟩)
  exact bodyPost_end (v := .tuple #[]) (by simp [results, Tryz.results114, go_sem]) rfl ⟨rfl, hq⟩
end
end Go.Proofs.YtgoaepjjegblnaaGreatDoor
