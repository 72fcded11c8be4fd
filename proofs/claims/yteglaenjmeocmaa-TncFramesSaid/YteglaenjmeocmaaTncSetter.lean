/-
The code's own setter.
-/
import Derived.Test.YteglaenjmeocmaaTncRight
import Derived.Test.YteglaenjmeocmaaKissThru
import Derived.Test.YteglaenjmeocmaaKissFrs
namespace Go.Proofs.Yteglaenjmeocmaa
open Go.RowKit Go.Sort
theorem setter_any (port cmd : Int) (n : Int) (w : World) (h0 : 0 ≤ n) (h1 : n ≤ 255) :
    Calls Try.prog 22 #[.int .i64 port, .int .i64 cmd, .int .i64 n] w fun e w' => e = .returned (.agg #[.int .i64 port, .int .i64 cmd, .string ⟨#[UInt8.ofNat n.toNat]⟩]) ∧ Below w.heap.size w w' := by
  obtain ⟨box, hbox⟩ : ∃ box, box = Obj.cells #[Value.int .i64 0, .int .i64 0, .string ⟨#[]⟩] 25 := ⟨_, rfl⟩
  have hcv : (convert 58 9 (.slice (some ⟨w.heap.size + 1, 0, none⟩) 1 1)).run Try.prog ((w.alloc box).alloc (.cells #[.int .u8 n] 5)) = .ok (.string ⟨#[UInt8.ofNat n.toNat]⟩) ((w.alloc box).alloc (.cells #[.int .u8 n] 5)) := by
    rw [run_convert_bytes_arg _ 58 5 Try.underlying58 Try.underlying5 (w.heap.size + 1) 0 1 1 [n] rfl (fun i hi => by
      obtain rfl : i = 0 := by simpa using hi
      exact World.cell?_alloc_at _ _ _ _ (by simp)) 9 Try.underlying9]
    rfl
  rw [hbox] at hcv
  clear hbox
  go_enter Try.func22, Try.ntmps22
  go_wp2
  exact bodyPost_ret (v := .agg #[.int .i64 port, .int .i64 cmd, .string ⟨#[UInt8.ofNat n.toNat]⟩]) (by simp [results, Try.results22, go_sem]) rfl ⟨rfl, ((Below.refl _ w).alloc (Nat.le_refl _) _).alloc (by simp) _⟩
/-- the k-th number of parameters, as the byte that its command sets -/
def parN (p : Par) (k : Nat) : Int := if k = 0 then p.a else if k = 1 then p.b else if k = 2 then p.c else if k = 3 then p.d else if p.f then 1 else 0
/-- the frame that sets it -/
def rawK (P : Nat) (p : Par) (k : Nat) : Raw := ⟨(P : Int), ((k + 1 : Nat) : Int), ⟨#[UInt8.ofNat (parN p k).toNat]⟩⟩
/-- the first k of the frames that set all -/
def setK (P : Nat) (p : Par) (k : Nat) : List Fr := (List.range k).map fun i => (rawK P p i).fr
theorem setK_succ (P : Nat) (p : Par) (k : Nat) : setK P p (k + 1) = setK P p k ++ [(rawK P p k).fr] := by simp [setK, List.range_succ]
theorem setK_length (P : Nat) (p : Par) (k : Nat) : (setK P p k).length = k := by simp [setK]
theorem parN_byte (p : Par) (h : p.ok = true) (k : Nat) : 0 ≤ parN p k ∧ parN p k ≤ 255 := by
  simp only [Par.ok, Bool.and_eq_true] at h
  obtain ⟨⟨⟨ha, hb⟩, hc⟩, hd⟩ := h
  have ha := (okN_iff p.a).1 ha
  have hb := (okN_iff p.b).1 hb
  have hc := (okN_iff p.c).1 hc
  have hd := (okN_iff p.d).1 hd
  unfold parN
  split
  · omega
  split
  · omega
  split
  · omega
  split
  · omega
  split <;> omega
theorem rawK_frV (P : Nat) (p : Par) (k : Nat) (hP : P ≤ 15) (hk : k < 5) : frsV [(rawK P p k).fr] = [.int .i64 (P : Int), .int .i64 ((k + 1 : Nat) : Int), .string ⟨#[UInt8.ofNat (parN p k).toNat]⟩] := raw_frV P (k + 1) _ hP (by omega)
end Go.Proofs.Yteglaenjmeocmaa
