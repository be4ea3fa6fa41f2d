/-
  The contracts of the document's own digits of whole numbers (udec, Dec).
-/
import Derived.Test.YtfilbfenpdaahaaGreatDoorRows
import Derived.Test.YtfilbfenpdaahaaGreatDoorDecMath
import Derived.WalkKit
import Derived.WalkSpells
import Derived.BigQuiet
import Derived.Deep.QuietTactic
import Derived.Lib.Hide
import Derived.Laws.IdiomStrings
namespace Go.Proofs.YtfilbfenpdaahaaGreatDoor
open Go.RowKit
open Fx Dc
/-- one byte as a string -/
def chr1 (n : Int) : ByteArray := ⟨#[UInt8.ofNat n.toNat]⟩
theorem chr1_size (n : Int) : (chr1 n).size ≤ 1 := Nat.le_refl _
theorem chr1_list (n : Int) : (chr1 n).data.toList = [UInt8.ofNat n.toNat] := rfl
theorem data_app (a b : ByteArray) : (a ++ b).data.toList = a.data.toList ++ b.data.toList := by
  rw [ByteArray.data_append, Array.toList_append]
theorem size_app (a b : ByteArray) : (a ++ b).size = a.size + b.size := ByteArray.size_append
theorem mk_list (b : ByteArray) (l : List UInt8) (h : b.data.toList = l) : b = ⟨l.toArray⟩ := by subst h; rfl
theorem ret_str {a b : ByteArray} (h : a = b) : Ending.returned (.string a) = .returned (.string b) := by rw [h]
theorem size_list (b : ByteArray) : b.size = b.data.toList.length := Lib.size_eq b
theorem size_mk (l : List UInt8) : (⟨l.toArray⟩ : ByteArray).size = l.length := by rw [size_list]
theorem run_conv1 (W : World) (n : Int) (h0 : 0 ≤ n) (h1 : n ≤ 255) :
    (convert 35 9 (.slice (some ⟨W.heap.size, 0, none⟩) 1 1)).run Tryz.prog (W.alloc (.cells #[.int .u8 n] 5)) = .ok (.string (chr1 n)) (W.alloc (.cells #[.int .u8 n] 5)) := by
  have h := run_convert_bytes_back (P := Tryz.prog) (W.alloc (.cells #[.int .u8 n] 5)) 35 9 5 ⟨W.heap.size, 0, none⟩ 1 [UInt8.ofNat n.toNat] Tryz.underlying35 Tryz.underlying5 Tryz.underlying9 (fun j hj => by
    have hj0 : j = 0 := by simpa using hj
    subst hj0
    have e : (((UInt8.ofNat n.toNat).toNat : Nat) : Int) = n := by simp; omega
    simp only [List.getElem_cons_zero, e]
    have ea : (⟨W.heap.size, 0, none⟩ : Addr).add 0 = ⟨W.heap.size, 0, none⟩ := rfl
    rw [ea, World.cell?_alloc_new]
    rfl)
  exact h
def UdecRel (n : Nat) (w : World) (t s : Value) (w' : World) : Prop :=
  ∃ (u : Nat) (b : ByteArray), u ≤ n ∧ t = .int .u64 u ∧ s = .string b ∧ Below w.heap.size w w' ∧ Lib.decDigits u ++ b.data.toList = Lib.decDigits n
theorem udec_any (n : Nat) (w : World) (h : n < 18446744073709551616) :
    Calls Tryz.prog 23 #[.int .u64 n] w fun e w' => e = .returned (.string ⟨(Lib.decDigits n).toArray⟩) ∧ Below w.heap.size w w' := by
  have hlen := decDigits_len 19 n (Nat.lt_trans h (by decide))
  go_enter Tryz.func23, Tryz.ntmps23
  go_wp2_with fail
  go_loopw [0, 3] (UdecRel n w) (fun t _ _ => (intOf t).toNat)
  case atStart => exact ⟨n, ⟨#[]⟩, Nat.le_refl _, rfl, rfl, Below.refl _ _, by simp⟩
  case round =>
    obtain ⟨u, b, hu, rfl, rfl, hb, hd⟩ := hrel
    have hbs : b.size ≤ 20 := by
      have := congrArg List.length hd
      rw [List.length_append, ← size_list] at this; omega
    have hc1 := chr1_size (48 + (u : Int) % 10)
    have hcv := run_conv1 wr (48 + (u : Int) % 10) (by omega) (by omega)
    have hsz := hb.size
    have HB := Lib.hid (hb.alloc hb.size (.cells #[.int .u8 (48 + (u : Int) % 10)] 5))
    by_cases h10 : u < 10
    · have he : (chr1 (48 + (u : Int) % 10) ++ b).data.toList = Lib.decDigits n := by
        rw [data_app, ← hd, decDigits_small u h10, chr1_list]
        have : (48 + (u : Int) % 10).toNat = 48 + u := by omega
        rw [this]
      have HE := Lib.hid (mk_list _ _ he)
      have hz : ((u : Int) / 10 == 0) = true := by simp; omega
      clear hd he hb
      go_wp2_with fail
      go_ret
      exact ⟨ret_str HE.out, HB.out⟩
    · have he : Lib.decDigits (u / 10) ++ (chr1 (48 + (u : Int) % 10) ++ b).data.toList = Lib.decDigits n := by
        rw [data_app, ← hd, decDigits_big u h10, chr1_list]
        have : (48 + (u : Int) % 10).toNat = 48 + u % 10 := by omega
        rw [this, List.append_assoc]
      have HE := Lib.hid he
      have hz : ((u : Int) / 10 == 0) = false := by simp; omega
      clear hd he hb
      go_wp2_with fail
      go_roundw
      case rel => exact ⟨u / 10, _, by omega, by go_num, rfl, HB.out, HE.out⟩
      case measure => simp [intOf]; omega
theorem refDec_nat (n : Nat) (w : World) (h : n < 9223372036854775808) :
    Calls Tryz.prog 11 #[.int .i64 n] w fun e w' => e = .returned (.string ⟨(Lib.decDigits n).toArray⟩) ∧ Below w.heap.size w w' := by
  go_enter Tryz.func11, Tryz.ntmps11
  go_wp2_with fail
  refine (udec_any n _ (by omega)).mono ?_; rintro e w' ⟨rfl, hb⟩
  have HB := Lib.hid hb; clear hb
  go_wp2_with fail
  go_ret
  exact ⟨rfl, HB.out⟩
end Go.Proofs.YtfilbfenpdaahaaGreatDoor
