/-
  Plain mathematics of numbers as texts: the digits behind the point, the text of a number. It names nothing of the program.
The contracts of the document's own digits of whole numbers (udec, Dec).
-/
import Derived.Lib.ItoaMem
import Derived.Lib.IndexLaws
import Derived.Lib.Strings
import Derived.Test.YtfilbfenpdaahaaGreatDoorFixMath
import Derived.Test.YtfilbfenpdaahaaGreatDoorRows
import Derived.WalkKit
import Derived.WalkSpells
import Derived.BigQuiet
import Derived.Deep.QuietTactic
import Derived.Lib.Hide
import Derived.Laws.IdiomStrings
namespace Go.Proofs.YtfilbfenpdaahaaGreatDoor.Dc
open Fx

/-- the digits behind the point of r parts of One, as far as f of them -/
def frd : Nat → Nat → List UInt8
  | 0, _ => []
  | f + 1, r => if r = 0 then [] else UInt8.ofNat (48 + r * 10 / 65536) :: frd f (r * 10 % 65536)
theorem frd_zero (f : Nat) : frd f 0 = [] := by cases f <;> simp [frd]
theorem frd_succ (f r : Nat) (h : 0 < r) : frd (f + 1) r = UInt8.ofNat (48 + r * 10 / 65536) :: frd f (r * 10 % 65536) := by
  rw [frd, if_neg (by omega)]
theorem frd_len (f r : Nat) : (frd f r).length ≤ f := by
  induction f generalizing r with
  | zero => simp [frd]
  | succ f ih =>
    unfold frd; split
    · simp
    · simp; exact ih _
theorem pow_step (j r : Nat) (h : 2 ^ j ∣ r) (hj : j < 16) : 2 ^ (j + 1) ∣ r * 10 % 65536 := by
  obtain ⟨c, rfl⟩ := h
  have e : (65536 : Nat) = 2 ^ (j + 1) * 2 ^ (15 - j) := by
    rw [← Nat.pow_add]
    have : j + 1 + (15 - j) = 16 := by omega
    rw [this]
  have e2 : 2 ^ j * c * 10 = 2 ^ (j + 1) * (c * 5) := by rw [Nat.pow_succ]; simp only [Nat.mul_assoc]; congr 1; omega
  rw [e2]
  conv => rhs; rw [e]
  rw [Nat.mul_mod_mul_left]
  exact Nat.dvd_mul_right _ _
theorem pow_end (r : Nat) (h : 2 ^ 16 ∣ r) (h2 : r < 65536) : r = 0 := by
  have : (2 ^ 16 : Nat) = 65536 := by decide
  rw [this] at h
  omega

/-- the digits of a number that is not below 0 -/
def printU (n : Nat) : List UInt8 := Lib.decDigits (n / 65536) ++ (if n % 65536 = 0 then [] else 46 :: frd 16 (n % 65536))
/-- which text a number is -/
def printL (n : Int) : List UInt8 := if fits n = true then (if n < 0 then 45 :: printU n.natAbs else printU n.toNat) else [48]
def realL (n : Int) : List UInt8 := if (if fits n = true then n else 0) % 65536 = 0 then printL n ++ [46, 48] else printL n

theorem decDigits_small (i : Nat) (h : i < 10) : Lib.decDigits i = [UInt8.ofNat (48 + i)] := Lib.decDigits_one h
theorem decDigits_big (u : Nat) (h : ¬ u < 10) : Lib.decDigits u = Lib.decDigits (u / 10) ++ [UInt8.ofNat (48 + u % 10)] := by
  rw [Lib.decDigits, dif_neg h]
theorem decDigits_len (k : Nat) : ∀ u : Nat, u < 10 ^ (k + 1) → (Lib.decDigits u).length ≤ k + 1 := by
  induction k with
  | zero => intro u h; rw [decDigits_small u (by simpa using h)]; simp
  | succ k ih =>
    intro u h
    by_cases h10 : u < 10
    · rw [decDigits_small u h10]; simp
    · rw [decDigits_big u h10]
      have := ih (u / 10) (by rw [Nat.pow_succ] at h; omega)
      simp; omega
theorem decDigits_pos (u : Nat) : 1 ≤ (Lib.decDigits u).length := by
  rw [Lib.decDigits_length]; exact Lib.nDigits_pos u
/-- only digits -/
def isDig (c : UInt8) : Prop := 48 ≤ c.toNat ∧ c.toNat ≤ 57
theorem isDig_of (d : Nat) (h : d < 10) : isDig (UInt8.ofNat (48 + d)) := by
  unfold isDig
  have : (UInt8.ofNat (48 + d)).toNat = 48 + d := by simp; omega
  omega
theorem decDigits_dig (u : Nat) : ∀ c ∈ Lib.decDigits u, isDig c := by
  induction u using Nat.strongRecOn with
  | _ u ih =>
    intro c hc
    by_cases h : u < 10
    · rw [decDigits_small u h] at hc; rw [List.mem_singleton] at hc; subst hc; exact isDig_of u h
    · rw [decDigits_big u h, List.mem_append] at hc
      rcases hc with hc | hc
      · exact ih (u / 10) (by omega) c hc
      · rw [List.mem_singleton] at hc; subst hc; exact isDig_of _ (by omega)
theorem frd_dig (f r : Nat) (h : r < 65536) : ∀ c ∈ frd f r, isDig c := by
  induction f generalizing r with
  | zero => simp [frd]
  | succ f ih =>
    intro c hc
    unfold frd at hc; split at hc
    · simp at hc
    · rcases List.mem_cons.1 hc with rfl | hc
      · exact isDig_of _ (by omega)
      · exact ih _ (by omega) c hc
theorem not46 {c : UInt8} (h : isDig c) : c ≠ 46 := by
  rintro rfl; unfold isDig at h; simp at h
theorem indexByte_neg {l : List UInt8} {c : UInt8} (h : ∀ x ∈ l, x ≠ c) : Lib.indexByte l c = -1 := by
  induction l with
  | nil => rfl
  | cons b l ih =>
    have := ih (fun x hx => h x (List.mem_cons_of_mem _ hx))
    have hb : (b == c) = false := by simp; exact h b (List.mem_cons_self ..)
    simp [Lib.indexByte, hb, this]
theorem indexByte_mem {l : List UInt8} {c : UInt8} (h : c ∈ l) : 0 ≤ Lib.indexByte l c := by
  have h1 := Lib.indexByte_ge l c
  by_cases h2 : Lib.indexByte l c = -1
  · obtain ⟨k, hk⟩ := List.getElem?_of_mem h
    exact absurd hk (Lib.indexByte_none h2 k)
  · omega
theorem printU_len (n : Nat) (h : n ≤ 2147483648) : (printU n).length ≤ 22 := by
  have h1 := decDigits_len 4 (n / 65536) (by omega)
  have h2 := frd_len 16 (n % 65536)
  unfold printU; rw [List.length_append]; split
  · simp; omega
  · simp; omega
theorem printL_len (n : Int) : (printL n).length ≤ 23 := by
  unfold printL; split
  · rename_i h; obtain ⟨h1, h2⟩ := (fits_iff n).1 h
    split
    · have := printU_len n.natAbs (by omega); simp; omega
    · have := printU_len n.toNat (by omega); omega
  · simp
theorem printU_has (n : Nat) : (46 : UInt8) ∈ printU n ↔ n % 65536 ≠ 0 := by
  unfold printU
  constructor
  · intro h h0
    rw [if_pos h0, List.append_nil] at h
    exact not46 (decDigits_dig _ _ h) rfl
  · intro h; rw [if_neg h]; simp
theorem natAbs_mod (n : Int) (h : n < 0) : n.natAbs % 65536 = 0 ↔ n % 65536 = 0 := by omega
theorem printL_has (n : Int) : (46 : UInt8) ∈ printL n ↔ (if fits n = true then n else 0) % 65536 ≠ 0 := by
  unfold printL; split
  · split
    · rename_i h0
      have := natAbs_mod n h0
      simp only [List.mem_cons]
      rw [printU_has]
      constructor
      · rintro (h | h)
        · simp at h
        · omega
      · intro h; right; omega
    · rw [printU_has]; omega
  · simp
theorem realL_eq (n : Int) : realL n = if decide (0 ≤ Lib.indexByte (printL n) 46) = true then printL n else printL n ++ [46, 48] := by
  unfold realL
  by_cases h : (if fits n = true then n else 0) % 65536 = 0
  · rw [if_pos h, if_neg]
    have h2 : ¬ (46 : UInt8) ∈ printL n := by rw [printL_has]; omega
    rw [indexByte_neg (c := 46) (fun x hx e => h2 (by rw [← e]; exact hx))]; simp
  · rw [if_neg h, if_pos]
    have h2 : (46 : UInt8) ∈ printL n := (printL_has n).2 h
    have := indexByte_mem h2
    simpa using this
theorem realL_len (n : Int) : (realL n).length ≤ 25 := by
  have := printL_len n
  unfold realL
  by_cases h : (if fits n = true then n else 0) % 65536 = 0
  · rw [if_pos h, List.length_append]; simp; omega
  · rw [if_neg h]; omega
end Go.Proofs.YtfilbfenpdaahaaGreatDoor.Dc
namespace Go.Proofs.YtfilbfenpdaahaaGreatDoor
open Go.RowKit
open Fx Dc
/-- one byte as a string -/
def chr1 (n : Int) : ByteArray := ⟨#[UInt8.ofNat n.toNat]⟩
theorem chr1_size (n : Int) : (chr1 n).size ≤ 1 := Nat.le_refl _
theorem chr1_list (n : Int) : (chr1 n).data.toList = [UInt8.ofNat n.toNat] := rfl
theorem data_app (a b : ByteArray) : (a ++ b).data.toList = a.data.toList ++ b.data.toList := by
  rw [ByteArray.data_append, Array.toList_append]
theorem size_app (a b : ByteArray) : (a ++ b).size = a.size + b.size := ByteArray.size_append
theorem mk_list (b : ByteArray) (l : List UInt8) (h : b.data.toList = l) : b = ⟨l.toArray⟩ := by subst h; rfl
theorem ret_str {a b : ByteArray} (h : a = b) : Ending.returned (.string a) = .returned (.string b) := by rw [h]
theorem size_list (b : ByteArray) : b.size = b.data.toList.length := Lib.size_eq b
theorem size_mk (l : List UInt8) : (⟨l.toArray⟩ : ByteArray).size = l.length := by rw [size_list]
theorem run_conv1 (W : World) (n : Int) (h0 : 0 ≤ n) (h1 : n ≤ 255) :
    (convert 35 9 (.slice (some ⟨W.heap.size, 0, none⟩) 1 1)).run Tryz.prog (W.alloc (.cells #[.int .u8 n] 5)) = .ok (.string (chr1 n)) (W.alloc (.cells #[.int .u8 n] 5)) := by
  have h := run_convert_bytes_back (P := Tryz.prog) (W.alloc (.cells #[.int .u8 n] 5)) 35 9 5 ⟨W.heap.size, 0, none⟩ 1 [UInt8.ofNat n.toNat] Tryz.underlying35 Tryz.underlying5 Tryz.underlying9 (fun j hj => by
    have hj0 : j = 0 := by simpa using hj
    subst hj0
    have e : (((UInt8.ofNat n.toNat).toNat : Nat) : Int) = n := by simp; omega
    simp only [List.getElem_cons_zero, e]
    have ea : (⟨W.heap.size, 0, none⟩ : Addr).add 0 = ⟨W.heap.size, 0, none⟩ := rfl
    rw [ea, World.cell?_alloc_new]
    rfl)
  exact h
def UdecRel (n : Nat) (w : World) (t s : Value) (w' : World) : Prop :=
  ∃ (u : Nat) (b : ByteArray), u ≤ n ∧ t = .int .u64 u ∧ s = .string b ∧ Below w.heap.size w w' ∧ Lib.decDigits u ++ b.data.toList = Lib.decDigits n
theorem udec_any (n : Nat) (w : World) (h : n < 18446744073709551616) :
    Calls Tryz.prog 23 #[.int .u64 n] w fun e w' => e = .returned (.string ⟨(Lib.decDigits n).toArray⟩) ∧ Below w.heap.size w w' := by
  have hlen := decDigits_len 19 n (Nat.lt_trans h (by decide))
  go_enter Tryz.func23, Tryz.ntmps23
  go_wp2_with fail
  go_loopw [0, 3] (UdecRel n w) (fun t _ _ => (intOf t).toNat)
  case atStart => exact ⟨n, ⟨#[]⟩, Nat.le_refl _, rfl, rfl, Below.refl _ _, by simp⟩
  case round =>
    obtain ⟨u, b, hu, rfl, rfl, hb, hd⟩ := hrel
    have hbs : b.size ≤ 20 := by
      have := congrArg List.length hd
      rw [List.length_append, ← size_list] at this; omega
    have hc1 := chr1_size (48 + (u : Int) % 10)
    have hcv := run_conv1 wr (48 + (u : Int) % 10) (by omega) (by omega)
    have hsz := hb.size
    have HB := Lib.hid (hb.alloc hb.size (.cells #[.int .u8 (48 + (u : Int) % 10)] 5))
    by_cases h10 : u < 10
    · have he : (chr1 (48 + (u : Int) % 10) ++ b).data.toList = Lib.decDigits n := by
        rw [data_app, ← hd, decDigits_small u h10, chr1_list]
        have : (48 + (u : Int) % 10).toNat = 48 + u := by omega
        rw [this]
      have HE := Lib.hid (mk_list _ _ he)
      have hz : ((u : Int) / 10 == 0) = true := by simp; omega
      clear hd he hb
      go_wp2_with fail
      go_ret
      exact ⟨ret_str HE.out, HB.out⟩
    · have he : Lib.decDigits (u / 10) ++ (chr1 (48 + (u : Int) % 10) ++ b).data.toList = Lib.decDigits n := by
        rw [data_app, ← hd, decDigits_big u h10, chr1_list]
        have : (48 + (u : Int) % 10).toNat = 48 + u % 10 := by omega
        rw [this, List.append_assoc]
      have HE := Lib.hid he
      have hz : ((u : Int) / 10 == 0) = false := by simp; omega
      clear hd he hb
      go_wp2_with fail
      go_roundw
      case rel => exact ⟨u / 10, _, by omega, by go_num, rfl, HB.out, HE.out⟩
      case measure => simp [intOf]; omega
theorem refDec_nat (n : Nat) (w : World) (h : n < 9223372036854775808) :
    Calls Tryz.prog 11 #[.int .i64 n] w fun e w' => e = .returned (.string ⟨(Lib.decDigits n).toArray⟩) ∧ Below w.heap.size w w' := by
  go_enter Tryz.func11, Tryz.ntmps11
  go_wp2_with fail
  refine (udec_any n _ (by omega)).mono ?_; rintro e w' ⟨rfl, hb⟩
  have HB := Lib.hid hb; clear hb
  go_wp2_with fail
  go_ret
  exact ⟨rfl, HB.out⟩
end Go.Proofs.YtfilbfenpdaahaaGreatDoor
