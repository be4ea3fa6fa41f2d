/-
  The contracts of the functions that read digits, of package dec: digitOf, readDigits, readRadix; the library's Cut at one byte.
-/
import Derived.Test.YtfilbfenpdaahaaGreatDoorDecPrint
namespace Go.Proofs.YtfilbfenpdaahaaGreatDoor
open Go.RowKit
open Fx Dc
namespace Dc
/-- what a byte counts as a digit; 36 of any other -/
def digU (c : Int) : Int := if 48 ≤ c ∧ c ≤ 57 then c - 48 else if 97 ≤ c ∧ c ≤ 122 then c - 87 else if 65 ≤ c ∧ c ≤ 90 then c - 55 else 36
theorem digU_bd (c : Int) : 0 ≤ digU c ∧ digU c ≤ 36 := by
  unfold digU
  split
  · omega
  · split
    · omega
    · split <;> omega
/-- digits of a base, one behind the other, as far as 2^32 -/
def rdD (base : Int) : List UInt8 → Int → Option Int
  | [], n => some n
  | c :: r, n => if digU (c.toNat : Int) < base then rdD base r (min (n * base + digU (c.toNat : Int)) 4294967296) else none
theorem rdD_cons (base : Int) (c : UInt8) (r : List UInt8) (n : Int) : rdD base (c :: r) n = if digU (c.toNat : Int) < base then rdD base r (min (n * base + digU (c.toNat : Int)) 4294967296) else none := rfl
theorem rdD_bd {base : Int} (hb : 0 ≤ base) : ∀ {l : List UInt8} {n m : Int}, 0 ≤ n → n ≤ 4294967296 → rdD base l n = some m → 0 ≤ m ∧ m ≤ 4294967296
  | [], n, m, h0, h1, h => by simp [rdD] at h; omega
  | c :: r, n, m, h0, h1, h => by
    unfold rdD at h
    split at h
    · have hd := digU_bd (c.toNat : Int)
      have := Int.mul_nonneg h0 hb
      exact rdD_bd hb (by omega) (by omega) h
    · cases h
end Dc
theorem digitOf_any (c : Int) (h0 : 0 ≤ c) (h1 : c ≤ 255) (w : World) : Calls Tryz.prog 127 #[.int .u8 c] w fun e w' => e = .returned (.int .i64 (digU c)) ∧ w = w' := by
  unfold digU
  by_cases a1 : 48 ≤ c
  · by_cases a2 : c ≤ 57
    · rw [if_pos ⟨a1, a2⟩]
      go_enter Tryz.func127, Tryz.ntmps127
      go_wp2_with fail
      go_ret
      exact ⟨rfl, rfl⟩
    · rw [if_neg (by omega)]
      by_cases b1 : 97 ≤ c
      · by_cases b2 : c ≤ 122
        · rw [if_pos ⟨b1, b2⟩]
          go_enter Tryz.func127, Tryz.ntmps127
          go_wp2_with fail
          go_ret
          exact ⟨ret_int (by omega), rfl⟩
        · rw [if_neg (by omega), if_neg (by omega)]
          have c1 : 65 ≤ c := by omega
          have c2 : ¬ c ≤ 90 := by omega
          go_enter Tryz.func127, Tryz.ntmps127
          go_wp2_with fail
          go_ret
          exact ⟨rfl, rfl⟩
      · rw [if_neg (by omega)]
        by_cases c1 : 65 ≤ c
        · by_cases c2 : c ≤ 90
          · rw [if_pos ⟨c1, c2⟩]
            go_enter Tryz.func127, Tryz.ntmps127
            go_wp2_with fail
            go_ret
            exact ⟨ret_int (by omega), rfl⟩
          · rw [if_neg (by omega)]
            go_enter Tryz.func127, Tryz.ntmps127
            go_wp2_with fail
            go_ret
            exact ⟨rfl, rfl⟩
        · rw [if_neg (by omega)]
          go_enter Tryz.func127, Tryz.ntmps127
          go_wp2_with fail
          go_ret
          exact ⟨rfl, rfl⟩
  · rw [if_neg (by omega), if_neg (by omega), if_neg (by omega)]
    have b1 : ¬ 97 ≤ c := by omega
    have c1 : ¬ 65 ≤ c := by omega
    go_enter Tryz.func127, Tryz.ntmps127
    go_wp2_with fail
    go_ret
    exact ⟨rfl, rfl⟩
def RdRel (base : Int) (l : List UInt8) (t i : Value) : Prop :=
  ∃ (k : Nat) (n : Int), k ≤ l.length ∧ 0 ≤ n ∧ n ≤ 4294967296 ∧ i = .int .i64 k ∧ t = .int .i64 n ∧ rdD base l 0 = rdD base (l.drop k) n
/-- what readDigits answers -/
def rdV (base : Int) (l : List UInt8) : Int := (rdD base l 0).getD 0
def rdOk (base : Int) (l : List UInt8) : Bool := (rdD base l 0).isSome && !l.isEmpty
theorem nonempty_size (s : ByteArray) : (!s.data.toList.isEmpty) = decide (0 < s.size) := by
  rw [size_list]; cases s.data.toList <;> simp
theorem drop_byte (s : ByteArray) (k : Nat) (h : k < s.size) : s.data.toList.drop k = s[k] :: s.data.toList.drop (k + 1) := by
  rw [List.drop_eq_getElem_cons (by simpa using h)]; rfl
theorem readDigits_any (s : ByteArray) (base : Int) (hs : s.size ≤ 3000) (hb0 : 0 ≤ base) (hb1 : base ≤ 36) (w : World) :
    Calls Tryz.prog 104 #[.string s, .int .i64 base] w fun e w' => e = .returned (.tuple #[.int .i64 (rdV base s.data.toList), .bool (rdOk base s.data.toList)]) ∧ w = w' := by
  have hsl : s.data.toList.length = s.size := (size_list s).symm
  go_enter Tryz.func104, Tryz.ntmps104
  go_wp2_with fail
  go_loop [4, 10] (RdRel base s.data.toList) (fun _ i => s.size - (intOf i).toNat)
  case atStart => exact ⟨0, 0, by omega, by omega, by omega, rfl, rfl, rfl⟩
  case round =>
    obtain ⟨k, n, hk, hn0, hn1, rfl, rfl, hr⟩ := hrel
    have hp0 := Int.mul_nonneg hn0 hb0
    have hp1 : n * base ≤ 4294967296 * 36 := Int.mul_le_mul hn1 hb1 hb0 (by omega)
    by_cases hlt : k < s.size
    · obtain ⟨d, hd⟩ : ∃ d : Int, d = digU (s[k].toNat : Int) := ⟨_, rfl⟩
      have hdb : 0 ≤ d ∧ d ≤ 36 := by rw [hd]; exact digU_bd _
      obtain ⟨hd0, hd1⟩ := hdb
      rw [drop_byte s k hlt, rdD_cons, ← hd] at hr
      have hc0 : (s[k].toNat : Int) ≤ 255 := by have := UInt8.toNat_lt s[k]; omega
      by_cases hlb : d < base
      · rw [if_pos hlb] at hr
        have HR := Lib.hid hr
        have HD := Lib.hid hd
        clear hr hd
        go_wp2_with fail
        refine (digitOf_any _ (by omega) (by omega) _).mono ?_; rintro e w' ⟨rfl, rfl⟩
        rw [← HD.out]
        go_wp2_with fail
        go_round
        case rel => exact ⟨k + 1, _, by omega, by omega, by omega, by go_num, rfl, HR.out⟩
        case measure => simp [intOf]; omega
      · rw [if_neg hlb] at hr
        have HV : Hid (rdV base s.data.toList = 0) := by unfold Hid rdV; rw [hr]; rfl
        have HO : Hid (rdOk base s.data.toList = false) := by unfold Hid rdOk; rw [hr]; rfl
        have HD := Lib.hid hd
        clear hr hd
        go_wp2_with fail
        refine (digitOf_any _ (by omega) (by omega) _).mono ?_; rintro e w' ⟨rfl, rfl⟩
        rw [← HD.out]
        go_wp2_with fail
        go_ret2
        exact ⟨by rw [HV.out, HO.out]; rfl, rfl⟩
    · rw [List.drop_of_length_le (by omega)] at hr
      have HV : Hid (rdV base s.data.toList = n) := by unfold Hid rdV; rw [hr]; rfl
      have HO : Hid (rdOk base s.data.toList = decide (0 < s.size)) := by
        unfold Hid rdOk; rw [hr, nonempty_size]; rfl
      clear hr
      go_wp2_with fail
      go_ret2
      exact ⟨by rw [HV.out, HO.out]; rfl, rfl⟩
/-- what readRadix answers -/
def rxOk (b d : List UInt8) : Bool := rdOk 10 b && decide (b.length ≤ 2) && decide (2 ≤ rdV 10 b) && decide (rdV 10 b ≤ 36) && rdOk (rdV 10 b) d
def rxN (b d : List UInt8) : Int := rdV (rdV 10 b) d
def tokV (k n : Int) : Value := .agg #[.int .i64 k, .int .i64 n, .string ⟨#[]⟩]
def rxT (b d : List UInt8) : Int := if rxN b d < 2147483648 then rxN b d else rxN b d - 4294967296
theorem readRadix_no (b d : ByteArray) (hb : b.size ≤ 3000) (hd : d.size ≤ 3000) (w : World) (h : rxOk b.data.toList d.data.toList = false) :
    Calls Tryz.prog 86 #[.string b, .string d] w fun e w' => e = .returned (.tuple #[tokV 0 0, .bool false, .int .i64 0]) ∧ Below w.heap.size w w' := by
  have hbl : b.data.toList.length = b.size := (size_list b).symm
  unfold rxOk at h
  cases h1 : rdOk 10 b.data.toList
  · have H1 := Lib.hid (fun w => readDigits_any b 10 hb (by omega) (by omega) w)
    have HO := Lib.hid h1
    clear h h1
    go_enter Tryz.func86, Tryz.ntmps86
    go_wp2_with fail
    refine (H1.out _).mono ?_; rintro e w' ⟨rfl, rfl⟩
    rw [HO.out]
    go_wp2_with fail
    exact bodyPost_ret (v := .tuple #[tokV 0 0, .bool false, .int .i64 0]) (by simp [results, Tryz.results86, go_sem, tokV]) rfl ⟨rfl, (Below.refl _ _).alloc (Nat.le_refl _) _⟩
  · obtain ⟨B, hB⟩ : ∃ B : Int, rdV 10 b.data.toList = B := ⟨_, rfl⟩
    rw [hB, h1] at h
    have hBb : 0 ≤ B ∧ B ≤ 4294967296 := by
      rw [← hB]; unfold rdV
      cases hr : rdD 10 b.data.toList 0 with
      | none => simp
      | some m => exact rdD_bd (by omega) (by omega) (by omega) hr
    obtain ⟨hB0, hB1⟩ := hBb
    have H1 : Hid (∀ w, Calls Tryz.prog 104 #[.string b, .int .i64 10] w fun e w' => e = .returned (.tuple #[.int .i64 B, .bool true]) ∧ w = w') := by
      intro w; have := readDigits_any b 10 hb (by omega) (by omega) w; rwa [hB, h1] at this
    clear h1 hB hbl
    by_cases h2 : b.size ≤ 2
    · have hs2 : decide (2 < (b.size : Int)) = false := by simp; omega
      by_cases h3 : 2 ≤ B
      · by_cases h4 : B ≤ 36
        · have h5 : rdOk B d.data.toList = false := by
            rw [← size_list] at h
            simpa [h2, h3, h4] using h
          have H2 := Lib.hid (fun w => readDigits_any d B hd (by omega) (by omega) w)
          have HO := Lib.hid h5
          clear h h5
          go_enter Tryz.func86, Tryz.ntmps86
          go_wp2_with fail
          refine (H1.out _).mono ?_; rintro e w' ⟨rfl, rfl⟩
          go_wp2_with fail
          refine (H2.out _).mono ?_; rintro e w' ⟨rfl, rfl⟩
          rw [HO.out]
          go_wp2_with fail
          exact bodyPost_ret (v := .tuple #[tokV 0 0, .bool false, .int .i64 0]) (by simp [results, Tryz.results86, go_sem, tokV]) rfl ⟨rfl, (Below.refl _ _).alloc (Nat.le_refl _) _⟩
        · clear h
          go_enter Tryz.func86, Tryz.ntmps86
          go_wp2_with fail
          refine (H1.out _).mono ?_; rintro e w' ⟨rfl, rfl⟩
          go_wp2_with fail
          exact bodyPost_ret (v := .tuple #[tokV 0 0, .bool false, .int .i64 0]) (by simp [results, Tryz.results86, go_sem, tokV]) rfl ⟨rfl, (Below.refl _ _).alloc (Nat.le_refl _) _⟩
      · clear h
        go_enter Tryz.func86, Tryz.ntmps86
        go_wp2_with fail
        refine (H1.out _).mono ?_; rintro e w' ⟨rfl, rfl⟩
        go_wp2_with fail
        exact bodyPost_ret (v := .tuple #[tokV 0 0, .bool false, .int .i64 0]) (by simp [results, Tryz.results86, go_sem, tokV]) rfl ⟨rfl, (Below.refl _ _).alloc (Nat.le_refl _) _⟩
    · have hs2 : decide (2 < (b.size : Int)) = true := by simp; omega
      clear h
      go_enter Tryz.func86, Tryz.ntmps86
      go_wp2_with fail
      refine (H1.out _).mono ?_; rintro e w' ⟨rfl, rfl⟩
      go_wp2_with fail
      exact bodyPost_ret (v := .tuple #[tokV 0 0, .bool false, .int .i64 0]) (by simp [results, Tryz.results86, go_sem, tokV]) rfl ⟨rfl, (Below.refl _ _).alloc (Nat.le_refl _) _⟩
theorem readRadix_yes (b d : ByteArray) (hb : b.size ≤ 3000) (hd : d.size ≤ 3000) (w : World) (h : rxOk b.data.toList d.data.toList = true) :
    Calls Tryz.prog 86 #[.string b, .string d] w fun e w' =>
      e = .returned (if 4294967296 ≤ rxN b.data.toList d.data.toList then .tuple #[tokV 0 0, .bool true, .int .i64 9] else .tuple #[tokV 1 (rxT b.data.toList d.data.toList), .bool true, .int .i64 0]) ∧ Below w.heap.size w w' := by
  have hbl : b.data.toList.length = b.size := (size_list b).symm
  unfold rxOk at h
  rw [hbl] at h
  simp only [Bool.and_eq_true, decide_eq_true_eq] at h
  obtain ⟨⟨⟨⟨h1, h2⟩, h3⟩, h4⟩, h5⟩ := h
  obtain ⟨B, hB⟩ : ∃ B : Int, rdV 10 b.data.toList = B := ⟨_, rfl⟩
  rw [hB] at h3 h4 h5
  have H1 : Hid (∀ w, Calls Tryz.prog 104 #[.string b, .int .i64 10] w fun e w' => e = .returned (.tuple #[.int .i64 B, .bool true]) ∧ w = w') := by
    intro w; have := readDigits_any b 10 hb (by omega) (by omega) w; rwa [hB, h1] at this
  obtain ⟨N, hN⟩ : ∃ N : Int, rdV B d.data.toList = N := ⟨_, rfl⟩
  have hNb : 0 ≤ N ∧ N ≤ 4294967296 := by
    rw [← hN]; unfold rdV
    cases hr : rdD B d.data.toList 0 with
    | none => simp
    | some m => exact rdD_bd (by omega) (by omega) (by omega) hr
  obtain ⟨hN0, hN1⟩ := hNb
  have H2 : Hid (∀ w, Calls Tryz.prog 104 #[.string d, .int .i64 B] w fun e w' => e = .returned (.tuple #[.int .i64 N, .bool true]) ∧ w = w') := by
    intro w; have := readDigits_any d B hd (by omega) (by omega) w; rwa [hN, h5] at this
  have hs2 : decide (2 < (b.size : Int)) = false := by simp; omega
  unfold rxT rxN
  rw [hB, hN]
  clear h1 h5 hB hN hbl
  by_cases h6 : 4294967296 ≤ N
  · rw [if_pos h6]
    go_enter Tryz.func86, Tryz.ntmps86
    go_wp2_with fail
    refine (H1.out _).mono ?_; rintro e w' ⟨rfl, rfl⟩
    go_wp2_with fail
    refine (H2.out _).mono ?_; rintro e w' ⟨rfl, rfl⟩
    go_wp2_with fail
    exact bodyPost_ret (v := .tuple #[tokV 0 0, .bool true, .int .i64 9]) (by simp [results, Tryz.results86, go_sem, tokV]) rfl ⟨rfl, (Below.refl _ _).alloc (Nat.le_refl _) _⟩
  · rw [if_neg h6]
    by_cases h7 : N < 2147483648
    · rw [if_pos h7]
      have h8 : ¬ 2147483648 ≤ N := by omega
      go_enter Tryz.func86, Tryz.ntmps86
      go_wp2_with fail
      refine (H1.out _).mono ?_; rintro e w' ⟨rfl, rfl⟩
      go_wp2_with fail
      refine (H2.out _).mono ?_; rintro e w' ⟨rfl, rfl⟩
      go_wp2_with fail
      exact bodyPost_ret (v := .tuple #[tokV 1 N, .bool true, .int .i64 0]) (by simp [results, Tryz.results86, go_sem, tokV]) rfl ⟨rfl, (Below.refl _ _).alloc (Nat.le_refl _) _⟩
    · rw [if_neg h7]
      have h8 : 2147483648 ≤ N := by omega
      go_enter Tryz.func86, Tryz.ntmps86
      go_wp2_with fail
      refine (H1.out _).mono ?_; rintro e w' ⟨rfl, rfl⟩
      go_wp2_with fail
      refine (H2.out _).mono ?_; rintro e w' ⟨rfl, rfl⟩
      go_wp2_with fail
      exact bodyPost_ret (v := .tuple #[tokV 1 (N - 4294967296), .bool true, .int .i64 0]) (by simp [results, Tryz.results86, go_sem, tokV]) rfl ⟨rfl, (Below.refl _ _).alloc (Nat.le_refl _) _⟩
end Go.Proofs.YtfilbfenpdaahaaGreatDoor
