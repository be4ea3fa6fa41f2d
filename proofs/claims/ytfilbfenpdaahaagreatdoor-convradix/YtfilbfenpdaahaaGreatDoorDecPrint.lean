/-
  The contracts of Print and PrintReal, of package dec and of the document.
-/
import Derived.Test.YtfilbfenpdaahaaGreatDoorDecUdec
import Derived.Test.YtfilbfenpdaahaaGreatDoorFixWalks
import Derived.Test.YtfilbfenpdaahaaGreatDoorShelf
namespace Go.Proofs.YtfilbfenpdaahaaGreatDoor
open Go.RowKit
open Fx Dc
/-- the library's table of powers of ten lies as its own text lays it -/
def Tab (w : World) : Prop := Lib.TabIs Tryz.prog w "internal/strconv.uint64pow10" .u64 Lib.pow10Tab
theorem tab_glob : Tryz.prog.globalNamed "internal/strconv.uint64pow10" = some 2 := by kernel_rfl
theorem Tab.below {w w' : World} (h : Tab w) (hb : Below w.heap.size w w') : Tab w' := by
  unfold Tab Lib.TabIs at *
  rw [← h]
  simp only [World.var?, tab_glob, Option.bind] at h ⊢
  have hlt : 2 < w.heap.size := by
    rcases Nat.lt_or_ge 2 w.heap.size with h1 | h1
    · exact h1
    · rw [Array.getElem?_eq_none h1] at h; cases h
  rw [hb.block _ hlt]
theorem below_grow (w : World) (k : Nat) (os : Array Obj) : Below w.heap.size w (Sort.grow (w.drewN k) os) :=
  ⟨rfl, rfl, rfl, by simp [Sort.grow], fun i hi => by
    show (w.heap ++ os)[i]? = _
    rw [Array.getElem?_append_left hi]⟩
theorem bthen {a b c : World} (h : Below a.heap.size a b) (k : Below b.heap.size b c) : Below a.heap.size a c := h.trans (k.mono h.size)
/-- a string, by its bytes; nothing old has turned -/
def StrB (l : List UInt8) (w : World) (e : Ending) (w' : World) : Prop := ∃ s : ByteArray, e = .returned (.string s) ∧ s.data.toList = l ∧ Below w.heap.size w w'
def StrS (l : List UInt8) (w : World) (e : Ending) (w' : World) : Prop := ∃ s : ByteArray, e = .returned (.string s) ∧ s.data.toList = l ∧ w = w'
theorem same_str {s t : ByteArray} {l : List UInt8} (h : s.data.toList = l) (k : t.data.toList = l) : t = s := by
  rw [mk_list s l h, mk_list t l k]
theorem len_le {s : ByteArray} {l : List UInt8} {n : Nat} (h : s.data.toList = l) (k : l.length ≤ n) : s.size ≤ n := by rw [size_list, h]; exact k
theorem itoa_at (z : Int) (k : Nat) (hz : z = k) (hk : k ≤ 32768) (w : World) (ht : Tab w) :
    Calls Tryz.prog 45 #[.int .i64 z] w (StrB (Lib.decDigits k) w) := by
  subst hz
  refine (Tryz.strconv_Itoa k (by omega) (by omega) w ht).mono ?_
  rintro e w' ⟨rfl, j, os, rfl⟩
  exact ⟨_, rfl, by rw [Lib.itoa_nonneg], below_grow w j os⟩
theorem itoa_dig (z : Int) (k : Nat) (hz : z = k) (hk : k < 10) (w : World) :
    Calls Tryz.prog 45 #[.int .i64 z] w (StrS [UInt8.ofNat (48 + k)] w) := by
  subst hz
  refine (Tryz.strconv_Itoa_small k (by omega) w).mono ?_
  rintro e w' ⟨rfl, rfl⟩
  exact ⟨_, rfl, by rw [decDigits_small k hk], rfl⟩
def strLen : Value → Nat | .string b => b.size | _ => 0
def PartRel (p : Nat) (t s : Value) : Prop :=
  ∃ (j r : Nat) (b : ByteArray), j ≤ 16 ∧ r < 65536 ∧ 2 ^ j ∣ r ∧ t = .int .i64 r ∧ s = .string b ∧ b.size = j ∧ b.data.toList ++ frd (16 - j) r = frd 16 p
theorem part_next {j r : Nat} {b c : ByteArray} {p : Nat} (hj : j ≤ 16) (hr : r < 65536) (h0 : 0 < r) (hd : 2 ^ j ∣ r) (hb : b.size = j) (hl : b.data.toList ++ frd (16 - j) r = frd 16 p)
    (hc : c.data.toList = [UInt8.ofNat (48 + r * 10 / 65536)]) : j < 16 ∧ 2 ^ (j + 1) ∣ r * 10 % 65536 ∧ (b ++ c).size = j + 1 ∧ (b ++ c).data.toList ++ frd (16 - (j + 1)) (r * 10 % 65536) = frd 16 p := by
  have hj2 : j < 16 := by
    rcases Nat.lt_or_ge j 16 with h | h
    · exact h
    · obtain rfl : j = 16 := by omega
      have := pow_end r hd hr; omega
  refine ⟨hj2, pow_step j r hd hj2, ?_, ?_⟩
  · rw [size_app, hb, size_list, hc]; rfl
  · have e : 16 - j = (16 - (j + 1)) + 1 := by omega
    rw [e, frd_succ _ _ h0] at hl
    rw [data_app, hc, List.append_assoc]; exact hl
theorem partDigits_any (p : Nat) (h : p < 65536) (w : World) : Calls Tryz.prog 81 #[.int .i64 p] w (StrS (frd 16 p) w) := by
  go_enter Tryz.func81, Tryz.ntmps81
  go_wp2_with fail
  go_loop [0, 2] (PartRel p) (fun _ s => 17 - strLen s)
  case atStart => exact ⟨0, p, ⟨#[]⟩, by omega, h, by simp, rfl, rfl, rfl, by simp⟩
  case round =>
    obtain ⟨j, r, b, hj, hr, hd, rfl, rfl, hb, hl⟩ := hrel
    have hbs : b.size ≤ 16 := by omega
    by_cases h0 : 0 < r
    · have HN := Lib.hid (fun c => part_next (c := c) hj hr h0 hd hb hl)
      have HB := Lib.hid hb
      clear hd hb hl
      go_wp2_with fail
      refine (itoa_dig _ (r * 10 / 65536) (by omega) (by omega) _).mono ?_
      rintro e w' ⟨c, rfl, hc, rfl⟩
      have hcs : c.size ≤ 1 := len_le hc (by simp)
      have HX := Lib.hid (HN.out c hc)
      clear hc
      go_wp2_with fail
      go_round
      case rel => exact ⟨j + 1, r * 10 % 65536, _, by have := HX.out.1; omega, by omega, HX.out.2.1, by go_num, rfl, HX.out.2.2.1, HX.out.2.2.2⟩
      case measure =>
        have h1 := HX.out.2.2.1; have h2 := HB.out
        show 17 - (b ++ c).size < 17 - b.size
        omega
    · have he : b.data.toList = frd 16 p := by
        obtain rfl : r = 0 := by omega
        rw [← hl, frd_zero, List.append_nil]
      have HE := Lib.hid he
      clear hd hb hl he
      go_wp2_with fail
      go_ret
      exact ⟨_, rfl, HE.out, rfl⟩
theorem decPrint_pos (m : Nat) (hm : m ≤ 2147483647) (w : World) (ht : Tab w) :
    Calls Tryz.prog 63 #[.int .i64 m] w (StrB (printU m) w) := by
  have hf := Lib.hid (fun w => fixFits_yes m w ((fits_iff _).2 ⟨by omega, by omega⟩))
  have HT := Lib.hid ht
  clear ht
  unfold printU
  by_cases h0 : m % 65536 = 0
  · rw [if_pos h0]
    have hz : ((m : Int) % 65536 != 0) = false := by simp; omega
    clear h0
    go_enter Tryz.func63, Tryz.ntmps63
    go_wp2_with fail
    refine (hf.out _).mono ?_; rintro e w' ⟨rfl, rfl⟩
    go_wp2_with fail
    refine (itoa_at _ (m / 65536) (by omega) (by omega) _ HT.out).mono ?_
    rintro e w' ⟨c, rfl, hc, hb⟩
    have hcs : c.size ≤ 5 := len_le hc (decDigits_len 4 _ (by omega))
    have HC := Lib.hid hc
    have HB := Lib.hid hb
    clear hc hb
    go_wp2_with fail
    go_ret
    exact ⟨_, rfl, by simp [HC.out], HB.out⟩
  · rw [if_neg h0]
    have hz : ((m : Int) % 65536 != 0) = true := by simp; omega
    clear h0
    go_enter Tryz.func63, Tryz.ntmps63
    go_wp2_with fail
    refine (hf.out _).mono ?_; rintro e w' ⟨rfl, rfl⟩
    go_wp2_with fail
    refine (itoa_at _ (m / 65536) (by omega) (by omega) _ HT.out).mono ?_
    rintro e w' ⟨c, rfl, hc, hb⟩
    have hcs : c.size ≤ 5 := len_le hc (decDigits_len 4 _ (by omega))
    have HC := Lib.hid hc
    have HB := Lib.hid hb
    clear hc hb
    go_wp2_with fail
    rw [show (m : Int) % 65536 = ((m % 65536 : Nat) : Int) from by omega]
    refine (partDigits_any (m % 65536) (by omega) _).mono ?_
    rintro e w' ⟨d, rfl, hd, rfl⟩
    have hds : d.size ≤ 16 := len_le hd (frd_len _ _)
    have HD := Lib.hid hd
    clear hd
    go_wp2_with fail
    go_ret
    exact ⟨_, rfl, by simp [HC.out, HD.out], HB.out⟩
theorem decPrint_neg (m : Nat) (hm1 : 1 ≤ m) (hm : m ≤ 2147483648) (w : World) (ht : Tab w) :
    Calls Tryz.prog 63 #[.int .i64 (-(m : Int))] w (StrB (45 :: printU m) w) := by
  have hf := Lib.hid (fun w => fixFits_yes (-(m : Int)) w ((fits_iff _).2 ⟨by omega, by omega⟩))
  have hng : decide (-(m : Int) < 0) = true := by simp; omega
  have HT := Lib.hid ht
  clear ht
  unfold printU
  by_cases h0 : m % 65536 = 0
  · rw [if_pos h0]
    have hz : ((m : Int) % 65536 != 0) = false := by simp; omega
    clear h0
    go_enter Tryz.func63, Tryz.ntmps63
    go_wp2_with fail
    refine (hf.out _).mono ?_; rintro e w' ⟨rfl, rfl⟩
    go_wp2_with fail
    refine (itoa_at _ (m / 65536) (by omega) (by omega) _ HT.out).mono ?_
    rintro e w' ⟨c, rfl, hc, hb⟩
    have hcs : c.size ≤ 5 := len_le hc (decDigits_len 4 _ (by omega))
    have HC := Lib.hid hc
    have HB := Lib.hid hb
    clear hc hb
    go_wp2_with fail
    go_ret
    exact ⟨_, rfl, by simp [HC.out], HB.out⟩
  · rw [if_neg h0]
    have hz : ((m : Int) % 65536 != 0) = true := by simp; omega
    clear h0
    go_enter Tryz.func63, Tryz.ntmps63
    go_wp2_with fail
    refine (hf.out _).mono ?_; rintro e w' ⟨rfl, rfl⟩
    go_wp2_with fail
    refine (itoa_at _ (m / 65536) (by omega) (by omega) _ HT.out).mono ?_
    rintro e w' ⟨c, rfl, hc, hb⟩
    have hcs : c.size ≤ 5 := len_le hc (decDigits_len 4 _ (by omega))
    have HC := Lib.hid hc
    have HB := Lib.hid hb
    clear hc hb
    go_wp2_with fail
    rw [show (m : Int) % 65536 = ((m % 65536 : Nat) : Int) from by omega]
    refine (partDigits_any (m % 65536) (by omega) _).mono ?_
    rintro e w' ⟨d, rfl, hd, rfl⟩
    have hds : d.size ≤ 16 := len_le hd (frd_len _ _)
    have HD := Lib.hid hd
    clear hd
    go_wp2_with fail
    go_ret
    exact ⟨_, rfl, by simp [HC.out, HD.out], HB.out⟩
theorem decPrint_no (n : Int) (hn : fits n = false) (w : World) (ht : Tab w) : Calls Tryz.prog 63 #[.int .i64 n] w (StrB [48] w) := by
  have hf := Lib.hid (fun w => fixFits_no n w hn)
  have HT := Lib.hid ht
  clear ht hn
  go_enter Tryz.func63, Tryz.ntmps63
  go_wp2_with fail
  refine (hf.out _).mono ?_; rintro e w' ⟨rfl, rfl⟩
  go_wp2_with fail
  refine (itoa_at _ 0 (by omega) (by omega) _ HT.out).mono ?_
  rintro e w' ⟨c, rfl, hc, hb⟩
  have hcs : c.size ≤ 5 := len_le hc (decDigits_len 4 _ (by omega))
  have HC := Lib.hid hc
  have HB := Lib.hid hb
  clear hc hb
  go_wp2_with fail
  go_ret
  exact ⟨_, rfl, by simp [HC.out, decDigits_small], HB.out⟩
theorem decPrint_any (n : Int) (w : World) (ht : Tab w) : Calls Tryz.prog 63 #[.int .i64 n] w (StrB (printL n) w) := by
  unfold printL
  cases hf : fits n
  · rw [if_neg (by simp)]; exact decPrint_no n hf w ht
  · rw [if_pos rfl]
    obtain ⟨h1, h2⟩ := (fits_iff n).1 hf
    by_cases h0 : n < 0
    · rw [if_pos h0]
      obtain ⟨m, rfl⟩ : ∃ m : Nat, n = -(m : Int) := ⟨n.natAbs, by omega⟩
      rw [Int.natAbs_neg, Int.natAbs_natCast]
      exact decPrint_neg m (by omega) (by omega) w ht
    · rw [if_neg h0]
      obtain ⟨m, rfl⟩ : ∃ m : Nat, n = (m : Int) := ⟨n.toNat, by omega⟩
      rw [Int.toNat_natCast]
      exact decPrint_pos m (by omega) w ht
theorem decReal_any (n : Int) (w : World) (ht : Tab w) : Calls Tryz.prog 46 #[.int .i64 n] w (StrB (realL n) w) := by
  rw [realL_eq]
  have HP := Lib.hid (decPrint_any n w ht)
  clear ht
  by_cases hx : decide (0 ≤ Lib.indexByte (printL n) 46) = true
  · rw [if_pos hx]
    have HX := Lib.hid hx
    clear hx
    go_enter Tryz.func46, Tryz.ntmps46
    go_wp2_with fail
    refine HP.out.mono ?_
    rintro e w' ⟨c, rfl, hc, hb⟩
    have hcs : c.size ≤ 23 := len_le hc (printL_len _)
    have HC := Lib.hid hc
    have HB := Lib.hid hb
    clear hc hb
    go_wp2_with fail
    refine (Tryz.strings_Contains_one c 46 _).mono ?_; rintro e w' ⟨rfl, rfl⟩
    rw [HC.out, HX.out]
    go_wp2_with fail
    go_ret
    exact ⟨_, rfl, HC.out, HB.out⟩
  · rw [if_neg hx]
    have HX := Lib.hid (Bool.eq_false_iff.2 hx)
    clear hx
    go_enter Tryz.func46, Tryz.ntmps46
    go_wp2_with fail
    refine HP.out.mono ?_
    rintro e w' ⟨c, rfl, hc, hb⟩
    have hcs : c.size ≤ 23 := len_le hc (printL_len _)
    have HC := Lib.hid hc
    have HB := Lib.hid hb
    clear hc hb
    go_wp2_with fail
    refine (Tryz.strings_Contains_one c 46 _).mono ?_; rintro e w' ⟨rfl, rfl⟩
    rw [HC.out, HX.out]
    go_wp2_with fail
    go_ret
    exact ⟨_, rfl, by simp [HC.out], HB.out⟩
end Go.Proofs.YtfilbfenpdaahaaGreatDoor
