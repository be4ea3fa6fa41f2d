/-
  Which bases are powers of two, and which powers: isPowerOfTwo, TrailingZeros.
formatBits: a whole number's digits in any base but 10.
formatBits in bases that are powers of two.
-/
import Derived.Test.YtfilbfenpdaahaaGreatDoorDecUdec
import Derived.Lib.LaidTab
import Derived.Laws.BitsAllLaws
import Derived.Lib.QuoteBits
import Derived.Laws.BitsLemmas
import Derived.Test.YtfilbfenpdaahaaGreatDoorDecRadixW
import Derived.Test.YtfilbfenpdaahaaGreatDoorCnvRead
namespace Go.Proofs.YtfilbfenpdaahaaGreatDoor
open Go.RowKit
namespace Cv
def tzTab : List Int := [0, 1, 56, 2, 57, 49, 28, 3, 61, 58, 42, 50, 38, 29, 17, 4, 62, 47, 59, 36, 45, 43, 51, 22, 53, 39, 33, 30, 24, 18, 12, 5, 63, 55, 48, 27, 60, 41, 37, 16, 46, 35, 44, 21, 52, 32, 23, 11, 54, 26, 40, 15, 34, 20, 31, 10, 25, 14, 19, 9, 13, 8, 7, 6]
def TzT (w : World) : Prop := Lib.TabIs Tryz.prog w "math/bits.deBruijn64tab" .u8 tzTab
theorem tz_glob : Tryz.prog.globalNamed "math/bits.deBruijn64tab" = some 7 := by kernel_rfl
theorem TzT.below {w w' : World} (h : TzT w) (hb : Below w.heap.size w w') : TzT w' := by
  unfold TzT Lib.TabIs at *
  rw [← h]
  simp only [World.var?, tz_glob, Option.bind] at h ⊢
  have hlt : 7 < w.heap.size := by
    rcases Nat.lt_or_ge 7 w.heap.size with h1 | h1
    · exact h1
    · rw [Array.getElem?_eq_none h1] at h; cases h
  rw [hb.block _ hlt]
theorem TzT.cell {w : World} (h : TzT w) (i : Nat) (hi : i < 64) : w.cell? ⟨7, i, none⟩ = some (.int .u8 (tzTab.getD i 0)) := Lib.TabIs.cell h tz_glob i hi
def powB (b : Nat) : Bool := b == 2 || b == 4 || b == 8 || b == 16 || b == 32
theorem pow_and : ∀ b : Nat, b < 37 → 2 ≤ b → (bits .and .i64 (b : Int) ((b : Int) - 1) == 0) = powB b := by decide +kernel
theorem isPow_at (b : Nat) (h0 : 2 ≤ b) (h1 : b ≤ 36) (w : World) : Calls Tryz.prog 121 #[.int .i64 b] w fun e w' => e = .returned (.bool (powB b)) ∧ w' = w := by
  have hp := pow_and b (by omega) h0
  have hw : IntKind.i64.wrap ((b : Int) - 1) = (b : Int) - 1 := by rw [IntKind.wrap_i64]; omega
  generalize powB b = p at *
  go_enter Tryz.func121, Tryz.ntmps121
  go_wp2_with fail
  go_ret
  exact ⟨rfl, rfl⟩
def tzI (b : Nat) : Nat := if b = 2 then 1 else if b = 4 then 3 else if b = 8 then 7 else if b = 16 then 15 else 31
def lgB (b : Nat) : Nat := if b = 2 then 1 else if b = 4 then 2 else if b = 8 then 3 else if b = 16 then 4 else 5
theorem tz_num : ∀ b : Nat, b < 37 → powB b = true → IntKind.u64.wrap (bits .and .u64 (b : Int) (IntKind.u64.wrap (-(b : Int))) * 285870213051353865) / 288230376151711744 = (tzI b : Int) ∧ tzTab.getD (tzI b) 0 = (lgB b : Int) ∧ tzI b < 64 ∧ lgB b < 6 ∧ b = 2 ^ lgB b ∧ 1 ≤ lgB b := by decide +kernel
set_option maxRecDepth 100000 in
theorem tz64_at (b : Nat) (h0 : powB b = true) (h1 : b < 37) (w : World) (ht : TzT w) : Calls Tryz.prog 138 #[.int .u64 b] w fun e w' => e = .returned (.int .i64 (lgB b)) ∧ w' = w := by
  obtain ⟨hv, hc, hi, hk, hb, hk1⟩ := tz_num b h1 h0
  have hcell := ht.cell (tzI b) hi
  have hz : ((b : Int) == 0) = false := by
    have : b ≠ 0 := by rintro rfl; cases h0
    simp; omega
  rw [hc] at hcell
  have hw : IntKind.i64.wrap (lgB b : Int) = lgB b := by rw [IntKind.wrap_i64]; omega
  have hi0 : (0 : Int) ≤ (tzI b : Int) := by omega
  have hi1 : (tzI b : Int) < 64 := by omega
  generalize tzI b = i at *
  generalize lgB b = k at *
  clear ht h0 h1 hc hb hk1 hi hk
  go_enter Tryz.func138, Tryz.ntmps138
  go_wp2_with fail
  go_ret
  exact ⟨rfl, rfl⟩
theorem tz_at (b : Nat) (h0 : powB b = true) (h1 : b < 37) (w : World) (ht : TzT w) : Calls Tryz.prog 122 #[.int .u64 b] w fun e w' => e = .returned (.int .i64 (lgB b)) ∧ w' = w := by
  have HT := Lib.hid (tz64_at b h0 h1 w ht)
  clear ht h0 h1
  go_enter Tryz.func122, Tryz.ntmps122
  go_wp2_with fail
  refine HT.out.mono ?_; rintro e w1 ⟨rfl, rfl⟩
  go_wp2_with fail
  go_ret
  exact ⟨rfl, rfl⟩
end Cv
end Go.Proofs.YtfilbfenpdaahaaGreatDoor
namespace Go.Proofs.YtfilbfenpdaahaaGreatDoor
open Go.RowKit
open St
open Fx Dc
namespace Cv
def dg36 : ByteArray := ⟨#[48, 49, 50, 51, 52, 53, 54, 55, 56, 57, 97, 98, 99, 100, 101, 102, 103, 104, 105, 106, 107, 108, 109, 110, 111, 112, 113, 114, 115, 116, 117, 118, 119, 120, 121, 122]⟩
theorem dg_fin : ∀ x : Fin 36, dg36[x.1]? = some (UInt8.ofNat (chrB true x.1)) := by decide +kernel
theorem dg_at (x : Nat) (h : x < 36) (h2 : x < (⟨#[48, 49, 50, 51, 52, 53, 54, 55, 56, 57, 97, 98, 99, 100, 101, 102, 103, 104, 105, 106, 107, 108, 109, 110, 111, 112, 113, 114, 115, 116, 117, 118, 119, 120, 121, 122]⟩ : ByteArray).size) : (⟨#[48, 49, 50, 51, 52, 53, 54, 55, 56, 57, 97, 98, 99, 100, 101, 102, 103, 104, 105, 106, 107, 108, 109, 110, 111, 112, 113, 114, 115, 116, 117, 118, 119, 120, 121, 122]⟩ : ByteArray)[x]'h2 = UInt8.ofNat (chrB true x) := by
  have := dg_fin ⟨x, h⟩
  have h3 : dg36[x]? = some (dg36[x]'h2) := getElem?_pos dg36 x h2
  rw [h3] at this
  exact Option.some.inj this
/-- the array's tail is the text so far -/
def FmR (b n : Nat) (w : World) (u i : Value) (w' : World) : Prop :=
  ∃ (f x k : Nat) (cur : Array Value) (t : List UInt8), x < 2 ^ f ∧ 0 < f ∧ f ≤ k ∧ k ≤ 65 ∧ x < 4294967296 ∧ u = .int .u64 x ∧ i = .int .i64 k ∧ k + t.length = 65 ∧ digB true b f x ++ t = digB true b 33 n ∧
    w'.heap[w.heap.size]? = some (.cells cur 191 (0, 0)) ∧ cur.size = 65 ∧ cur.toList.drop k = t.map bv ∧ Below w.heap.size w w'
theorem drop_put {cur : Array Value} {k : Nat} {t : List UInt8} {c : UInt8} (h : cur.toList.drop k = t.map bv) (hk : 0 < k) (h65 : k ≤ cur.size) : (cur.setIfInBounds (k - 1) (bv c)).toList.drop (k - 1) = (c :: t).map bv := by
  have hl : k - 1 < (cur.setIfInBounds (k - 1) (bv c)).toList.length := by simp; omega
  rw [List.drop_eq_getElem_cons hl]
  have e : k - 1 + 1 = k := by omega
  rw [e, List.map_cons, ← h]
  congr 1
  · simp
  · rw [Array.toList_setIfInBounds, List.drop_set_of_lt (by omega)]
/-- a tail of the array, as a string -/
theorem cvt_tail {w : World} {B k : Nat} {cur : Array Value} {l : List UInt8} (h : w.heap[B]? = some (.cells cur 191 (0, 0))) (hd : cur.toList.drop k = l.map bv) (c : Nat) : (convert 35 9 (.slice (some ⟨B, k, none⟩) l.length c)).run Tryz.prog w = .ok (.string ⟨l.toArray⟩) w :=
  run_convert_bytes_back (P := Tryz.prog) w 35 9 5 ⟨B, k, none⟩ c l Tryz.underlying35 Tryz.underlying5 Tryz.underlying9 (fun j hj => by
    rw [Addr.add_lit, blk_cell h (k + j), ← Array.getElem?_toList]
    have e : cur.toList[k + j]? = (l.map bv)[j]? := by rw [← hd, List.getElem?_drop]
    rw [e]
    simp [bv, hj])
theorem fm_slice (B k : Nat) (h0 : 0 < k) (h1 : k ≤ 65) (W : World) : (Instr.sliceAt 191 (.pointer (some ⟨B, 0, none⟩)) (some (.int .i64 ((k : Int) - 1))) none none).run Tryz.prog W = .ok (.slice (some ⟨B, k - 1, none⟩) (65 - (k - 1)) (65 - (k - 1))) W := by
  have hal : Tryz.prog.arrayLen 191 = 65 := by kernel_rfl
  have hel : Tryz.prog.elem 191 = 5 := by kernel_rfl
  rw [run_sliceAt_array_l W 191 ⟨B, 0, none⟩ (by rw [hal, hel]; exact Tryz.underlying191) .i64 ((k : Int) - 1) (by omega) (by rw [hal]; omega), hal, hel]
  have e : ((k : Int) - 1).toNat = k - 1 := by omega
  rw [e]
  have hne : ¬ (65 = k - 1) := by omega
  simp only [slicedAt, if_neg hne, Addr.add_lit, Nat.zero_add]
  go_simp
set_option maxRecDepth 100000 in
set_option maxHeartbeats 1000000 in
theorem fmt_gen (b n : Nat) (hb0 : 2 ≤ b) (hb1 : b ≤ 36) (hb10 : b ≠ 10) (hn : n < 4294967296) (hp : powB b = false) (w : World) :
    Calls Tryz.prog 101 #[.slice none 0 0, .int .u64 n, .int .i64 b, .bool false, .bool false] w fun e w' => ∃ s : ByteArray, e = .returned (.tuple #[.slice none 0 0, .string s]) ∧ s.data.toList = digB true b 33 n ∧ Below w.heap.size w w' := by
  have HP := Lib.hid (fun w => isPow_at b hb0 hb1 w)
  rw [hp] at HP
  have g0 : decide ((b : Int) < 2) = false := decide_eq_false (by omega)
  have g1 : ((b : Int) == 10) = false := by simp; omega
  have g2 : decide ((36 : Int) < (b : Int)) = false := decide_eq_false (by omega)
  have wb : IntKind.u64.wrap (b : Int) = b := by rw [IntKind.wrap_u64]; omega
  clear hp
  go_enter Tryz.func101, Tryz.ntmps101
  go_wp2_with fail
  have hz : (w.alloc (.cells Tryz.zeroCells191 191)).heap[w.heap.size]? = _ := heap_alloc_new w _
  have hB := below1 w (.cells Tryz.zeroCells191 191)
  have hzs : Tryz.zeroCells191.size = 65 := by kernel_rfl
  generalize Tryz.zeroCells191 = zc at *
  generalize hW : w.alloc (.cells zc 191) = W at *
  refine (HP.out W).mono ?_; rintro e w1 ⟨rfl, rfl⟩
  go_wp2_with fail
  go_loopw [1, 13] (FmR b n w) (fun u _ _ => (intOf u).toNat)
  case atStart => exact ⟨33, n, 65, zc, [], by omega, by omega, by omega, by omega, hn, rfl, rfl, rfl, by simp, hz, hzs, by rw [List.drop_eq_nil_of_le (by simp [hzs])]; rfl, hB⟩
  case round =>
    clear hz hB hzs hW
    obtain ⟨f, x, k, cur, t, hx, hf, hfk, hk, hx2, rfl, rfl, hkt, hdig, hblk, hsz, hdrop, hbel⟩ := hrel
    have hk0 : 0 < k := by omega
    have HSl := fm_slice w.heap.size k hk0 hk
    obtain ⟨old, hcell⟩ : ∃ v, wr.cell? ⟨w.heap.size, k - 1, none⟩ = some v := ⟨cur[k - 1]'(by omega), by rw [blk_cell hblk]; exact Array.getElem?_eq_getElem (by omega)⟩
    have hfree := blk_free hblk (k - 1)
    have h1 : (0 : Int) ≤ (k : Int) - 1 := by omega
    have h2 : (k : Int) - 1 < 65 := by omega
    by_cases hlt : x < b
    · have c0 : ¬ b ≤ x := by omega
      have hx36 : x < 36 := by omega
      have hx36' : (x : Int) < 36 := by omega
      have hx0' : (0 : Int) ≤ (x : Int) := by omega
      have hdg := dg_at x hx36 hx36
      have HB := Lib.hid (blk_set hblk (k - 1) (bv (UInt8.ofNat (chrB true x))))
      have HD := Lib.hid (drop_put (c := UInt8.ofNat (chrB true x)) hdrop hk0 (by omega))
      have HBl := Lib.hid (Below.setCell hbel (p := ⟨w.heap.size, k - 1, none⟩) (Nat.le_refl _) (bv (UInt8.ofNat (chrB true x))))
      have hE : UInt8.ofNat (chrB true x) :: t = digB true b 33 n := by
        obtain ⟨g, rfl⟩ : ∃ g, f = g + 1 := ⟨f - 1, by omega⟩
        rw [← hdig, digB_small _ _ _ _ hlt]; rfl
      have HE := Lib.hid hE
      have hlen : (65 - (k - 1) : Nat) = (UInt8.ofNat (chrB true x) :: t).length := by simp; omega
      generalize UInt8.ofNat (chrB true x) = c at *
      rw [hlen] at HSl
      have hcv := cvt_tail HB.out HD.out (c :: t).length
      unfold bv at hcv
      rw [List.length_cons] at hcv
      clear hx hf hfk hx2 hkt hdig hblk hsz hdrop hbel hlt hlen hE hn hb0 hb1 hb10
      go_wp2_with fail
      go_ret2
      exact ⟨_, rfl, by rw [← HE.out], HBl.out⟩
    · have c0 : b ≤ x := by omega
      have hbz : ¬ b = 0 := by omega
      obtain ⟨q, hq⟩ : ∃ q, x / b = q := ⟨_, rfl⟩
      obtain ⟨d, hd⟩ : ∃ d, x % b = d := ⟨_, rfl⟩
      obtain ⟨m, hm⟩ : ∃ m, q * b = m := ⟨_, rfl⟩
      have hdm : m + d = x := by rw [← hm, ← hq, ← hd]; exact Nat.div_add_mod' x b
      have hdb : d < b := by rw [← hd]; exact Nat.mod_lt _ (by omega)
      have hq2 : q ≤ x / 2 := by rw [← hq]; exact Nat.div_le_div_left hb0 (by omega)
      have e1 : (x : Int) / (b : Int) = (q : Int) := by rw [← hq]; rfl
      have e0 : IntKind.u64.wrap (q : Int) = (q : Int) := by rw [IntKind.wrap_u64]; omega
      have e2 : IntKind.u64.wrap ((q : Int) * (b : Int)) = (m : Int) := by
        have : (q : Int) * (b : Int) = (m : Int) := by rw [← hm]; simp
        rw [this, IntKind.wrap_u64]; omega
      have e3 : IntKind.u64.wrap ((x : Int) - (m : Int)) = (d : Int) := by rw [IntKind.wrap_u64]; omega
      have hx36 : d < 36 := by omega
      have hx36' : (d : Int) < 36 := by omega
      have hx0' : (0 : Int) ≤ (d : Int) := by omega
      have hdg := dg_at d hx36 hx36
      have HB := Lib.hid (blk_set hblk (k - 1) (bv (UInt8.ofNat (chrB true d))))
      have HD := Lib.hid (drop_put (c := UInt8.ofNat (chrB true d)) hdrop hk0 (by omega))
      have HBl := Lib.hid (Below.setCell hbel (p := ⟨w.heap.size, k - 1, none⟩) (Nat.le_refl _) (bv (UInt8.ofNat (chrB true d))))
      have hE : ∃ g, q < 2 ^ g ∧ 0 < g ∧ g ≤ k - 1 ∧ digB true b g q ++ (UInt8.ofNat (chrB true d) :: t) = digB true b 33 n := by
        obtain ⟨g, rfl⟩ : ∃ g, f = g + 1 := ⟨f - 1, by omega⟩
        rw [Nat.pow_succ] at hx
        refine ⟨g, by omega, ?_, by omega, ?_⟩
        · rcases Nat.eq_zero_or_pos g with rfl | h3
          · simp at hx; omega
          · exact h3
        · rw [← hdig, digB_big _ _ _ _ (by omega), hq, hd, List.append_assoc]; rfl
      have HE := Lib.hid hE
      have HN := Lib.hid (And.intro (show k ≤ 65 ∧ k + t.length = 65 from ⟨hk, hkt⟩) (And.intro (show x < 4294967296 ∧ q < x from ⟨hx2, by omega⟩) (show (cur.setIfInBounds (k - 1) (bv (UInt8.ofNat (chrB true d)))).size = 65 by simp [hsz])))
      generalize UInt8.ofNat (chrB true d) = c at *
      clear hx hf hfk hx2 hkt hdig hblk hsz hdrop hbel hlt hE hn hb0 hb1 hb10 hq hd hm hdm hdb hq2 HSl hk
      go_wp2_with fail
      obtain ⟨g, g1, g2, g3, g4⟩ := HE.out
      obtain ⟨⟨n1, n2⟩, ⟨n3, n4⟩, n5⟩ := HN.out
      go_roundw
      case rel => exact ⟨g, q, k - 1, _, _, g1, g2, g3, by omega, by omega, rfl, by congr 1; omega, by simp; omega, g4, HB.out, n5, HD.out, HBl.out⟩
      case measure => simp [intOf]; omega
end Cv
end Go.Proofs.YtfilbfenpdaahaaGreatDoor
namespace Go.Proofs.YtfilbfenpdaahaaGreatDoor
open Go.RowKit
open St
open Fx Dc
namespace Cv
theorem and_mask (k x : Nat) (hx : x < 4294967296) (hk : k ≤ 5) : bits .and .u64 (x : Int) ((2 ^ k - 1 : Nat) : Int) = ((x % 2 ^ k : Nat) : Int) := by
  show IntKind.u64.wrap ((BitVec.ofInt 64 (x : Int) &&& BitVec.ofInt 64 ((2 ^ k - 1 : Nat) : Int)).toNat : Int) = _
  have h2 : 2 ^ k ≤ 2 ^ 5 := Nat.pow_le_pow_right (by omega) hk
  rw [BitVec.toNat_and, ofInt_u64 _ (by omega), ofInt_u64 _ (by omega), Nat.and_two_pow_sub_one_eq_mod, IntKind.wrap_u64]
  have := Nat.mod_le x (2 ^ k)
  omega
set_option maxRecDepth 100000 in
set_option maxHeartbeats 1000000 in
theorem fmt_pow (b n : Nat) (hb0 : 2 ≤ b) (hb1 : b ≤ 36) (hb10 : b ≠ 10) (hn : n < 4294967296) (hp : powB b = true) (w : World) (ht : TzT w) :
    Calls Tryz.prog 101 #[.slice none 0 0, .int .u64 n, .int .i64 b, .bool false, .bool false] w fun e w' => ∃ s : ByteArray, e = .returned (.tuple #[.slice none 0 0, .string s]) ∧ s.data.toList = digB true b 33 n ∧ Below w.heap.size w w' := by
  have HP := Lib.hid (fun w => isPow_at b hb0 hb1 w)
  rw [hp] at HP
  have g0 : decide ((b : Int) < 2) = false := decide_eq_false (by omega)
  have g1 : ((b : Int) == 10) = false := by simp; omega
  have g2 : decide ((36 : Int) < (b : Int)) = false := decide_eq_false (by omega)
  have wb : IntKind.u64.wrap (b : Int) = b := by rw [IntKind.wrap_u64]; omega
  obtain ⟨_, _, _, hlg, hbp, hlg1⟩ := tz_num b (by omega) hp
  have HTz := Lib.hid (fun w2 (hb : Below w.heap.size w w2) => tz_at b hp (by omega) w2 (ht.below hb))
  obtain ⟨b1, hb1'⟩ : ∃ b1, b = b1 + 1 := ⟨b - 1, by omega⟩
  have wb1 : IntKind.u64.wrap ((b : Int) - 1) = (b1 : Int) := by rw [IntKind.wrap_u64]; omega
  have wk : IntKind.u64.wrap (lgB b : Int) = (lgB b : Int) := by rw [IntKind.wrap_u64]; omega
  generalize lgB b = kk at *
  have HBP := Lib.hid (And.intro hbp (And.intro hb1' (And.intro hlg hlg1)))
  clear hp ht hbp hb1' hlg hlg1
  go_enter Tryz.func101, Tryz.ntmps101
  go_wp2_with fail
  have hz : (w.alloc (.cells Tryz.zeroCells191 191)).heap[w.heap.size]? = _ := heap_alloc_new w _
  have hB := below1 w (.cells Tryz.zeroCells191 191)
  have hzs : Tryz.zeroCells191.size = 65 := by kernel_rfl
  generalize Tryz.zeroCells191 = zc at *
  generalize hW : w.alloc (.cells zc 191) = W at *
  refine (HP.out W).mono ?_; rintro e w1 ⟨rfl, rfl⟩
  go_wp2_with fail
  refine (HTz.out _ hB).mono ?_; rintro e w1' ⟨rfl, rfl⟩
  go_wp2_with fail
  go_loopw [1, 13] (FmR b n w) (fun u _ _ => (intOf u).toNat)
  case atStart => exact ⟨33, n, 65, zc, [], by omega, by omega, by omega, by omega, hn, rfl, rfl, rfl, by simp, hz, hzs, by rw [List.drop_eq_nil_of_le (by simp [hzs])]; rfl, hB⟩
  case round =>
    clear hz hB hzs hW
    obtain ⟨f, x, k, cur, t, hx, hf, hfk, hk, hx2, rfl, rfl, hkt, hdig, hblk, hsz, hdrop, hbel⟩ := hrel
    have hk0 : 0 < k := by omega
    have HSl := fm_slice w.heap.size k hk0 hk
    obtain ⟨old, hcell⟩ : ∃ v, wr.cell? ⟨w.heap.size, k - 1, none⟩ = some v := ⟨cur[k - 1]'(by omega), by rw [blk_cell hblk]; exact Array.getElem?_eq_getElem (by omega)⟩
    have hfree := blk_free hblk (k - 1)
    have h1 : (0 : Int) ≤ (k : Int) - 1 := by omega
    have h2 : (k : Int) - 1 < 65 := by omega
    by_cases hlt : x < b
    · have c0 : ¬ b ≤ x := by omega
      have hx36 : x < 36 := by omega
      have hx36' : (x : Int) < 36 := by omega
      have hx0' : (0 : Int) ≤ (x : Int) := by omega
      have hdg := dg_at x hx36 hx36
      have HB := Lib.hid (blk_set hblk (k - 1) (bv (UInt8.ofNat (chrB true x))))
      have HD := Lib.hid (drop_put (c := UInt8.ofNat (chrB true x)) hdrop hk0 (by omega))
      have HBl := Lib.hid (Below.setCell hbel (p := ⟨w.heap.size, k - 1, none⟩) (Nat.le_refl _) (bv (UInt8.ofNat (chrB true x))))
      have hE : UInt8.ofNat (chrB true x) :: t = digB true b 33 n := by
        obtain ⟨g, rfl⟩ : ∃ g, f = g + 1 := ⟨f - 1, by omega⟩
        rw [← hdig, digB_small _ _ _ _ hlt]; rfl
      have HE := Lib.hid hE
      have hlen : (65 - (k - 1) : Nat) = (UInt8.ofNat (chrB true x) :: t).length := by simp; omega
      generalize UInt8.ofNat (chrB true x) = c at *
      rw [hlen] at HSl
      have hcv := cvt_tail HB.out HD.out (c :: t).length
      unfold bv at hcv
      rw [List.length_cons] at hcv
      clear hx hf hfk hx2 hkt hdig hblk hsz hdrop hbel hlt hlen hE hn hb0 hb1 hb10
      go_wp2_with fail
      go_ret2
      exact ⟨_, rfl, by rw [← HE.out], HBl.out⟩
    · have c0 : b ≤ x := by omega
      have hbz : ¬ b = 0 := by omega
      obtain ⟨q, hq⟩ : ∃ q, x / b = q := ⟨_, rfl⟩
      obtain ⟨d, hd⟩ : ∃ d, x % b = d := ⟨_, rfl⟩
      have hdb : d < b := by rw [← hd]; exact Nat.mod_lt _ (by omega)
      have hq2 : q ≤ x / 2 := by rw [← hq]; exact Nat.div_le_div_left hb0 (by omega)
      have e1 : (x : Int) / 2 ^ min kk 64 = (q : Int) := by
        have hk64 : min kk 64 = kk := by have := HBP.out.2.2.1; omega
        rw [hk64, ← hq, HBP.out.1]; simp
      have e3 : bits .and .u64 (x : Int) (b1 : Int) = (d : Int) := by
        have h1 : b1 = 2 ^ kk - 1 := by have := HBP.out.1; have := HBP.out.2.1; omega
        rw [h1, and_mask kk x hx2 (by have := HBP.out.2.2.1; omega), ← hd, ← HBP.out.1]
      have hx36 : d < 36 := by omega
      have hx36' : (d : Int) < 36 := by omega
      have hx0' : (0 : Int) ≤ (d : Int) := by omega
      have hdg := dg_at d hx36 hx36
      have HB := Lib.hid (blk_set hblk (k - 1) (bv (UInt8.ofNat (chrB true d))))
      have HD := Lib.hid (drop_put (c := UInt8.ofNat (chrB true d)) hdrop hk0 (by omega))
      have HBl := Lib.hid (Below.setCell hbel (p := ⟨w.heap.size, k - 1, none⟩) (Nat.le_refl _) (bv (UInt8.ofNat (chrB true d))))
      have hE : ∃ g, q < 2 ^ g ∧ 0 < g ∧ g ≤ k - 1 ∧ digB true b g q ++ (UInt8.ofNat (chrB true d) :: t) = digB true b 33 n := by
        obtain ⟨g, rfl⟩ : ∃ g, f = g + 1 := ⟨f - 1, by omega⟩
        rw [Nat.pow_succ] at hx
        refine ⟨g, by omega, ?_, by omega, ?_⟩
        · rcases Nat.eq_zero_or_pos g with rfl | h3
          · simp at hx; omega
          · exact h3
        · rw [← hdig, digB_big _ _ _ _ (by omega), hq, hd, List.append_assoc]; rfl
      have HE := Lib.hid hE
      have HN := Lib.hid (And.intro (show k ≤ 65 ∧ k + t.length = 65 from ⟨hk, hkt⟩) (And.intro (show x < 4294967296 ∧ q < x from ⟨hx2, by omega⟩) (show (cur.setIfInBounds (k - 1) (bv (UInt8.ofNat (chrB true d)))).size = 65 by simp [hsz])))
      generalize UInt8.ofNat (chrB true d) = c at *
      clear hx hf hfk hx2 hkt hdig hblk hsz hdrop hbel hlt hE hn hb0 hb1 hb10 hq hd hdb hq2 HSl hk
      go_wp2_with fail
      obtain ⟨g, g1, g2, g3, g4⟩ := HE.out
      obtain ⟨⟨n1, n2⟩, ⟨n3, n4⟩, n5⟩ := HN.out
      go_roundw
      case rel => exact ⟨g, q, k - 1, _, _, g1, g2, g3, by omega, by omega, rfl, by congr 1; omega, by simp; omega, g4, HB.out, n5, HD.out, HBl.out⟩
      case measure => simp [intOf]; omega
end Cv
end Go.Proofs.YtfilbfenpdaahaaGreatDoor
