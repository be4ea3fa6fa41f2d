/-
  The document's Token at a radix number. (made by gentok2.py)
-/
import Derived.Test.YtaebpjcigajolaaDecTokW1
namespace Go.Proofs.Ytaebpjcigajolaa
open Go.RowKit
open Fx Dc
namespace Dc
theorem rx_base1 (c : UInt8) (h : isDig c) : rdV 10 [c] = (c.toNat : Int) - 48 := by
  have hd : digU (c.toNat : Int) = (c.toNat : Int) - 48 := by unfold isDig at h; unfold digU; rw [if_pos (by omega)]
  unfold isDig at h
  unfold rdV; rw [rdD_cons, hd, if_pos (by omega)]; simp only [rdD, Option.getD_some]; omega
theorem rx_base2 (c d : UInt8) (h : isDig c) (h2 : isDig d) : rdV 10 [c, d] = ((c.toNat : Int) - 48) * 10 + ((d.toNat : Int) - 48) := by
  have hc : digU (c.toNat : Int) = (c.toNat : Int) - 48 := by unfold isDig at h; unfold digU; rw [if_pos (by omega)]
  have hd : digU (d.toNat : Int) = (d.toNat : Int) - 48 := by unfold isDig at h2; unfold digU; rw [if_pos (by omega)]
  unfold isDig at h h2
  unfold rdV; rw [rdD_cons, hc, if_pos (by omega), rdD_cons, hd, if_pos (by omega)]; simp only [rdD, Option.getD_some]; omega
def RxRel (l : List UInt8) (B : Int) (a : Nat) (r : Int × Int × Bool × Int) (g n o i : Value) : Prop :=
  ∃ (k : Nat) (m : Int) (ov gd : Bool), a + 1 ≤ k ∧ k ≤ l.length ∧ 0 ≤ m ∧ m < 4294967296 ∧ g = .bool gd ∧ n = .int .i64 m ∧ o = .bool ov ∧ i = .int .i64 k ∧
    (gd = true → 2 ≤ B ∧ B ≤ 36 ∧ rdD B (l.drop (a + 1)) 0 = rdD B (l.drop k) (if ov = true then 4294967296 else m)) ∧ (gd = false → r = (0, 0, false, 0))
theorem rx_bad {B : Int} {d : List UInt8} (h : rdD B d 0 = none) : rxR B d = (0, 0, false, 0) := by
  unfold rxR; rw [h]; simp
theorem rx_out {B : Int} {d : List UInt8} (h : ¬ (2 ≤ B ∧ B ≤ 36)) : rxR B d = (0, 0, false, 0) := by
  unfold rxR; rw [if_neg (by intro hh; exact h ⟨hh.1, hh.2.1⟩)]
theorem rx_end {B m : Int} {d : List UInt8} (h1 : 2 ≤ B) (h2 : B ≤ 36) (h : rdD B d 0 = some m) : rxR B d = if 4294967296 ≤ m then (0, 0, true, 9) else if m < 2147483648 then (1, m, true, 0) else (1, m - 4294967296, true, 0) := by
  have hv : rdV B d = m := by unfold rdV; rw [h]; rfl
  unfold rxR; rw [hv, if_pos ⟨h1, h2, by rw [h]; rfl⟩]
theorem rx_step {B m : Int} {c : UInt8} {t : List UInt8} {ov : Bool} (_h1 : 2 ≤ B) (h2 : B ≤ 36) (hm : m * B + hexU (c.toNat : Int) < 4294967296) (hd : hexU (c.toNat : Int) < B) :
    rdD B (c :: t) (if ov = true then 4294967296 else m) = rdD B t (if ov = true then 4294967296 else m * B + hexU (c.toNat : Int)) := by
  obtain ⟨x1, x2⟩ := hexU_dig (c.toNat : Int) B h2
  have e := x2 hd
  have hb := hexU_bd (c.toNat : Int)
  rw [rdD_cons, if_pos (x1.1 hd), ← e]
  cases ov
  · simp only [Bool.false_eq_true, if_false]; congr 1; omega
  · simp only [if_true]; congr 1; omega
theorem rx_stepo {B m : Int} {c : UInt8} {t : List UInt8} {ov : Bool} (_h1 : 2 ≤ B) (h2 : B ≤ 36) (hm : 4294967296 ≤ m * B + hexU (c.toNat : Int)) (hd : hexU (c.toNat : Int) < B) :
    rdD B (c :: t) (if ov = true then 4294967296 else m) = rdD B t (if true = true then 4294967296 else 0) := by
  obtain ⟨x1, x2⟩ := hexU_dig (c.toNat : Int) B h2
  have e := x2 hd
  have hb := hexU_bd (c.toNat : Int)
  rw [rdD_cons, if_pos (x1.1 hd), ← e]
  cases ov
  · simp only [Bool.false_eq_true, if_false, if_true]; congr 1; omega
  · simp only [if_true]; congr 1; omega
end Dc
set_option maxRecDepth 100000 in
set_option maxHeartbeats 1000000 in
theorem token_rx1 (s : ByteArray) (hs : s.size ≤ 64) (hn : nDg s.data.toList = 1) (h3 : 1 + 1 < s.size) (h4 : s[1] = 35) (w : World) (B : Int)
    (g0 : 48 ≤ s[0].toNat) (g1 : s[0].toNat ≤ 57) (hB : (s[0].toNat : Int) - 48 = B) :
    Calls Try.prog 26 #[.string s] w (TokPost (rxR B (s.data.toList.drop (1 + 1))) w) := by
  have hG := fun w => refDigits_any s (by omega) w
  rw [hn] at hG
  have HG := Lib.hid hG
  have hsl : s.data.toList.length = s.size := (size_list s).symm
  have h35 : ((s[1].toNat : Int) == 35) = true := by rw [h4]; rfl
  have h64 : decide (64 < (s.size : Int)) = false := decide_eq_false (by omega)
  have hsz : decide (2 < (s.size : Int)) = true := decide_eq_true (by omega)
  clear hG hn h4
  by_cases b1 : 2 ≤ B
  · by_cases b2 : B ≤ 36
    · go_enter Try.func26, Try.ntmps26
      go_wp2_with fail
      refine (HG.out _).mono ?_; rintro e w' ⟨rfl, rfl⟩
      go_wp2_with fail
      go_loop [7, 8, 9, 10] (RxRel s.data.toList B 1 (rxR B (s.data.toList.drop (1 + 1)))) (fun _ _ _ i => s.size - (intOf i).toNat)
      case atStart => exact ⟨1 + 1, 0, false, true, by omega, by omega, by omega, by omega, rfl, rfl, rfl, rfl, fun _ => ⟨b1, b2, rfl⟩, fun h => by cases h⟩
      case round =>
        obtain ⟨k, m, ov, gd, hk, hk2, hm0, hm1, rfl, rfl, rfl, rfl, hg, hb⟩ := hrel
        cases gd
        · have hbb := hb rfl
          have HX := Lib.hid hbb
          clear hg hb hbb
          by_cases hlt : k < s.size
          · have hi : decide ((k : Int) < (s.size : Int)) = true := decide_eq_true (by omega)
            go_wp2_with fail
            exact bodyPost_ret (v := .tuple #[.agg #[.int .i64 0, .int .i64 0, .string ⟨#[]⟩], .bool false, .int .i64 0]) (by simp [results, Try.results26, go_sem]) rfl ⟨by rw [HX.out]; rfl, (Below.refl _ _).alloc (Nat.le_refl _) _⟩
          · have hi : decide ((k : Int) < (s.size : Int)) = false := decide_eq_false (by omega)
            go_wp2_with fail
            exact bodyPost_ret (v := .tuple #[.agg #[.int .i64 0, .int .i64 0, .string ⟨#[]⟩], .bool false, .int .i64 0]) (by simp [results, Try.results26, go_sem]) rfl ⟨by rw [HX.out]; rfl, (Below.refl _ _).alloc (Nat.le_refl _) _⟩
        · obtain ⟨b1, b2, hr⟩ := hg rfl
          clear hg hb
          by_cases hlt : k < s.size
          · have hi : decide ((k : Int) < (s.size : Int)) = true := decide_eq_true (by omega)
            have hp0 := Int.mul_nonneg hm0 (show 0 ≤ B by omega)
            have hp1 : m * B ≤ 4294967296 * 36 := Int.mul_le_mul (by omega) b2 (by omega) (by omega)
            rw [drop_byte s k hlt] at hr
            obtain ⟨d, hd⟩ : ∃ d : Int, d = hexU (s[k].toNat : Int) := ⟨_, rfl⟩
            have hdb : 0 ≤ d ∧ d ≤ 99 := by rw [hd]; exact hexU_bd _
            obtain ⟨hd0, hd1⟩ := hdb
            have hc0 : (s[k].toNat : Int) ≤ 255 := by have := UInt8.toNat_lt s[k]; omega
            by_cases hlb : d < B
            · by_cases hov : 4294967296 ≤ m * B + d
              · have h2 := hr.trans (rx_stepo (ov := ov) b1 b2 (by rw [← hd]; exact hov) (by rw [← hd]; exact hlb))
                have HR := Lib.hid h2
                have HD := Lib.hid hd
                clear hr hd h2
                go_wp2_with fail
                refine (refHex_any _ (by omega) (by omega) _).mono ?_; rintro e w' ⟨rfl, rfl⟩
                rw [← HD.out]
                have hl1 : decide (d < B) = true := decide_eq_true (by omega)
                have hl2 : decide (4294967296 ≤ m * B + d) = true := decide_eq_true (by omega)
                go_wp2_with fail
                go_round
                case rel => exact ⟨k + 1, 0, true, true, by omega, by omega, by omega, by omega, rfl, rfl, rfl, by go_num, fun _ => ⟨b1, b2, HR.out⟩, fun h => by cases h⟩
                case measure => simp [intOf]; omega
              · have h2 := hr.trans (rx_step (ov := ov) b1 b2 (by rw [← hd]; omega) (by rw [← hd]; exact hlb))
                rw [← hd] at h2
                have HR := Lib.hid h2
                have HD := Lib.hid hd
                clear hr hd h2
                go_wp2_with fail
                refine (refHex_any _ (by omega) (by omega) _).mono ?_; rintro e w' ⟨rfl, rfl⟩
                rw [← HD.out]
                have hl1 : decide (d < B) = true := decide_eq_true (by omega)
                have hl2 : decide (4294967296 ≤ m * B + d) = false := decide_eq_false (by omega)
                go_wp2_with fail
                go_round
                case rel => exact ⟨k + 1, m * B + d, ov, true, by omega, by omega, by omega, by omega, rfl, rfl, rfl, by go_num, fun _ => ⟨b1, b2, HR.out⟩, fun h => by cases h⟩
                case measure => simp [intOf]; omega
            · have h2 : rxR B (s.data.toList.drop (1 + 1)) = (0, 0, false, 0) := by
                apply rx_bad
                rw [hr, rdD_cons, if_neg]
                rw [← (hexU_dig (s[k].toNat : Int) B b2).1, ← hd]; exact hlb
              have HR := Lib.hid h2
              have HD := Lib.hid hd
              clear hr hd h2
              by_cases hov : 4294967296 ≤ m * B + d
              · go_wp2_with fail
                refine (refHex_any _ (by omega) (by omega) _).mono ?_; rintro e w' ⟨rfl, rfl⟩
                rw [← HD.out]
                have hl1 : decide (d < B) = false := decide_eq_false (by omega)
                have hl2 : decide (4294967296 ≤ m * B + d) = true := decide_eq_true (by omega)
                go_wp2_with fail
                go_round
                case rel => exact ⟨k + 1, 0, true, false, by omega, by omega, by omega, by omega, rfl, rfl, rfl, by go_num, (fun h => by cases h), (fun _ => HR.out)⟩
                case measure => simp [intOf]; omega
              · go_wp2_with fail
                refine (refHex_any _ (by omega) (by omega) _).mono ?_; rintro e w' ⟨rfl, rfl⟩
                rw [← HD.out]
                have hl1 : decide (d < B) = false := decide_eq_false (by omega)
                have hl2 : decide (4294967296 ≤ m * B + d) = false := decide_eq_false (by omega)
                go_wp2_with fail
                go_round
                case rel => exact ⟨k + 1, m * B + d, ov, false, by omega, by omega, by omega, by omega, rfl, rfl, rfl, by go_num, (fun h => by cases h), (fun _ => HR.out)⟩
                case measure => simp [intOf]; omega
          · have hi : decide ((k : Int) < (s.size : Int)) = false := decide_eq_false (by omega)
            have e0 : s.data.toList.drop k = [] := List.drop_of_length_le (by omega)
            rw [e0] at hr
            have hR := rx_end b1 b2 hr
            clear hr
            cases ov
            · simp only [Bool.false_eq_true, if_false] at hR
              rw [if_neg (by omega)] at hR
              by_cases hh : m < 2147483648
              · rw [if_pos hh] at hR
                have HX := Lib.hid hR
                have h31 : decide (2147483648 ≤ m) = false := decide_eq_false (by omega)
                clear hR
                go_wp2_with fail
                exact bodyPost_ret (v := .tuple #[.agg #[.int .i64 1, .int .i64 m, .string ⟨#[]⟩], .bool true, .int .i64 0]) (by simp [results, Try.results26, go_sem]) rfl ⟨by rw [HX.out]; rfl, (Below.refl _ _).alloc (Nat.le_refl _) _⟩
              · rw [if_neg hh] at hR
                have HX := Lib.hid hR
                have h31 : decide (2147483648 ≤ m) = true := decide_eq_true (by omega)
                clear hR
                go_wp2_with fail
                exact bodyPost_ret (v := .tuple #[.agg #[.int .i64 1, .int .i64 (m - 4294967296), .string ⟨#[]⟩], .bool true, .int .i64 0]) (by simp [results, Try.results26, go_sem]) rfl ⟨by rw [HX.out]; rfl, (Below.refl _ _).alloc (Nat.le_refl _) _⟩
            · simp only [if_true] at hR
              rw [if_pos (by omega)] at hR
              have HX := Lib.hid hR
              clear hR
              go_wp2_with fail
              exact bodyPost_ret (v := .tuple #[.agg #[.int .i64 0, .int .i64 0, .string ⟨#[]⟩], .bool true, .int .i64 9]) (by simp [results, Try.results26, go_sem]) rfl ⟨by rw [HX.out]; rfl, (Below.refl _ _).alloc (Nat.le_refl _) _⟩
    · exfalso; omega
  · have hx := rx_out (B := B) (d := s.data.toList.drop (1 + 1)) (by omega)
    have HX0 := Lib.hid hx
    clear hx
    go_enter Try.func26, Try.ntmps26
    go_wp2_with fail
    refine (HG.out _).mono ?_; rintro e w' ⟨rfl, rfl⟩
    go_wp2_with fail
    go_loop [7, 8, 9, 10] (fun g n o i => g = .bool false ∧ n = .int .i64 0 ∧ o = .bool false ∧ i = .int .i64 2) (fun _ _ _ _ => 0)
    case atStart => exact ⟨rfl, rfl, rfl, rfl⟩
    case round =>
      obtain ⟨rfl, rfl, rfl, rfl⟩ := hrel
      go_wp2_with fail
      exact bodyPost_ret (v := .tuple #[.agg #[.int .i64 0, .int .i64 0, .string ⟨#[]⟩], .bool false, .int .i64 0]) (by simp [results, Try.results26, go_sem]) rfl ⟨by rw [HX0.out]; rfl, (Below.refl _ _).alloc (Nat.le_refl _) _⟩
set_option maxRecDepth 100000 in
set_option maxHeartbeats 1000000 in
theorem token_rx2 (s : ByteArray) (hs : s.size ≤ 64) (hn : nDg s.data.toList = 2) (h3 : 2 + 1 < s.size) (h4 : s[2] = 35) (w : World) (B : Int)
    (g0 : 48 ≤ s[0].toNat) (g1 : s[0].toNat ≤ 57) (g2 : 48 ≤ s[1].toNat) (g3 : s[1].toNat ≤ 57) (B0 : Int) (hB0 : (s[0].toNat : Int) - (48 : Int) = B0) (hB : B0 * (10 : Int) + ((s[1].toNat : Int) - (48 : Int)) = B) :
    Calls Try.prog 26 #[.string s] w (TokPost (rxR B (s.data.toList.drop (2 + 1))) w) := by
  have hG := fun w => refDigits_any s (by omega) w
  rw [hn] at hG
  have HG := Lib.hid hG
  have hsl : s.data.toList.length = s.size := (size_list s).symm
  have h35 : ((s[2].toNat : Int) == 35) = true := by rw [h4]; rfl
  have h64 : decide (64 < (s.size : Int)) = false := decide_eq_false (by omega)
  have hsz : decide (3 < (s.size : Int)) = true := decide_eq_true (by omega)
  clear hG hn h4
  by_cases b1 : 2 ≤ B
  · by_cases b2 : B ≤ 36
    · go_enter Try.func26, Try.ntmps26
      go_wp2_with fail
      refine (HG.out _).mono ?_; rintro e w' ⟨rfl, rfl⟩
      go_wp2_with fail
      go_loop [7, 8, 9, 10] (RxRel s.data.toList B 2 (rxR B (s.data.toList.drop (2 + 1)))) (fun _ _ _ i => s.size - (intOf i).toNat)
      case atStart => exact ⟨2 + 1, 0, false, true, by omega, by omega, by omega, by omega, rfl, rfl, rfl, rfl, fun _ => ⟨b1, b2, rfl⟩, fun h => by cases h⟩
      case round =>
        obtain ⟨k, m, ov, gd, hk, hk2, hm0, hm1, rfl, rfl, rfl, rfl, hg, hb⟩ := hrel
        cases gd
        · have hbb := hb rfl
          have HX := Lib.hid hbb
          clear hg hb hbb
          by_cases hlt : k < s.size
          · have hi : decide ((k : Int) < (s.size : Int)) = true := decide_eq_true (by omega)
            go_wp2_with fail
            exact bodyPost_ret (v := .tuple #[.agg #[.int .i64 0, .int .i64 0, .string ⟨#[]⟩], .bool false, .int .i64 0]) (by simp [results, Try.results26, go_sem]) rfl ⟨by rw [HX.out]; rfl, (Below.refl _ _).alloc (Nat.le_refl _) _⟩
          · have hi : decide ((k : Int) < (s.size : Int)) = false := decide_eq_false (by omega)
            go_wp2_with fail
            exact bodyPost_ret (v := .tuple #[.agg #[.int .i64 0, .int .i64 0, .string ⟨#[]⟩], .bool false, .int .i64 0]) (by simp [results, Try.results26, go_sem]) rfl ⟨by rw [HX.out]; rfl, (Below.refl _ _).alloc (Nat.le_refl _) _⟩
        · obtain ⟨b1, b2, hr⟩ := hg rfl
          clear hg hb
          by_cases hlt : k < s.size
          · have hi : decide ((k : Int) < (s.size : Int)) = true := decide_eq_true (by omega)
            have hp0 := Int.mul_nonneg hm0 (show 0 ≤ B by omega)
            have hp1 : m * B ≤ 4294967296 * 36 := Int.mul_le_mul (by omega) b2 (by omega) (by omega)
            rw [drop_byte s k hlt] at hr
            obtain ⟨d, hd⟩ : ∃ d : Int, d = hexU (s[k].toNat : Int) := ⟨_, rfl⟩
            have hdb : 0 ≤ d ∧ d ≤ 99 := by rw [hd]; exact hexU_bd _
            obtain ⟨hd0, hd1⟩ := hdb
            have hc0 : (s[k].toNat : Int) ≤ 255 := by have := UInt8.toNat_lt s[k]; omega
            by_cases hlb : d < B
            · by_cases hov : 4294967296 ≤ m * B + d
              · have h2 := hr.trans (rx_stepo (ov := ov) b1 b2 (by rw [← hd]; exact hov) (by rw [← hd]; exact hlb))
                have HR := Lib.hid h2
                have HD := Lib.hid hd
                clear hr hd h2
                go_wp2_with fail
                refine (refHex_any _ (by omega) (by omega) _).mono ?_; rintro e w' ⟨rfl, rfl⟩
                rw [← HD.out]
                have hl1 : decide (d < B) = true := decide_eq_true (by omega)
                have hl2 : decide (4294967296 ≤ m * B + d) = true := decide_eq_true (by omega)
                go_wp2_with fail
                go_round
                case rel => exact ⟨k + 1, 0, true, true, by omega, by omega, by omega, by omega, rfl, rfl, rfl, by go_num, fun _ => ⟨b1, b2, HR.out⟩, fun h => by cases h⟩
                case measure => simp [intOf]; omega
              · have h2 := hr.trans (rx_step (ov := ov) b1 b2 (by rw [← hd]; omega) (by rw [← hd]; exact hlb))
                rw [← hd] at h2
                have HR := Lib.hid h2
                have HD := Lib.hid hd
                clear hr hd h2
                go_wp2_with fail
                refine (refHex_any _ (by omega) (by omega) _).mono ?_; rintro e w' ⟨rfl, rfl⟩
                rw [← HD.out]
                have hl1 : decide (d < B) = true := decide_eq_true (by omega)
                have hl2 : decide (4294967296 ≤ m * B + d) = false := decide_eq_false (by omega)
                go_wp2_with fail
                go_round
                case rel => exact ⟨k + 1, m * B + d, ov, true, by omega, by omega, by omega, by omega, rfl, rfl, rfl, by go_num, fun _ => ⟨b1, b2, HR.out⟩, fun h => by cases h⟩
                case measure => simp [intOf]; omega
            · have h2 : rxR B (s.data.toList.drop (2 + 1)) = (0, 0, false, 0) := by
                apply rx_bad
                rw [hr, rdD_cons, if_neg]
                rw [← (hexU_dig (s[k].toNat : Int) B b2).1, ← hd]; exact hlb
              have HR := Lib.hid h2
              have HD := Lib.hid hd
              clear hr hd h2
              by_cases hov : 4294967296 ≤ m * B + d
              · go_wp2_with fail
                refine (refHex_any _ (by omega) (by omega) _).mono ?_; rintro e w' ⟨rfl, rfl⟩
                rw [← HD.out]
                have hl1 : decide (d < B) = false := decide_eq_false (by omega)
                have hl2 : decide (4294967296 ≤ m * B + d) = true := decide_eq_true (by omega)
                go_wp2_with fail
                go_round
                case rel => exact ⟨k + 1, 0, true, false, by omega, by omega, by omega, by omega, rfl, rfl, rfl, by go_num, (fun h => by cases h), (fun _ => HR.out)⟩
                case measure => simp [intOf]; omega
              · go_wp2_with fail
                refine (refHex_any _ (by omega) (by omega) _).mono ?_; rintro e w' ⟨rfl, rfl⟩
                rw [← HD.out]
                have hl1 : decide (d < B) = false := decide_eq_false (by omega)
                have hl2 : decide (4294967296 ≤ m * B + d) = false := decide_eq_false (by omega)
                go_wp2_with fail
                go_round
                case rel => exact ⟨k + 1, m * B + d, ov, false, by omega, by omega, by omega, by omega, rfl, rfl, rfl, by go_num, (fun h => by cases h), (fun _ => HR.out)⟩
                case measure => simp [intOf]; omega
          · have hi : decide ((k : Int) < (s.size : Int)) = false := decide_eq_false (by omega)
            have e0 : s.data.toList.drop k = [] := List.drop_of_length_le (by omega)
            rw [e0] at hr
            have hR := rx_end b1 b2 hr
            clear hr
            cases ov
            · simp only [Bool.false_eq_true, if_false] at hR
              rw [if_neg (by omega)] at hR
              by_cases hh : m < 2147483648
              · rw [if_pos hh] at hR
                have HX := Lib.hid hR
                have h31 : decide (2147483648 ≤ m) = false := decide_eq_false (by omega)
                clear hR
                go_wp2_with fail
                exact bodyPost_ret (v := .tuple #[.agg #[.int .i64 1, .int .i64 m, .string ⟨#[]⟩], .bool true, .int .i64 0]) (by simp [results, Try.results26, go_sem]) rfl ⟨by rw [HX.out]; rfl, (Below.refl _ _).alloc (Nat.le_refl _) _⟩
              · rw [if_neg hh] at hR
                have HX := Lib.hid hR
                have h31 : decide (2147483648 ≤ m) = true := decide_eq_true (by omega)
                clear hR
                go_wp2_with fail
                exact bodyPost_ret (v := .tuple #[.agg #[.int .i64 1, .int .i64 (m - 4294967296), .string ⟨#[]⟩], .bool true, .int .i64 0]) (by simp [results, Try.results26, go_sem]) rfl ⟨by rw [HX.out]; rfl, (Below.refl _ _).alloc (Nat.le_refl _) _⟩
            · simp only [if_true] at hR
              rw [if_pos (by omega)] at hR
              have HX := Lib.hid hR
              clear hR
              go_wp2_with fail
              exact bodyPost_ret (v := .tuple #[.agg #[.int .i64 0, .int .i64 0, .string ⟨#[]⟩], .bool true, .int .i64 9]) (by simp [results, Try.results26, go_sem]) rfl ⟨by rw [HX.out]; rfl, (Below.refl _ _).alloc (Nat.le_refl _) _⟩
    · have hx := rx_out (B := B) (d := s.data.toList.drop (2 + 1)) (by omega)
      have hb36 : decide (B ≤ 36) = false := decide_eq_false (by omega)
      have HX0 := Lib.hid hx
      clear hx
      go_enter Try.func26, Try.ntmps26
      go_wp2_with fail
      refine (HG.out _).mono ?_; rintro e w' ⟨rfl, rfl⟩
      go_wp2_with fail
      go_loop [7, 8, 9, 10] (fun g n o i => g = .bool false ∧ n = .int .i64 0 ∧ o = .bool false ∧ i = .int .i64 3) (fun _ _ _ _ => 0)
      case atStart => exact ⟨rfl, rfl, rfl, rfl⟩
      case round =>
        obtain ⟨rfl, rfl, rfl, rfl⟩ := hrel
        go_wp2_with fail
        exact bodyPost_ret (v := .tuple #[.agg #[.int .i64 0, .int .i64 0, .string ⟨#[]⟩], .bool false, .int .i64 0]) (by simp [results, Try.results26, go_sem]) rfl ⟨by rw [HX0.out]; rfl, (Below.refl _ _).alloc (Nat.le_refl _) _⟩
  · have hx := rx_out (B := B) (d := s.data.toList.drop (2 + 1)) (by omega)
    have HX0 := Lib.hid hx
    clear hx
    go_enter Try.func26, Try.ntmps26
    go_wp2_with fail
    refine (HG.out _).mono ?_; rintro e w' ⟨rfl, rfl⟩
    go_wp2_with fail
    go_loop [7, 8, 9, 10] (fun g n o i => g = .bool false ∧ n = .int .i64 0 ∧ o = .bool false ∧ i = .int .i64 3) (fun _ _ _ _ => 0)
    case atStart => exact ⟨rfl, rfl, rfl, rfl⟩
    case round =>
      obtain ⟨rfl, rfl, rfl, rfl⟩ := hrel
      go_wp2_with fail
      exact bodyPost_ret (v := .tuple #[.agg #[.int .i64 0, .int .i64 0, .string ⟨#[]⟩], .bool false, .int .i64 0]) (by simp [results, Try.results26, go_sem]) rfl ⟨by rw [HX0.out]; rfl, (Below.refl _ _).alloc (Nat.le_refl _) _⟩
theorem list_two (s : ByteArray) (h : 1 < s.size) : ∃ t, s.data.toList = s[0] :: s[1] :: t := by
  have h0 := drop_byte s 0 (by omega)
  have h1 := drop_byte s 1 h
  rw [List.drop_zero] at h0
  exact ⟨_, by rw [h0, h1]⟩
theorem refToken_rx (s : ByteArray) (hs : s.size ≤ 64) (hc : rxC s.data.toList) (w : World) : Calls Try.prog 26 #[.string s] w (TokPost (tokR s.data.toList) w) := by
  obtain ⟨c1, c2, c3, c4⟩ := hc
  have hdig := take_dig s.data.toList
  have hsl : s.data.toList.length = s.size := (size_list s).symm
  obtain ⟨t, ht⟩ := list_two s (by omega)
  have hsplit : ∀ (n : Nat) (h : n < s.size), s[n] = 35 → s.data.toList = s.data.toList.take n ++ 35 :: s.data.toList.drop (n + 1) := by
    intro n h h2
    have := drop_byte s n h
    rw [h2] at this
    rw [← this, List.take_append_drop]
  have hne : ∀ n : Nat, n + 1 < s.size → s.data.toList.drop (n + 1) ≠ [] := by
    intro n h e
    have := congrArg List.length e
    rw [List.length_drop, List.length_nil] at this; omega
  have hcase : nDg s.data.toList = 1 ∨ nDg s.data.toList = 2 := by omega
  rcases hcase with hn | hn
  · rw [hn] at c3 c4 hdig
    have h4 : s[1] = 35 := by rw [getElem_of s 1 (by omega)] at c4; exact Option.some.inj c4
    have ht1 : s.data.toList.take 1 = [s[0]] := by rw [ht]; rfl
    rw [ht1] at hdig
    have hd0 : isDig s[0] := hdig _ (List.mem_singleton.2 rfl)
    have e := tok_rx (l := s.data.toList) (by omega) (hsplit 1 (by omega) h4) (by rw [ht1]; exact hdig) (by rw [ht1]; simp) (by rw [ht1]; simp) (hne 1 (by omega))
    rw [e, ht1, rx_base1 _ hd0]
    exact token_rx1 s hs hn (by omega) h4 w _ hd0.1 hd0.2 rfl
  · rw [hn] at c3 c4 hdig
    have h4 : s[2] = 35 := by rw [getElem_of s 2 (by omega)] at c4; exact Option.some.inj c4
    have ht1 : s.data.toList.take 2 = [s[0], s[1]] := by rw [ht]; rfl
    rw [ht1] at hdig
    have hd0 : isDig s[0] := hdig _ (List.mem_cons_self ..)
    have hd1 : isDig s[1] := hdig _ (List.mem_cons_of_mem _ (List.mem_singleton.2 rfl))
    have e := tok_rx (l := s.data.toList) (by omega) (hsplit 2 (by omega) h4) (by rw [ht1]; exact hdig) (by rw [ht1]; simp) (by rw [ht1]; simp) (hne 2 (by omega))
    rw [e, ht1, rx_base2 _ _ hd0 hd1]
    exact token_rx2 s hs hn (by omega) h4 w _ hd0.1 hd0.2 hd1.1 hd1.2 _ rfl rfl
end Go.Proofs.Ytaebpjcigajolaa
