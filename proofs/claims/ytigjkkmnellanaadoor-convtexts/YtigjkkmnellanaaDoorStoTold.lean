/-
  Which thing an object tells of, by contracts: lies, length, the search, byRef, told.
-/
import Derived.Test.YtigjkkmnellanaaDoorStoBase
namespace Go.Proofs.YtigjkkmnellanaaDoor
open Go.RowKit
open St
/-- do n places from f on lie in that length? -/
def liesB (f n L : Int) : Bool := decide (0 ≤ f) && (decide (0 ≤ n) && (decide (f ≤ L) && decide (n ≤ L - f)))
theorem lies_at (f n : Int) (L : Nat) (hL : L ≤ 65535) (w : World) :
    Calls Tryd.prog 42 #[.int .i64 f, .int .i64 n, .int .i64 L] w fun e w' => e = .returned (.bool (liesB f n L)) ∧ w' = w := by
  unfold liesB
  by_cases h1 : 0 ≤ f
  · by_cases h2 : 0 ≤ n
    · by_cases h3 : f ≤ L
      · go_enter Tryd.func42, Tryd.ntmps42
        go_wp2
        go_ret
        exact ⟨by simp [h1, h2, h3], rfl⟩
      · go_enter Tryd.func42, Tryd.ntmps42
        go_wp2
        go_ret
        exact ⟨by simp; omega, rfl⟩
    · go_enter Tryd.func42, Tryd.ntmps42
      go_wp2
      go_ret
      exact ⟨by simp; omega, rfl⟩
  · go_enter Tryd.func42, Tryd.ntmps42
    go_wp2
    go_ret
    exact ⟨by simp; omega, rfl⟩
def lenOf (k : Int) (nb ni : Nat) : Nat := if k = 6 then nb else if k = 7 then ni else 0
theorem length_at {w : World} {g o nb cb ni ci : Nat} {k : Int} {ab ai : Option Addr} (h1 : w.cell? ⟨g, o + 1, none⟩ = some (.int .i64 k)) (h2 : w.cell? ⟨g, o + 2, none⟩ = some (.slice ab nb cb)) (h3 : w.cell? ⟨g, o + 3, none⟩ = some (.slice ai ni ci)) :
    Calls Tryd.prog 40 #[.pointer (some ⟨g, o, none⟩)] w fun e w' => e = .returned (.int .i64 (lenOf k nb ni)) ∧ w' = w := by
  unfold lenOf
  by_cases k6 : k = 6
  · subst k6
    go_enter Tryd.func40, Tryd.ntmps40
    go_wp2
    go_ret
    exact ⟨by simp, rfl⟩
  · by_cases k7 : k = 7
    · subst k7
      go_enter Tryd.func40, Tryd.ntmps40
      go_wp2
      go_ret
      exact ⟨by simp, rfl⟩
    · have e6 : (k == 6) = false := by simp [k6]
      have e7 : (k == 7) = false := by simp [k7]
      go_enter Tryd.func40, Tryd.ntmps40
      go_wp2
      go_ret
      exact ⟨by simp, rfl⟩
/-- the search's test: is the i-th thing's Ref above? -/
theorem upTo1_at {w : World} {b1 b2 s g i n cap : Nat} {r : Int} (hi : i < n) (h1 : w.cell? ⟨b1, 0, none⟩ = some (.pointer (some ⟨s, 0, none⟩))) (h2 : w.cell? ⟨b2, 0, none⟩ = some (.int .i64 r))
    (h3 : w.cell? ⟨s, 0, none⟩ = some (.slice (some ⟨g, 0, none⟩) n cap)) (h4 : w.cell? ⟨g, i * 7, none⟩ = some (.int .i64 (i + 1 : Nat))) :
    Calls Tryd.prog 55 #[.int .i64 i, .pointer (some ⟨b1, 0, none⟩), .pointer (some ⟨b2, 0, none⟩)] w fun e w' => e = .returned (.bool (decide (r < (i + 1 : Nat)))) ∧ ∃ q, w' = w.drewN q := by
  have hiz : (i : Int) < (n : Int) := by omega
  go_enter Tryd.func55, Tryd.ntmps55
  go_wp2
  go_quiet (fail)
  go_wp2
  go_ret
  exact ⟨by simp, _, rfl⟩
/-- the world of a search: the things' row, and the two boxes of its test -/
structure Sea (w : World) (b1 b2 s : Nat) (r : Int) (n : Nat) (v : Value) : Prop where
  c1 : w.cell? ⟨b1, 0, none⟩ = some (.pointer (some ⟨s, 0, none⟩))
  c2 : w.cell? ⟨b2, 0, none⟩ = some (.int .i64 r)
  c3 : w.cell? ⟨s, 0, none⟩ = some v
  row : n = 0 ∨ ∃ g cap, v = .slice (some ⟨g, 0, none⟩) n cap ∧ ∀ i, i < n → w.cell? ⟨g, i * 7, none⟩ = some (.int .i64 (i + 1 : Nat))
theorem Sea.draws {w : World} {b1 b2 s n : Nat} {r : Int} {v : Value} (h : Sea w b1 b2 s r n v) (q : Nat) : Sea (w.drewN q) b1 b2 s r n v := ⟨h.c1, h.c2, h.c3, h.row⟩
/-- how many Refs are at most r: those of the first ones -/
def upN (r : Int) (n : Nat) : Nat := min r.toNat n
set_option maxHeartbeats 4000000 in
theorem search_at {w : World} {b1 b2 s n : Nat} {r : Int} {v : Value} (hn : n ≤ 1048576) (h : Sea w b1 b2 s r n v) :
    Calls Tryd.prog 54 #[.int .i64 n, .func (.func 55) #[] #[.pointer (some ⟨b1, 0, none⟩), .pointer (some ⟨b2, 0, none⟩)]] w fun e w' => e = .returned (.int .i64 (upN r n)) ∧ ∃ q, w' = w.drewN q := by
  unfold upN
  have HS := Lib.hid h
  clear h
  go_enter Tryd.func54, Tryd.ntmps54
  go_wp2_with fail
  go_loopw [5, 6] (fun s5 s6 wr => ∃ lo hi q : Nat, s5 = .int .i64 lo ∧ s6 = .int .i64 hi ∧ lo ≤ hi ∧ hi ≤ n ∧ (lo ≤ r.toNat) ∧ (hi = n ∨ r.toNat ≤ hi) ∧ wr = w.drewN q) (fun s5 s6 _ => (intOf s6).toNat - (intOf s5).toNat)
  case atStart => exact ⟨0, n, 0, rfl, rfl, Nat.zero_le _, Nat.le_refl _, Nat.zero_le _, .inl rfl, rfl⟩
  case round =>
    obtain ⟨lo, hi, q, rfl, rfl, hlh, hin, hlr, hhr, rfl⟩ := hrel
    by_cases hlt : lo < hi
    · have hS := HS.out.draws q
      obtain ⟨c1, c2, c3, hrow⟩ := hS
      rcases hrow with h0 | ⟨g, cap, rfl, hg⟩
      · omega
      · have hc := upTo1_at (i := (lo + hi) / 2) (n := n) (by omega) c1 c2 c3 (hg _ (by omega))
        rw [show (((lo + hi) / 2 : Nat) : Int) = ((lo : Int) + (hi : Int)) / 2 by omega] at hc
        have HC := Lib.hid hc
        clear hc c1 c2 c3 hg
        by_cases hp : r < (((lo + hi) / 2 + 1 : Nat) : Int)
        · have hpd : decide (r < (((lo + hi) / 2 + 1 : Nat) : Int)) = true := decide_eq_true hp
          rw [hpd] at HC
          clear hpd
          go_wp2_with fail
          refine HC.out.mono ?_; rintro e w' ⟨rfl, nq, rfl⟩
          go_wp2_with fail
          go_roundw
          case rel => exact ⟨lo, (lo + hi) / 2, q + nq, rfl, by go_num, by omega, by omega, hlr, .inr (by omega), rfl⟩
          case measure => simp [intOf]; omega
        · have hpd : decide (r < (((lo + hi) / 2 + 1 : Nat) : Int)) = false := decide_eq_false hp
          rw [hpd] at HC
          clear hpd
          go_wp2_with fail
          refine HC.out.mono ?_; rintro e w' ⟨rfl, nq, rfl⟩
          go_wp2_with fail
          go_roundw
          case rel => exact ⟨(lo + hi) / 2 + 1, hi, q + nq, by go_num, rfl, by omega, by omega, by omega, hhr, rfl⟩
          case measure => simp [intOf]; omega
    · go_wp2_with fail
      go_ret
      exact ⟨by go_num, _, rfl⟩
end Go.Proofs.YtigjkkmnellanaaDoor
