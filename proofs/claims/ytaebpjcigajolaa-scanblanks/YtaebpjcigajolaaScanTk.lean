/-
  Which number a word is, on both sides, as the tokens' readers want it; what every token keeps to.
-/
import Derived.Test.YtaebpjcigajolaaScanRefNx
import Derived.Test.YtaebpjcigajolaaDecTokensW
namespace Go.Proofs.Ytaebpjcigajolaa
open Go.RowKit
open Sc
theorem rea_kind (l : List UInt8) : (reaE l ≠ 0 → Dc.reaOk l = true) ∧ (Dc.reaOk l = true → reaE l = 0 → reaK l = 2) := by
  unfold reaE reaK
  cases Dc.reaOk l <;> cases Fx.fits (Dc.reaN l) <;> simp
theorem tokR_good : TkGood tokR := by
  constructor
  · intro s
    unfold tokR
    split
    · simp
    split
    · split
      · split <;> simp
      · simp
    split
    · simp
    · exact (rea_kind s).1
  · intro s h
    unfold tokR
    rw [if_pos (by omega)]
theorem tokR_kind (s : List UInt8) : (tokR s).2.2.1 = true → (tokR s).2.2.2 = 0 → (tokR s).1 ≠ 0 := by
  unfold tokR
  split
  · simp
  split
  · split
    · split <;> simp
    · simp
  split
  · simp
  · intro h1 h2
    have := (rea_kind s).2 h1 h2
    simp only
    omega
theorem dec_tk {w : World} (hm : Mx w) : TkAt w tokR := fun s w' hs hb => by
  have h := decToken_any ⟨s.toArray⟩ (by rw [size_mk]; omega) w' (hm.below hb)
  exact h
set_option maxRecDepth 100000 in
theorem refToken_far (s : ByteArray) (hs : 64 < s.size) (hs2 : s.size ≤ 65535) (w : World) : Calls Try.prog 26 #[.string s] w (TokPost (0, 0, false, 0) w) := by
  go_enter Try.func26, Try.ntmps26
  go_wp2_with fail
  exact bodyPost_ret (v := .tuple #[.agg #[.int .i64 0, .int .i64 0, .string ⟨#[]⟩], .bool false, .int .i64 0]) (by simp [results, Try.results26, go_sem]) rfl ⟨rfl, (Below.refl _ _).alloc (Nat.le_refl _) _⟩
theorem ref_tk (w : World) : RTkAt w tokR := fun s w' hs hb => by
  by_cases h : s.length ≤ 64
  · exact refToken_any ⟨s.toArray⟩ (by rw [size_mk]; omega) w'
  · have e : tokR s = (0, 0, false, 0) := by unfold tokR; rw [if_pos (by omega)]
    rw [e]
    exact refToken_far ⟨s.toArray⟩ (by rw [size_mk]; omega) (by rw [size_mk]; omega) w'
namespace Sc
theorem nam_tok {k k2 n : Int} {s t r : List UInt8} (h : nam k s = .tok k2 n t r) : k2 = k ∧ r = s.dropWhile regular := by
  unfold nam at h
  split at h
  · cases h
  · cases h; exact ⟨rfl, rfl⟩
theorem nam_err {k x : Int} {s : List UInt8} (h : nam k s = .err x) : x = 9 := by
  unfold nam at h
  split at h <;> cases h
  rfl
theorem dw_le (s : List UInt8) : (s.dropWhile regular).length ≤ s.length := by have := dw_len regular s; omega
theorem dw_lt {c : UInt8} {s : List UInt8} (h : regular c = true) : ((c :: s).dropWhile regular).length < (c :: s).length := by
  rw [List.dropWhile_cons, if_pos h]
  have := dw_le s
  simp; omega
theorem str_err {o : Option (List UInt8 × List UInt8)} {x : Int} (h : str o = .err x) : x = 14 := by
  cases o <;> cases h; rfl
theorem sla_tok {k n : Int} {s t r : List UInt8} (h : sla s = .tok k n t r) : k ≠ 0 ∧ r.length ≤ s.length := by
  cases s with
  | nil => obtain ⟨rfl, rfl⟩ := nam_tok (h : nam 4 [] = _); simp
  | cons x s =>
    rw [sla] at h
    split at h
    · obtain ⟨rfl, rfl⟩ := nam_tok h; have := dw_le s; simp; omega
    · obtain ⟨rfl, rfl⟩ := nam_tok h; have := dw_le (x :: s); exact ⟨by decide, this⟩
theorem twice_tok {k n : Int} {c : UInt8} {s t r : List UInt8} {o : Out} (h : twice c s o = .tok k n t r) : (k = 3 ∧ r.length ≤ s.length) ∨ o = .tok k n t r := by
  cases s with
  | nil => exact .inr h
  | cons x s =>
    rw [twice] at h
    split at h
    · cases h; left; simp
    · exact .inr h
theorem twice_err {x : Int} {c : UInt8} {s : List UInt8} {o : Out} (h : twice c s o = .err x) : o = .err x := by
  cases s with
  | nil => exact h
  | cons y s =>
    rw [twice] at h
    split at h
    · cases h
    · exact h
theorem beg_tok {tk : List UInt8 → Int × Int × Bool × Int} (hk : ∀ s, (tk s).2.2.1 = true → (tk s).2.2.2 = 0 → (tk s).1 ≠ 0) {s t r : List UInt8} {k n : Int} (h : beg tk s = .tok k n t r) : (k = 0 ∧ s = [] ∧ r = []) ∨ (k ≠ 0 ∧ r.length < s.length) := by
  cases s with
  | nil => cases h; left; simp
  | cons c s =>
    right
    rw [beg] at h
    split at h
    · rename_i hc
      unfold wrd at h
      split at h; · cases h
      split at h; · cases h
      rename_i he
      have := dw_lt (s := s) hc
      split at h
      · cases h; exact ⟨by decide, this⟩
      · rename_i ho
        cases h
        exact ⟨hk _ (by simpa using ho) (by simpa using he), this⟩
    split at h
    · cases hr : rnd 1 s with
      | none => rw [hr] at h; cases h
      | some y =>
        rw [hr] at h; obtain ⟨y1, y2⟩ := y; cases h
        have := rnd_len _ _ _ _ _ (Nat.le_refl _) hr
        exact ⟨by decide, by simp; omega⟩
    split at h
    · rcases twice_tok h with ⟨rfl, h2⟩ | h
      · exact ⟨by decide, by simp; omega⟩
      · cases hr : hx none s with
        | none => rw [hr] at h; cases h
        | some y =>
          rw [hr] at h; obtain ⟨y1, y2⟩ := y; cases h
          have := hx_len _ _ _ _ hr
          exact ⟨by decide, by simp; omega⟩
    split at h
    · rcases twice_tok h with ⟨rfl, h2⟩ | h
      · exact ⟨by decide, by simp; omega⟩
      · cases h
    split at h; · cases h; exact ⟨by decide, by simp⟩
    split at h; · cases h; exact ⟨by decide, by simp⟩
    split at h; · cases h; exact ⟨by decide, by simp⟩
    split at h; · cases h; exact ⟨by decide, by simp⟩
    split at h
    · obtain ⟨h1, h2⟩ := sla_tok h; exact ⟨h1, by simp; omega⟩
    · cases h
theorem beg_err {tk : List UInt8 → Int × Int × Bool × Int} {s : List UInt8} {x : Int} (h : beg tk s = .err x) : x ≠ 0 := by
  cases s with
  | nil => cases h
  | cons c s =>
    rw [beg] at h
    split at h
    · unfold wrd at h
      split at h; · cases h; decide
      split at h
      · rename_i he; cases h; exact he
      split at h <;> cases h
    split at h; · have := str_err h; omega
    split at h; · have := str_err (twice_err h); omega
    split at h; · have := twice_err h; cases this; decide
    split at h; · cases h
    split at h; · cases h
    split at h; · cases h
    split at h; · cases h
    split at h
    · cases s with
      | nil => have := nam_err (h : nam 4 [] = _); omega
      | cons y s =>
        rw [sla] at h
        split at h <;> (have := nam_err h; omega)
    · cases h; decide
theorem nxt_tok {tk : List UInt8 → Int × Int × Bool × Int} (hk : ∀ s, (tk s).2.2.1 = true → (tk s).2.2.2 = 0 → (tk s).1 ≠ 0) {s t r : List UInt8} {k n : Int} (h : nxt tk s = .tok k n t r) : (k = 0 ∧ r = []) ∨ (k ≠ 0 ∧ r.length < s.length) := by
  rcases beg_tok hk h with ⟨h1, _, h2⟩ | ⟨h1, h2⟩
  · exact .inl ⟨h1, h2⟩
  · have := skp_len false s; exact .inr ⟨h1, by omega⟩
end Sc
end Go.Proofs.Ytaebpjcigajolaa
