/-
  A part of a slice of bytes.
-/
import Derived.Test.YtmcopfcmnbhaaaaGreatColApp
import Derived.Laws.Slices
namespace Go.Proofs.YtmcopfcmnbhaaaaGreat
open Go.RowKit
open St
namespace Col
theorem slice_part (b o n c i k : Nat) (hk : 0 < k) (hc : i + k ≤ c) (W : World) : (Instr.slice 36 (.slice (some ⟨b, o, none⟩) n c) (some (.int .i64 (i : Int))) (some (.int .i64 ((i : Int) + (k : Int)))) none).run Tryz.prog W = .ok (.slice (some ⟨b, o + i, none⟩) k (c - i)) W := by
  obtain ⟨i0, hi, hz0, hz1, hz2⟩ := info_parts u8_info
  have hel : Tryz.prog.elem 36 = 5 := by kernel_rfl
  have hun : Tryz.prog.underlying 36 = some (.slice (Tryz.prog.elem 36)) := by rw [hel]; exact Tryz.underlying36
  rw [run_slice_lh W 36 (some ⟨b, o, none⟩) n c hun .i64 .i64 (i : Int) ((i : Int) + (k : Int)) (by omega) (by omega) (by omega), hel]
  have h1 : ((i : Int) + (k : Int)).toNat = i + k := by omega
  have h2 : ¬ c = i := by omega
  simp [sizeOf, typeInfo, hi, hz1, sliced, h1, h2, Addr.add_lit]
theorem Src.plain {w : World} {a : Option Addr} {l : List UInt8} (h : Src w a l) (hl : l ≠ []) : ∃ b o, a = some ⟨b, o, none⟩ ∧ b < w.heap.size ∧ ∀ j z, l[j]? = some z → w.cell? ⟨b, o + j, none⟩ = some (bv z) := by
  rcases h with h | ⟨ad, e, hc⟩
  · exact absurd h hl
  · obtain ⟨x, t, rfl⟩ := List.exists_cons_of_ne_nil hl
    have h0 := hc 0 x rfl
    have hs := World.cell?_spot h0
    obtain ⟨b, o, sp⟩ := ad
    have hsp : sp = none := by simpa [Addr.add] using hs
    subst hsp
    exact ⟨b, o, e, by have := World.block_lt_of_cell? w _ h0; simpa [Addr.add] using this, fun j z hz => by have := hc j z hz; rwa [Addr.add_lit] at this⟩
/-- a part of bytes that can be read, as a string -/
theorem conv_part {w : World} {b o c n i : Nat} {l : List UInt8} (h : ∀ j z, l[j]? = some z → w.cell? ⟨b, o + j, none⟩ = some (bv z)) (hn : i + n ≤ l.length) : (convert 36 9 (.slice (some ⟨b, o + i, none⟩) n c)).run Tryz.prog w = .ok (.string ⟨((l.drop i).take n).toArray⟩) w := by
  have hl : ((l.drop i).take n).length = n := by rw [List.length_take, List.length_drop]; omega
  have := run_convert_bytes_back (P := Tryz.prog) w 36 9 5 ⟨b, o + i, none⟩ c ((l.drop i).take n) Tryz.underlying36 Tryz.underlying5 Tryz.underlying9 (fun j hj => by
    rw [Addr.add_lit, Nat.add_assoc, h (i + j) ((l.drop i).take n)[j] (by simp)]
    simp [bv])
  rwa [hl] at this
theorem slice_zero (x : Option Addr) (n c i : Nat) (hc : i ≤ c) : ∃ y, ∀ W, (Instr.slice 36 (.slice x n c) (some (.int .i64 (i : Int))) (some (.int .i64 ((i : Int) + ((0 : Nat) : Int)))) none).run Tryz.prog W = .ok (.slice y 0 (c - i)) W := by
  obtain ⟨i0, hi, hz0, hz1, hz2⟩ := info_parts u8_info
  have hel : Tryz.prog.elem 36 = 5 := by kernel_rfl
  have hun : Tryz.prog.underlying 36 = some (.slice (Tryz.prog.elem 36)) := by rw [hel]; exact Tryz.underlying36
  refine ⟨if c = i then x else x.map (·.add (i * 1)), fun W => ?_⟩
  rw [run_slice_lh W 36 x n c hun .i64 .i64 (i : Int) ((i : Int) + ((0 : Nat) : Int)) (by omega) (by omega) (by omega), hel]
  simp [sizeOf, typeInfo, hi, hz1, sliced]
theorem conv_zero (x : Option Addr) (c : Nat) (W : World) : (convert 36 9 (.slice x 0 c)).run Tryz.prog W = .ok (.string ⟨#[]⟩) W := by
  cases x with
  | none => simp [convert, run_underlying Tryz.underlying36, run_underlying Tryz.underlying5, run_underlying Tryz.underlying9, go_sem, Conv.bytesToString]; rfl
  | some ad =>
    have := run_convert_bytes_back (P := Tryz.prog) W 36 9 5 ad c ([] : List UInt8) Tryz.underlying36 Tryz.underlying5 Tryz.underlying9 (fun j hj => absurd hj (by simp))
    simpa using this
/-- a part of bytes that can be read: its slice, and it as a string -/
theorem part_str {w : World} {a : Option Addr} {c : Nat} {l : List UInt8} (h : Src w a l) (hc : l.length ≤ c) (i k : Nat) (hk : i + k ≤ l.length) :
    ∃ y, (∀ W, (Instr.slice 36 (.slice a l.length c) (some (.int .i64 (i : Int))) (some (.int .i64 ((i : Int) + (k : Int)))) none).run Tryz.prog W = .ok (.slice y k (c - i)) W) ∧
      ∀ q, (convert 36 9 (.slice y k (c - i))).run Tryz.prog (w.drewN q) = .ok (.string ⟨((l.drop i).take k).toArray⟩) (w.drewN q) := by
  by_cases h0 : k = 0
  · subst h0
    obtain ⟨y, hy⟩ := slice_zero a l.length c i (by omega)
    exact ⟨y, hy, fun q => by rw [List.take_zero]; exact conv_zero y _ _⟩
  · obtain ⟨b, o, rfl, _, hct⟩ := Src.plain h (fun e => by subst e; simp at hk; omega)
    exact ⟨_, fun W => slice_part b o l.length c i k (by omega) (by omega) W, fun q => conv_part (w := w.drewN q) hct hk⟩
theorem part_conv {w : World} {a : Option Addr} {c : Nat} {l : List UInt8} (h : Src w a l) (hc : l.length ≤ c) (i k : Nat) (hk : i + k ≤ l.length) (q : Nat) :
    (convert 36 9 (.slice (if c = i then a else Option.map (fun x => x.add i) a) k (c - i))).run Tryz.prog (w.drewN q) = .ok (.string ⟨((l.drop i).take k).toArray⟩) (w.drewN q) := by
  by_cases h0 : k = 0
  · subst h0
    rw [List.take_zero]; exact conv_zero _ _ _
  · obtain ⟨b, o, rfl, _, hct⟩ := Src.plain h (fun e => by subst e; simp at hk; omega)
    rw [if_neg (by omega), Option.map_some, Addr.add_lit]
    exact conv_part (w := w.drewN q) hct hk
theorem whole_str {w : World} {a : Option Addr} {c : Nat} {l : List UInt8} (h : Src w a l) (hc : a = none → c = 0) (q : Nat) : (convert 36 9 (.slice a l.length c)).run Tryz.prog (w.drewN q) = .ok (.string ⟨l.toArray⟩) (w.drewN q) := by
  by_cases h0 : l = []
  · subst h0; exact conv_zero a c _
  · obtain ⟨b, o, rfl, _, hct⟩ := Src.plain h h0
    have := conv_part (w := w.drewN q) (c := c) (i := 0) (n := l.length) hct (by omega)
    simpa using this
end Col
end Go.Proofs.YtmcopfcmnbhaaaaGreat
