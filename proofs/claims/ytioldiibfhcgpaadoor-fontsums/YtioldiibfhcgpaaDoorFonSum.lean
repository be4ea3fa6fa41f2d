/-
  The contracts of Sum (font's and the document's).
-/
import Derived.Test.YtioldiibfhcgpaaDoorFonRef
import Derived.Test.YtioldiibfhcgpaaDoorFonApp
namespace Go.Proofs.YtioldiibfhcgpaaDoor
open Go.RowKit
namespace Fo
/-- all letters together -/
def sumL (i : Int) (l : List UInt8) : Int := (l.map fun c => wid i c.toNat).foldl (· + ·) 0
theorem foldl_add (l : List Int) (a : Int) : l.foldl (· + ·) a = a + l.foldl (· + ·) 0 := by
  induction l generalizing a with
  | nil => simp
  | cons x r ih => rw [List.foldl_cons, List.foldl_cons, ih (a + x), ih (0 + x)]; omega
theorem sumL_nil (i : Int) : sumL i [] = 0 := rfl
theorem sumL_cons (i : Int) (c : UInt8) (l : List UInt8) : sumL i (c :: l) = wid i c.toNat + sumL i l := by
  unfold sumL; rw [List.map_cons, List.foldl_cons, foldl_add]; omega
theorem sumL_append (i : Int) (l m : List UInt8) : sumL i (l ++ m) = sumL i l + sumL i m := by
  induction l with
  | nil => simp [sumL_nil]
  | cons c r ih => rw [List.cons_append, sumL_cons, sumL_cons, ih]; omega
theorem sumL_bd (i : Int) (l : List UInt8) : 0 ≤ sumL i l ∧ sumL i l ≤ 1015 * l.length := by
  induction l with
  | nil => simp [sumL_nil]
  | cons c r ih =>
    rw [sumL_cons, List.length_cons]
    have := wid_bd i c.toNat
    omega
theorem sumL_take (i : Int) (l : List UInt8) (k : Nat) (h : k < l.length) : sumL i (l.take (k + 1)) = sumL i (l.take k) + wid i l[k].toNat := by
  rw [List.take_succ_eq_append_getElem h, sumL_append, sumL_cons, sumL_nil]; omega
theorem byte_bd (c : UInt8) : (0 : Int) ≤ (c.toNat : Int) ∧ ((c.toNat : Nat) : Int) < 256 := by have := c.toNat_lt; omega
def SmR (i : Int) (L : List Int) (l : List UInt8) (w : World) (g : Nat) (s k : Value) (w' : World) : Prop :=
  ∃ n : Nat, n ≤ l.length ∧ s = .int .i64 (sumL i (l.take n)) ∧ k = .int .i64 n ∧ w'.heap[g]? = some (.cells (cv L) 38 (0, 0)) ∧ Below w.heap.size w w'
theorem blk_keep {w w' : World} {g : Nat} {o : Obj} (h : w.heap[g]? = some o) (hb : Below w.heap.size w w') : w'.heap[g]? = some o := by
  have hg : g < w.heap.size := by
    rcases Nat.lt_or_ge g w.heap.size with h1 | h1
    · exact h1
    · rw [Array.getElem?_eq_none h1] at h; cases h
  rw [hb.block _ hg]; exact h
theorem src_at {w : World} {a : Option Addr} {l : List UInt8} (h : Src w a l) (k : Nat) (hk : k < l.length) : ∃ ad, a = some ad ∧ w.cell? (ad.add k) = some (.int .u8 (l[k].toNat)) := by
  rcases h with h | ⟨ad, e, hc⟩
  · subst h; simp at hk
  · exact ⟨ad, e, hc k _ (List.getElem?_eq_getElem hk)⟩
theorem sum_step (i : Int) (l : List UInt8) (k : Nat) (h : k < l.length) (hl : l.length ≤ 6000) : ∃ S v : Int, sumL i (l.take k) = S ∧ wid i l[k].toNat = v ∧ 0 ≤ S ∧ S ≤ 6090000 ∧ 0 ≤ v ∧ v ≤ 1015 ∧ S + v = sumL i (l.take (k + 1)) := by
  refine ⟨_, _, rfl, rfl, (sumL_bd _ _).1, ?_, (wid_bd _ _).1, (wid_bd _ _).2, (sumL_take i l k h).symm⟩
  have := (sumL_bd i (l.take k)).2
  rw [List.length_take] at this
  omega
/-- a letter out of a font's widths -/
def OfC (L : List Int) (c v : Int) : Prop := ∀ u : World, Calls Tryd.prog 17 #[.agg (cv L), .int .u8 c] u fun e w' => e = .returned (.int .i64 v) ∧ Below u.heap.size u w'
theorem ofc (i : Int) (c : UInt8) : OfC (wdL (fno i)) c.toNat (wid i c.toNat) := fun u => of_at (wdL (fno i)) (wdL_len i) c.toNat (byte_bd c) u (wdL_bd i)
set_option maxRecDepth 100000 in
theorem sum_at (i : Int) (a : Option Addr) (l : List UInt8) (c : Nat) (hl : l.length ≤ 6000) (w : World) (ht : NmT w) (hs : Src w a l) :
    Calls Tryd.prog 14 #[.int .i64 i, .slice a l.length c] w fun e w' => e = .returned (.int .i64 (sumL i l)) ∧ Below w.heap.size w w' := by
  have HW := Lib.hid (wide_at i w ht)
  have HL := Lib.hid (wdL_len i)
  have HO := Lib.hid (fun c => ofc i c)
  have hz := w_zero
  have HS := Lib.hid hs
  have HLL := Lib.hid hl
  generalize wdL (fno i) = L at *
  clear ht hs hl
  go_enter Tryd.func14, Tryd.ntmps14
  go_wp2_with fail
  refine HW.out.mono ?_; rintro e w1 ⟨rfl, hb1⟩
  have HN := Lib.hid (heap_alloc_new w1 (.cells zc 38))
  have HB1 := Lib.hid (below_setRow (bthen hb1 (below1 w1 (.cells zc 38))) hb1.size (cv L))
  clear hb1 HW
  go_wp2_with (refine wpList_store_row rfl 38 _ _ rfl _ (cv L) rfl rfl 38 zc HN.out (w_size_of _ HL.out) (zc_of _ HL.out) (cv_all _) ?_)
  have HK := Lib.hid (setRow_heap _ _ _ (cv L) _ _ HN.out)
  generalize (w1.alloc (.cells zc 38)).setRow w1.heap.size (cv L) = W at HK HB1 ⊢
  clear HN hz
  generalize w1.heap.size = g at HK ⊢
  go_loopw [6, 13] (SmR i L l w g) (fun _ k _ => l.length - (intOf k).toNat)
  case atStart => exact ⟨0, by omega, by simp [sumL_nil], rfl, HK.out, HB1.out⟩
  case round =>
    clear HK HB1
    obtain ⟨k, hk, rfl, rfl, hblk, hbel⟩ := hrel
    by_cases hlt : k < l.length
    · obtain ⟨ad, rfl, hcell⟩ := src_at (HS.out.below hbel) k hlt
      obtain ⟨S, v, e1, e2, b1, b2, b3, b4, e3⟩ := sum_step i l k hlt HLL.out
      have HOk := Lib.hid (HO.out l[k])
      rw [e2] at HOk
      rw [e1]
      have HX := Lib.hid e3
      have HBl := Lib.hid hblk
      have HBe := Lib.hid hbel
      have hk6 : k < 6000 := by have := HLL.out; omega
      have hlt' : (k : Int) < l.length := by omega
      have hk0 : (0 : Int) ≤ k := by omega
      clear e1 e2 e3 hblk hbel HO
      generalize (l[k].toNat : Int) = cc at HOk hcell ⊢
      go_wp2_with (refine wpList_load_row rfl 38 _ rfl _ rfl 38 _ _ _ HBl.out Tryd.underlying38 rfl (w_size_of _ HL.out) ?_)
      refine (HOk.out _).mono ?_; rintro e w2 ⟨rfl, hb2⟩
      have HK2 := Lib.hid (blk_keep HBl.out hb2)
      have HB2 := Lib.hid (bthen HBe.out hb2)
      clear hb2
      go_wp2_with fail
      go_roundw
      case rel => exact ⟨k + 1, by omega, by rw [← HX.out], by congr 1, HK2.out, HB2.out⟩
      case measure => simp [intOf]; omega
    · obtain rfl : k = l.length := by omega
      rw [List.take_length]
      have HBe := Lib.hid hbel
      clear hblk hbel hk
      go_wp2_with fail
      go_ret
      exact ⟨rfl, HBe.out⟩
def RsR (i : Int) (l : List UInt8) (w : World) (s k : Value) (w' : World) : Prop := ∃ n : Nat, n ≤ l.length ∧ s = .int .i64 (sumL i (l.take n)) ∧ k = .int .i64 n ∧ w = w'
def WdR (i c v : Int) : Prop := ∀ u : World, Calls Tryd.prog 9 #[.int .i64 i, .int .u8 c] u fun e w' => e = .returned (.int .i64 v) ∧ u = w'
set_option maxRecDepth 100000 in
theorem refSum_at (i : Int) (a : Option Addr) (l : List UInt8) (c : Nat) (hl : l.length ≤ 6000) (w : World) (hs : Src w a l) :
    Calls Tryd.prog 15 #[.int .i64 i, .slice a l.length c] w fun e w' => e = .returned (.int .i64 (sumL i l)) ∧ w = w' := by
  have HO : Hid (∀ c : UInt8, WdR i c.toNat (wid i c.toNat)) := fun c u => refWidth_at i c.toNat (byte_bd c) u
  have HS := Lib.hid hs
  have HLL := Lib.hid hl
  clear hs hl
  go_enter Tryd.func15, Tryd.ntmps15
  go_wp2_with fail
  go_loopw [5, 6] (RsR i l w) (fun _ k _ => l.length - (intOf k).toNat)
  case atStart => exact ⟨0, by omega, by simp [sumL_nil], rfl, rfl⟩
  case round =>
    obtain ⟨k, hk, rfl, rfl, rfl⟩ := hrel
    by_cases hlt : k < l.length
    · obtain ⟨ad, rfl, hcell⟩ := src_at HS.out k hlt
      obtain ⟨S, v, e1, e2, b1, b2, b3, b4, e3⟩ := sum_step i l k hlt HLL.out
      have HOk := Lib.hid (HO.out l[k])
      rw [e2] at HOk
      rw [e1]
      have HX := Lib.hid e3
      have hk6 : k < 6000 := by have := HLL.out; omega
      have hlt' : (k : Int) < l.length := by omega
      have hk0 : (0 : Int) ≤ k := by omega
      clear e1 e2 e3 HO
      generalize (l[k].toNat : Int) = cc at HOk hcell ⊢
      go_wp2_with fail
      refine (HOk.out _).mono ?_; rintro e w2 ⟨rfl, rfl⟩
      go_wp2_with fail
      go_roundw
      case rel => exact ⟨k + 1, by omega, by rw [← HX.out], by congr 1, rfl⟩
      case measure => simp [intOf]; omega
    · obtain rfl : k = l.length := by omega
      rw [List.take_length]
      clear hk
      go_wp2_with fail
      go_ret
      exact ⟨rfl, rfl⟩
end Fo
end Go.Proofs.YtioldiibfhcgpaaDoor
