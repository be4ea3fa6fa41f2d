/-
  The walk of the law StoreParts.
-/
import Derived.Test.YtdpaogjglipaeaaStoAns
import Derived.Test.YtdpaogjglipaeaaStoPut3
namespace Go.Proofs.Ytdpaogjglipaeaa
open Go.RowKit
open St
/-- the array's items when k numbers have come to it from p on -/
def itK (n p k : Nat) : List Ob := (List.range n).map fun j => if p ≤ j ∧ j < p + k then ⟨1, false, 0, (j : Int) - p + 1, ⟨#[]⟩, 0, 0, 0⟩ else nul
def thK (n p k : Nat) : Th := ⟨7, [], itK n p k, [], 0, 0⟩
/-- the array's part of so many from f on -/
def ob7 (f z : Int) : Ob := ⟨7, false, 0, 0, ⟨#[]⟩, 1, f, z⟩
theorem itK_len (n p k : Nat) : (itK n p k).length = n := by simp [itK]
theorem itK_zero (n p : Nat) : itK n p 0 = List.replicate n nul := by
  apply List.ext_getElem
  · simp [itK]
  · intro i h1 h2
    simp [itK]
    omega
theorem itK_set (n p k : Nat) : (itK n p k).set (p + k) ⟨1, false, 0, (k : Int) + 1, ⟨#[]⟩, 0, 0, 0⟩ = itK n p (k + 1) := by
  apply List.ext_getElem
  · simp [itK]
  · intro i h1 h2
    simp only [itK, List.getElem_set, List.getElem_map, List.getElem_range]
    split
    · rename_i e
      subst e
      rw [if_pos (by omega)]
      congr 1
      omega
    · split
      · rw [if_pos (by omega)]
      · rw [if_neg (by omega)]
theorem tld7 (n p k : Nat) (l : Lay) (f z : Nat) (h : f + z ≤ n) : tld [(thK n p k, l)] (ob7 f z) 7 = some 0 := by
  simp [tld, ob7, thK, Th.length, itK_len, liesB]
  omega
theorem tld6 (n p k : Nat) (l : Lay) (f z : Int) : tld [(thK n p k, l)] (ob7 f z) 6 = none := by simp [tld, ob7]
theorem partR7 (n p k : Nat) (l : Lay) (f z g m : Nat) (h : f + z ≤ n) : partR [(thK n p k, l)] (ob7 f z) g m = if g + m ≤ z then (ob7 ((f : Int) + g) m, 0) else (nul, 11) := by
  unfold partR
  rw [tld6, tld7 n p k l f z h, if_neg (by simp)]
  have : (liesB (g : Int) (m : Int) (ob7 f z).len = true) ↔ g + m ≤ z := by rw [liesB_iff]; simp [ob7]; omega
  by_cases hg : g + m ≤ z
  · rw [if_pos (this.2 hg), if_pos hg]; rfl
  · rw [if_neg (fun e => hg (this.1 e)), if_neg hg]
theorem valid_plain (G : List (Th × Lay)) (o : Ob) (h : o.kind = 0 ∨ o.kind = 1) : valid G o = true := by
  unfold valid
  rw [if_neg (by omega)]
theorem putE7 (n p k : Nat) (l : Lay) (f z : Nat) (i : Int) (x : Ob) (h : f + z ≤ n) (hx : x.kind = 0 ∨ x.kind = 1) : putE [(thK n p k, l)] (ob7 f z) i x = if 0 ≤ i ∧ i < z then 0 else 11 := by
  unfold putE
  rw [tld7 n p k l f z h, if_neg (by simp), valid_plain _ x hx, if_pos rfl]
  have : (liesB i 1 (ob7 f z).len = true) ↔ 0 ≤ i ∧ i < z := by rw [liesB_iff]; simp [ob7]; omega
  by_cases hg : 0 ≤ i ∧ i < z
  · rw [if_pos (this.2 hg), if_pos hg]
  · rw [if_neg (fun e => hg (this.1 e)), if_neg hg]
theorem putG7 (n p k : Nat) (l : Lay) : putG [(thK n p k, l)] 0 (p + k) ⟨1, false, 0, (k : Int) + 1, ⟨#[]⟩, 0, 0, 0⟩ = [(thK n p (k + 1), l)] := by
  simp [putG, putF, thK, itK_set n p k]
theorem itemsR7 (n p k : Nat) (l : Lay) : itemsR [(thK n p k, l)] (ob7 0 n) = itK n p k := by
  unfold itemsR
  have := tld7 n p k l 0 n (by omega)
  simp only [Int.ofNat_zero] at this
  rw [this]
  simp [ob7, thK]
  rw [List.take_of_length_le (by rw [itK_len]; exact Nat.le_refl _)]
theorem itK_n (n p k i : Nat) (h : i < n) : ((itK n p k)[i]'(by rw [itK_len]; exact h)).n = if p ≤ i ∧ i < p + k then (i : Int) - p + 1 else 0 := by
  simp only [itK, List.getElem_map, List.getElem_range]
  split <;> rfl
theorem partA (n p k : Nat) (l : Lay) (f z : Nat) : partR [(thK n p k, l)] (ob7 0 n) f z = if f + z ≤ n then (ob7 f z, 0) else (nul, 11) := by
  have := partR7 n p k l 0 n f z (by omega)
  simpa using this
theorem partB (n p k : Nat) (l : Lay) (f z m c : Nat) (h : f + z ≤ n) : partR [(thK n p k, l)] (ob7 f z) m c = if m + c ≤ z then (ob7 ((f : Int) + m) c, 0) else (nul, 11) := partR7 n p k l f z m c h
theorem clm7 (n : Nat) (h : n ≤ 255) : clm 7 n 2000 = 0 := by unfold clm mostI cellsI; simp; omega
theorem newOb7 (n : Nat) : newOb ⟨7, [], List.replicate (n : Int).toNat nul, [], 0, 0⟩ 0 = ob7 0 n := by simp [newOb, ob7, Th.length]
/-- what stands between two steps of the law: the store with the one array, and the boxes of the array and of its part's part -/
structure PS (O : Nat → Prop) (w0 wr : World) (s : Nat) (fr : Int) (n p k : Nat) (ly : Lay) (N : Nat) : Prop where
  rep : Rep O wr s fr [(thK n p k, ly)]
  lo : ∀ q, O q → w0.heap.size ≤ q
  hi : ∀ q, O q → q < N
  le : N ≤ wr.heap.size
  low : w0.heap.size ≤ N
  below : Below w0.heap.size w0 wr
theorem PS.step {O : Nat → Prop} {w0 wr w' : World} {s n p k N : Nat} {fr : Int} {ly : Lay} (h : PS O w0 wr s fr n p k ly N) (hb : Below wr.heap.size wr w') : PS O w0 w' s fr n p k ly N :=
  ⟨h.rep.below hb, h.lo, h.hi, Nat.le_trans h.le hb.size, h.low, h.below.trans (hb.mono h.below.size)⟩
theorem PS.put {O : Nat → Prop} {w0 wr w' : World} {s n p k k' N : Nat} {fr : Int} {ly : Lay} (h : PS O w0 wr s fr n p k ly N) (hr : Rep O w' s fr [(thK n p k', ly)]) (hF : Frm O wr w') : PS O w0 w' s fr n p k' ly N :=
  ⟨hr, h.lo, h.hi, Nat.le_trans h.le hF.size, h.low, h.below.trans (frm_low hF h.below.size h.lo)⟩
theorem PS.box {O : Nat → Prop} {w0 wr w' : World} {s n p k N B : Nat} {fr : Int} {ly : Lay} {o : Obj} (h : PS O w0 wr s fr n p k ly N) (hB : N ≤ B) (hb : wr.heap[B]? = some o) (hF : Frm O wr w') : w'.heap[B]? = some o :=
  (hF.block B (Array.getElem?_eq_some_iff.1 hb).1 (fun e => by have := h.hi B e; omega)).trans hb
end Go.Proofs.Ytdpaogjglipaeaa
