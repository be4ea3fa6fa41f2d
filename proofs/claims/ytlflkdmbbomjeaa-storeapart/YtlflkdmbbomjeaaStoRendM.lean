/-
  The law's text of an array, by a contract: render.
-/
import Derived.Test.YtlflkdmbbomjeaaStoRendS
namespace Go.Proofs.Ytlflkdmbbomjeaa
open Go.RowKit
open St
/-- how long a text may be -/
def csz : Nat → Nat
  | 0 => 1020
  | d + 1 => 600 * csz d + 1000
theorem csz_le {d : Nat} (h : d ≤ 3) : csz d ≤ 300000000000 := by
  match d, h with
  | 0, _ => decide
  | 1, _ => decide
  | 2, _ => decide
  | 3, _ => decide
theorem csz_le2 {d : Nat} (h : d ≤ 2) : csz d ≤ 400000000 := by
  match d, h with
  | 0, _ => decide
  | 1, _ => decide
  | 2, _ => decide
theorem csz_ge : ∀ d : Nat, 1020 ≤ csz d
  | 0 => Nat.le_refl _
  | d + 1 => by
    have := csz_ge d
    show 1020 ≤ 600 * csz d + 1000
    omega
theorem itemsR_le {G : List (Th × Lay)} (hG : Gd G) (o : Ob) : (itemsR G o).length ≤ 300 := by
  unfold itemsR
  split
  · rename_i t ht
    obtain ⟨_, _, x, hx, _⟩ := tld_some ht
    have := (hG t x hx).li
    simp [hx]
    omega
  · simp
theorem itemsR_good {G : List (Th × Lay)} (hG : Gd G) (o : Ob) : ∀ x ∈ itemsR G o, Good x := by
  unfold itemsR
  split
  · rename_i t ht
    obtain ⟨_, _, y, hy, _⟩ := tld_some ht
    intro x hx
    simp only [hy] at hx
    exact (hG t y hy).it x (List.mem_of_mem_drop (List.mem_of_mem_take hx))
  · intro x hx; cases hx
theorem dicT_good {G : List (Th × Lay)} (hG : Gd G) (o : Ob) : (dPairs (dicT G o)).length ≤ 300 ∧ (∀ p ∈ dPairs (dicT G o), Good p.1 ∧ Good p.2) ∧ 0 ≤ accV (dicT G o) ∧ accV (dicT G o) ≤ 3 := by
  cases ht : tld G o 8 with
  | none => rw [dicT_none ht]; exact ⟨by simp [dPairs], fun p hp => (by cases hp), Int.le_refl _, by decide⟩
  | some t =>
    obtain ⟨_, _, y, hy, _⟩ := tld_some ht
    rw [dicT_some ht hy]
    have := hG t y hy
    exact ⟨this.lp, this.pr, this.a0, this.a1⟩
theorem rItems_size (f : Ob → ByteArray) (C : Nat) : ∀ (l : List Ob) (t : ByteArray), (∀ x ∈ l, (f x).size ≤ C) → (rItems f t l).size ≤ t.size + l.length * (C + 1)
  | [], t, _ => by simp [rItems]
  | x :: l, t, h => by
    have h1 := rItems_size f C l ((t ++ f x) ++ b1 32) (fun y hy => h y (List.mem_cons_of_mem _ hy))
    have h2 := h x (List.mem_cons_self ..)
    rw [cat_size, cat_size, b1_size] at h1
    have : rItems f t (x :: l) = rItems f ((t ++ f x) ++ b1 32) l := rfl
    rw [this, List.length_cons, Nat.add_mul]
    omega
theorem rPairs_size (f : Ob → ByteArray) (C : Nat) : ∀ (l : List (Ob × Ob)) (t : ByteArray), (∀ p ∈ l, (f p.1).size ≤ C ∧ (f p.2).size ≤ C) → (rPairs f t l).size ≤ t.size + l.length * (C + C + 2)
  | [], t, _ => by simp [rPairs]
  | p :: l, t, h => by
    have h1 := rPairs_size f C l ((((t ++ f p.1) ++ b1 61) ++ f p.2) ++ b1 32) (fun y hy => h y (List.mem_cons_of_mem _ hy))
    have h2 := h p (List.mem_cons_self ..)
    rw [cat_size, cat_size, cat_size, cat_size, b1_size, b1_size] at h1
    have : rPairs f t (p :: l) = rPairs f ((((t ++ f p.1) ++ b1 61) ++ f p.2) ++ b1 32) l := rfl
    rw [this, List.length_cons, Nat.add_mul]
    omega
theorem rItems_snoc (f : Ob → ByteArray) (t : ByteArray) (l : List Ob) (i : Nat) (x : Ob) (h : l[i]? = some x) : rItems f t (l.take (i + 1)) = (rItems f t (l.take i) ++ f x) ++ b1 32 := by
  have : l.take (i + 1) = l.take i ++ [x] := by rw [List.take_add_one, h]; rfl
  rw [this]
  unfold rItems
  rw [List.foldl_append]
  rfl
theorem rPairs_snoc (f : Ob → ByteArray) (t : ByteArray) (l : List (Ob × Ob)) (i : Nat) (x : Ob × Ob) (h : l[i]? = some x) : rPairs f t (l.take (i + 1)) = (((rPairs f t (l.take i) ++ f x.1) ++ b1 61) ++ f x.2) ++ b1 32 := by
  have : l.take (i + 1) = l.take i ++ [x] := by rw [List.take_add_one, h]; rfl
  rw [this]
  unfold rPairs
  rw [List.foldl_append]
  rfl
theorem dMost_le {O : Nat → Prop} {w : World} {s : Nat} {fr : Int} {G : List (Th × Lay)} (h : Rep O w s fr G) (o : Ob) : 0 ≤ dMost (dicT G o) ∧ dMost (dicT G o) ≤ 4096 := by
  cases ht : tld G o 8 with
  | none => rw [dicT_none ht]; exact ⟨Int.le_refl _, by decide⟩
  | some t =>
    obtain ⟨_, _, y, hy, _⟩ := tld_some ht
    rw [dicT_some ht hy]
    have := (h.row t y hy).nm
    exact ⟨by show 0 ≤ y.1.most; omega, this.2⟩
/-- the middle of an array's text, of a dictionary's -/
def rArr (G : List (Th × Lay)) (d : Nat) (T : ByteArray) (l : List Ob) : ByteArray := match d with
  | 0 => T
  | d + 1 => rItems (rend G d) T l
def rDic (G : List (Th × Lay)) (d : Nat) (T : ByteArray) (l : List (Ob × Ob)) : ByteArray := match d with
  | 0 => T
  | d + 1 => rPairs (rend G d) T l
theorem rend7 (G : List (Th × Lay)) (d : Nat) (o : Ob) (hk : o.kind = 7) : rend G d o = (rArr G d (((rhead o ++ b1 46) ++ dg o.acc.toNat) ++ b1 91) (itemsR G o) ++ dg (itemsR G o).length) ++ b1 93 := by
  cases d with
  | zero => unfold rend rArr; rw [if_neg (by omega), if_pos hk]
  | succ d => unfold rend rArr; rw [if_neg (by omega), if_pos hk]
theorem rend8 (G : List (Th × Lay)) (d : Nat) (o : Ob) (hk : o.kind = 8) : rend G d o = (((rDic G d (((rhead o ++ b1 46) ++ dg (accV (dicT G o)).toNat) ++ b1 60) (dPairs (dicT G o)) ++ dg (dPairs (dicT G o)).length) ++ b1 47) ++ dg (dMost (dicT G o)).toNat) ++ b1 62 := by
  cases d with
  | zero => unfold rend rDic; rw [if_neg (by omega), if_neg (by omega), if_pos hk]
  | succ d => unfold rend rDic; rw [if_neg (by omega), if_neg (by omega), if_pos hk]
/-- a text is not too long -/
theorem rend_size {O : Nat → Prop} {w : World} {s : Nat} {fr : Int} {G : List (Th × Lay)} (hR : Rep O w s fr G) (hG : Gd G) : ∀ (d : Nat) (o : Ob), Good o → (rend G d o).size ≤ csz d := by
  intro d
  induction d with
  | zero =>
    intro o ho
    have h1 := rhead_size ho
    have h2 := dg_size o.acc.toNat (by have := ho.a0; have := ho.a1; omega)
    have h3 := bytesR_le hG o
    have h4 := dg_size (itemsR G o).length (by have := itemsR_le hG o; omega)
    obtain ⟨g1, _, g3, g4⟩ := dicT_good hG o
    have h5 := dg_size (accV (dicT G o)).toNat (by omega)
    have h6 := dg_size (dPairs (dicT G o)).length (by omega)
    obtain ⟨m1, m2⟩ := dMost_le hR o
    have h7 := dg_size (dMost (dicT G o)).toNat (by omega)
    have h8 := dg_size o.n.toNat (by have := ho.n0; have := ho.n1; omega)
    have h9 := ho.nm
    have h10 : (⟨(bytesR G o).toArray⟩ : ByteArray).size ≤ 1000 := by rw [size_mk]; exact h3
    unfold rend csz
    split
    · simp only [cat_size, b1_size]; omega
    · split
      · simp only [cat_size, b1_size]; omega
      · split
        · simp only [cat_size, b1_size]; omega
        · simp only [cat_size, b1_size]; omega
  | succ d ih =>
    intro o ho
    have h0 := csz_ge d
    have h1 := rhead_size ho
    have h2 := dg_size o.acc.toNat (by have := ho.a0; have := ho.a1; omega)
    have h3 := bytesR_le hG o
    have l4 := itemsR_le hG o
    have h4 := dg_size (itemsR G o).length (by omega)
    obtain ⟨g1, g2, g3, g4⟩ := dicT_good hG o
    have h5 := dg_size (accV (dicT G o)).toNat (by omega)
    have h6 := dg_size (dPairs (dicT G o)).length (by omega)
    obtain ⟨m1, m2⟩ := dMost_le hR o
    have h7 := dg_size (dMost (dicT G o)).toNat (by omega)
    have h8 := dg_size o.n.toNat (by have := ho.n0; have := ho.n1; omega)
    have h9 := ho.nm
    have h10 : (⟨(bytesR G o).toArray⟩ : ByteArray).size ≤ 1000 := by rw [size_mk]; exact h3
    have h11 := rItems_size (rend G d) (csz d) (itemsR G o) (((rhead o ++ b1 46) ++ dg o.acc.toNat) ++ b1 91) (fun x hx => ih x (itemsR_good hG o x hx))
    have h12 := rPairs_size (rend G d) (csz d) (dPairs (dicT G o)) (((rhead o ++ b1 46) ++ dg (accV (dicT G o)).toNat) ++ b1 60) (fun p hp => ⟨ih p.1 (g2 p hp).1, ih p.2 (g2 p hp).2⟩)
    have h13 : (itemsR G o).length * (csz d + 1) ≤ 300 * (csz d + 1) := Nat.mul_le_mul_right _ l4
    have h14 : (dPairs (dicT G o)).length * (csz d + csz d + 2) ≤ 300 * (csz d + csz d + 2) := Nat.mul_le_mul_right _ g1
    unfold rend csz
    simp only [cat_size, b1_size] at h11 h12
    split
    · simp only [cat_size, b1_size]; omega
    · split
      · simp only [cat_size, b1_size]; omega
      · split
        · simp only [cat_size, b1_size]; omega
        · simp only [cat_size, b1_size]; omega
end Go.Proofs.Ytlflkdmbbomjeaa
