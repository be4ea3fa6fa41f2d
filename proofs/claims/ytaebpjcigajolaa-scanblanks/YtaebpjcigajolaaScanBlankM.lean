/-
  Plain mathematics of ScanBlanks: words, what stands between them, and the tokens of both texts. It names nothing of the program but the numbers' answers.
-/
import Derived.Test.YtaebpjcigajolaaScanTk
namespace Go.Proofs.Ytaebpjcigajolaa
open Sc
namespace Sc
def wds : List (List UInt8) := [[97], [47, 98], [47, 47, 99], [40, 100, 32, 101, 41], [60, 48, 102, 62], [123], [125], [91], [93], [49, 50], [45, 49, 46, 53], [49, 54, 35, 97], [60, 60], [62, 62], [47]]
def fls : List (List UInt8) := [[32], [10], [9, 13, 10], [37, 99, 10], [32, 37, 40, 32, 13, 32], [0], [12, 37, 37, 100, 12]]
def wd (j : Nat) : List UInt8 := wds.getD j []
def fl (j : Nat) : List UInt8 := fls.getD j []
def sep (c : UInt8) : Bool := blnk c || c == 37
theorem sep_reg {c : UInt8} (h : sep c = true) : regular c = false := by
  unfold sep at h
  unfold regular
  cases hb : blnk c
  · rw [hb] at h
    have : c = 37 := by simpa using h
    subst this; rfl
  · rfl
/-- what a word is, whatever stands behind -/
def WdOut (tk : List UInt8 → Int × Int × Bool × Int) (w : List UInt8) : Prop :=
  (∃ x, x ≠ 0 ∧ ∀ c s, sep c = true → nxt tk (w ++ c :: s) = .err x) ∨ ∃ k n t, k ≠ 0 ∧ ∀ c s, sep c = true → nxt tk (w ++ c :: s) = .tok k n t (c :: s)
theorem tw_stop {w : List UInt8} (hw : ∀ x ∈ w, regular x = true) {c : UInt8} (hc : regular c = false) (s : List UInt8) : (w ++ c :: s).takeWhile regular = w ∧ (w ++ c :: s).dropWhile regular = c :: s := by
  induction w with
  | nil => rw [List.nil_append, List.takeWhile_cons, List.dropWhile_cons, if_neg (by simp [hc]), if_neg (by simp [hc])]; exact ⟨rfl, rfl⟩
  | cons x w ih =>
    have hx := hw x (List.mem_cons_self ..)
    obtain ⟨h1, h2⟩ := ih (fun y hy => hw y (List.mem_cons_of_mem _ hy))
    rw [List.cons_append, List.takeWhile_cons, List.dropWhile_cons, if_pos hx, if_pos hx, h1, h2]; exact ⟨rfl, rfl⟩
theorem reg_skp {c : UInt8} (h : regular c = true) (s : List UInt8) : skp false (c :: s) = c :: s := by
  unfold regular at h
  have hb : blnk c = false := by cases hb : blnk c <;> simp_all
  have hd : c ≠ 37 := by rintro rfl; revert h; decide
  exact skp_stop hb hd
/-- a word of regular bytes -/
theorem wd_reg {tk : List UInt8 → Int × Int × Bool × Int} (hk : ∀ s, (tk s).2.2.1 = true → (tk s).2.2.2 = 0 → (tk s).1 ≠ 0) {x : UInt8} {w : List UInt8} (hw : ∀ y ∈ x :: w, regular y = true) (hl : (x :: w).length ≤ 127) : WdOut tk (x :: w) := by
  have hx := hw x (List.mem_cons_self ..)
  have key : ∀ c s, sep c = true → nxt tk ((x :: w) ++ c :: s) = if (tk (x :: w)).2.2.2 ≠ 0 then .err (tk (x :: w)).2.2.2 else if (tk (x :: w)).2.2.1 = false then .tok 3 0 (x :: w) (c :: s) else .tok (tk (x :: w)).1 (tk (x :: w)).2.1 [] (c :: s) := by
    intro c s hc
    obtain ⟨h1, h2⟩ := tw_stop hw (sep_reg hc) s
    unfold nxt
    rw [List.cons_append, reg_skp hx, beg, if_pos hx]
    rw [List.cons_append] at h1 h2
    unfold wrd
    rw [h1, h2, if_neg (by omega)]
  by_cases h1 : (tk (x :: w)).2.2.2 = 0
  · right
    cases h2 : (tk (x :: w)).2.2.1
    · exact ⟨3, 0, x :: w, by decide, fun c s hc => by rw [key c s hc, if_neg (by simp [h1]), if_pos h2]⟩
    · exact ⟨_, _, [], hk _ h2 h1, fun c s hc => by rw [key c s hc, if_neg (by simp [h1]), if_neg (by simp [h2])]⟩
  · left
    exact ⟨_, h1, fun c s hc => by rw [key c s hc, if_pos h1]⟩
/-- a name behind a slash -/
theorem nam_stop {w : List UInt8} (hw : ∀ y ∈ w, regular y = true) (hl : w.length ≤ 127) (k : Int) {c : UInt8} (hc : sep c = true) (s : List UInt8) : nam k (w ++ c :: s) = .tok k 0 w (c :: s) := by
  obtain ⟨h1, h2⟩ := tw_stop hw (sep_reg hc) s
  unfold nam
  rw [h1, h2, if_neg (by omega)]
theorem wd_out {tk : List UInt8 → Int × Int × Bool × Int} (hk : ∀ s, (tk s).2.2.1 = true → (tk s).2.2.2 = 0 → (tk s).1 ≠ 0) (j : Nat) (hj : j < 15) : WdOut tk (wd j) := by
  have reg : ∀ (x : UInt8) (w : List UInt8), (∀ y ∈ x :: w, regular y = true) → (x :: w).length ≤ 127 → WdOut tk (x :: w) := fun x w h1 h2 => wd_reg hk h1 h2
  have e47 : ∀ s : List UInt8, nxt tk (47 :: s) = sla s := fun s => by
    unfold nxt
    rw [skp_stop (by decide) (by decide), beg, if_neg (by decide), if_neg (by decide), if_neg (by decide), if_neg (by decide), if_neg (by decide), if_neg (by decide), if_neg (by decide), if_neg (by decide), if_pos rfl]
  match j, hj with
  | 0, _ => exact reg 97 [] (by decide) (by decide)
  | 1, _ => exact .inr ⟨4, 0, [98], by decide, fun c s hc => by
      show nxt tk (47 :: 98 :: c :: s) = _
      rw [e47, sla, if_neg (by decide)]; exact nam_stop (w := [98]) (by decide) (by decide) 4 hc s⟩
  | 2, _ => exact .inr ⟨5, 0, [99], by decide, fun c s hc => by
      show nxt tk (47 :: 47 :: 99 :: c :: s) = _
      rw [e47, sla, if_pos rfl]; exact nam_stop (w := [99]) (by decide) (by decide) 5 hc s⟩
  | 3, _ => exact .inr ⟨6, 0, [100, 32, 101], by decide, fun c s hc => by
      show nxt tk (40 :: 100 :: 32 :: 101 :: 41 :: c :: s) = _
      have h : rnd 1 (100 :: 32 :: 101 :: 41 :: c :: s) = some ([100, 32, 101], c :: s) := by
        rw [rnd_go (d' := 1) (p := [100]) (r := 32 :: 101 :: 41 :: c :: s) rfl, rnd_go (d' := 1) (p := [32]) (r := 101 :: 41 :: c :: s) rfl, rnd_go (d' := 1) (p := [101]) (r := 41 :: c :: s) rfl, rnd_done (r := c :: s) rfl]; rfl
      unfold nxt
      rw [skp_stop (by decide) (by decide), beg, if_neg (by decide), if_pos rfl, h]; rfl⟩
  | 4, _ => exact .inr ⟨6, 0, [15], by decide, fun c s hc => by
      show nxt tk (60 :: 48 :: 102 :: 62 :: c :: s) = _
      have h : hx none (48 :: 102 :: 62 :: c :: s) = some ([15], c :: s) := by
        simp [hx, blnk, hexd, hlast]
      unfold nxt
      rw [skp_stop (by decide) (by decide), beg, if_neg (by decide), if_neg (by decide), if_pos rfl, twice, if_neg (by decide), h]; rfl⟩
  | 5, _ => exact .inr ⟨7, 0, [], by decide, fun c s hc => by
      show nxt tk (123 :: c :: s) = _
      unfold nxt
      rw [skp_stop (by decide) (by decide), beg, if_neg (by decide), if_neg (by decide), if_neg (by decide), if_neg (by decide), if_pos rfl]⟩
  | 6, _ => exact .inr ⟨8, 0, [], by decide, fun c s hc => by
      show nxt tk (125 :: c :: s) = _
      unfold nxt
      rw [skp_stop (by decide) (by decide), beg, if_neg (by decide), if_neg (by decide), if_neg (by decide), if_neg (by decide), if_neg (by decide), if_pos rfl]⟩
  | 7, _ => exact .inr ⟨3, 0, [91], by decide, fun c s hc => by
      show nxt tk (91 :: c :: s) = _
      unfold nxt
      rw [skp_stop (by decide) (by decide), beg, if_neg (by decide), if_neg (by decide), if_neg (by decide), if_neg (by decide), if_neg (by decide), if_neg (by decide), if_pos rfl]⟩
  | 8, _ => exact .inr ⟨3, 0, [93], by decide, fun c s hc => by
      show nxt tk (93 :: c :: s) = _
      unfold nxt
      rw [skp_stop (by decide) (by decide), beg, if_neg (by decide), if_neg (by decide), if_neg (by decide), if_neg (by decide), if_neg (by decide), if_neg (by decide), if_neg (by decide), if_pos rfl]⟩
  | 9, _ => exact reg 49 [50] (by decide) (by decide)
  | 10, _ => exact reg 45 [49, 46, 53] (by decide) (by decide)
  | 11, _ => exact reg 49 [54, 35, 97] (by decide) (by decide)
  | 12, _ => exact .inr ⟨3, 0, [60, 60], by decide, fun c s hc => by
      show nxt tk (60 :: 60 :: c :: s) = _
      unfold nxt
      rw [skp_stop (by decide) (by decide), beg, if_neg (by decide), if_neg (by decide), if_pos rfl, twice, if_pos rfl]⟩
  | 13, _ => exact .inr ⟨3, 0, [62, 62], by decide, fun c s hc => by
      show nxt tk (62 :: 62 :: c :: s) = _
      unfold nxt
      rw [skp_stop (by decide) (by decide), beg, if_neg (by decide), if_neg (by decide), if_neg (by decide), if_pos rfl, twice, if_pos rfl]⟩
  | 14, _ => exact .inr ⟨4, 0, [], by decide, fun c s hc => by
      show nxt tk (47 :: c :: s) = _
      have h47 : c ≠ 47 := by rintro rfl; revert hc; decide
      rw [e47, sla, if_neg h47]; exact nam_stop (w := []) (by decide) (by decide) 4 hc s⟩
  | n + 15, h => omega
/-- blanks and comments are nothing -/
theorem fl_skp (j : Nat) (hj : j < 7) (s : List UInt8) : skp false (fl j ++ s) = skp false s := by
  match j, hj with
  | 0, _ => rfl
  | 1, _ => rfl
  | 2, _ => rfl
  | 3, _ => rfl
  | 4, _ => rfl
  | 5, _ => rfl
  | 6, _ => rfl
  | n + 7, h => omega
theorem fl_sep (j : Nat) (hj : j < 7) : ∃ c t, fl j = c :: t ∧ sep c = true := by
  match j, hj with
  | 0, _ => exact ⟨_, _, rfl, rfl⟩
  | 1, _ => exact ⟨_, _, rfl, rfl⟩
  | 2, _ => exact ⟨_, _, rfl, rfl⟩
  | 3, _ => exact ⟨_, _, rfl, rfl⟩
  | 4, _ => exact ⟨_, _, rfl, rfl⟩
  | 5, _ => exact ⟨_, _, rfl, rfl⟩
  | 6, _ => exact ⟨_, _, rfl, rfl⟩
  | n + 7, h => omega
theorem wd_len (j : Nat) (hj : j < 15) : (wd j).length ≤ 5 := by
  match j, hj with
  | 0, _ | 1, _ | 2, _ | 3, _ | 4, _ | 5, _ | 6, _ | 7, _ | 8, _ | 9, _ | 10, _ | 11, _ | 12, _ | 13, _ | 14, _ => decide
  | n + 15, h => omega
theorem fl_len (j : Nat) (hj : j < 7) : (fl j).length ≤ 6 := by
  match j, hj with
  | 0, _ | 1, _ | 2, _ | 3, _ | 4, _ | 5, _ | 6, _ => decide
  | n + 7, h => omega
/-- the two texts, of words and what stands between them -/
def pln (L : List (Nat × Nat)) : List UInt8 := L.flatMap fun x => wd (x.1 % 15) ++ [32]
def gpd (L : List (Nat × Nat)) : List UInt8 := L.flatMap fun x => fl (x.2 % 7) ++ wd (x.1 % 15) ++ fl (x.2 / 7 % 7)
theorem pln_app (L : List (Nat × Nat)) (x : Nat × Nat) : pln (L ++ [x]) = pln L ++ (wd (x.1 % 15) ++ [32]) := by simp [pln]
theorem gpd_app (L : List (Nat × Nat)) (x : Nat × Nat) : gpd (L ++ [x]) = gpd L ++ (fl (x.2 % 7) ++ wd (x.1 % 15) ++ fl (x.2 / 7 % 7)) := by simp [gpd]
theorem pln_len (L : List (Nat × Nat)) : (pln L).length ≤ 6 * L.length := by
  induction L with
  | nil => simp [pln]
  | cons x L ih =>
    have h1 := wd_len (x.1 % 15) (Nat.mod_lt _ (by decide))
    simp only [pln, List.flatMap_cons, List.length_append, List.length_cons, List.length_nil] at ih ⊢
    omega
theorem gpd_len (L : List (Nat × Nat)) : (gpd L).length ≤ 17 * L.length := by
  induction L with
  | nil => simp [gpd]
  | cons x L ih =>
    have h1 := wd_len (x.1 % 15) (Nat.mod_lt _ (by decide))
    have h2 := fl_len (x.2 % 7) (Nat.mod_lt _ (by decide))
    have h3 := fl_len (x.2 / 7 % 7) (Nat.mod_lt _ (by decide))
    simp only [gpd, List.flatMap_cons, List.length_append, List.length_cons] at ih ⊢
    omega
/-- where a text stands ahead of its i-th word -/
def Ahead (l : List UInt8) (p : Nat) (s : List UInt8) : Prop := p ≤ l.length ∧ (l.drop p = s ∨ ∃ j, j < 7 ∧ l.drop p = fl j ++ s)
theorem drop_suffix {l x r : List UInt8} (h : l = x ++ r) : l.drop (l.length - r.length) = r := by
  subst h; rw [List.length_append, show x.length + r.length - r.length = x.length by omega, List.drop_left]
theorem skp_nxt {tk : List UInt8 → Int × Int × Bool × Int} {s t : List UInt8} (h : skp false s = skp false t) : nxt tk s = nxt tk t := by unfold nxt; rw [h]
theorem Ahead.nxt {tk : List UInt8 → Int × Int × Bool × Int} {l s : List UInt8} {p : Nat} (h : Ahead l p s) : Sc.nxt tk (l.drop p) = Sc.nxt tk s := by
  rcases h.2 with e | ⟨j, hj, e⟩
  · rw [e]
  · rw [e]; exact skp_nxt (fl_skp j hj s)
theorem Ahead.suffix {l s : List UInt8} {p : Nat} (h : Ahead l p s) : ∃ x, l = x ++ s := by
  rcases h.2 with e | ⟨j, _, e⟩
  · exact ⟨l.take p, by rw [← e]; exact (List.take_append_drop p l).symm⟩
  · exact ⟨l.take p ++ fl j, by rw [List.append_assoc, ← e]; exact (List.take_append_drop p l).symm⟩
/-- one word in both texts: the same error, or the same token, and both stand ahead of the next word -/
theorem both {tk : List UInt8 → Int × Int × Bool × Int} (hk : ∀ s, (tk s).2.2.1 = true → (tk s).2.2.2 = 0 → (tk s).1 ≠ 0) {A B : List UInt8} {p q : Nat} {x : Nat × Nat} {L : List (Nat × Nat)} (ha : Ahead A p (pln (x :: L))) (hb : Ahead B q (gpd (x :: L))) :
    (∃ e, e ≠ 0 ∧ Sc.nxt tk (A.drop p) = .err e ∧ Sc.nxt tk (B.drop q) = .err e) ∨ ∃ k n t r1 r2, k ≠ 0 ∧ Sc.nxt tk (A.drop p) = .tok k n t r1 ∧ Sc.nxt tk (B.drop q) = .tok k n t r2 ∧ Ahead A (A.length - r1.length) (pln L) ∧ Ahead B (B.length - r2.length) (gpd L) := by
  have e1 : pln (x :: L) = wd (x.1 % 15) ++ (32 :: pln L) := by simp [pln]
  have e2 : gpd (x :: L) = fl (x.2 % 7) ++ (wd (x.1 % 15) ++ (fl (x.2 / 7 % 7) ++ gpd L)) := by simp [gpd]
  obtain ⟨c, t, hf, hc⟩ := fl_sep (x.2 / 7 % 7) (Nat.mod_lt _ (by decide))
  have ea : Sc.nxt tk (A.drop p) = Sc.nxt tk (wd (x.1 % 15) ++ (32 :: pln L)) := by rw [ha.nxt, e1]
  have eb : Sc.nxt tk (B.drop q) = Sc.nxt tk (wd (x.1 % 15) ++ (c :: (t ++ gpd L))) := by
    rw [hb.nxt, e2, hf]
    exact skp_nxt (fl_skp _ (Nat.mod_lt _ (by decide)) _)
  obtain ⟨xa, hxa⟩ := ha.suffix
  obtain ⟨xb, hxb⟩ := hb.suffix
  rw [e1, ← List.append_assoc] at hxa
  rw [e2, ← List.append_assoc, ← List.append_assoc] at hxb
  rcases wd_out hk (x.1 % 15) (Nat.mod_lt _ (by decide)) with ⟨e, he, h⟩ | ⟨k, n, tt, hk0, h⟩
  · exact .inl ⟨e, he, by rw [ea, h 32 _ rfl], by rw [eb, h c _ hc]⟩
  · refine .inr ⟨k, n, tt, 32 :: pln L, c :: (t ++ gpd L), hk0, by rw [ea, h 32 _ rfl], by rw [eb, h c _ hc], ⟨Nat.sub_le _ _, .inr ⟨0, by decide, ?_⟩⟩, ⟨Nat.sub_le _ _, .inr ⟨x.2 / 7 % 7, Nat.mod_lt _ (by decide), ?_⟩⟩⟩
    · rw [drop_suffix hxa]; rfl
    · have e3 : c :: (t ++ gpd L) = fl (x.2 / 7 % 7) ++ gpd L := by rw [hf]; rfl
      rw [e3]; exact drop_suffix hxb
theorem both_end {tk : List UInt8 → Int × Int × Bool × Int} {A B : List UInt8} {p q : Nat} (ha : Ahead A p (pln [])) (hb : Ahead B q (gpd [])) : Sc.nxt tk (A.drop p) = .tok 0 0 [] [] ∧ Sc.nxt tk (B.drop q) = .tok 0 0 [] [] := by
  rw [ha.nxt, hb.nxt]; exact ⟨rfl, rfl⟩
end Sc
end Go.Proofs.Ytaebpjcigajolaa
