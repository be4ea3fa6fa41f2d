/-
  The walk of the law ScanBlanks, and its plain mathematics: words, what stands between them, and the tokens of both texts.
-/
import Derived.Test.YtaebpjcigajolaaScanTk
import Derived.Deep.QuietTactic
import Derived.BigQuiet
namespace Go.Proofs.Ytaebpjcigajolaa
open Go.RowKit
open Sc
namespace Sc
def wds : List (List UInt8) := [[97], [47, 98], [47, 47, 99], [40, 100, 32, 101, 41], [60, 48, 102, 62], [123], [125], [91], [93], [49, 50], [45, 49, 46, 53], [49, 54, 35, 97], [60, 60], [62, 62], [47]]
def fls : List (List UInt8) := [[32], [10], [9, 13, 10], [37, 99, 10], [32, 37, 40, 32, 13, 32], [0], [12, 37, 37, 100, 12]]
def wd (j : Nat) : List UInt8 := wds.getD j []
def fl (j : Nat) : List UInt8 := fls.getD j []
def sep (c : UInt8) : Bool := blnk c || c == 37
theorem sep_reg {c : UInt8} (h : sep c = true) : regular c = false := by
  unfold sep at h
  unfold regular
  cases hb : blnk c
  · rw [hb] at h
    have : c = 37 := by simpa using h
    subst this; rfl
  · rfl
/-- what a word is, whatever stands behind -/
def WdOut (tk : List UInt8 → Int × Int × Bool × Int) (w : List UInt8) : Prop :=
  (∃ x, x ≠ 0 ∧ ∀ c s, sep c = true → nxt tk (w ++ c :: s) = .err x) ∨ ∃ k n t, k ≠ 0 ∧ ∀ c s, sep c = true → nxt tk (w ++ c :: s) = .tok k n t (c :: s)
theorem tw_stop {w : List UInt8} (hw : ∀ x ∈ w, regular x = true) {c : UInt8} (hc : regular c = false) (s : List UInt8) : (w ++ c :: s).takeWhile regular = w ∧ (w ++ c :: s).dropWhile regular = c :: s := by
  induction w with
  | nil => rw [List.nil_append, List.takeWhile_cons, List.dropWhile_cons, if_neg (by simp [hc]), if_neg (by simp [hc])]; exact ⟨rfl, rfl⟩
  | cons x w ih =>
    have hx := hw x (List.mem_cons_self ..)
    obtain ⟨h1, h2⟩ := ih (fun y hy => hw y (List.mem_cons_of_mem _ hy))
    rw [List.cons_append, List.takeWhile_cons, List.dropWhile_cons, if_pos hx, if_pos hx, h1, h2]; exact ⟨rfl, rfl⟩
theorem reg_skp {c : UInt8} (h : regular c = true) (s : List UInt8) : skp false (c :: s) = c :: s := by
  unfold regular at h
  have hb : blnk c = false := by cases hb : blnk c <;> simp_all
  have hd : c ≠ 37 := by rintro rfl; revert h; decide
  exact skp_stop hb hd
/-- a word of regular bytes -/
theorem wd_reg {tk : List UInt8 → Int × Int × Bool × Int} (hk : ∀ s, (tk s).2.2.1 = true → (tk s).2.2.2 = 0 → (tk s).1 ≠ 0) {x : UInt8} {w : List UInt8} (hw : ∀ y ∈ x :: w, regular y = true) (hl : (x :: w).length ≤ 127) : WdOut tk (x :: w) := by
  have hx := hw x (List.mem_cons_self ..)
  have key : ∀ c s, sep c = true → nxt tk ((x :: w) ++ c :: s) = if (tk (x :: w)).2.2.2 ≠ 0 then .err (tk (x :: w)).2.2.2 else if (tk (x :: w)).2.2.1 = false then .tok 3 0 (x :: w) (c :: s) else .tok (tk (x :: w)).1 (tk (x :: w)).2.1 [] (c :: s) := by
    intro c s hc
    obtain ⟨h1, h2⟩ := tw_stop hw (sep_reg hc) s
    unfold nxt
    rw [List.cons_append, reg_skp hx, beg, if_pos hx]
    rw [List.cons_append] at h1 h2
    unfold wrd
    rw [h1, h2, if_neg (by omega)]
  by_cases h1 : (tk (x :: w)).2.2.2 = 0
  · right
    cases h2 : (tk (x :: w)).2.2.1
    · exact ⟨3, 0, x :: w, by decide, fun c s hc => by rw [key c s hc, if_neg (by simp [h1]), if_pos h2]⟩
    · exact ⟨_, _, [], hk _ h2 h1, fun c s hc => by rw [key c s hc, if_neg (by simp [h1]), if_neg (by simp [h2])]⟩
  · left
    exact ⟨_, h1, fun c s hc => by rw [key c s hc, if_pos h1]⟩
/-- a name behind a slash -/
theorem nam_stop {w : List UInt8} (hw : ∀ y ∈ w, regular y = true) (hl : w.length ≤ 127) (k : Int) {c : UInt8} (hc : sep c = true) (s : List UInt8) : nam k (w ++ c :: s) = .tok k 0 w (c :: s) := by
  obtain ⟨h1, h2⟩ := tw_stop hw (sep_reg hc) s
  unfold nam
  rw [h1, h2, if_neg (by omega)]
theorem wd_out {tk : List UInt8 → Int × Int × Bool × Int} (hk : ∀ s, (tk s).2.2.1 = true → (tk s).2.2.2 = 0 → (tk s).1 ≠ 0) (j : Nat) (hj : j < 15) : WdOut tk (wd j) := by
  have reg : ∀ (x : UInt8) (w : List UInt8), (∀ y ∈ x :: w, regular y = true) → (x :: w).length ≤ 127 → WdOut tk (x :: w) := fun x w h1 h2 => wd_reg hk h1 h2
  have e47 : ∀ s : List UInt8, nxt tk (47 :: s) = sla s := fun s => by
    unfold nxt
    rw [skp_stop (by decide) (by decide), beg, if_neg (by decide), if_neg (by decide), if_neg (by decide), if_neg (by decide), if_neg (by decide), if_neg (by decide), if_neg (by decide), if_neg (by decide), if_pos rfl]
  match j, hj with
  | 0, _ => exact reg 97 [] (by decide) (by decide)
  | 1, _ => exact .inr ⟨4, 0, [98], by decide, fun c s hc => by
      show nxt tk (47 :: 98 :: c :: s) = _
      rw [e47, sla, if_neg (by decide)]; exact nam_stop (w := [98]) (by decide) (by decide) 4 hc s⟩
  | 2, _ => exact .inr ⟨5, 0, [99], by decide, fun c s hc => by
      show nxt tk (47 :: 47 :: 99 :: c :: s) = _
      rw [e47, sla, if_pos rfl]; exact nam_stop (w := [99]) (by decide) (by decide) 5 hc s⟩
  | 3, _ => exact .inr ⟨6, 0, [100, 32, 101], by decide, fun c s hc => by
      show nxt tk (40 :: 100 :: 32 :: 101 :: 41 :: c :: s) = _
      have h : rnd 1 (100 :: 32 :: 101 :: 41 :: c :: s) = some ([100, 32, 101], c :: s) := by
        rw [rnd_go (d' := 1) (p := [100]) (r := 32 :: 101 :: 41 :: c :: s) rfl, rnd_go (d' := 1) (p := [32]) (r := 101 :: 41 :: c :: s) rfl, rnd_go (d' := 1) (p := [101]) (r := 41 :: c :: s) rfl, rnd_done (r := c :: s) rfl]; rfl
      unfold nxt
      rw [skp_stop (by decide) (by decide), beg, if_neg (by decide), if_pos rfl, h]; rfl⟩
  | 4, _ => exact .inr ⟨6, 0, [15], by decide, fun c s hc => by
      show nxt tk (60 :: 48 :: 102 :: 62 :: c :: s) = _
      have h : hx none (48 :: 102 :: 62 :: c :: s) = some ([15], c :: s) := by
        simp [hx, blnk, hexd, hlast]
      unfold nxt
      rw [skp_stop (by decide) (by decide), beg, if_neg (by decide), if_neg (by decide), if_pos rfl, twice, if_neg (by decide), h]; rfl⟩
  | 5, _ => exact .inr ⟨7, 0, [], by decide, fun c s hc => by
      show nxt tk (123 :: c :: s) = _
      unfold nxt
      rw [skp_stop (by decide) (by decide), beg, if_neg (by decide), if_neg (by decide), if_neg (by decide), if_neg (by decide), if_pos rfl]⟩
  | 6, _ => exact .inr ⟨8, 0, [], by decide, fun c s hc => by
      show nxt tk (125 :: c :: s) = _
      unfold nxt
      rw [skp_stop (by decide) (by decide), beg, if_neg (by decide), if_neg (by decide), if_neg (by decide), if_neg (by decide), if_neg (by decide), if_pos rfl]⟩
  | 7, _ => exact .inr ⟨3, 0, [91], by decide, fun c s hc => by
      show nxt tk (91 :: c :: s) = _
      unfold nxt
      rw [skp_stop (by decide) (by decide), beg, if_neg (by decide), if_neg (by decide), if_neg (by decide), if_neg (by decide), if_neg (by decide), if_neg (by decide), if_pos rfl]⟩
  | 8, _ => exact .inr ⟨3, 0, [93], by decide, fun c s hc => by
      show nxt tk (93 :: c :: s) = _
      unfold nxt
      rw [skp_stop (by decide) (by decide), beg, if_neg (by decide), if_neg (by decide), if_neg (by decide), if_neg (by decide), if_neg (by decide), if_neg (by decide), if_neg (by decide), if_pos rfl]⟩
  | 9, _ => exact reg 49 [50] (by decide) (by decide)
  | 10, _ => exact reg 45 [49, 46, 53] (by decide) (by decide)
  | 11, _ => exact reg 49 [54, 35, 97] (by decide) (by decide)
  | 12, _ => exact .inr ⟨3, 0, [60, 60], by decide, fun c s hc => by
      show nxt tk (60 :: 60 :: c :: s) = _
      unfold nxt
      rw [skp_stop (by decide) (by decide), beg, if_neg (by decide), if_neg (by decide), if_pos rfl, twice, if_pos rfl]⟩
  | 13, _ => exact .inr ⟨3, 0, [62, 62], by decide, fun c s hc => by
      show nxt tk (62 :: 62 :: c :: s) = _
      unfold nxt
      rw [skp_stop (by decide) (by decide), beg, if_neg (by decide), if_neg (by decide), if_neg (by decide), if_pos rfl, twice, if_pos rfl]⟩
  | 14, _ => exact .inr ⟨4, 0, [], by decide, fun c s hc => by
      show nxt tk (47 :: c :: s) = _
      have h47 : c ≠ 47 := by rintro rfl; revert hc; decide
      rw [e47, sla, if_neg h47]; exact nam_stop (w := []) (by decide) (by decide) 4 hc s⟩
  | n + 15, h => omega
/-- blanks and comments are nothing -/
theorem fl_skp (j : Nat) (hj : j < 7) (s : List UInt8) : skp false (fl j ++ s) = skp false s := by
  match j, hj with
  | 0, _ => rfl
  | 1, _ => rfl
  | 2, _ => rfl
  | 3, _ => rfl
  | 4, _ => rfl
  | 5, _ => rfl
  | 6, _ => rfl
  | n + 7, h => omega
theorem fl_sep (j : Nat) (hj : j < 7) : ∃ c t, fl j = c :: t ∧ sep c = true := by
  match j, hj with
  | 0, _ => exact ⟨_, _, rfl, rfl⟩
  | 1, _ => exact ⟨_, _, rfl, rfl⟩
  | 2, _ => exact ⟨_, _, rfl, rfl⟩
  | 3, _ => exact ⟨_, _, rfl, rfl⟩
  | 4, _ => exact ⟨_, _, rfl, rfl⟩
  | 5, _ => exact ⟨_, _, rfl, rfl⟩
  | 6, _ => exact ⟨_, _, rfl, rfl⟩
  | n + 7, h => omega
theorem wd_len (j : Nat) (hj : j < 15) : (wd j).length ≤ 5 := by
  match j, hj with
  | 0, _ | 1, _ | 2, _ | 3, _ | 4, _ | 5, _ | 6, _ | 7, _ | 8, _ | 9, _ | 10, _ | 11, _ | 12, _ | 13, _ | 14, _ => decide
  | n + 15, h => omega
theorem fl_len (j : Nat) (hj : j < 7) : (fl j).length ≤ 6 := by
  match j, hj with
  | 0, _ | 1, _ | 2, _ | 3, _ | 4, _ | 5, _ | 6, _ => decide
  | n + 7, h => omega
/-- the two texts, of words and what stands between them -/
def pln (L : List (Nat × Nat)) : List UInt8 := L.flatMap fun x => wd (x.1 % 15) ++ [32]
def gpd (L : List (Nat × Nat)) : List UInt8 := L.flatMap fun x => fl (x.2 % 7) ++ wd (x.1 % 15) ++ fl (x.2 / 7 % 7)
theorem pln_app (L : List (Nat × Nat)) (x : Nat × Nat) : pln (L ++ [x]) = pln L ++ (wd (x.1 % 15) ++ [32]) := by simp [pln]
theorem gpd_app (L : List (Nat × Nat)) (x : Nat × Nat) : gpd (L ++ [x]) = gpd L ++ (fl (x.2 % 7) ++ wd (x.1 % 15) ++ fl (x.2 / 7 % 7)) := by simp [gpd]
theorem pln_len (L : List (Nat × Nat)) : (pln L).length ≤ 6 * L.length := by
  induction L with
  | nil => simp [pln]
  | cons x L ih =>
    have h1 := wd_len (x.1 % 15) (Nat.mod_lt _ (by decide))
    simp only [pln, List.flatMap_cons, List.length_append, List.length_cons, List.length_nil] at ih ⊢
    omega
theorem gpd_len (L : List (Nat × Nat)) : (gpd L).length ≤ 17 * L.length := by
  induction L with
  | nil => simp [gpd]
  | cons x L ih =>
    have h1 := wd_len (x.1 % 15) (Nat.mod_lt _ (by decide))
    have h2 := fl_len (x.2 % 7) (Nat.mod_lt _ (by decide))
    have h3 := fl_len (x.2 / 7 % 7) (Nat.mod_lt _ (by decide))
    simp only [gpd, List.flatMap_cons, List.length_append, List.length_cons] at ih ⊢
    omega
/-- where a text stands ahead of its i-th word -/
def Ahead (l : List UInt8) (p : Nat) (s : List UInt8) : Prop := p ≤ l.length ∧ (l.drop p = s ∨ ∃ j, j < 7 ∧ l.drop p = fl j ++ s)
theorem drop_suffix {l x r : List UInt8} (h : l = x ++ r) : l.drop (l.length - r.length) = r := by
  subst h; rw [List.length_append, show x.length + r.length - r.length = x.length by omega, List.drop_left]
theorem skp_nxt {tk : List UInt8 → Int × Int × Bool × Int} {s t : List UInt8} (h : skp false s = skp false t) : nxt tk s = nxt tk t := by unfold nxt; rw [h]
theorem Ahead.nxt {tk : List UInt8 → Int × Int × Bool × Int} {l s : List UInt8} {p : Nat} (h : Ahead l p s) : Sc.nxt tk (l.drop p) = Sc.nxt tk s := by
  rcases h.2 with e | ⟨j, hj, e⟩
  · rw [e]
  · rw [e]; exact skp_nxt (fl_skp j hj s)
theorem Ahead.suffix {l s : List UInt8} {p : Nat} (h : Ahead l p s) : ∃ x, l = x ++ s := by
  rcases h.2 with e | ⟨j, _, e⟩
  · exact ⟨l.take p, by rw [← e]; exact (List.take_append_drop p l).symm⟩
  · exact ⟨l.take p ++ fl j, by rw [List.append_assoc, ← e]; exact (List.take_append_drop p l).symm⟩
/-- one word in both texts: the same error, or the same token, and both stand ahead of the next word -/
theorem both {tk : List UInt8 → Int × Int × Bool × Int} (hk : ∀ s, (tk s).2.2.1 = true → (tk s).2.2.2 = 0 → (tk s).1 ≠ 0) {A B : List UInt8} {p q : Nat} {x : Nat × Nat} {L : List (Nat × Nat)} (ha : Ahead A p (pln (x :: L))) (hb : Ahead B q (gpd (x :: L))) :
    (∃ e, e ≠ 0 ∧ Sc.nxt tk (A.drop p) = .err e ∧ Sc.nxt tk (B.drop q) = .err e) ∨ ∃ k n t r1 r2, k ≠ 0 ∧ Sc.nxt tk (A.drop p) = .tok k n t r1 ∧ Sc.nxt tk (B.drop q) = .tok k n t r2 ∧ Ahead A (A.length - r1.length) (pln L) ∧ Ahead B (B.length - r2.length) (gpd L) := by
  have e1 : pln (x :: L) = wd (x.1 % 15) ++ (32 :: pln L) := by simp [pln]
  have e2 : gpd (x :: L) = fl (x.2 % 7) ++ (wd (x.1 % 15) ++ (fl (x.2 / 7 % 7) ++ gpd L)) := by simp [gpd]
  obtain ⟨c, t, hf, hc⟩ := fl_sep (x.2 / 7 % 7) (Nat.mod_lt _ (by decide))
  have ea : Sc.nxt tk (A.drop p) = Sc.nxt tk (wd (x.1 % 15) ++ (32 :: pln L)) := by rw [ha.nxt, e1]
  have eb : Sc.nxt tk (B.drop q) = Sc.nxt tk (wd (x.1 % 15) ++ (c :: (t ++ gpd L))) := by
    rw [hb.nxt, e2, hf]
    exact skp_nxt (fl_skp _ (Nat.mod_lt _ (by decide)) _)
  obtain ⟨xa, hxa⟩ := ha.suffix
  obtain ⟨xb, hxb⟩ := hb.suffix
  rw [e1, ← List.append_assoc] at hxa
  rw [e2, ← List.append_assoc, ← List.append_assoc] at hxb
  rcases wd_out hk (x.1 % 15) (Nat.mod_lt _ (by decide)) with ⟨e, he, h⟩ | ⟨k, n, tt, hk0, h⟩
  · exact .inl ⟨e, he, by rw [ea, h 32 _ rfl], by rw [eb, h c _ hc]⟩
  · refine .inr ⟨k, n, tt, 32 :: pln L, c :: (t ++ gpd L), hk0, by rw [ea, h 32 _ rfl], by rw [eb, h c _ hc], ⟨Nat.sub_le _ _, .inr ⟨0, by decide, ?_⟩⟩, ⟨Nat.sub_le _ _, .inr ⟨x.2 / 7 % 7, Nat.mod_lt _ (by decide), ?_⟩⟩⟩
    · rw [drop_suffix hxa]; rfl
    · have e3 : c :: (t ++ gpd L) = fl (x.2 / 7 % 7) ++ gpd L := by rw [hf]; rfl
      rw [e3]; exact drop_suffix hxb
theorem both_end {tk : List UInt8 → Int × Int × Bool × Int} {A B : List UInt8} {p q : Nat} (ha : Ahead A p (pln [])) (hb : Ahead B q (gpd [])) : Sc.nxt tk (A.drop p) = .tok 0 0 [] [] ∧ Sc.nxt tk (B.drop q) = .tok 0 0 [] [] := by
  rw [ha.nxt, hb.nxt]; exact ⟨rfl, rfl⟩
end Sc
/-- the table of words; and that of what stands between them -/
def Tab1 (w wx : World) : Prop := Below w.heap.size w wx ∧ wx.heap.size = w.heap.size + 1 ∧ ∀ m, m < 15 → wx.cell? ⟨w.heap.size, m, none⟩ = some (.string ⟨(wd m).toArray⟩)
def Tabs (w wx : World) : Prop :=
  Below w.heap.size w wx ∧ (∀ m, m < 15 → wx.cell? ⟨w.heap.size, m, none⟩ = some (.string ⟨(wd m).toArray⟩)) ∧ ∀ m, m < 7 → wx.cell? ⟨w.heap.size + 1, m, none⟩ = some (.string ⟨(fl m).toArray⟩)
theorem row_at (W : World) (C : Array Value) (t : TypeId) (m : Nat) : (W.alloc (.cells C t)).cell? ⟨W.heap.size, m, none⟩ = C[m]? := cell_of_row _ W.heap.size m _ _ _ (heap_alloc_new W (.cells C t))
theorem tab1_made (w : World) : Tab1 w (w.alloc (.cells #[.string ⟨#[97]⟩, .string ⟨#[47, 98]⟩, .string ⟨#[47, 47, 99]⟩, .string ⟨#[40, 100, 32, 101, 41]⟩, .string ⟨#[60, 48, 102, 62]⟩, .string ⟨#[123]⟩, .string ⟨#[125]⟩, .string ⟨#[91]⟩, .string ⟨#[93]⟩, .string ⟨#[49, 50]⟩, .string ⟨#[45, 49, 46, 53]⟩, .string ⟨#[49, 54, 35, 97]⟩, .string ⟨#[60, 60]⟩, .string ⟨#[62, 62]⟩, .string ⟨#[47]⟩, .string ⟨#[120, 37]⟩] 9)) := by
  refine ⟨(Below.refl _ _).alloc (Nat.le_refl _) _, by simp, fun m hm => ?_⟩
  rw [row_at]
  match m, hm with
  | 0, _ | 1, _ | 2, _ | 3, _ | 4, _ | 5, _ | 6, _ | 7, _ | 8, _ | 9, _ | 10, _ | 11, _ | 12, _ | 13, _ | 14, _ => rfl
  | n + 15, h => omega
theorem tabs_made {w wx : World} (h : Tab1 w wx) : Tabs w (wx.alloc (.cells #[.string ⟨#[32]⟩, .string ⟨#[10]⟩, .string ⟨#[9, 13, 10]⟩, .string ⟨#[37, 99, 10]⟩, .string ⟨#[32, 37, 40, 32, 13, 32]⟩, .string ⟨#[0]⟩, .string ⟨#[12, 37, 37, 100, 12]⟩] 9)) := by
  obtain ⟨hb, hs, hc⟩ := h
  refine ⟨hb.alloc hb.size _, fun m hm => ?_, fun m hm => ?_⟩
  · rw [World.cell?_alloc_lt _ _ _ (by simp; omega)]; exact hc m hm
  · rw [← hs, row_at]
    match m, hm with
    | 0, _ | 1, _ | 2, _ | 3, _ | 4, _ | 5, _ | 6, _ => rfl
    | n + 7, h => omega
def prs (l m : List UInt8) : List (Nat × Nat) := (List.range l.length).map fun i => ((l.getD i 0).toNat, (m.getD i 0).toNat)
theorem prs_len (l m : List UInt8) : (prs l m).length = l.length := by simp [prs]
theorem prs_take {l m : List UInt8} {i : Nat} (h : i < l.length) : (prs l m).take (i + 1) = (prs l m).take i ++ [((l.getD i 0).toNat, (m.getD i 0).toNat)] := by
  rw [List.take_add_one]
  congr 1
  simp [prs, h]
theorem prs_drop {l m : List UInt8} {i : Nat} (h : i < l.length) : ∃ x, (prs l m).drop i = x :: (prs l m).drop (i + 1) := by
  have h1 : i < (prs l m).length := by rw [prs_len]; exact h
  exact ⟨_, List.drop_eq_getElem_cons h1⟩
def BuildRel (l m : List UInt8) (wx : World) (s7 s8 s9 : Value) (wr : World) : Prop :=
  ∃ i j : Nat, i ≤ l.length ∧ s7 = .string ⟨(pln ((prs l m).take i)).toArray⟩ ∧ s8 = .string ⟨(gpd ((prs l m).take i)).toArray⟩ ∧ s9 = .int .i64 i ∧ wr = wx.drewN j
theorem str3 (a b c : List UInt8) : ((⟨a.toArray⟩ : ByteArray) ++ ⟨b.toArray⟩) ++ ⟨c.toArray⟩ = ⟨(a ++ (b ++ c)).toArray⟩ := by
  apply mk_listS; rw [data_appS, data_appS]; simp
theorem str4 (a b c d : List UInt8) : (((⟨a.toArray⟩ : ByteArray) ++ ⟨b.toArray⟩) ++ ⟨c.toArray⟩) ++ ⟨d.toArray⟩ = ⟨(a ++ (b ++ c ++ d)).toArray⟩ := by
  apply mk_listS; rw [data_appS, data_appS, data_appS]; simp
/-- where the law stands ahead of its i-th word, in both texts -/
def GapRel (P G : List UInt8) (L : List (Nat × Nat)) (w : World) (s12 s13 s14 : Value) (wr : World) : Prop :=
  ∃ p q i : Nat, s12 = .int .i64 p ∧ s13 = .int .i64 q ∧ s14 = .int .i64 i ∧ i ≤ L.length + 1 ∧ (i ≤ L.length → Ahead P p (pln (L.drop i)) ∧ Ahead G q (gpd (L.drop i))) ∧ Below w.heap.size w wr ∧ Mx wr
theorem tokY_rel {w w' : World} (hb : Below w.heap.size w w') (k n : Int) (t : ByteArray) : Below w.heap.size w (w'.alloc (tokB k n t)) := hb.alloc hb.size _
/-- Next at a place of a string's bytes -/
theorem next_at_str {w : World} (l : List UInt8) (hl : l.length ≤ 65535) {p : Nat} (hp : p ≤ l.length) (hm : Mx w) :
    ∃ (cap : Nat) (W2 : World), (convert 9 22 (.string ⟨l.toArray⟩)).run Try.prog w = .ok (.slice (some ⟨w.heap.size, 0, none⟩) l.length cap) W2 ∧
      Calls Try.prog 10 #[.slice (some ⟨w.heap.size, 0, none⟩) l.length cap, .int .i64 p] W2 fun e w' => e = .returned (nextV l (nxt tokR (l.drop p))) ∧ Below w.heap.size w w' := by
  obtain ⟨cap, W2, hcv, hb, hs, hcap, hrd⟩ := bytes_madeS w l
  refine ⟨cap, W2, hcv, ?_⟩
  have hn := next_at (w := W2) (cap := cap) (p := p) (l := l) (tk := tokR) (hrd _ (by omega)) hcap hl hp (fun _ _ _ _ => dec_tk (hm.below hb))
  exact hn.mono fun e w' ⟨h1, h2⟩ => ⟨h1, hb.trans (h2.mono (by omega))⟩
set_option maxRecDepth 100000 in
set_option maxHeartbeats 4000000 in
theorem lawScanBlanks (ad : Option Addr) (c : Nat) (l : List UInt8) (ad2 : Option Addr) (c2 : Nat) (m : List UInt8) (w : World) (hin : InRow w ad l c) (hin2 : InRow w ad2 m c2) (hm1 : l.length ≤ maxLen) (hm2 : m.length ≤ maxLen) (hmx : Mx w) :
    Calls Try.prog 8 #[.slice ad l.length c, .slice ad2 m.length c2] w fun e w' => e = .returned (.bool true) ∧ Below w.heap.size w w' := by
  have hm2' := hm2
  unfold maxLen at hm1 hm2'
  have HIN := Lib.hid hin
  have HIN2 := Lib.hid hin2
  have HMX := Lib.hid hmx
  clear hin hin2 hmx
  go_enter Try.func8, Try.ntmps8
  go_upto_region 1 with fail
  go_cut [5] (fun s5 wx => s5 = .slice (some ⟨w.heap.size, 0, none⟩) 16 16 ∧ Tab1 w wx)
  case first =>
    go_wp2_with fail
    go_meet
    exact ⟨rfl, tab1_made w⟩
  case rest =>
  obtain ⟨rfl, hT⟩ := hcut
  go_upto_region 2 with fail
  go_cut [6] (fun s6 wx => s6 = .slice (some ⟨w.heap.size + 1, 0, none⟩) 7 7 ∧ Tabs w wx)
  case first =>
    go_wp2_with fail
    go_meet
    exact ⟨by rw [hT.2.1], tabs_made hT⟩
  case rest =>
  obtain ⟨rfl, hT⟩ := hcut
  have HT := Lib.hid hT
  have hsz := hT.1.size
  clear hT
  by_cases hl : l.length ≤ 200
  · have hd : decide ((200 : Int) < (l.length : Int)) = false := decide_eq_false (by omega)
    go_wp2_with fail
    go_loopw [7, 8, 9] (fun s7 s8 s9 wr => BuildRel l m wc s7 s8 s9 wr) (fun _ _ s9 _ => l.length - (intOf s9).toNat)
    case atStart => exact ⟨0, 0, Nat.zero_le _, rfl, rfl, rfl, rfl⟩
    case round =>
      obtain ⟨i, j, hi, rfl, rfl, rfl, rfl⟩ := hrel
      have hpl := pln_len ((prs l m).take i)
      have hgl := gpd_len ((prs l m).take i)
      have htl : ((prs l m).take i).length = i := by rw [List.length_take, prs_len]; omega
      rw [htl] at hpl hgl
      by_cases hlt : i < l.length
      · have hdi : decide ((i : Int) < (l.length : Int)) = true := decide_eq_true (by omega)
        have hx0 : l[i]? = some (l.getD i 0) := by simp [List.getD_eq_getElem?_getD, hlt]
        obtain ⟨b, off, rfl, hbN, hcell0⟩ := (HIN.out.below HT.out.1).rd i _ hx0
        obtain ⟨x, hx⟩ : ∃ x, l.getD i 0 = x := ⟨_, rfl⟩
        rw [hx] at hcell0
        have hxl : x.toNat < 256 := UInt8.toNat_lt x
        obtain ⟨n1, hn1⟩ : ∃ n, n = x.toNat % 15 := ⟨_, rfl⟩
        have w1 : ((x.toNat : Int)).tmod 15 = (n1 : Int) := by rw [Int.tmod_eq_emod_of_nonneg (by omega)]; omega
        have i1 : (n1 : Int) < 16 := by omega
        have i0 : (0 : Int) ≤ (n1 : Int) := by omega
        have hcw := HT.out.2.1 n1 (by omega)
        have hwl := wd_len n1 (by omega)
        obtain ⟨Wd, hWd⟩ : ∃ W : ByteArray, W = ⟨(wd n1).toArray⟩ := ⟨_, rfl⟩
        have hWs : Wd.size ≤ 5 := by rw [hWd, size_mkS]; exact hwl
        rw [← hWd] at hcw
        obtain ⟨Pb, hPb⟩ : ∃ P : ByteArray, P = ⟨(pln ((prs l m).take i)).toArray⟩ := ⟨_, rfl⟩
        obtain ⟨Gb, hGb⟩ : ∃ G : ByteArray, G = ⟨(gpd ((prs l m).take i)).toArray⟩ := ⟨_, rfl⟩
        have hPs : Pb.size ≤ 6 * i := by rw [hPb, size_mkS]; exact hpl
        have hGs : Gb.size ≤ 17 * i := by rw [hGb, size_mkS]; exact hgl
        rw [← hPb, ← hGb]
        have hP1 : (Pb ++ Wd) ++ ⟨#[32]⟩ = ⟨(pln ((prs l m).take (i + 1))).toArray⟩ := by
          rw [prs_take hlt, pln_app, hPb, hWd, hn1, hx]; exact str3 _ _ [32]
        have HP1 := Lib.hid hP1
        have HWd := Lib.hid hWd
        have HGb := Lib.hid hGb
        have HX := Lib.hid hx
        have HN1 := Lib.hid hn1
        -- whichever gap
        have gap : ∀ g : Nat, g < 256 → (m.getD i 0).toNat = g → ∃ n2 n3 : Nat, ((g : Int)).tmod 7 = (n2 : Int) ∧ (((g : Int) / 7)).tmod 7 = (n3 : Int) ∧ n2 < 7 ∧ n3 < 7 ∧ n2 = g % 7 ∧ n3 = g / 7 % 7 := by
          intro g hg _
          exact ⟨g % 7, g / 7 % 7, by rw [Int.tmod_eq_emod_of_nonneg (by omega)]; omega, by rw [Int.tmod_eq_emod_of_nonneg (by omega)]; omega, Nat.mod_lt _ (by decide), Nat.mod_lt _ (by decide), rfl, rfl⟩
        have HG := Lib.hid gap
        have HP := Lib.hid hPb
        clear hP1 hWd hGb hx hn1 gap hx0 hPb hpl hgl htl hwl
        by_cases hg : i < m.length
        · have hdg : decide ((i : Int) < (m.length : Int)) = true := decide_eq_true (by omega)
          have hy0 : m[i]? = some (m.getD i 0) := by simp [List.getD_eq_getElem?_getD, hg]
          obtain ⟨b2, off2, rfl, hbN2, hcell2⟩ := (HIN2.out.below HT.out.1).rd i _ hy0
          obtain ⟨y, hy⟩ : ∃ y, m.getD i 0 = y := ⟨_, rfl⟩
          rw [hy] at hcell2
          have hyl : y.toNat < 256 := UInt8.toNat_lt y
          obtain ⟨n2, n3, v2, v3, k2, k3, m2, m3⟩ := HG.out y.toNat hyl (by rw [hy])
          have hc2 := HT.out.2.2 n2 k2
          have hc3 := HT.out.2.2 n3 k3
          obtain ⟨F2, hF2⟩ : ∃ F : ByteArray, F = ⟨(fl n2).toArray⟩ := ⟨_, rfl⟩
          obtain ⟨F3, hF3⟩ : ∃ F : ByteArray, F = ⟨(fl n3).toArray⟩ := ⟨_, rfl⟩
          have hs2 : F2.size ≤ 6 := by rw [hF2, size_mkS]; exact fl_len n2 k2
          have hs3 : F3.size ≤ 6 := by rw [hF3, size_mkS]; exact fl_len n3 k3
          rw [← hF2] at hc2
          rw [← hF3] at hc3
          have hG1 : ((Gb ++ F2) ++ Wd) ++ F3 = ⟨(gpd ((prs l m).take (i + 1))).toArray⟩ := by
            rw [prs_take hlt, gpd_app, HGb.out, HWd.out, hF2, hF3, HX.out, hy, HN1.out, m2, m3]; exact str4 _ _ _ _
          have HG1 := Lib.hid hG1
          have j2 : (n2 : Int) < 7 := by omega
          have j3 : (n3 : Int) < 7 := by omega
          have j20 : (0 : Int) ≤ (n2 : Int) := by omega
          have j30 : (0 : Int) ≤ (n3 : Int) := by omega
          clear hG1 hF2 hF3 hy hy0 m2 m3
          as_aux_lemma =>
            go_wp2_with fail
            go_quiet (fail)
            go_wp2_with fail
            go_roundw
            case rel => exact ⟨i + 1, _, by omega, by rw [HP1.out], by rw [HG1.out], by go_num, rfl⟩
            case measure => simp [intOf]; omega
        · have hdg : decide ((i : Int) < (m.length : Int)) = false := decide_eq_false (by omega)
          have hy : m.getD i 0 = 0 := by simp [List.getD_eq_getElem?_getD, List.getElem?_eq_none (Nat.le_of_not_lt hg)]
          have hc2 := HT.out.2.2 0 (by decide)
          have hG1 : ((Gb ++ ⟨#[32]⟩) ++ Wd) ++ ⟨#[32]⟩ = ⟨(gpd ((prs l m).take (i + 1))).toArray⟩ := by
            rw [prs_take hlt, gpd_app, HGb.out, HWd.out, HX.out, hy, HN1.out]; exact str4 (gpd ((prs l m).take i)) (fl (0 % 7)) (wd (x.toNat % 15)) (fl (0 / 7 % 7))
          have HG1 := Lib.hid hG1
          have hc2' : wc.cell? ⟨w.heap.size + 1, 0, none⟩ = some (.string ⟨#[32]⟩) := hc2
          clear hG1 hy hc2
          as_aux_lemma =>
            go_wp2_with fail
            go_quiet (fail)
            go_wp2_with fail
            go_roundw
            case rel => exact ⟨i + 1, _, by omega, by rw [HP1.out], by rw [HG1.out], by go_num, rfl⟩
            case measure => simp [intOf]; omega
      · have hdi : decide ((i : Int) < (l.length : Int)) = false := decide_eq_false (by omega)
        have hil : i = l.length := by omega
        subst hil
        have hall : (prs l m).take l.length = prs l m := List.take_of_length_le (by rw [prs_len]; exact Nat.le_refl _)
        rw [hall] at hpl hgl ⊢
        obtain ⟨L, hL⟩ : ∃ L, prs l m = L := ⟨_, rfl⟩
        have hLl : L.length = l.length := by rw [← hL, prs_len]
        rw [hL] at hpl hgl ⊢
        obtain ⟨P, hP⟩ : ∃ P, pln L = P := ⟨_, rfl⟩
        obtain ⟨G, hG⟩ : ∃ G, gpd L = G := ⟨_, rfl⟩
        have hA0 : Ahead P 0 (pln (L.drop 0)) ∧ Ahead G 0 (gpd (L.drop 0)) := by
          rw [List.drop_zero, hP, hG]; exact ⟨⟨Nat.zero_le _, .inl rfl⟩, ⟨Nat.zero_le _, .inl rfl⟩⟩
        have HA0 := Lib.hid hA0
        rw [hP] at hpl ⊢
        rw [hG] at hgl ⊢
        have HB0 := Lib.hid (show Below w.heap.size w (wc.drewN j) from HT.out.1.trans (belowDrewN _ _ _))
        have HM0 := Lib.hid (HMX.out.below HB0.out)
        clear hall hL hP hG hA0 htl
        go_wp2_with fail
        go_loopw [12, 13, 14] (fun s12 s13 s14 wr => GapRel P G L w s12 s13 s14 wr) (fun _ _ s14 _ => L.length + 1 - (intOf s14).toNat)
        case atStart => exact ⟨0, 0, 0, rfl, rfl, rfl, by omega, fun _ => HA0.out, HB0.out, HM0.out⟩
        case round =>
          obtain ⟨p, q, i, rfl, rfl, rfl, hi, hah, hb, hmx⟩ := hrel
          have HB := Lib.hid hb
          have HM := Lib.hid hmx
          have hsz := hb.size
          clear hb hmx
          by_cases hend : i ≤ L.length
          · have hdi : decide ((i : Int) ≤ (l.length : Int)) = true := decide_eq_true (by omega)
            obtain ⟨hA, hG⟩ := hah hend
            have HA := Lib.hid hA
            have HG := Lib.hid hG
            clear hah hA hG
            obtain ⟨cap, W2, hcv, hcall⟩ := next_at_str (w := wr) P (by omega) HA.out.1 HM.out
            have HC := Lib.hid hcall
            clear hcall
            by_cases hil : i < L.length
            · obtain ⟨x, hx⟩ : ∃ x, L.drop i = x :: L.drop (i + 1) := ⟨_, List.drop_eq_getElem_cons hil⟩
              have hA := HA.out
              have hG := HG.out
              rw [hx] at hA hG
              rcases both tokR_kind hA hG with ⟨er, he, h1, h2⟩ | ⟨k, n, t, r1, r2, hk, h1, h2, hn⟩
              · have he0 : (er != 0) = true := by simp [he]
                clear hA hG hx he
                rw [h1] at HC
                have HH2 := Lib.hid h2
                clear h1 h2
                as_aux_lemma =>
                  unfold nextV tkV at HC
                  go_wp2_with fail
                  refine HC.out.mono ?_; rintro e w3 ⟨rfl, hb3⟩
                  have hbA := tokY_rel hb3 0 0 ⟨#[]⟩
                  have HBA := Lib.hid hbA
                  have HB3 := Lib.hid hb3
                  obtain ⟨cap2, W4, hcv2, hcall2⟩ := next_at_str (w := w3.alloc (tokB 0 0 ⟨#[]⟩)) G (by omega) HG.out.1 (HM.out.below hbA)
                  have hs4 : (w3.alloc (tokB 0 0 ⟨#[]⟩)).heap.size = w3.heap.size + 1 := by simp
                  rw [hs4] at hcv2 hcall2
                  clear hs4
                  rw [HH2.out] at hcall2
                  unfold nextV tkV at hcall2
                  unfold tokB at hcv2 hcall2
                  have HC2 := Lib.hid hcall2
                  clear hcall2 hb3 hbA
                  go_wp2_with fail
                  refine HC2.out.mono ?_; rintro e w5 ⟨rfl, hb5⟩
                  have hT : w5.heap[w3.heap.size]? = some (tokB 0 0 ⟨#[]⟩) := (hb5.block w3.heap.size (by simp)).trans (tok_new w3 _ _ _)
                  have hTa := tok_alloc hT (tokB 0 0 ⟨#[]⟩)
                  obtain ⟨t0, t1, t2, g0, g1, g2⟩ := tok_c hTa
                  unfold tokB at t0 t1 t2 g0 g1 g2
                  have HB6 := Lib.hid (show Below wr.heap.size wr (w5.alloc (tokB 0 0 ⟨#[]⟩)) from tokY_rel (HBA.out.trans (hb5.mono (by have := HB3.out.size; omega))) _ _ _)
                  clear hb5 hT hTa
                  go_wp2_with fail
                  go_ret
                  exact ⟨rfl, HB.out.trans (HB6.out.mono HB.out.size)⟩
              · have HNext := Lib.hid hn
                clear hA hG hx hk hn
                rw [h1] at HC
                have HH2 := Lib.hid h2
                clear h1 h2
                as_aux_lemma =>
                  unfold nextV tkV at HC
                  go_wp2_with fail
                  refine HC.out.mono ?_; rintro e w3 ⟨rfl, hb3⟩
                  have hbA := tokY_rel hb3 k n ⟨t.toArray⟩
                  have HBA := Lib.hid hbA
                  have HB3 := Lib.hid hb3
                  obtain ⟨cap2, W4, hcv2, hcall2⟩ := next_at_str (w := w3.alloc (tokB k n ⟨t.toArray⟩)) G (by omega) HG.out.1 (HM.out.below hbA)
                  have hs4 : (w3.alloc (tokB k n ⟨t.toArray⟩)).heap.size = w3.heap.size + 1 := by simp
                  rw [hs4] at hcv2 hcall2
                  clear hs4
                  rw [HH2.out] at hcall2
                  unfold nextV tkV at hcall2
                  unfold tokB at hcv2 hcall2
                  have HC2 := Lib.hid hcall2
                  clear hcall2 hb3 hbA
                  go_wp2_with fail
                  refine HC2.out.mono ?_; rintro e w5 ⟨rfl, hb5⟩
                  have hT : w5.heap[w3.heap.size]? = some (tokB k n ⟨t.toArray⟩) := (hb5.block w3.heap.size (by simp)).trans (tok_new w3 _ _ _)
                  have hTa := tok_alloc hT (tokB k n ⟨t.toArray⟩)
                  obtain ⟨t0, t1, t2, g0, g1, g2⟩ := tok_c hTa
                  unfold tokB at t0 t1 t2 g0 g1 g2
                  have HB6 := Lib.hid (show Below wr.heap.size wr (w5.alloc (tokB k n ⟨t.toArray⟩)) from tokY_rel (HBA.out.trans (hb5.mono (by have := HB3.out.size; omega))) _ _ _)
                  clear hb5 hT hTa
                  go_wp2_with fail
                  go_roundw
                  case rel => exact ⟨_, _, i + 1, rfl, rfl, by go_num, by omega, fun _ => HNext.out, HB.out.trans (HB6.out.mono HB.out.size), HM.out.below HB6.out⟩
                  case measure => simp [intOf]; omega
            · have hie : i = L.length := by omega
              have hA := HA.out
              have hG := HG.out
              rw [hie, List.drop_of_length_le (Nat.le_refl _)] at hA hG
              obtain ⟨h1, h2⟩ := both_end (tk := tokR) hA hG
              clear hA hG hie
              rw [h1] at HC
              have HH2 := Lib.hid h2
              clear h1 h2
              as_aux_lemma =>
                unfold nextV tkV at HC
                go_wp2_with fail
                refine HC.out.mono ?_; rintro e w3 ⟨rfl, hb3⟩
                have hbA := tokY_rel hb3 0 0 ⟨#[]⟩
                have HBA := Lib.hid hbA
                have HB3 := Lib.hid hb3
                obtain ⟨cap2, W4, hcv2, hcall2⟩ := next_at_str (w := w3.alloc (tokB 0 0 ⟨#[]⟩)) G (by omega) HG.out.1 (HM.out.below hbA)
                have hs4 : (w3.alloc (tokB 0 0 ⟨#[]⟩)).heap.size = w3.heap.size + 1 := by simp
                rw [hs4] at hcv2 hcall2
                clear hs4
                rw [HH2.out] at hcall2
                unfold nextV tkV at hcall2
                unfold tokB at hcv2 hcall2
                have HC2 := Lib.hid hcall2
                clear hcall2 hb3 hbA
                go_wp2_with fail
                refine HC2.out.mono ?_; rintro e w5 ⟨rfl, hb5⟩
                have hT : w5.heap[w3.heap.size]? = some (tokB 0 0 ⟨#[]⟩) := (hb5.block w3.heap.size (by simp)).trans (tok_new w3 _ _ _)
                have hTa := tok_alloc hT (tokB 0 0 ⟨#[]⟩)
                obtain ⟨t0, t1, t2, g0, g1, g2⟩ := tok_c hTa
                unfold tokB at t0 t1 t2 g0 g1 g2
                have HB6 := Lib.hid (show Below wr.heap.size wr (w5.alloc (tokB 0 0 ⟨#[]⟩)) from tokY_rel (HBA.out.trans (hb5.mono (by have := HB3.out.size; omega))) _ _ _)
                clear hb5 hT hTa
                go_wp2_with fail
                go_roundw
                case rel => exact ⟨_, _, i + 1, rfl, rfl, by go_num, by omega, fun h => by omega, HB.out.trans (HB6.out.mono HB.out.size), HM.out.below HB6.out⟩
                case measure => simp [intOf]; omega
          · have hdi : decide ((i : Int) ≤ (l.length : Int)) = false := decide_eq_false (by omega)
            clear hah
            as_aux_lemma =>
              go_wp2_with fail
              refine (answers_any _).mono ?_; rintro e w3 ⟨rfl, hb3⟩
              have HB3 := Lib.hid (HB.out.trans (hb3.mono HB.out.size))
              clear hb3
              go_wp2_with fail
              go_ret
              exact ⟨rfl, HB3.out⟩
  · have hd : decide ((200 : Int) < (l.length : Int)) = true := decide_eq_true (by omega)
    go_wp2_with fail
    refine (answers_any _).mono ?_; rintro e w1 ⟨rfl, hb1⟩
    have HB1 := Lib.hid (HT.out.1.trans (hb1.mono hsz))
    clear hb1
    go_wp2_with fail
    go_ret
    exact ⟨rfl, HB1.out⟩
end Go.Proofs.Ytaebpjcigajolaa
