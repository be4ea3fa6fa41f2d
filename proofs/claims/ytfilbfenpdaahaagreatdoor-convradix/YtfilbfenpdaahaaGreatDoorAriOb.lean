/-
  Objects, plainly, and what an operator's outcome is.
-/
import Derived.Test.YtfilbfenpdaahaaGreatDoorFixWhole
import Derived.WalkLawsBesides
import Derived.Below
namespace Go.Proofs.YtfilbfenpdaahaaGreatDoor
open Go.RowKit
open Fx
namespace Ari
/-- an object, plainly -/
structure Ob where
  kind : Int
  exec : Bool
  acc : Int
  n : Int
  name : ByteArray
  ref : Int
  frm : Int
  len : Int
def Ob.cells (o : Ob) : List Value := [.int .i64 o.kind, .bool o.exec, .int .i64 o.acc, .int .i64 o.n, .string o.name, .int .i64 o.ref, .int .i64 o.frm, .int .i64 o.len]
def Ob.val (o : Ob) : Value := .agg #[.int .i64 o.kind, .bool o.exec, .int .i64 o.acc, .int .i64 o.n, .string o.name, .int .i64 o.ref, .int .i64 o.frm, .int .i64 o.len]
/-- the document's own value of it -/
def Ob.vl (o : Ob) : Value := .agg #[.int .i64 o.kind, .bool o.exec, .int .i64 o.acc, .int .i64 o.n, .string o.name, .pointer none, .pointer none, .pointer none, .int .i64 0, .int .i64 0]
/-- an object that has a kind and a number alone -/
def mk (k n : Int) : Ob := ⟨k, false, 0, n, ⟨#[]⟩, 0, 0, 0⟩
def isIntB (o : Ob) : Bool := o.kind == 1 && fits o.n
def isNumB (o : Ob) : Bool := (o.kind == 1 || o.kind == 2) && fits o.n
def isTruB (o : Ob) : Bool := o.kind == 3 && (o.n == 0 || o.n == 1)
def valI (o : Ob) : Int := if o.kind = 1 then o.n * 65536 else o.n
/-- as a Real: the number, and the error -/
def asV (o : Ob) : Int := if isNumB o = true then (if o.kind = 1 then frV o.n else o.n) else 0
def asE (o : Ob) : Int := if isNumB o = true then (if o.kind = 1 then frE o.n else 0) else 16
theorem bthen {w v u : World} (h : Below w.heap.size w v) (k : Below v.heap.size v u) : Below w.heap.size w u := h.trans (k.mono h.size)
theorem below1 (w : World) (o : Obj) : Below w.heap.size w (w.alloc o) := (Below.refl _ _).alloc (by simp) _
theorem below2 (w : World) (o p : Obj) : Below w.heap.size w ((w.alloc o).alloc p) := bthen (below1 w o) (below1 _ p)
theorem below_draw {B : Nat} {w w' : World} (h : Below B w w') (q : Nat) : Below B w (w'.drewN q) := h.trans ⟨rfl, rfl, rfl, Nat.le_refl _, fun _ _ => rfl⟩
theorem bdraw (w : World) (q : Nat) : Below w.heap.size w (w.drewN q) := below_draw (Below.refl _ _) q
theorem rule {W w1 : World} (hb : Below W.heap.size W w1) (k : Nat) (hk : k < W.heap.size) : ∀ o, w1.cell? ⟨k, o, none⟩ = W.cell? ⟨k, o, none⟩ := fun o => hb.cell (p := ⟨k, o, none⟩) hk
theorem ruleD {W w1 : World} (hb : Below W.drew.heap.size W.drew w1) (k : Nat) (hk : k < W.heap.size) : ∀ o, w1.cell? ⟨k, o, none⟩ = W.cell? ⟨k, o, none⟩ := fun o => hb.cell (p := ⟨k, o, none⟩) hk
theorem bthenD {w v u : World} (h : Below w.heap.size w v) (k : Below v.drew.heap.size v.drew u) : Below w.heap.size w u := bthen h.drew k
theorem ruleF {W w1 : World} (hb : Below W.heap.size W w1) (k : Nat) (hk : k < W.heap.size) : ∀ o, w1.frozen? ⟨k, o, none⟩ = W.frozen? ⟨k, o, none⟩ := fun o => hb.frozen (p := ⟨k, o, none⟩) hk
theorem isInt_iff (o : Ob) : isIntB o = true ↔ o.kind = 1 ∧ -2147483648 ≤ o.n ∧ o.n ≤ 2147483647 := by
  unfold isIntB; rw [Bool.and_eq_true, fits_iff]; simp
theorem isNum_iff (o : Ob) : isNumB o = true ↔ (o.kind = 1 ∨ o.kind = 2) ∧ -2147483648 ≤ o.n ∧ o.n ≤ 2147483647 := by
  unfold isNumB; rw [Bool.and_eq_true, fits_iff]; simp
theorem isTru_iff (o : Ob) : isTruB o = true ↔ o.kind = 3 ∧ (o.n = 0 ∨ o.n = 1) := by
  unfold isTruB; simp
theorem isInt_num {o : Ob} (h : isIntB o = true) : isNumB o = true := by
  rw [isInt_iff] at h; rw [isNum_iff]; exact ⟨.inl h.1, h.2⟩
theorem isInt_any (o : Ob) (w : World) : Calls Tryz.prog 133 #[o.val] w fun e w' => e = .returned (.bool (isIntB o)) ∧ Below w.heap.size w w' := by
  obtain ⟨kd, ex, ac, n, nm, rf, fr, ln⟩ := o
  unfold Ob.val isIntB fits
  simp only
  by_cases hk : (kd == 1) = true
  · by_cases h1 : -2147483648 ≤ n
    · go_enter Tryz.func133, Tryz.ntmps133
      go_wp2
      go_ret
      exact ⟨by simp [h1, hk], below1 w _⟩
    · go_enter Tryz.func133, Tryz.ntmps133
      go_wp2
      go_ret
      exact ⟨by simp; omega, below1 w _⟩
  · have hk' : (kd == 1) = false := by simpa using hk
    go_enter Tryz.func133, Tryz.ntmps133
    go_wp2
    go_ret
    exact ⟨by simp [hk'], below1 w _⟩
theorem isNum_any (o : Ob) (w : World) : Calls Tryz.prog 111 #[o.val] w fun e w' => e = .returned (.bool (isNumB o)) ∧ Below w.heap.size w w' := by
  have hI := isInt_any o
  have hF := fixFits_any o.n
  have e : isNumB o = (isIntB o || (o.kind == 2 && fits o.n)) := by
    unfold isNumB isIntB
    cases h1 : (o.kind == 1) <;> cases h2 : (o.kind == 2) <;> cases fits o.n <;> rfl
  rw [e]
  generalize hb : isIntB o = b at hI ⊢
  generalize hc : fits o.n = c at hF ⊢
  clear hb hc e
  obtain ⟨kd, ex, ac, n, nm, rf, fr, ln⟩ := o
  unfold Ob.val at *
  simp only at *
  cases b
  · cases hk : (kd == 2)
    · go_enter Tryz.func111, Tryz.ntmps111
      go_wp2_with fail
      refine (hI _).mono ?_; rintro e w1 ⟨rfl, hb⟩
      have r0 := rule hb w.heap.size (by simp)
      have HB := Lib.hid (bthen (below1 _ _) hb)
      clear hb
      go_wp2_with fail
      go_ret
      exact ⟨by simp, HB.out⟩
    · go_enter Tryz.func111, Tryz.ntmps111
      go_wp2_with fail
      refine (hI _).mono ?_; rintro e w1 ⟨rfl, hb⟩
      have r0 := rule hb w.heap.size (by simp)
      have HB := Lib.hid (bthen (below1 _ _) hb)
      clear hb
      go_wp2_with fail
      refine (hF _).mono ?_; rintro e w' ⟨rfl, rfl⟩
      go_wp2_with fail
      go_ret
      exact ⟨by simp, HB.out⟩
  · go_enter Tryz.func111, Tryz.ntmps111
    go_wp2_with fail
    refine (hI _).mono ?_; rintro e w1 ⟨rfl, hb⟩
    have r0 := rule hb w.heap.size (by simp)
    have HB := Lib.hid (bthen (below1 _ _) hb)
    clear hb
    go_wp2_with fail
    go_ret
    exact ⟨by simp, HB.out⟩
theorem both_int (a b : Ob) (w : World) : Calls Tryz.prog 110 #[a.val, b.val, .func (.func 133) #[] #[]] w fun e w' => e = .returned (.bool (isIntB a && isIntB b)) ∧ Below w.heap.size w w' := by
  have ha := isInt_any a
  have hb := isInt_any b
  generalize isIntB a = x at *
  generalize isIntB b = y at *
  unfold Ob.val at *
  cases x
  · go_enter Tryz.func110, Tryz.ntmps110
    go_wp2_with fail
    refine (ha _).mono ?_; rintro e w1 ⟨rfl, hb1⟩
    go_wp2_with fail
    go_ret
    exact ⟨by simp, bthen (below2 _ _ _) hb1⟩
  · go_enter Tryz.func110, Tryz.ntmps110
    go_wp2_with fail
    refine (ha _).mono ?_; rintro e w1 ⟨rfl, hb1⟩
    have r0 := rule hb1 (w.heap.size + 1) (by simp)
    have HB := Lib.hid (bthen (below2 _ _ _) hb1)
    clear hb1
    go_wp2_with fail
    refine (hb _).mono ?_; rintro e w2 ⟨rfl, hb2⟩
    go_wp2_with fail
    go_ret
    exact ⟨by simp, bthen HB.out hb2⟩
theorem both_num (a b : Ob) (w : World) : Calls Tryz.prog 110 #[a.val, b.val, .func (.func 111) #[] #[]] w fun e w' => e = .returned (.bool (isNumB a && isNumB b)) ∧ Below w.heap.size w w' := by
  have ha := isNum_any a
  have hb := isNum_any b
  generalize isNumB a = x at *
  generalize isNumB b = y at *
  unfold Ob.val at *
  cases x
  · go_enter Tryz.func110, Tryz.ntmps110
    go_wp2_with fail
    refine (ha _).mono ?_; rintro e w1 ⟨rfl, hb1⟩
    go_wp2_with fail
    go_ret
    exact ⟨by simp, bthen (below2 _ _ _) hb1⟩
  · go_enter Tryz.func110, Tryz.ntmps110
    go_wp2_with fail
    refine (ha _).mono ?_; rintro e w1 ⟨rfl, hb1⟩
    have r0 := rule hb1 (w.heap.size + 1) (by simp)
    have HB := Lib.hid (bthen (below2 _ _ _) hb1)
    clear hb1
    go_wp2_with fail
    refine (hb _).mono ?_; rintro e w2 ⟨rfl, hb2⟩
    go_wp2_with fail
    go_ret
    exact ⟨by simp, bthen HB.out hb2⟩
theorem value_any (o : Ob) (w : World) (h : isNumB o = true) : Calls Tryz.prog 112 #[o.val] w fun e w' => e = .returned (.int .i64 (valI o)) ∧ Below w.heap.size w w' := by
  obtain ⟨hk, h1, h2⟩ := (isNum_iff o).1 h
  clear h
  unfold valI
  obtain ⟨kd, ex, ac, n, nm, rf, fr, ln⟩ := o
  unfold Ob.val
  simp only at *
  by_cases h : kd = 1
  · rw [if_pos h]
    subst h
    clear hk
    go_enter Tryz.func112, Tryz.ntmps112
    go_wp2
    go_ret
    exact ⟨rfl, below1 w _⟩
  · rw [if_neg h]
    have hk' : (kd == 1) = false := by simpa using h
    clear hk h
    go_enter Tryz.func112, Tryz.ntmps112
    go_wp2
    go_ret
    exact ⟨rfl, below1 w _⟩
end Ari
end Go.Proofs.YtfilbfenpdaahaaGreatDoor
