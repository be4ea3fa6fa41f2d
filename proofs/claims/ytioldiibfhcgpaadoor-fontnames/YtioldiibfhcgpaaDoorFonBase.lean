/-
  What the walks of the fonts want: blocks known whole, the table of names.
-/
import Derived.Test.YtioldiibfhcgpaaDoorRows
import Derived.Test.YtioldiibfhcgpaaDoorFonMath
import Derived.WalkKit
import Derived.WalkSpells
import Derived.WalkLawsBesides
import Derived.BigQuiet
import Derived.Below
import Derived.Laws.Rows
import Derived.Laws.Tables
import Derived.Deep.WholeRow
import Derived.Deep.QuietTactic
import Derived.Deep.DeepCutAuto
import Derived.LaidLaws
import Derived.ChangeArms
namespace Go.Proofs.YtioldiibfhcgpaaDoor
open Go.RowKit
namespace Fo
theorem ret_int {k : IntKind} {a b : Int} (h : a = b) : Ending.returned (.int k a) = .returned (.int k b) := by rw [h]
theorem bthen {w v u : World} (h : Below w.heap.size w v) (k : Below v.heap.size v u) : Below w.heap.size w u := h.trans (k.mono h.size)
theorem below1 (w : World) (o : Obj) : Below w.heap.size w (w.alloc o) := (Below.refl _ _).alloc (by simp) _
theorem blk_set {W : World} {B : Nat} {cs : Array Value} {t : TypeId} {fr : Nat × Nat} (h : W.heap[B]? = some (.cells cs t fr)) (j : Nat) (v : Value) : (W.setCell ⟨B, j, none⟩ v).heap[B]? = some (.cells (cs.setIfInBounds j v) t fr) := by
  simp only [World.setCell, Array.getElem?_modify, if_true, h, Option.map_some, Option.isSome_none]
  rfl
theorem blk_far {W : World} {B b j : Nat} (h : b ≠ B) (v : Value) : (W.setCell ⟨B, j, none⟩ v).heap[b]? = W.heap[b]? := Below.heap_setCell _ _ _ _ h
theorem blk_cell {W : World} {B : Nat} {cs : Array Value} {t : TypeId} {fr : Nat × Nat} (h : W.heap[B]? = some (.cells cs t fr)) (j : Nat) : W.cell? ⟨B, j, none⟩ = cs[j]? := by simp [World.cell?, h]
theorem blk_free {W : World} {B : Nat} {cs : Array Value} {t : TypeId} (h : W.heap[B]? = some (.cells cs t (0, 0))) (j : Nat) : W.frozen? ⟨B, j, none⟩ = false := by simp [World.frozen?, h]
/-- the widths as an array's cells -/
def cv (l : List Int) : Array Value := (l.map fun n => Value.int .u16 n).toArray
theorem cv_size (l : List Int) : (cv l).size = l.length := by simp [cv]
theorem cv_at (l : List Int) (k : Nat) (h : k < l.length) : (cv l)[k]? = some (.int .u16 (l.getD k 0)) := by
  simp [cv, List.getD_eq_getElem?_getD, List.getElem?_eq_getElem h]
/-- no width at all -/
def zc : Array Value := cv (List.replicate 95 0)
theorem zc_size : zc.size = 95 := by simp [zc, cv]
theorem w_info : (Tryd.prog.info? 38).map (fun i => (i.zero, i.size)) = some (some (.agg zc), 95) := by kernel_rfl
theorem w_zero (w : World) : (zeroValue 38).run Tryd.prog w = .ok (.agg zc) w := (zero_of_info w_info).1 w
theorem w_size : (Tryd.prog.info? 38).map (·.size) = some 95 := (zero_of_info w_info).2
theorem cv_all (l : List Int) : (cv l).all (·.oneCell') = true := by
  rw [Array.all_eq_true_iff_forall_mem]
  intro v hv
  simp only [cv, List.mem_toArray, List.mem_map] at hv
  obtain ⟨n, _, rfl⟩ := hv
  rfl
theorem w_size_of (l : List Int) (h : l.length = 95) : (Tryd.prog.info? 38).map (·.size) = some (cv l).size := by rw [cv_size, h]; exact w_size
theorem zc_of (l : List Int) (h : l.length = 95) : zc.size = (cv l).size := by rw [cv_size, h]; exact zc_size
theorem below_setRow {B g : Nat} {a w : World} (h : Below B a w) (hg : B ≤ g) (cs : Array Value) : Below B a (w.setRow g cs) :=
  h.trans ⟨rfl, rfl, rfl, by simp, fun i hi => setRow_other w g i cs (by omega)⟩
theorem wpList_built {ops : Array Oper} {rest : List Oper} {o : Oper} {a : Act} {w : World} {Q : Exit → Act → World → Prop} (hg : o.guard = none) (t : TypeId) (parts : Array (Nat × Operand)) (ho : o.op = .build t parts) (cells : Array Value)
    (hf : Tryd.prog.built t (parts.map fun (i, x) => (i, a.eval x)).toList = some cells)
    (h : wpList Tryd.prog ops Q rest (a.put o.dst (.agg cells)) w) : wpList Tryd.prog ops Q (o :: rest) a w :=
  wpList_build hg t parts ho (by rw [hf]; rfl) (by rw [hf]; exact h)
/-- the fonts' names as a string -/
def nmS (k : Nat) : ByteArray := ⟨(nmL k).toArray⟩
/-- the names lie in the table -/
def NmT (w : World) : Prop := ∀ k, k < 14 → w.cell? ⟨0, k, none⟩ = some (.string (nmS k))
theorem nm_glob : Tryd.prog.globalNamed "mezzotint/font.names" = some 0 := by kernel_rfl
theorem NmT.lt {w : World} (h : NmT w) : 0 < w.heap.size := block_lt_of_cell (h 0 (by omega))
theorem NmT.below {w w' : World} (h : NmT w) (hb : Below w.heap.size w w') : NmT w' := fun k hk => by
  rw [hb.cell (p := ⟨0, k, none⟩) h.lt]; exact h k hk
end Fo
end Go.Proofs.YtioldiibfhcgpaaDoor
