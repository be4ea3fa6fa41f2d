/-
  bytes.Index of two rows, by the shelf.
-/
import Derived.Test.YtmcopfcmnbhaaaaGreatShelf
import Derived.Test.YtmcopfcmnbhaaaaGreatColSrch
namespace Go.Proofs.YtmcopfcmnbhaaaaGreat
open Go.RowKit
open St
def MxC (w : World) : Prop := ∃ m : Int, w.cell? ⟨0, 0, none⟩ = some (.int .i64 m)
namespace Col
theorem bytesOf_map (X : List UInt8) : Lib.bytesOf (X.map fun c => (c.toNat : Int)) = X := by
  induction X with
  | nil => rfl
  | cons c l ih =>
    simp only [List.map_cons, Lib.bytesOf] at ih ⊢
    simp [ih]
theorem row_cells {w : World} {B : Nat} {X : List UInt8} (h : w.heap[B]? = some (.cells (X.map bv).toArray 5 (0, 0))) (i : Nat) (hi : i < X.length) : w.cell? ((⟨B, 0, none⟩ : Addr).add i) = some (.int .u8 ((X.map fun c => (c.toNat : Int)).getD i 0)) := by
  rw [Addr.add_lit, Nat.zero_add, blk_cell h i]
  simp [bv, hi]
theorem idx_of {w : World} (hm : MxC w) : IdxAt w := by
  intro X Y B1 B2 w' hX hY h1 h2 hb
  obtain ⟨m, hm⟩ := hm
  have hm2 : w'.cell? ⟨0, 0, none⟩ = some (.int .i64 m) := (hb.cell (World.block_lt_of_cell? w _ hm)).trans hm
  have := Tryz.bytes_Index_at ⟨B1, 0, none⟩ ⟨B2, 0, none⟩ X.length X.length Y.length Y.length (X.map fun c => (c.toNat : Int)) (Y.map fun c => (c.toNat : Int)) m w' (by simp) (by simp)
    (fun x hx => by obtain ⟨c, _, rfl⟩ := List.mem_map.1 hx; have := c.toNat_lt; omega) (fun x hx => by obtain ⟨c, _, rfl⟩ := List.mem_map.1 hx; have := c.toNat_lt; omega)
    (fun i hi => row_cells h1 i hi) (fun i hi => row_cells h2 i hi) (Nat.le_refl _) (by omega) (by omega) hm2
  rw [bytesOf_map, bytesOf_map] at this
  exact this
end Col
end Go.Proofs.YtmcopfcmnbhaaaaGreat
