/-
  What coll's calls ask of an operand: its kind, its access; whether all operands are valid.
-/
import Derived.Test.YtmcopfcmnbhaaaaGreatColBase
import Derived.Test.YtmcopfcmnbhaaaaGreatStkRow
namespace Go.Proofs.YtmcopfcmnbhaaaaGreat
open Go.RowKit
open St
open Stk
namespace Col
def cvC (s : Nat) : Obj := .cells #[.pointer (some ⟨s, 0, none⟩)] 103
theorem accessOf_at (s : Nat) (o : Ob) (hk : o.kind ≠ 8) (w : World) : Calls Tryz.prog 125 #[cv s, o.val] w fun x w' => x = .returned (.int .i64 o.acc) ∧ Below w.heap.size w w' := by
  have HB := Lib.hid (below2 w (cvC s) (obC o))
  have h8 : (o.kind == 8) = false := by simp [hk]
  unfold cvC obC at HB
  unfold cv Ob.val
  clear hk
  go_enter Tryz.func125, Tryz.ntmps125
  go_wp2_with fail
  go_ret
  exact ⟨rfl, HB.out⟩
theorem read_ok (s : Nat) (o : Ob) (hk : o.kind ≠ 8) (ha : o.acc = 0 ∨ o.acc = 1) (w : World) : Calls Tryz.prog 103 #[cv s, o.val] w fun x w' => x = .returned (.tuple #[]) ∧ Below w.heap.size w w' := by
  have HB := Lib.hid (below2 w (cvC s) (obC o))
  have HA := Lib.hid (fun w => accessOf_at s o hk w)
  unfold cvC obC at HB
  unfold cv Ob.val at HA
  unfold cv Ob.val
  rcases ha with ha | ha
  · rw [ha] at HA HB ⊢
    clear hk ha
    go_enter Tryz.func103, Tryz.ntmps103
    go_wp2_with fail
    refine (HA.out _).mono ?_; rintro e w2 ⟨rfl, hb⟩
    have HB2 := Lib.hid (bthen HB.out hb)
    clear hb
    go_wp2_with fail
    go_end0
    exact ⟨rfl, HB2.out⟩
  · rw [ha] at HA HB ⊢
    clear hk ha
    go_enter Tryz.func103, Tryz.ntmps103
    go_wp2_with fail
    refine (HA.out _).mono ?_; rintro e w2 ⟨rfl, hb⟩
    have HB2 := Lib.hid (bthen HB.out hb)
    clear hb
    go_wp2_with fail
    go_end0
    exact ⟨rfl, HB2.out⟩
theorem write_ok (s : Nat) (o : Ob) (hk : o.kind ≠ 8) (ha : o.acc = 0) (w : World) : Calls Tryz.prog 110 #[cv s, o.val] w fun x w' => x = .returned (.tuple #[]) ∧ Below w.heap.size w w' := by
  have HB := Lib.hid (below2 w (cvC s) (obC o))
  have HA := Lib.hid (fun w => accessOf_at s o hk w)
  unfold cvC obC at HB
  unfold cv Ob.val at HA
  unfold cv Ob.val
  rw [ha] at HA HB ⊢
  clear hk ha
  go_enter Tryz.func110, Tryz.ntmps110
  go_wp2_with fail
  refine (HA.out _).mono ?_; rintro e w2 ⟨rfl, hb⟩
  have HB2 := Lib.hid (bthen HB.out hb)
  clear hb
  go_wp2_with fail
  go_end0
  exact ⟨rfl, HB2.out⟩
theorem isInt_ok (n : Int) (h0 : -2147483648 ≤ n) (h1 : n ≤ 2147483647) (x : Bool) (a r f l : Int) (nm : ByteArray) (w : World) : Calls Tryz.prog 98 #[(⟨1, x, a, n, nm, r, f, l⟩ : Ob).val] w fun y w' => y = .returned (.bool true) ∧ Below w.heap.size w w' := by
  have HB := Lib.hid (below1 w (obC ⟨1, x, a, n, nm, r, f, l⟩))
  have d0 : decide (-2147483648 ≤ n) = true := decide_eq_true h0
  have d1 : decide (n ≤ 2147483647) = true := decide_eq_true h1
  unfold obC at HB
  unfold Ob.val
  go_enter Tryz.func98, Tryz.ntmps98
  go_wp2_with fail
  go_ret
  exact ⟨rfl, HB.out⟩
theorem isRow_at (o : Ob) (w : World) : Calls Tryz.prog 102 #[o.val] w fun y w' => y = .returned (.bool (o.kind == 7 || o.kind == 6)) ∧ Below w.heap.size w w' := by
  have HB := Lib.hid (below1 w (obC o))
  unfold obC at HB
  unfold Ob.val
  by_cases h7 : o.kind = 7
  · rw [h7] at HB ⊢
    clear h7
    go_enter Tryz.func102, Tryz.ntmps102
    go_wp2_with fail
    go_ret
    exact ⟨rfl, HB.out⟩
  · have e7 : (o.kind == 7) = false := by simp [h7]
    rw [e7, Bool.false_or]
    clear h7
    go_enter Tryz.func102, Tryz.ntmps102
    go_wp2_with fail
    go_ret
    exact ⟨rfl, HB.out⟩
/-- the objects at a plain address -/
theorem SrcO.plain {w : World} {a : Option Addr} {l : List Ob} (h : SrcO w a l) (hl : l ≠ []) : ∃ b o, a = some ⟨b, o, none⟩ ∧ b < w.heap.size ∧ ∀ j z, (l.flatMap Ob.cells)[j]? = some z → w.cell? ⟨b, o + j, none⟩ = some z := by
  rcases h with h | ⟨ad, e, hc⟩
  · exact absurd h hl
  · obtain ⟨x, t, rfl⟩ := List.exists_cons_of_ne_nil hl
    have h0 := hc 0 (.int .i64 x.kind) (by simp [Ob.cells])
    have hs := World.cell?_spot h0
    obtain ⟨b, o, sp⟩ := ad
    have hsp : sp = none := by simpa [Addr.add] using hs
    subst hsp
    exact ⟨b, o, e, by have := World.block_lt_of_cell? w _ h0; simpa [Addr.add] using this, fun j z hz => by have := hc j z hz; rwa [Addr.add_lit] at this⟩
theorem ob_cells {w : World} {b o i : Nat} {l : List Ob} {x : Ob} (h : ∀ j z, (l.flatMap Ob.cells)[j]? = some z → w.cell? ⟨b, o + j, none⟩ = some z) (hx : l[i]? = some x) :
    w.cell? ⟨b, o + i * 8, none⟩ = some (.int .i64 x.kind) ∧ w.cell? ⟨b, o + i * 8 + 1, none⟩ = some (.bool x.exec) ∧ w.cell? ⟨b, o + i * 8 + 2, none⟩ = some (.int .i64 x.acc) ∧ w.cell? ⟨b, o + i * 8 + 3, none⟩ = some (.int .i64 x.n) ∧
    w.cell? ⟨b, o + i * 8 + 4, none⟩ = some (.string x.name) ∧ w.cell? ⟨b, o + i * 8 + 5, none⟩ = some (.int .i64 x.ref) ∧ w.cell? ⟨b, o + i * 8 + 6, none⟩ = some (.int .i64 x.frm) ∧ w.cell? ⟨b, o + i * 8 + 7, none⟩ = some (.int .i64 x.len) := by
  have hf : ∀ f z, f < 8 → x.cells[f]? = some z → w.cell? ⟨b, o + i * 8 + f, none⟩ = some z := fun f z hf hz => by
    have := h (i * 8 + f) z (by rw [obs_at l i f x hx hf]; exact hz)
    rwa [← Nat.add_assoc] at this
  exact ⟨by simpa using hf 0 _ (by omega) rfl, hf 1 _ (by omega) rfl, hf 2 _ (by omega) rfl, hf 3 _ (by omega) rfl, hf 4 _ (by omega) rfl, hf 5 _ (by omega) rfl, hf 6 _ (by omega) rfl, hf 7 _ (by omega) rfl⟩
end Col
end Go.Proofs.YtmcopfcmnbhaaaaGreat
