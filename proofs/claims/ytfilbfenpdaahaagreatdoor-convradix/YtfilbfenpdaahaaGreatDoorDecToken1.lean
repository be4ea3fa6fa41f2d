/-
  The contract of Token where a # stands in the text.
-/
import Derived.Test.YtfilbfenpdaahaaGreatDoorDecRead
namespace Go.Proofs.YtfilbfenpdaahaaGreatDoor
open Go.RowKit
open Fx Dc
/-- the library's own variable MaxLen holds some int -/
def Mx (w : World) : Prop := ∃ m : Int, w.cell? ⟨3, 0, none⟩ = some (.int .i64 m)
theorem bcell {W w1 : World} (hb : Below W.heap.size W w1) : (∀ b o, b < W.heap.size → w1.cell? ⟨b, o, none⟩ = W.cell? ⟨b, o, none⟩) ∧ (∀ b o, b < W.heap.size → w1.frozen? ⟨b, o, none⟩ = W.frozen? ⟨b, o, none⟩) :=
  ⟨fun b o h => hb.cell (p := ⟨b, o, none⟩) h, fun b o h => hb.frozen (p := ⟨b, o, none⟩) h⟩
theorem Mx.below {w w' : World} (h : Mx w) (hb : Below w.heap.size w w') : Mx w' := by
  obtain ⟨m, hm⟩ := h
  exact ⟨m, by rw [(bcell hb).1 _ _ (World.block_lt_of_cell? w _ hm)]; exact hm⟩
theorem below_draws (w : World) (k : Nat) : Below w.heap.size w (w.drewN k) := ⟨rfl, rfl, rfl, Nat.le_refl _, fun _ _ => rfl⟩
theorem below_made (w : World) (o : Obj) (j : Nat) {w1 : World} (h : Below ((w.alloc o).drewN j).heap.size ((w.alloc o).drewN j) w1) : Below w.heap.size w w1 :=
  bthen (bthen ((Below.refl _ w).alloc (Nat.le_refl _) o) (below_draws _ j)) h
theorem cut_any (s : ByteArray) (c : UInt8) (hs : s.size ≤ 3000) (w : World) (hm : Mx w) :
    Calls Tryz.prog 85 #[.string s, .string ⟨#[c]⟩] w fun e w' => e = .returned (.tuple #[.string ⟨(Lib.cut s.data.toList [c]).1.toArray⟩, .string ⟨(Lib.cut s.data.toList [c]).2.1.toArray⟩, .bool (Lib.cut s.data.toList [c]).2.2]) ∧ ∃ n, w' = w.drewN n := by
  obtain ⟨m, hm⟩ := hm
  exact Tryz.strings_Cut s ⟨#[c]⟩ m w (by omega) hm
theorem token_radix (s b d : ByteArray) (hs : s.size ≤ 64) (w : World) (hm : Mx w) (hc : Lib.cut s.data.toList [35] = (b.data.toList, d.data.toList, true)) (k n er : Int) (ok : Bool)
    (hR : ∀ w, Calls Tryz.prog 86 #[.string b, .string d] w fun e w' => e = .returned (.tuple #[tokV k n, .bool ok, .int .i64 er]) ∧ Below w.heap.size w w') :
    Calls Tryz.prog 68 #[.string s] w fun e w' => e = .returned (.tuple #[tokV k n, .bool ok, .int .i64 er]) ∧ Below w.heap.size w w' := by
  have HC : Hid (∀ w, Mx w → Calls Tryz.prog 85 #[.string s, .string ⟨#[35]⟩] w fun e w' => e = .returned (.tuple #[.string b, .string d, .bool true]) ∧ ∃ n, w' = w.drewN n) := by
    intro w hm
    have := cut_any s 35 (by omega) w hm
    rw [hc] at this
    exact this
  have HR := Lib.hid hR
  have HM := Lib.hid (hm.below ((Below.refl _ w).alloc (Nat.le_refl _) (Obj.cells #[Value.int .i64 0, Value.int .i64 0, Value.string ⟨#[]⟩] 129)))
  unfold tokV at HR ⊢
  clear hc hR hm
  go_enter Tryz.func68, Tryz.ntmps68
  go_wp2_with fail
  refine (HC.out _ HM.out).mono ?_; rintro e w' ⟨rfl, j, rfl⟩
  go_wp2_with fail
  refine (HR.out _).mono ?_; rintro e w1 ⟨rfl, hb⟩
  have hz : w.heap.size < w1.heap.size := by have := hb.size; simp at this; omega
  obtain ⟨hc, hf⟩ := bcell hb
  have HB := Lib.hid hb
  clear hb
  go_wp2_with fail
  refine bodyPost_ret (v := .tuple #[.agg #[.int .i64 k, .int .i64 n, .string ⟨#[]⟩], .bool ok, .int .i64 er]) (by simp [results, Tryz.results68, go_sem, hc]) rfl ⟨rfl, ?_⟩
  have h0 := HB.out
  exact (((below_made w _ j h0).setCell (Nat.le_refl _) _).setCell (Nat.le_refl _) _).setCell (Nat.le_refl _) _
end Go.Proofs.YtfilbfenpdaahaaGreatDoor
