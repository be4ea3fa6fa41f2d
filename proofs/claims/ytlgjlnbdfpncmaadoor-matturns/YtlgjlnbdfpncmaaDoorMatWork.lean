/-
  The contracts of the worker's longer methods: a line of a matrix, the cross product, the determinant, delta and apply; and what is worked out, or the first error.
-/
import Derived.Test.YtlgjlnbdfpncmaaDoorMatMath
import Derived.LoopN
namespace Go.Proofs.YtlgjlnbdfpncmaaDoor
open Go.RowKit
open Fx
theorem wLine_none (b : Nat) (a x c y E : Int) (w : World) (hc : w.cell? ⟨b, 0, none⟩ = some (.int .i64 E)) (hf : w.frozen? ⟨b, 0, none⟩ = false) :
    Calls Tryd.prog 20 #[.pointer (some ⟨b, 0, none⟩), .int .i64 a, .int .i64 x, .int .i64 c, .int .i64 y, .slice none 0 0] w (Kp b (linV a x c y) (kE E (linE a x c y)) w) := by
  have HK := Lib.hid (fun (n e E : Int) (w : World) => wKeep_at b n e E w)
  have HM := Lib.hid (fun (a c E : Int) (w : World) => wMul_at b a c E w)
  have HE : kE (kE (kE E (mulE a x)) (mulE c y)) (addE (mulV a x) (mulV c y)) = kE E (linE a x c y) := by unfold linE; rw [kE_assoc, kE_assoc]
  rw [← HE]
  clear HE
  unfold Kp at HK HM ⊢
  unfold linV
  go_enter Tryd.func20, Tryd.ntmps20
  go_wp2_with fail
  refine (HM.out _ _ _ _ hc hf).mono ?_; rintro e w1 ⟨rfl, hb1, hc1, hf1⟩
  go_wp2_with fail
  refine (HM.out _ _ _ _ hc1 hf1).mono ?_; rintro e w2 ⟨rfl, hb2, hc2, hf2⟩
  go_wp2_with fail
  refine (fixAdd_any _ _ _).mono ?_; rintro e w3 ⟨rfl, rfl⟩
  go_wp2_with fail
  refine (HK.out _ _ _ _ hc2 hf2).mono ?_; rintro e w4 ⟨rfl, hb4, hc4, hf4⟩
  go_wp2_with fail
  refine wp_loop_rounds 1 ?_
  rw [rounds_succ]
  go_wp2_with fail
  go_ret
  exact ⟨rfl, (hb1.trans hb2).trans hb4, hc4, hf4⟩
theorem wLine_one (b g : Nat) (a x c y t E : Int) (w : World) (hg : g ≠ b) (hc : w.cell? ⟨b, 0, none⟩ = some (.int .i64 E)) (hf : w.frozen? ⟨b, 0, none⟩ = false) (ht : w.cell? ⟨g, 0, none⟩ = some (.int .i64 t)) :
    Calls Tryd.prog 20 #[.pointer (some ⟨b, 0, none⟩), .int .i64 a, .int .i64 x, .int .i64 c, .int .i64 y, .slice (some ⟨g, 0, none⟩) 1 1] w (Kp b (lin1V a x c y t) (kE E (lin1E a x c y t)) w) := by
  have HK := Lib.hid (fun (n e E : Int) (w : World) => wKeep_at b n e E w)
  have HM := Lib.hid (fun (a c E : Int) (w : World) => wMul_at b a c E w)
  have HE : kE (kE (kE (kE E (mulE a x)) (mulE c y)) (addE (mulV a x) (mulV c y))) (addE (addV (mulV a x) (mulV c y)) t) = kE E (lin1E a x c y t) := by unfold lin1E linE linV; simp only [kE_assoc]
  have hlt := World.block_lt_of_cell? w _ ht
  rw [← HE]
  clear HE
  have HG := Lib.hid hg
  have HT := Lib.hid ht
  have HL := Lib.hid hlt
  clear hg ht hlt
  unfold Kp at HK HM ⊢
  unfold lin1V linV
  go_enter Tryd.func20, Tryd.ntmps20
  go_wp2_with fail
  refine (HM.out _ _ _ _ hc hf).mono ?_; rintro e w1 ⟨rfl, hb1, hc1, hf1⟩
  go_wp2_with fail
  refine (HM.out _ _ _ _ hc1 hf1).mono ?_; rintro e w2 ⟨rfl, hb2, hc2, hf2⟩
  go_wp2_with fail
  refine (fixAdd_any _ _ _).mono ?_; rintro e w3 ⟨rfl, rfl⟩
  go_wp2_with fail
  refine (HK.out _ _ _ _ hc2 hf2).mono ?_; rintro e w4 ⟨rfl, hb4, hc4, hf4⟩
  have hb := (hb1.trans hb2).trans hb4
  have ht4 : w4.cell? ⟨g, 0, none⟩ = some (.int .i64 t) := (hb.cell g HL.out HG.out 0).trans HT.out
  clear hb1 hb2 hb4 hc1 hf1 hc2 hf2
  go_wp2_with fail
  refine wp_loop_rounds 2 ?_
  rw [rounds_succ]
  go_wp2_with fail
  refine (fixAdd_any _ _ _).mono ?_; rintro e w5 ⟨rfl, rfl⟩
  go_wp2_with fail
  refine (HK.out _ _ _ _ hc4 hf4).mono ?_; rintro e w6 ⟨rfl, hb6, hc6, hf6⟩
  go_wp2_with fail
  rw [rounds_succ]
  go_wp2_with fail
  go_ret
  exact ⟨rfl, hb.trans hb6, hc6, hf6⟩
end Go.Proofs.YtlgjlnbdfpncmaaDoor
