/-
  The law ArithDoes holds for every input: the call returns true and leaves its arguments as they were. Conditions: none beyond the card's own (the tables that its row lists start as their text lays them).
-/
import Derived.Test.YtgbpldfcahajeaaDoorCards
import Derived.Test.YtgbpldfcahajeaaDoorTie
import Derived.Test.YtgbpldfcahajeaaDoorAriEnd
import Derived.Test.YtgbpldfcahajeaaDoorMatSin
import Derived.WalkKit
import Derived.ProofKit
import Derived.OpenShut
import Derived.ShutString
import Derived.Below
import Derived.ChangeOld
import Derived.Deep.DeepHandedRow
import Derived.Lib.LaidTab
import Derived.Stop.LaidErr
import Derived.ChangeMaps5
namespace Go.Proofs.YtgbpldfcahajeaaDoor.arithDoes
open Go.ChangeShapes Go.WideShapes Go.ChangeAt Go.RowKit
open Go.ChangeMaps (open_string shut_string)
set_option linter.unusedVariables false

theorem own : ownKnob Tryd.prog.godebug = none := by kernel_rfl
theorem laidOut : laidOutB Tryd.prog = true := by kernel_rfl
theorem gTabType : (Tryd.prog.globals[0]?).map (·.type) = some 88 := by kernel_rfl
theorem cellsA : Tryd.prog.cellsOf 88 = 91 := by kernel_rfl
theorem cellsE : Tryd.prog.cellsOf 3 = 1 := by kernel_rfl
theorem datum : (Rows.laid_mezzotint_mat_sines : DataW Unit) = Lib.tabData .i64 Fx.sinTab := by kernel_rfl
theorem table {W : World} (h0 : laidMetH Tryd.prog Rows.arithDoesRow.laid W) : SinT W := by
  have h : laidMet Tryd.prog Rows.arithDoesRow.laid W := h0
  have h2 := h
  have h3 : laidMet Tryd.prog (("mezzotint/mat.sines", Lib.tabData .i64 Fx.sinTab) :: []) W := datum ▸ h2
  exact Lib.tabIs_of_head sin_glob gTabType Tryd.underlying88 Tryd.underlying3 cellsE cellsA h3

theorem contract (H : Type) (enc : TypeId × Value → H) (W : World) (base : Nat) (args : Array Value) (ds gs : List (DataW H)) (before : List MemPlace)
    (hval : ∀ (j : Nat) t v, Tryd.f3.params[j]? = some t → args[j]? = some v → Value.okWide Tryd.prog W .any base t v)
    (hW : DataW.Whole enc Tryd.prog Tryd.f3.params.toList Rows.arithDoesSpec.vars false W args.toList ds gs before) (hL : laidMetH Tryd.prog Rows.arithDoesRow.laid W) (hsh : W.ShapedOpen Tryd.prog) :
    Calls Tryd.prog 3 args W fun e W' => ∃ v, e = .returned v ∧ Rows.arithDoesSpec.post enc Tryd.prog Tryd.f3 false true false false W args v W' := by
  have hW' := hW
  obtain ⟨p, q, hA0, hV, rfl, hfz, hnd⟩ := hW
  have hA : DataW.TrodAll enc Tryd.prog W 0 (fun _ => true) true Tryd.f3.params.toList args.toList ds p := hA0
  rw [Tryd.params3] at hA hval
  obtain ⟨v0, vs0, d0, ds0, p0, q0, hargs, rfl, rfl, h0, r0⟩ := trodAll_cons hA
  obtain ⟨v1, vs1, d1, ds1, p1, q1, rfl, rfl, rfl, h1, r1⟩ := trodAll_cons r0
  obtain ⟨rfl, rfl, rfl⟩ := trodAll_nil r1
  obtain rfl : args = #[v0, v1] := by cases args; simp_all
  obtain ⟨rfl, rfl⟩ := trodVars_none hV
  obtain ⟨a0, rfl, rfl, rfl, w0⟩ := open_string Tryd.underlying9 (hval 0 9 v0 rfl rfl) h0
  obtain ⟨a1, len1, cap1, rfl⟩ := okWide_slice Tryd.underlying22 (hval 1 22 v1 rfl rfl)
  have k1 := h1
  have lt1 : ∀ x ∈ p1, x.block < W.heap.size := by obtain ⟨m, hm⟩ := k1; exact DataW.trod_lt m _ _ _ hm
  obtain ⟨L1, hlen1, s1, n1⟩ : ∃ l : List Ari.Ob, len1 = l.length ∧ Ari.SrcO W a1 l ∧ (a1 = none → cap1 = 0) := by
    obtain ⟨fuel, hf⟩ := h1
    obtain ⟨a, l, c, hcs, g1, g2, _⟩ := Ari.open_obs hf
    simp [Value.cells] at hcs
    obtain ⟨rfl, rfl, rfl⟩ := hcs
    exact ⟨l, rfl, g1, g2⟩
  subst hlen1
  clear hA0
  refine (Ari.does_walk a0 a1 L1 cap1 W s1 n1 (table hL)).mono fun e W' ⟨he, bel⟩ => ?_
  subst he
  exact ⟨_, rfl, _, _, _, [], _, [], hW', trodAll_mk1 (shut_bool Tryd.underlying4 _), (trodAll_cons_mk (shut_string Tryd.underlying9 w0) (trodAll_cons_mk (Below.trod laidOut (by kernel_rfl) (of_decide_eq_true (by kernel_rfl)) k1 bel lt1) trodAll_mk0)), rfl, bel.frame _, fun h => by cases h⟩

noncomputable def laidWorld0 (os : Os) : World := World.holding Tryd.prog os ⟨#[], #[], []⟩
noncomputable def laidWorld1 (os : Os) : World :=
  { laidWorld0 os with heap := (laidWorld0 os).heap.modify 0 fun
      | .cells _ t frozen => .cells #[.int .i64 0, .int .i64 1144, .int .i64 2287, .int .i64 3430, .int .i64 4572, .int .i64 5712, .int .i64 6850, .int .i64 7987, .int .i64 9121, .int .i64 10252, .int .i64 11380, .int .i64 12505, .int .i64 13626, .int .i64 14742, .int .i64 15855, .int .i64 16962, .int .i64 18064, .int .i64 19161, .int .i64 20252, .int .i64 21336, .int .i64 22415, .int .i64 23486, .int .i64 24550, .int .i64 25607, .int .i64 26656, .int .i64 27697, .int .i64 28729, .int .i64 29753, .int .i64 30767, .int .i64 31772, .int .i64 32768, .int .i64 33754, .int .i64 34729, .int .i64 35693, .int .i64 36647, .int .i64 37590, .int .i64 38521, .int .i64 39441, .int .i64 40348, .int .i64 41243, .int .i64 42126, .int .i64 42995, .int .i64 43852, .int .i64 44695, .int .i64 45525, .int .i64 46341, .int .i64 47143, .int .i64 47930, .int .i64 48703, .int .i64 49461, .int .i64 50203, .int .i64 50931, .int .i64 51643, .int .i64 52339, .int .i64 53020, .int .i64 53684, .int .i64 54332, .int .i64 54963, .int .i64 55578, .int .i64 56175, .int .i64 56756, .int .i64 57319, .int .i64 57865, .int .i64 58393, .int .i64 58903, .int .i64 59396, .int .i64 59870, .int .i64 60326, .int .i64 60764, .int .i64 61183, .int .i64 61584, .int .i64 61966, .int .i64 62328, .int .i64 62672, .int .i64 62997, .int .i64 63303, .int .i64 63589, .int .i64 63856, .int .i64 64104, .int .i64 64332, .int .i64 64540, .int .i64 64729, .int .i64 64898, .int .i64 65048, .int .i64 65177, .int .i64 65287, .int .i64 65376, .int .i64 65446, .int .i64 65496, .int .i64 65526, .int .i64 65536] t frozen
      | o => o }
theorem laid_met (os : Os) : laidMet Tryd.prog Rows.arithDoesRow.laid ((laidWorld1 os).forCall (fun _ _ => 0) ⟨#[], #[.string ⟨#[]⟩, .slice none 0 0], []⟩).memory :=
  laidMet_of_run' 8 (by kernel_rfl) (by kernel_rfl)
theorem reads (os : Os) {H : Type} (enc : TypeId × Value → H) : ∃ places, DataW.whole enc Tryd.prog ((laidWorld1 os).forCall (fun _ _ => 0) ⟨#[], #[.string ⟨#[]⟩, .slice none 0 0], []⟩).memory Tryd.f3.params.toList Rows.arithDoesSpec.vars false (#[.string ⟨#[]⟩, .slice none 0 0] : Array Value).toList 8 = some ([.lit (.string []), .nil], [], places) :=
  ⟨[], by kernel_rfl⟩

set_option maxRecDepth 100000 in
theorem lifted (os : Os) (started : os.Started) (H : Type) (enc : TypeId × Value → H) (F : Stop.Interp) :
    ReturnsInHanded {} Tryd.checked os 3 .any ((OpenSpec.ofChange Rows.arithDoesSpec).preRow enc Tryd.prog Tryd.f3 Rows.arithDoesRow.domain false Rows.arithDoesRow.laid) (((OpenSpec.ofChange Rows.arithDoesSpec).at F).post enc Tryd.prog Tryd.f3 false true false false) := by
  obtain ⟨places, hx⟩ := reads os enc
  refine returnsInHanded_of_row (C := Tryd.checked) (s := OpenSpec.ofChange Rows.arithDoesSpec) own started (by kernel_rfl) Tryd.func3
    (witness_row_at (enc := enc) (C := Tryd.checked) false (laidWorld1 os) #[.string ⟨#[]⟩, .slice none 0 0] rfl (by kernel_rfl) (by kernel_rfl) (by kernel_rfl)
      (OpenSpec.preRow_of_cond 8 hx (by kernel_rfl) (fun k hk => by cases hk) (by kernel_rfl) (laid_met os))) ?_
  intro W base args ds gs before hval hW _ _ _ hL hsh _
  exact contract H enc W base args ds gs before hval hW hL hsh

theorem said : Rows.ArithDoesSaid :=
  OpenClaim.holds_of_cond 3 Tryd.f3 rfl rfl rfl rfl rfl rfl rfl ⟨rfl, rfl, rfl, rfl, rfl⟩ rfl rfl rfl rfl rfl (by kernel_rfl) Tryd.func3 (by kernel_rfl)
    (of_decide_eq_true (by kernel_rfl)) (by unfold Func.isWrapper; first | (rw [if_pos (by decide +kernel)]; kernel_rfl) | (rw [if_neg (by decide +kernel)]; exact ⟨rfl, rfl⟩))
    (fun os started H enc _ F => by rw [OpenClaim.pre_eq_preRow]; exact lifted os started H enc F)

theorem wants9 : Tryd.prog.wantsStandIn 9 = false := by kernel_rfl
theorem wants22 : Tryd.prog.wantsStandIn 22 = false := by kernel_rfl
theorem plain (f : FuncId) (fn : Func) (hf : Tryd.pinned.checked.prog.funcNamed "mezzotint/mezzotintlaw08.ArithDoes" = some f) (hfn : Tryd.pinned.checked.prog.funcs[f]? = some fn) :
    false = Tryd.pinned.checked.prog.looks [] ∧ ∀ (j : Nat) t, fn.params[j]? = some t → Tryd.pinned.checked.prog.wantsStandIn t = false := by
  obtain rfl : f = 3 := Option.some.inj ((show Tryd.prog.funcNamed "mezzotint/mezzotintlaw08.ArithDoes" = some 3 by kernel_rfl).symm.trans hf) |>.symm
  obtain rfl : fn = Tryd.f3 := (Option.some.inj (Tryd.func3.symm.trans hfn)).symm
  refine ⟨by kernel_rfl, fun j t ht => ?_⟩
  rw [Tryd.params3] at ht
  have hm := Array.mem_of_getElem? ht
  simp at hm
  rcases hm with rfl | rfl <;> first | exact wants9 | exact wants22

theorem proved : Rows.ArithDoesCardSaid :=
  Claim7.holds_tied_plain_at .later [] _ _ _ _ said (fun _ h => by cases h) (by kernel_rfl) (fun _ h => by cases h) arithDoes_row_tie rfl ⟨rfl, rfl⟩ (by kernel_rfl) rfl plain (by kernel_rfl)
#print axioms proved
end Go.Proofs.YtgbpldfcahajeaaDoor.arithDoes
