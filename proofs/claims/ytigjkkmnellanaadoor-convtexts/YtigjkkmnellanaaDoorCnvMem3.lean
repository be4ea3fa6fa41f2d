/-
  The document's memory: a new dictionary, by a contract.
-/
import Derived.Test.YtigjkkmnellanaaDoorCnvMem2
namespace Go.Proofs.YtigjkkmnellanaaDoor
open Go.RowKit
open St
open Col
namespace Mm
/-- a new dictionary of the document's memory -/
structure DictW (w : World) (M : Nat) (fr ck : Int) (av sv : Value) (la : Int) (dv : Value) (k : Nat) (ps : List Value) (n : Nat) (D : Nat) (w' : World) : Prop where
  dic : w'.heap[D]? = some (dicC (.slice none 0 0) (.slice none 0 0) n 0 (ck + 1))
  d0 : w.heap.size ≤ D
  mem : ∃ dv', w'.heap[M]? = some (memC (fr - (1 + 2 * (n : Nat))) (ck + 1) av dv' sv la) ∧ w'.ownsRow 0 38 1 dv' (k + 1) (ps ++ [.pointer (some ⟨D, 0, none⟩)]) ∧ ∀ q, isB dv' q → isB dv q ∨ w.heap.size ≤ q
  frm : Frm (fun q => q = M ∨ isB dv q) w w'
def DictP (w : World) (M : Nat) (fr ck : Int) (av sv : Value) (la : Int) (dv : Value) (k : Nat) (ps : List Value) (n : Nat) (e : Ending) (w' : World) : Prop :=
  (tkE n 4096 (1 + 2 * (n : Nat)) fr ≠ 0 ∧ e = .returned (.tuple #[nulV.val, .int .i64 (tkE n 4096 (1 + 2 * (n : Nat)) fr)]) ∧ Below w.heap.size w w') ∨
  (tkE n 4096 (1 + 2 * (n : Nat)) fr = 0 ∧ ∃ D, e = .returned (.tuple #[(dicV D).val, .int .i64 0]) ∧ DictW w M fr ck av sv la dv k ps n D w')
set_option maxRecDepth 100000 in
set_option maxHeartbeats 1000000 in
theorem mdict_at {w : World} {M n k : Nat} {fr ck : Int} {av dv sv : Value} {la : Int} {ps : List Value} (h : w.heap[M]? = some (memC fr ck av dv sv la)) (hf : 0 ≤ fr) (hk : 0 ≤ ck) (hfk : ck + fr ≤ 1048576) (hav : w.ownsRow 0 38 1 dv k ps) (hkk : k ≤ 1048575) (hb : n ≤ 4096) :
    Calls Tryd.prog 14 #[.pointer (some ⟨M, 0, none⟩), .int .i64 n] w (DictP w M fr ck av sv la dv k ps n) := by
  have hlt : M < w.heap.size := (Array.getElem?_eq_some_iff.1 h).1
  have hMa : ¬ isB dv M := fun e => own_ne h hav (by decide) e.symm
  have hb1 := below1 w (.cells zeroVl 40)
  have hx1 : (w.alloc (.cells zeroVl 40)).heap[M]? = some (memC fr ck av dv sv la) := (hb1.block M hlt).trans h
  have HT := Lib.hid (take_at hx1 n 4096 (1 + 2 * (n : Nat)) hf hk hfk (by omega))
  have HB1 := Lib.hid hb1
  have HAv := Lib.hid hav
  have g0 : decide ((4096 : Int) < (n : Int)) = false := decide_eq_false (by omega)
  have e1 : (2 : Int) * (n : Int) = 2 * (n : Nat) := rfl
  have w1 : IntKind.i64.wrap (2 * (n : Int)) = 2 * (n : Int) := by rw [IntKind.wrap_i64]; omega
  have w2 : IntKind.i64.wrap (1 + 2 * (n : Int)) = 1 + 2 * (n : Int) := by rw [IntKind.wrap_i64]; omega
  unfold zeroVl at HT HB1
  clear h hx1 hb1 hav e1
  go_enter Tryd.func14, Tryd.ntmps14
  go_wp2_with fail
  refine HT.out.mono ?_; rintro e w2 hP
  rcases hP with ⟨hne, rfl, rfl⟩ | ⟨hz, rfl, hM2, hF2, hs2⟩
  · generalize hE : tkE n 4096 (1 + 2 * (n : Nat)) fr = E at *
    have g1 : (E != 0) = true := by simp [hne]
    have HE := Lib.hid hE
    clear hE HT
    go_wp2_with fail
    exact bodyPost_ret (results_vl2 Tryd.results14 _ _ w.heap.size rfl rfl (heap_alloc_new w _)) rfl (Or.inl ⟨by rw [HE.out]; exact hne, by rw [HE.out]; rfl, HB1.out⟩)
  · have hZ : w2.heap[w.heap.size]? = some (.cells zeroVl 40) := (hF2.block _ (by simp) (by omega)).trans (heap_alloc_new w _)
    have hw3 := Frm.ofBelow HB1.out hF2
    have hAv2 : w2.ownsRow 0 38 1 dv k ps := owns_same HAv.out (fun q hq => hw3.block q (owns_lt HAv.out hq) (fun e => hMa (by rw [← e]; exact hq)))
    have hlt2 : M < w2.heap.size := (Array.getElem?_eq_some_iff.1 hM2).1
    have hs3 : w2.heap.size = w.heap.size + 1 := by have := hs2; simpa using this
    have HM2 := Lib.hid hM2
    have HZ := Lib.hid hZ
    have HW3 := Lib.hid hw3
    have HAv2 := Lib.hid hAv2
    have x1 : w2.cell? ⟨M, 1, none⟩ = some (.int .i64 (ck + 1)) := blk_cell hM2 1
    have HL := Lib.hid (And.intro hlt2 (And.intro (Array.getElem?_eq_some_iff.1 hZ).1 hs3))
    have y3 : w2.cell? ⟨M, 3, none⟩ = some dv := blk_cell hM2 3
    have hbx : Below w2.heap.size w2 (w2.alloc (dicC (.slice none 0 0) (.slice none 0 0) n 0 (ck + 1))) := below1 _ _
    have hA : (w2.alloc (dicC (.slice none 0 0) (.slice none 0 0) n 0 (ck + 1))).heap[w2.heap.size]? = some (dicC (.slice none 0 0) (.slice none 0 0) n 0 (ck + 1)) := heap_alloc_new _ _
    have hsz6 : (w2.alloc (dicC (.slice none 0 0) (.slice none 0 0) n 0 (ck + 1))).heap.size = w2.heap.size + 1 := by simp
    generalize hwc : w2.alloc (dicC (.slice none 0 0) (.slice none 0 0) n 0 (ck + 1)) = wc at hbx hA hsz6
    have hlt6 : M < wc.heap.size := Nat.lt_of_lt_of_le hlt2 hbx.size
    have hM6 : wc.heap[M]? = some (memC (fr - (1 + 2 * (n : Nat))) (ck + 1) av dv sv la) := (hbx.block M hlt2).trans hM2
    have hZ6 : wc.heap[w.heap.size]? = some (.cells zeroVl 40) := (hbx.block _ HL.out.2.1).trans hZ
    have hAv6 : wc.ownsRow 0 38 1 dv k ps := owns_same hAv2 (fun q hq => hbx.block q (owns_lt hAv2 hq))
    obtain ⟨j0, hj, hj0, hj1, hj2⟩ := info_parts pdic_info
    obtain ⟨g7, c7, w7, hr7, ho7, hg7, hi7, hlt7⟩ := push_ptr (ty := 30) Tryd.underlying30 hj hj0 hj1 hj2 hAv6 (by omega) w2.heap.size
    have HR7 : Hid ((Builtin.append_ #[30, 30] 30 #[dv, .slice (some ⟨w2.heap.size + 1, 0, none⟩) 1 1]).run Tryd.prog ((w2.alloc (dicC (.slice none 0 0) (.slice none 0 0) n 0 (ck + 1))).alloc (.cells #[.pointer (some ⟨w2.heap.size, 0, none⟩)] 38)) = .ok (.slice (some ⟨g7, 0, none⟩) (k + 1) c7) w7) := Lib.hid (by rw [hwc, ← hsz6]; exact hr7)
    unfold dicC at HR7
    have hMa7 : w7.heap[M]? = some (memC (fr - (1 + 2 * (n : Nat))) (ck + 1) av dv sv la) := (grown_set_blk hg7 (by simp; omega) hMa).trans ((heap_alloc_old _ _ hlt6).trans hM6)
    have hZa : ¬ isB dv w.heap.size := fun e => own_ne hZ6 hAv6 (by decide) e.symm
    have hZ7 : w7.heap[w.heap.size]? = some (.cells zeroVl 40) := (grown_set_blk hg7 (by have := (Array.getElem?_eq_some_iff.1 hZ6).1; simp; omega) hZa).trans ((heap_alloc_old _ _ (Array.getElem?_eq_some_iff.1 hZ6).1).trans hZ6)
    have y7 : w7.cell? ⟨M, 3, none⟩ = some dv := blk_cell hMa7 3
    have yf := blk_free hMa7
    have HZ7 := Lib.hid hZ7
    unfold zeroVl at hZ7
    obtain ⟨z0, z1, z2, z3, z4, z5, z6, z7, z8, z9, zf⟩ := cells10 hZ7
    have hne7 : ¬ w.heap.size = M := by omega
    have hne8 : ¬ M = w.heap.size := by omega
    have HF := Lib.hid (And.intro hA (And.intro hbx (And.intro ho7 hg7)))
    have HM7 := Lib.hid hMa7
    clear HT hM2 hZ hF2 hs2 hs3 hw3 hAv2 hM6 hZ6 hAv6 hr7 ho7 hg7 hMa7 hZ7 hA hbx hj hj0 hj1 hj2 hwc
    go_wp2_with (at_builtin; refine wpList_append_run5 rfl (.tmp 32) (.tmp 34) 30 30 (.slice (some ⟨g7, 0, none⟩) (k + 1) c7) rfl rfl _ _ rfl rfl HR7.out ?_)
    have hM8 := blk_set HM7.out 3 (.slice (some ⟨g7, 0, none⟩) (k + 1) c7)
    have hZ8 := (blk_far hne7 (.slice (some ⟨g7, 0, none⟩) (k + 1) c7) (j := 3)).trans HZ7.out
    have hp := put10 hZ8 (.int .i64 8) (.bool false) (.int .i64 0) (.int .i64 0) (.string ⟨#[]⟩) (.pointer none) (.pointer none) (.pointer (some ⟨w2.heap.size, 0, none⟩)) (.int .i64 0) (.int .i64 0)
    obtain ⟨hA, hbx, ho7, hg7⟩ := HF.out
    have hfar : ∀ q, q < wc.heap.size → q ≠ M → q ≠ w.heap.size → ¬ isB dv q → w7.heap[q]? = wc.heap[q]? := fun q h1 h2 h3 h4 => (grown_set_blk hg7 (by simp; omega) h4).trans (heap_alloc_old _ _ h1)
    refine bodyPost_ret (results_vl2 Tryd.results14 _ _ w.heap.size rfl rfl hp.blk) rfl (Or.inr ⟨hz, w2.heap.size, rfl, ?_⟩)
    have hAv6 : wc.ownsRow 0 38 1 dv k ps := owns_same HAv2.out (fun q hq => hbx.block q (owns_lt HAv2.out hq))
    have hs2 := HL.out.2.2
    have hstep : ∀ q, q ≠ M → q ≠ w.heap.size → _ = w7.heap[q]? := fun q h1 h2 => (hp.far q h2).trans (blk_far h1 _)
    refine ⟨(hstep w2.heap.size (by omega) (by omega)).trans ((hfar w2.heap.size (by omega) (by omega) (by omega) (fun e => own_ne hA hAv6 (by decide) e.symm)).trans hA), by omega, ⟨_, (hp.far M (by omega)).trans hM8, ?_, ?_⟩, ?_⟩
    · refine owns_same ho7 (fun q hq => hstep q ?_ ?_)
      · intro e1; exact own_ne HM7.out ho7 (by decide) (by rw [← e1]; exact hq.symm)
      · intro e1; exact own_ne HZ7.out ho7 (by decide) (by rw [← e1]; exact hq.symm)
    · intro q hq
      have hqB : g7 = q := by simpa [isB, Value.ownBlock] using hq
      subst hqB
      rcases hi7 with e | e
      · exact .inl e
      · exact .inr (by omega)
    · refine ⟨?_, ?_, ?_, ?_, fun q hq hO => ?_⟩
      · exact hp.os.trans ((setC_os _ _ _).trans (hg7.os.trans (hbx.os.trans HW3.out.os)))
      · exact hp.tape.trans ((setC_tape _ _ _).trans (hg7.tape.trans (hbx.tape.trans HW3.out.tape)))
      · exact hp.output.trans ((setC_output _ _ _).trans (hg7.output.trans (hbx.output.trans HW3.out.output)))
      · rw [hp.size, setC_size]
        have := hg7.size
        simp at *
        omega
      · have h1 : q ≠ M := fun e => hO (.inl e)
        have h2 : ¬ isB dv q := fun e => hO (.inr e)
        exact (hstep q h1 (by omega)).trans ((hfar q (by omega) h1 (by omega) h2).trans ((hbx.block q (by omega)).trans (HW3.out.block q hq h1)))
end Mm
end Go.Proofs.YtigjkkmnellanaaDoor
