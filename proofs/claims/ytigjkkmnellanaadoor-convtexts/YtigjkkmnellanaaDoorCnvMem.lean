/-
  The document's memory: a new string, by a contract.
-/
import Derived.Test.YtigjkkmnellanaaDoorCnvVal
namespace Go.Proofs.YtigjkkmnellanaaDoor
open Go.RowKit
open St
open Col
namespace Mm
def strV (S : Nat) (n : Nat) : Vl := ⟨6, false, 0, 0, ⟨#[]⟩, .pointer (some ⟨S, 0, none⟩), .pointer none, .pointer none, 0, n⟩
def strC (v : Value) (born : Int) : Obj := .cells #[v, .int .i64 born] 79
theorem Frm.put {O : Nat → Prop} {w w2 w3 : World} {B : Nat} {t : TypeId} {cs : Array Value} (h : Frm O w w2) (hB : w.heap.size ≤ B) (hp : Put10 w2 B t cs w3) : Frm O w w3 :=
  ⟨hp.os.trans h.os, hp.tape.trans h.tape, hp.output.trans h.output, by rw [hp.size]; exact h.size, fun k hk hO => (hp.far k (by omega)).trans (h.block k hk hO)⟩
theorem Frm.below {O : Nat → Prop} {w w2 w3 : World} (h : Frm O w w2) (hb : Below w2.heap.size w2 w3) : Frm O w w3 :=
  ⟨hb.os.trans h.os, hb.tape.trans h.tape, hb.output.trans h.output, Nat.le_trans h.size hb.size, fun k hk hO => (hb.block k (Nat.lt_of_lt_of_le hk h.size)).trans (h.block k hk hO)⟩
theorem Frm.ofBelow {O : Nat → Prop} {w w1 w2 : World} (hb : Below w.heap.size w w1) (h : Frm O w1 w2) : Frm O w w2 :=
  ⟨h.os.trans hb.os, h.tape.trans hb.tape, h.output.trans hb.output, Nat.le_trans hb.size h.size, fun k hk hO => (h.block k (Nat.lt_of_lt_of_le hk hb.size) hO).trans (hb.block k hk)⟩
/-- a new string of the document's memory: where it is, and what the memory is then -/
structure TextW (w : World) (M : Nat) (fr ck : Int) (av dv sv : Value) (la : Int) (b : List UInt8) (S B c : Nat) (w' : World) : Prop where
  str : w'.heap[S]? = some (strC (.slice (some ⟨B, 0, none⟩) b.length c) (ck + 1))
  row : w'.ownsRow 0 5 1 (.slice (some ⟨B, 0, none⟩) b.length c) b.length (b.map bv)
  s0 : w.heap.size ≤ S
  b0 : w.heap.size ≤ B
  mem : w'.heap[M]? = some (memC (fr - (1 + ((b.length + 7) / 8 : Nat))) (ck + 1) av dv sv la)
  frm : Frm (fun k => k = M) w w'
def TextP (w : World) (M : Nat) (fr ck : Int) (av dv sv : Value) (la : Int) (b : List UInt8) (e : Ending) (w' : World) : Prop :=
  (tkE b.length 65535 (1 + ((b.length + 7) / 8 : Nat)) fr ≠ 0 ∧ e = .returned (.tuple #[nulV.val, .int .i64 (tkE b.length 65535 (1 + ((b.length + 7) / 8 : Nat)) fr)]) ∧ Below w.heap.size w w') ∨
  (tkE b.length 65535 (1 + ((b.length + 7) / 8 : Nat)) fr = 0 ∧ ∃ S B c, e = .returned (.tuple #[(strV S b.length).val, .int .i64 0]) ∧ TextW w M fr ck av dv sv la b S B c w')
set_option maxRecDepth 100000 in
set_option maxHeartbeats 1000000 in
theorem mtext_at {w : World} {M c0 : Nat} {fr ck : Int} {av dv sv : Value} {la : Int} {p : Option Addr} {b : List UInt8} (h : w.heap[M]? = some (memC fr ck av dv sv la)) (hf : 0 ≤ fr) (hk : 0 ≤ ck) (hfk : ck + fr ≤ 1048576) (hS : Src w p b) (hp : p = none → c0 = 0) (hpM : ∀ ad, p = some ad → ad.block ≠ M) (hb : b.length ≤ 100000000) :
    Calls Tryd.prog 10 #[.pointer (some ⟨M, 0, none⟩), .slice p b.length c0] w (TextP w M fr ck av dv sv la b) := by
  have hlt : M < w.heap.size := (Array.getElem?_eq_some_iff.1 h).1
  have hb1 := below1 w (.cells zeroVl 40)
  have h1 : (w.alloc (.cells zeroVl 40)).heap[M]? = some (memC fr ck av dv sv la) := (hb1.block M hlt).trans h
  have HT := Lib.hid (take_at h1 b.length 65535 (1 + ((b.length + 7) / 8 : Nat)) hf hk hfk (by omega))
  have HS := Lib.hid (fun w2 (hb : Below w.heap.size w w2) => (hS.below hb : Src w2 p b))
  have HB1 := Lib.hid hb1
  have e1 : (1 : Int) + ((b.length : Int) + 7) / 8 = 1 + ((b.length + 7) / 8 : Nat) := by omega
  unfold zeroVl at HT HB1
  clear h h1 hb1 hS
  go_enter Tryd.func10, Tryd.ntmps10
  go_wp2_with fail
  refine HT.out.mono ?_; rintro e w2 hP
  rcases hP with ⟨hne, rfl, rfl⟩ | ⟨hz, rfl, hM2, hF2, hs2⟩
  · generalize hE : tkE b.length 65535 (1 + ((b.length + 7) / 8 : Nat)) fr = E at *
    have g1 : (E != 0) = true := by simp [hne]
    have HE := Lib.hid hE
    clear hE HT
    go_wp2_with fail
    exact bodyPost_ret (results_vl2 Tryd.results10 _ _ w.heap.size rfl rfl (heap_alloc_new w _)) rfl (Or.inl ⟨by rw [HE.out]; exact hne, by rw [HE.out]; rfl, HB1.out⟩)
  · have hZ : w2.heap[w.heap.size]? = some (.cells zeroVl 40) := (hF2.block _ (by simp) (by omega)).trans (heap_alloc_new w _)
    have hS2 : Src w2 p b := by
      rcases HS.out _ HB1.out with e | ⟨ad, e, hc⟩
      · exact .inl e
      · refine .inr ⟨ad, e, fun j z hz => ?_⟩
        have h5 := hc j z hz
        have hlt5 := World.block_lt_of_cell? _ _ h5
        refine (World.cell?_of_block (hF2.block _ hlt5 (fun e1 => ?_))).trans h5
        exact hpM ad e ((show (ad.add j).block = ad.block by unfold Addr.add; split <;> rfl).symm.trans e1)
    have hw3 := Frm.ofBelow HB1.out hF2
    have hlt2 : M < w2.heap.size := (Array.getElem?_eq_some_iff.1 hM2).1
    obtain ⟨B3, c3, w3, hrun3, hb3, hB3, hown3⟩ := copied5 (c := c0) (w := w2.drew) (hS2.below (below_draw (Below.refl _ _) 1)) hp (by have := (tkE_zero hz).2.1; omega) 44
    have hs3 : w2.drew.heap.size = w.heap.size + 1 := by have := hs2; simpa using this
    rw [hs3] at hrun3
    have HRun3 : Hid ((Builtin.append_ #[44, 44] 44 #[.slice (some ⟨w.heap.size + 1, 0, none⟩) 0 0, .slice p b.length c0]).run Tryd.prog ((w2.alloc (.cells #[] 5)).drew) = .ok (.slice (some ⟨B3, 0, none⟩) b.length c3) w3) := Lib.hid hrun3
    have HB3 := Lib.hid (show Below w2.heap.size w2 w3 from bthen (below_draw (Below.refl _ _) 1) hb3)
    have HO3 := Lib.hid hown3
    have HM2 := Lib.hid hM2
    have HZ := Lib.hid hZ
    have HW3 := Lib.hid hw3
    have x1 : w2.cell? ⟨M, 1, none⟩ = some (.int .i64 (ck + 1)) := blk_cell hM2 1
    have x2 : w3.cell? ⟨M, 1, none⟩ = some (.int .i64 (ck + 1)) := (HB3.out.cell (by exact hlt2)).trans x1
    have hz3 : w3.heap[w.heap.size]? = some (.cells zeroVl 40) := (HB3.out.block _ (Array.getElem?_eq_some_iff.1 hZ).1).trans hZ
    have HZ3 := Lib.hid hz3
    have HL := Lib.hid (And.intro hlt2 (And.intro (Array.getElem?_eq_some_iff.1 hZ).1 hs2))
    unfold zeroVl at hz3
    obtain ⟨z0, z1, z2, z3, z4, z5, z6, z7, z8, z9, zf⟩ := cells10 hz3
    have hlt3 : w.heap.size < w3.heap.size := (Array.getElem?_eq_some_iff.1 hz3).1
    have x1d : w2.drew.cell? ⟨M, 1, none⟩ = some (.int .i64 (ck + 1)) := x1
    have x1a : ∀ o, (w2.drew.alloc o).cell? ⟨M, 1, none⟩ = some (.int .i64 (ck + 1)) := fun o => cellOld x1d
    have x1b : ∀ o, ((w2.alloc o).drew).cell? ⟨M, 1, none⟩ = some (.int .i64 (ck + 1)) := fun o => cellOld x1d
    have x2a : ∀ o, (w3.alloc o).cell? ⟨M, 1, none⟩ = some (.int .i64 (ck + 1)) := fun o => cellOld x2
    have HNe := Lib.hid (show M ≠ w.heap.size by omega)
    clear HT hM2 hZ hF2 hs3 hrun3 hb3 hown3 hw3 hS2 hz3
    go_wp2_with fail
    go_cut [5] (fun v wx => v = .int .i64 0 ∧ ∃ S B c, wx.heap[w.heap.size]? = some (vlC (strV S b.length)) ∧ TextW w M fr ck av dv sv la b S B c wx)
    case first =>
      go_region_held3 (fun w' => w'.cell? ⟨M, 1, none⟩ = some (.int .i64 (ck + 1))) (first | with_reducible exact x2 | with_reducible exact x1 | with_reducible exact x1d | with_reducible exact x1a _ | with_reducible exact x1b _ | with_reducible exact x2a _ | with_reducible exact cellOld (far10 HNe.out x2) | fail) (refine step_append_run rfl (.tmp 20) (.tmp 21) 44 44 44 (.slice (some ⟨B3, 0, none⟩) b.length c3) rfl rfl _ _ rfl rfl HRun3.out ?_)
      all_goals go_wp2_with fail
      all_goals go_meet
      have hp := put10 HZ3.out (.int .i64 6) (.bool false) (.int .i64 0) (.int .i64 0) (.string ⟨#[]⟩) (.pointer (some ⟨w3.heap.size, 0, none⟩)) (.pointer none) (.pointer none) (.int .i64 0) (.int .i64 b.length)
      refine ⟨rfl, w3.heap.size, B3, c3, (heap_alloc_old _ _ (by rw [hp.size]; exact hlt3)).trans hp.blk, ?_⟩
      have hF := Frm.put (Frm.below HW3.out HB3.out) (Nat.le_refl _) hp
      refine ⟨alloc_at hp.size, ?_, by omega, by have h1 := HW3.out.size; have h2 : w2.heap.size ≤ B3 := hB3; omega, ?_, Frm.below hF (below1 _ _)⟩
      · refine owns_same HO3.out (fun k hk => ?_)
        have hk3 := owns_lt HO3.out hk
        refine (heap_alloc_old _ _ (by rw [hp.size]; exact hk3)).trans (hp.far k ?_)
        intro e1
        exact own_ne HZ3.out HO3.out (by decide) (by rw [← e1]; exact hk.symm)
      · refine (heap_alloc_old _ _ (by rw [hp.size]; have := HL.out.1; have := HB3.out.size; omega)).trans ((hp.far M HNe.out).trans ((HB3.out.block _ HL.out.1).trans HM2.out))
    case rest =>
      obtain ⟨rfl, S, B, c, hv, hT⟩ := hcut
      unfold strV vlC at hv
      have HT := Lib.hid hT
      clear hT
      go_wp2_with fail
      exact bodyPost_ret (results_vl2 Tryd.results10 _ _ w.heap.size rfl rfl hv) rfl (Or.inr ⟨hz, S, B, c, rfl, HT.out⟩)
end Mm
end Go.Proofs.YtigjkkmnellanaaDoor
