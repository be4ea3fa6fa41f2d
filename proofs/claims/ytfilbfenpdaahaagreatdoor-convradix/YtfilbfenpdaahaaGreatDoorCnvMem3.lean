/-
  The document's memory: a new string, by a contract.
The document's memory: a new array, a new dictionary, by contracts.
The document's memory: a new dictionary, by a contract.
-/
import Derived.Test.YtfilbfenpdaahaaGreatDoorCnvVal
namespace Go.Proofs.YtfilbfenpdaahaaGreatDoor
open Go.RowKit
open St
open Col
namespace Mm
def strV (S : Nat) (n : Nat) : Vl := ⟨6, false, 0, 0, ⟨#[]⟩, .pointer (some ⟨S, 0, none⟩), .pointer none, .pointer none, 0, n⟩
def strC (v : Value) (born : Int) : Obj := .cells #[v, .int .i64 born] 105
theorem Frm.put {O : Nat → Prop} {w w2 w3 : World} {B : Nat} {t : TypeId} {cs : Array Value} (h : Frm O w w2) (hB : w.heap.size ≤ B) (hp : Put10 w2 B t cs w3) : Frm O w w3 :=
  ⟨hp.os.trans h.os, hp.tape.trans h.tape, hp.output.trans h.output, by rw [hp.size]; exact h.size, fun k hk hO => (hp.far k (by omega)).trans (h.block k hk hO)⟩
theorem Frm.below {O : Nat → Prop} {w w2 w3 : World} (h : Frm O w w2) (hb : Below w2.heap.size w2 w3) : Frm O w w3 :=
  ⟨hb.os.trans h.os, hb.tape.trans h.tape, hb.output.trans h.output, Nat.le_trans h.size hb.size, fun k hk hO => (hb.block k (Nat.lt_of_lt_of_le hk h.size)).trans (h.block k hk hO)⟩
theorem Frm.ofBelow {O : Nat → Prop} {w w1 w2 : World} (hb : Below w.heap.size w w1) (h : Frm O w1 w2) : Frm O w w2 :=
  ⟨h.os.trans hb.os, h.tape.trans hb.tape, h.output.trans hb.output, Nat.le_trans hb.size h.size, fun k hk hO => (h.block k (Nat.lt_of_lt_of_le hk hb.size) hO).trans (hb.block k hk)⟩
/-- a new string of the document's memory: where it is, and what the memory is then -/
structure TextW (w : World) (M : Nat) (fr ck : Int) (av dv sv : Value) (la : Int) (b : List UInt8) (S B c : Nat) (w' : World) : Prop where
  str : w'.heap[S]? = some (strC (.slice (some ⟨B, 0, none⟩) b.length c) (ck + 1))
  row : w'.ownsRow 0 5 1 (.slice (some ⟨B, 0, none⟩) b.length c) b.length (b.map bv)
  s0 : w.heap.size ≤ S
  b0 : w.heap.size ≤ B
  mem : w'.heap[M]? = some (memC (fr - (1 + ((b.length + 7) / 8 : Nat))) (ck + 1) av dv sv la)
  frm : Frm (fun k => k = M) w w'
def TextP (w : World) (M : Nat) (fr ck : Int) (av dv sv : Value) (la : Int) (b : List UInt8) (e : Ending) (w' : World) : Prop :=
  (tkE b.length 65535 (1 + ((b.length + 7) / 8 : Nat)) fr ≠ 0 ∧ e = .returned (.tuple #[nulV.val, .int .i64 (tkE b.length 65535 (1 + ((b.length + 7) / 8 : Nat)) fr)]) ∧ Below w.heap.size w w') ∨
  (tkE b.length 65535 (1 + ((b.length + 7) / 8 : Nat)) fr = 0 ∧ ∃ S B c, e = .returned (.tuple #[(strV S b.length).val, .int .i64 0]) ∧ TextW w M fr ck av dv sv la b S B c w')
set_option maxRecDepth 100000 in
set_option maxHeartbeats 1000000 in
theorem mtext_at {w : World} {M c0 : Nat} {fr ck : Int} {av dv sv : Value} {la : Int} {p : Option Addr} {b : List UInt8} (h : w.heap[M]? = some (memC fr ck av dv sv la)) (hf : 0 ≤ fr) (hk : 0 ≤ ck) (hfk : ck + fr ≤ 1048576) (hS : Src w p b) (hp : p = none → c0 = 0) (hpM : ∀ ad, p = some ad → ad.block ≠ M) (hb : b.length ≤ 100000000) :
    Calls Tryz.prog 24 #[.pointer (some ⟨M, 0, none⟩), .slice p b.length c0] w (TextP w M fr ck av dv sv la b) := by
  have hlt : M < w.heap.size := (Array.getElem?_eq_some_iff.1 h).1
  have hb1 := below1 w (.cells zeroVl 53)
  have h1 : (w.alloc (.cells zeroVl 53)).heap[M]? = some (memC fr ck av dv sv la) := (hb1.block M hlt).trans h
  have HT := Lib.hid (take_at h1 b.length 65535 (1 + ((b.length + 7) / 8 : Nat)) hf hk hfk (by omega))
  have HS := Lib.hid (fun w2 (hb : Below w.heap.size w w2) => (hS.below hb : Src w2 p b))
  have HB1 := Lib.hid hb1
  have e1 : (1 : Int) + ((b.length : Int) + 7) / 8 = 1 + ((b.length + 7) / 8 : Nat) := by omega
  unfold zeroVl at HT HB1
  clear h h1 hb1 hS
  go_enter Tryz.func24, Tryz.ntmps24
  go_wp2_with fail
  refine HT.out.mono ?_; rintro e w2 hP
  rcases hP with ⟨hne, rfl, rfl⟩ | ⟨hz, rfl, hM2, hF2, hs2⟩
  · generalize hE : tkE b.length 65535 (1 + ((b.length + 7) / 8 : Nat)) fr = E at *
    have g1 : (E != 0) = true := by simp [hne]
    have HE := Lib.hid hE
    clear hE HT
    go_wp2_with fail
    exact bodyPost_ret (results_vl2 Tryz.results24 _ _ w.heap.size rfl rfl (heap_alloc_new w _)) rfl (Or.inl ⟨by rw [HE.out]; exact hne, by rw [HE.out]; rfl, HB1.out⟩)
  · have hZ : w2.heap[w.heap.size]? = some (.cells zeroVl 53) := (hF2.block _ (by simp) (by omega)).trans (heap_alloc_new w _)
    have hS2 : Src w2 p b := by
      rcases HS.out _ HB1.out with e | ⟨ad, e, hc⟩
      · exact .inl e
      · refine .inr ⟨ad, e, fun j z hz => ?_⟩
        have h5 := hc j z hz
        have hlt5 := World.block_lt_of_cell? _ _ h5
        refine (World.cell?_of_block (hF2.block _ hlt5 (fun e1 => ?_))).trans h5
        exact hpM ad e ((show (ad.add j).block = ad.block by unfold Addr.add; split <;> rfl).symm.trans e1)
    have hw3 := Frm.ofBelow HB1.out hF2
    have hlt2 : M < w2.heap.size := (Array.getElem?_eq_some_iff.1 hM2).1
    obtain ⟨B3, c3, w3, hrun3, hb3, hB3, hown3⟩ := copied5 (c := c0) (w := w2.drew) (hS2.below (below_draw (Below.refl _ _) 1)) hp (by have := (tkE_zero hz).2.1; omega) 35
    have hs3 : w2.drew.heap.size = w.heap.size + 1 := by have := hs2; simpa using this
    rw [hs3] at hrun3
    have HRun3 : Hid ((Builtin.append_ #[35, 35] 35 #[.slice (some ⟨w.heap.size + 1, 0, none⟩) 0 0, .slice p b.length c0]).run Tryz.prog ((w2.alloc (.cells #[] 5)).drew) = .ok (.slice (some ⟨B3, 0, none⟩) b.length c3) w3) := Lib.hid hrun3
    have HB3 := Lib.hid (show Below w2.heap.size w2 w3 from bthen (below_draw (Below.refl _ _) 1) hb3)
    have HO3 := Lib.hid hown3
    have HM2 := Lib.hid hM2
    have HZ := Lib.hid hZ
    have HW3 := Lib.hid hw3
    have x1 : w2.cell? ⟨M, 1, none⟩ = some (.int .i64 (ck + 1)) := blk_cell hM2 1
    have x2 : w3.cell? ⟨M, 1, none⟩ = some (.int .i64 (ck + 1)) := (HB3.out.cell (by exact hlt2)).trans x1
    have hz3 : w3.heap[w.heap.size]? = some (.cells zeroVl 53) := (HB3.out.block _ (Array.getElem?_eq_some_iff.1 hZ).1).trans hZ
    have HZ3 := Lib.hid hz3
    have HL := Lib.hid (And.intro hlt2 (And.intro (Array.getElem?_eq_some_iff.1 hZ).1 hs2))
    unfold zeroVl at hz3
    obtain ⟨z0, z1, z2, z3, z4, z5, z6, z7, z8, z9, zf⟩ := cells10 hz3
    have hlt3 : w.heap.size < w3.heap.size := (Array.getElem?_eq_some_iff.1 hz3).1
    have x1d : w2.drew.cell? ⟨M, 1, none⟩ = some (.int .i64 (ck + 1)) := x1
    have x1a : ∀ o, (w2.drew.alloc o).cell? ⟨M, 1, none⟩ = some (.int .i64 (ck + 1)) := fun o => cellOld x1d
    have x1b : ∀ o, ((w2.alloc o).drew).cell? ⟨M, 1, none⟩ = some (.int .i64 (ck + 1)) := fun o => cellOld x1d
    have x2a : ∀ o, (w3.alloc o).cell? ⟨M, 1, none⟩ = some (.int .i64 (ck + 1)) := fun o => cellOld x2
    have HNe := Lib.hid (show M ≠ w.heap.size by omega)
    clear HT hM2 hZ hF2 hs3 hrun3 hb3 hown3 hw3 hS2 hz3
    go_wp2_with fail
    go_cut [5] (fun v wx => v = .int .i64 0 ∧ ∃ S B c, wx.heap[w.heap.size]? = some (vlC (strV S b.length)) ∧ TextW w M fr ck av dv sv la b S B c wx)
    case first =>
      go_region_held3 (fun w' => w'.cell? ⟨M, 1, none⟩ = some (.int .i64 (ck + 1))) (first | with_reducible exact x2 | with_reducible exact x1 | with_reducible exact x1d | with_reducible exact x1a _ | with_reducible exact x1b _ | with_reducible exact x2a _ | with_reducible exact cellOld (far10 HNe.out x2) | fail) (refine step_append_run rfl (.tmp 20) (.tmp 21) 35 35 35 (.slice (some ⟨B3, 0, none⟩) b.length c3) rfl rfl _ _ rfl rfl HRun3.out ?_)
      all_goals go_wp2_with fail
      all_goals go_meet
      have hp := put10 HZ3.out (.int .i64 6) (.bool false) (.int .i64 0) (.int .i64 0) (.string ⟨#[]⟩) (.pointer (some ⟨w3.heap.size, 0, none⟩)) (.pointer none) (.pointer none) (.int .i64 0) (.int .i64 b.length)
      refine ⟨rfl, w3.heap.size, B3, c3, (heap_alloc_old _ _ (by rw [hp.size]; exact hlt3)).trans hp.blk, ?_⟩
      have hF := Frm.put (Frm.below HW3.out HB3.out) (Nat.le_refl _) hp
      refine ⟨alloc_at hp.size, ?_, by omega, by have h1 := HW3.out.size; have h2 : w2.heap.size ≤ B3 := hB3; omega, ?_, Frm.below hF (below1 _ _)⟩
      · refine owns_same HO3.out (fun k hk => ?_)
        have hk3 := owns_lt HO3.out hk
        refine (heap_alloc_old _ _ (by rw [hp.size]; exact hk3)).trans (hp.far k ?_)
        intro e1
        exact own_ne HZ3.out HO3.out (by decide) (by rw [← e1]; exact hk.symm)
      · refine (heap_alloc_old _ _ (by rw [hp.size]; have := HL.out.1; have := HB3.out.size; omega)).trans ((hp.far M HNe.out).trans ((HB3.out.block _ HL.out.1).trans HM2.out))
    case rest =>
      obtain ⟨rfl, S, B, c, hv, hT⟩ := hcut
      unfold strV vlC at hv
      have HT := Lib.hid hT
      clear hT
      go_wp2_with fail
      exact bodyPost_ret (results_vl2 Tryz.results24 _ _ w.heap.size rfl rfl hv) rfl (Or.inr ⟨hz, S, B, c, rfl, HT.out⟩)
end Mm
end Go.Proofs.YtfilbfenpdaahaaGreatDoor
namespace Go.Proofs.YtfilbfenpdaahaaGreatDoor
open Go.RowKit
open St
open Col
namespace Mm
/-- cells that can be read at a slice's address -/
def SrcX (w : World) (a : Option Addr) (xs : List Value) : Prop := xs = [] ∨ ∃ ad, a = some ad ∧ ∀ j z, xs[j]? = some z → w.cell? (ad.add j) = some z
theorem SrcX.below {w w' : World} {a : Option Addr} {l : List Value} (h : SrcX w a l) (hb : Below w.heap.size w w') : SrcX w' a l := by
  rcases h with h | ⟨ad, e, hc⟩
  · exact .inl h
  · exact .inr ⟨ad, e, fun j z hz => (hb.cell (World.block_lt_of_cell? w _ (hc j z hz))).trans (hc j z hz)⟩
theorem copied_any {w : World} {a : Option Addr} {xs : List Value} {n c size bytes : Nat} {T E ty : TypeId} {i0 : TypeInfo} {z : Value} (hu : Tryz.prog.underlying T = some (.slice E)) (hi : Tryz.prog.info? E = some i0) (hz0 : i0.zero = some z) (hz1 : i0.size = size) (hz2 : i0.bytes = bytes) (hzs : z.cells.size = size) (hs0 : 0 < size)
    (h : SrcX w a xs) (hl : xs.length = n * size) (h1 : ∀ u ∈ xs, u.oneCell' = true) (hc : a = none → c = 0 ∧ n = 0) (hm : n ≤ maxLen) (hb : n * bytes ≤ 140737488355328) :
    ∃ B c2 w2, (Builtin.append_ #[T, T] ty #[.slice (some ⟨w.heap.size, 0, none⟩) 0 0, .slice a n c]).run Tryz.prog (w.alloc (.cells #[] E)) = .ok (.slice (some ⟨B, 0, none⟩) n c2) w2 ∧
      Below w.heap.size w w2 ∧ w.heap.size ≤ B ∧ w2.ownsRow 0 E size (.slice (some ⟨B, 0, none⟩) n c2) n xs := by
  have hmo : (w.alloc (.cells #[] E)).ownsRow w.heap.size E size (.slice (some ⟨w.heap.size, 0, none⟩) 0 0) 0 [] := World.ownsRow_made w #[] 0 (Nat.le_refl _) (by unfold maxLen; omega) (by simp)
  cases a with
  | none =>
    obtain ⟨rfl, rfl⟩ := hc rfl
    obtain rfl : xs = [] := List.eq_nil_of_length_eq_zero (by omega)
    have hr := run_append_owned_none (P := Tryz.prog) (w := w.alloc (.cells #[] E)) w.heap.size T ty E i0 size hu hi _ 0 [] hmo
    exact ⟨w.heap.size, 0, _, hr, below1 _ _, Nat.le_refl _, own_zero hmo⟩
  | some ad =>
    have hx : ∀ j z, xs[j]? = some z → w.cell? (ad.add j) = some z := by
      rcases h with h | ⟨ad', e, hx⟩
      · subst h; intro j z hz; simp at hz
      · cases e; exact hx
    obtain ⟨v', w', hr, h2, h3, h4⟩ := run_append_own (P := Tryz.prog) (w.alloc (.cells #[] E)) w.heap.size T ty E i0 z size bytes hu hi hz0 hz1 hz2 hzs hs0 _ 0 [] hmo ad n c xs hl (fun j u hu => cellOld (hx j u hu)) h1 (by omega) (by simpa using hb) (by simp)
    rw [Nat.zero_add, List.nil_append] at h2
    have hb : Below w.heap.size w w' := Below.grown (w := w.alloc (.cells #[] E)) ((Below.refl _ _).alloc (Nat.le_refl _) _) h3 (by simp) (by intro k hk; simp [Value.ownBlock] at hk; omega)
    obtain ⟨g, cap, rfl, hgB⟩ : ∃ g cap, v' = .slice (some ⟨g, 0, none⟩) n cap ∧ w.heap.size ≤ g := by
      rcases h2.2 with ⟨e, hn⟩ | ⟨g, cap, cur, e, hg, _⟩
      · cases (h4.1 e).1
      · exact ⟨g, cap, e, hg⟩
    exact ⟨g, cap, w', hr, hb, hgB, own_zero h2⟩
theorem val_info : (Tryz.prog.info? 53).map (fun i => (i.zero, i.size, i.bytes)) = some (some (.agg zeroVl), 10, 88) := by kernel_rfl
theorem parr_info : (Tryz.prog.info? 50).map (fun i => (i.zero, i.size, i.bytes)) = some (some (.pointer none), 1, 8) := by kernel_rfl
theorem pdic_info : (Tryz.prog.info? 51).map (fun i => (i.zero, i.size, i.bytes)) = some (some (.pointer none), 1, 8) := by kernel_rfl
def arrV (A : Nat) (n : Nat) : Vl := ⟨7, false, 0, 0, ⟨#[]⟩, .pointer none, .pointer (some ⟨A, 0, none⟩), .pointer none, 0, n⟩
def arrC (v : Value) (born : Int) : Obj := .cells #[v, .int .i64 born] 107
def dicV (D : Nat) : Vl := ⟨8, false, 0, 0, ⟨#[]⟩, .pointer none, .pointer none, .pointer (some ⟨D, 0, none⟩), 0, 0⟩
def dicC (ks vs : Value) (most acc born : Int) : Obj := .cells #[ks, vs, .int .i64 most, .int .i64 acc, .int .i64 born] 89
/-- one's own row is longer by one pointer -/
theorem push_ptr {w : World} {E T ty : TypeId} {i0 : TypeInfo} (hu : Tryz.prog.underlying T = some (.slice E)) (hi : Tryz.prog.info? E = some i0) (hz0 : i0.zero = some (.pointer none)) (hz1 : i0.size = 1) (hz2 : i0.bytes = 8) {v : Value} {k : Nat} {ps : List Value} (h : w.ownsRow 0 E 1 v k ps) (hk : k ≤ 1048576) (A : Nat) :
    ∃ g cap w', (Builtin.append_ #[T, T] ty #[v, .slice (some ⟨w.heap.size, 0, none⟩) 1 1]).run Tryz.prog (w.alloc (.cells #[.pointer (some ⟨A, 0, none⟩)] E)) = .ok (.slice (some ⟨g, 0, none⟩) (k + 1) cap) w' ∧ w'.ownsRow 0 E 1 (.slice (some ⟨g, 0, none⟩) (k + 1) cap) (k + 1) (ps ++ [.pointer (some ⟨A, 0, none⟩)]) ∧ (w.alloc (.cells #[.pointer (some ⟨A, 0, none⟩)] E)).grownBy w' v.ownBlock ∧ (isB v g ∨ w.heap.size < g) ∧ g < w'.heap.size := by
  have h1 : (w.alloc (.cells #[.pointer (some ⟨A, 0, none⟩)] E)).ownsRow 0 E 1 v k ps := owns_same h (fun q hq => heap_alloc_old _ _ (owns_lt h hq))
  obtain ⟨g, cap, w', hr, h2, h3, h4, h5⟩ := run_append_lies (P := Tryz.prog) (w.alloc (.cells #[.pointer (some ⟨A, 0, none⟩)] E)) T ty 0 E i0 (.pointer none) 1 8 hu hi hz0 hz1 hz2 rfl (by decide) v k ps h1 ⟨w.heap.size, 0, none⟩ 1 1 [.pointer (some ⟨A, 0, none⟩)] rfl (fun j u hu => by
    rcases j with _ | j
    · simp at hu; subst hu
      rw [Addr.add_lit, blk_cell (heap_alloc_new w _)]; rfl
    · simp at hu) (by simp [Value.oneCell']) (by decide) (by unfold maxLen; omega) (by omega) (Nat.zero_le _) (w.heap.size + 1) (by simp)
  exact ⟨g, cap, w', hr, h2, h3, h4.imp id (fun e => by omega), h5⟩
/-- a new array of the document's memory -/
structure ListW (w : World) (M : Nat) (fr ck : Int) (dv sv : Value) (la : Int) (av : Value) (k : Nat) (ps xs : List Value) (n A B c : Nat) (w' : World) : Prop where
  arr : w'.heap[A]? = some (arrC (.slice (some ⟨B, 0, none⟩) n c) (ck + 1))
  row : w'.ownsRow 0 53 10 (.slice (some ⟨B, 0, none⟩) n c) n xs
  a0 : w.heap.size ≤ A
  b0 : w.heap.size ≤ B
  mem : ∃ av', w'.heap[M]? = some (memC (fr - (1 + (n : Nat))) (ck + 1) av' dv sv la) ∧ w'.ownsRow 0 50 1 av' (k + 1) (ps ++ [.pointer (some ⟨A, 0, none⟩)]) ∧ ∀ q, isB av' q → isB av q ∨ w.heap.size ≤ q
  frm : Frm (fun q => q = M ∨ isB av q) w w'
def ListP (w : World) (M : Nat) (fr ck : Int) (dv sv : Value) (la : Int) (av : Value) (k : Nat) (ps xs : List Value) (n : Nat) (e : Ending) (w' : World) : Prop :=
  (tkE n 65535 (1 + (n : Nat)) fr ≠ 0 ∧ e = .returned (.tuple #[nulV.val, .int .i64 (tkE n 65535 (1 + (n : Nat)) fr)]) ∧ Below w.heap.size w w') ∨
  (tkE n 65535 (1 + (n : Nat)) fr = 0 ∧ ∃ A B c, e = .returned (.tuple #[(arrV A n).val, .int .i64 0]) ∧ ListW w M fr ck dv sv la av k ps xs n A B c w')
theorem grown_set_blk {w w' : World} {v : Value} {q : Nat} (h : w.grownBy w' v.ownBlock) (hq : q < w.heap.size) (hn : ¬ isB v q) : w'.heap[q]? = w.heap[q]? := h.block q hq (fun e => hn (by unfold isB; exact e.symm))
set_option maxRecDepth 100000 in
set_option maxHeartbeats 1000000 in
theorem mlist_at {w : World} {M c0 n k : Nat} {fr ck : Int} {av dv sv : Value} {la : Int} {p : Option Addr} {xs ps : List Value} (h : w.heap[M]? = some (memC fr ck av dv sv la)) (hf : 0 ≤ fr) (hk : 0 ≤ ck) (hfk : ck + fr ≤ 1048576) (hav : w.ownsRow 0 50 1 av k ps) (hkk : k ≤ 1048575) (hl : xs.length = n * 10) (h1 : ∀ u ∈ xs, u.oneCell' = true)
    (hS : SrcX w p xs) (hp : p = none → c0 = 0 ∧ n = 0) (hpM : ∀ ad, p = some ad → ad.block ≠ M) (hb : n ≤ 100000000) :
    Calls Tryz.prog 26 #[.pointer (some ⟨M, 0, none⟩), .slice p n c0] w (ListP w M fr ck dv sv la av k ps xs n) := by
  have hlt : M < w.heap.size := (Array.getElem?_eq_some_iff.1 h).1
  have hMa : ¬ isB av M := fun e => own_ne h hav (by decide) e.symm
  have hb1 := below1 w (.cells zeroVl 53)
  have hx1 : (w.alloc (.cells zeroVl 53)).heap[M]? = some (memC fr ck av dv sv la) := (hb1.block M hlt).trans h
  have HT := Lib.hid (take_at hx1 n 65535 (1 + (n : Nat)) hf hk hfk (by omega))
  have HS := Lib.hid (hS.below hb1)
  have HB1 := Lib.hid hb1
  have HAv := Lib.hid hav
  unfold zeroVl at HT HB1
  clear h hx1 hb1 hS hav
  go_enter Tryz.func26, Tryz.ntmps26
  go_wp2_with fail
  refine HT.out.mono ?_; rintro e w2 hP
  rcases hP with ⟨hne, rfl, rfl⟩ | ⟨hz, rfl, hM2, hF2, hs2⟩
  · generalize hE : tkE n 65535 (1 + (n : Nat)) fr = E at *
    have g1 : (E != 0) = true := by simp [hne]
    have HE := Lib.hid hE
    clear hE HT
    go_wp2_with fail
    exact bodyPost_ret (results_vl2 Tryz.results26 _ _ w.heap.size rfl rfl (heap_alloc_new w _)) rfl (Or.inl ⟨by rw [HE.out]; exact hne, by rw [HE.out]; rfl, HB1.out⟩)
  · have hZ : w2.heap[w.heap.size]? = some (.cells zeroVl 53) := (hF2.block _ (by simp) (by omega)).trans (heap_alloc_new w _)
    have hS2 : SrcX w2 p xs := by
      rcases HS.out with e | ⟨ad, e, hc⟩
      · exact .inl e
      · refine .inr ⟨ad, e, fun j z hz => ?_⟩
        have h5 := hc j z hz
        have hlt5 := World.block_lt_of_cell? _ _ h5
        refine (World.cell?_of_block (hF2.block _ hlt5 (fun e1 => ?_))).trans h5
        exact hpM ad e ((show (ad.add j).block = ad.block by unfold Addr.add; split <;> rfl).symm.trans e1)
    have hw3 := Frm.ofBelow HB1.out hF2
    have hAv2 : w2.ownsRow 0 50 1 av k ps := owns_same HAv.out (fun q hq => hw3.block q (owns_lt HAv.out hq) (fun e => hMa (by rw [← e]; exact hq)))
    have hlt2 : M < w2.heap.size := (Array.getElem?_eq_some_iff.1 hM2).1
    obtain ⟨i0, hi, hz0, hz1, hz2⟩ := info_parts val_info
    have hn65 := (tkE_zero hz).2.1
    obtain ⟨B3, c3, w3, hrun3, hb3, hB3, hown3⟩ := copied_any (c := c0) (n := n) (w := w2.drew) (T := 85) (ty := 85) Tryz.underlying85 hi hz0 hz1 hz2 (by rfl) (by decide) (hS2.below (below_draw (Below.refl _ _) 1)) hl h1 hp (by unfold maxLen; omega) (by omega)
    have hs3 : w2.drew.heap.size = w.heap.size + 1 := by have := hs2; simpa using this
    rw [hs3] at hrun3
    have HRun3 : Hid ((Builtin.append_ #[85, 85] 85 #[.slice (some ⟨w.heap.size + 1, 0, none⟩) 0 0, .slice p n c0]).run Tryz.prog ((w2.alloc (.cells #[] 53)).drew) = .ok (.slice (some ⟨B3, 0, none⟩) n c3) w3) := Lib.hid hrun3
    have HB3 := Lib.hid (show Below w2.heap.size w2 w3 from bthen (below_draw (Below.refl _ _) 1) hb3)
    have HO3 := Lib.hid hown3
    have HM2 := Lib.hid hM2
    have HZ := Lib.hid hZ
    have HW3 := Lib.hid hw3
    have HAv2 := Lib.hid hAv2
    have x1 : w2.cell? ⟨M, 1, none⟩ = some (.int .i64 (ck + 1)) := blk_cell hM2 1
    have x2 : w3.cell? ⟨M, 1, none⟩ = some (.int .i64 (ck + 1)) := (HB3.out.cell (by exact hlt2)).trans x1
    have x1d : w2.drew.cell? ⟨M, 1, none⟩ = some (.int .i64 (ck + 1)) := x1
    have x1a : ∀ o, (w2.drew.alloc o).cell? ⟨M, 1, none⟩ = some (.int .i64 (ck + 1)) := fun o => cellOld x1d
    have x1b : ∀ o, ((w2.alloc o).drew).cell? ⟨M, 1, none⟩ = some (.int .i64 (ck + 1)) := fun o => cellOld x1d
    have x2a : ∀ o, (w3.alloc o).cell? ⟨M, 1, none⟩ = some (.int .i64 (ck + 1)) := fun o => cellOld x2
    have HL := Lib.hid (And.intro hlt2 (And.intro (Array.getElem?_eq_some_iff.1 hZ).1 hs2))
    clear HT hM2 hZ hF2 hs3 hrun3 hb3 hown3 hw3 hS2 hAv2 hi hz0 hz1 hz2
    go_wp2_with fail
    go_cut [7] (fun v wx => ∃ A B c, v = .pointer (some ⟨A, 0, none⟩) ∧ wx.heap[A]? = some (arrC (.slice (some ⟨B, 0, none⟩) n c) (ck + 1)) ∧ wx.ownsRow 0 53 10 (.slice (some ⟨B, 0, none⟩) n c) n xs ∧ w.heap.size + 1 ≤ A ∧ w.heap.size + 1 ≤ B ∧ Below w2.heap.size w2 wx)
    case first =>
      go_region_held3 (fun w' => w'.cell? ⟨M, 1, none⟩ = some (.int .i64 (ck + 1))) (first | with_reducible exact x2 | with_reducible exact x1 | with_reducible exact x1d | with_reducible exact x1a _ | with_reducible exact x1b _ | with_reducible exact x2a _ | fail) (refine step_append_run rfl (.tmp 19) (.tmp 20) 85 85 85 (.slice (some ⟨B3, 0, none⟩) n c3) rfl rfl _ _ rfl rfl HRun3.out ?_)
      all_goals go_wp2_with fail
      all_goals go_meet
      have h2 : w2.heap.size ≤ B3 := hB3
      have h3 := HB3.out.size
      have h4 := HL.out.2.1
      refine ⟨w3.heap.size, B3, c3, rfl, heap_alloc_new _ _, owns_same HO3.out (fun q hq => heap_alloc_old _ _ (owns_lt HO3.out hq)), by omega, by omega, bthen HB3.out (below1 _ _)⟩
    case rest =>
      obtain ⟨A, B, c, rfl, hA, hrow, hA0, hB0, hbx⟩ := hcut
      have hlt6 : M < wc.heap.size := Nat.lt_of_lt_of_le HL.out.1 hbx.size
      have hM6 : wc.heap[M]? = some (memC (fr - (1 + (n : Nat))) (ck + 1) av dv sv la) := (hbx.block M HL.out.1).trans HM2.out
      have hZ6 : wc.heap[w.heap.size]? = some (.cells zeroVl 53) := (hbx.block _ HL.out.2.1).trans HZ.out
      have hAv6 : wc.ownsRow 0 50 1 av k ps := owns_same HAv2.out (fun q hq => hbx.block q (owns_lt HAv2.out hq))
      obtain ⟨j0, hj, hj0, hj1, hj2⟩ := info_parts parr_info
      obtain ⟨g7, c7, w7, hr7, ho7, hg7, hi7, hlt7⟩ := push_ptr (ty := 44) Tryz.underlying44 hj hj0 hj1 hj2 hAv6 (by omega) A
      have HR7 := Lib.hid hr7
      have hMa7 : w7.heap[M]? = some (memC (fr - (1 + (n : Nat))) (ck + 1) av dv sv la) := (grown_set_blk hg7 (by simp; omega) hMa).trans ((heap_alloc_old _ _ hlt6).trans hM6)
      have hZa : ¬ isB av w.heap.size := fun e => own_ne hZ6 hAv6 (by decide) e.symm
      have hZ7 : w7.heap[w.heap.size]? = some (.cells zeroVl 53) := (grown_set_blk hg7 (by have := (Array.getElem?_eq_some_iff.1 hZ6).1; simp; omega) hZa).trans ((heap_alloc_old _ _ (Array.getElem?_eq_some_iff.1 hZ6).1).trans hZ6)
      have y2 : wc.cell? ⟨M, 2, none⟩ = some av := blk_cell hM6 2
      have y7 : w7.cell? ⟨M, 2, none⟩ = some av := blk_cell hMa7 2
      have yf := blk_free hMa7
      have HZ7 := Lib.hid hZ7
      unfold zeroVl at hZ7
      obtain ⟨z0, z1, z2, z3, z4, z5, z6, z7, z8, z9, zf⟩ := cells10 hZ7
      have hne7 : ¬ w.heap.size = M := by omega
      have hne8 : ¬ M = w.heap.size := by omega
      have HF := Lib.hid (And.intro hA (And.intro hrow (And.intro hbx (And.intro ho7 hg7))))
      have HM7 := Lib.hid hMa7
      clear hM6 hZ6 hAv6 hr7 ho7 hg7 hMa7 hZ7 hA hrow hbx hj hj0 hj1 hj2 x1 x2 x1d x1a x1b x2a
      go_wp2_with (at_builtin; refine wpList_append_run5 rfl (.tmp 32) (.tmp 34) 44 44 (.slice (some ⟨g7, 0, none⟩) (k + 1) c7) rfl rfl _ _ rfl rfl HR7.out ?_)
      have hM8 := blk_set HM7.out 2 (.slice (some ⟨g7, 0, none⟩) (k + 1) c7)
      have hZ8 := (blk_far hne7 (.slice (some ⟨g7, 0, none⟩) (k + 1) c7) (j := 2)).trans HZ7.out
      have hp := put10 hZ8 (.int .i64 7) (.bool false) (.int .i64 0) (.int .i64 0) (.string ⟨#[]⟩) (.pointer none) (.pointer (some ⟨A, 0, none⟩)) (.pointer none) (.int .i64 0) (.int .i64 n)
      obtain ⟨hA, hrow, hbx, ho7, hg7⟩ := HF.out
      have hfar : ∀ q, q < wc.heap.size → q ≠ M → q ≠ w.heap.size → ¬ isB av q → w7.heap[q]? = wc.heap[q]? := fun q h1 h2 h3 h4 => (grown_set_blk hg7 (by simp; omega) h4).trans (heap_alloc_old _ _ h1)
      refine bodyPost_ret (results_vl2 Tryz.results26 _ _ w.heap.size rfl rfl hp.blk) rfl (Or.inr ⟨hz, A, B, c, rfl, ?_⟩)
      have hAv6 : wc.ownsRow 0 50 1 av k ps := owns_same HAv2.out (fun q hq => hbx.block q (owns_lt HAv2.out hq))
      have hAlt := (Array.getElem?_eq_some_iff.1 hA).1
      have hstep : ∀ q, q ≠ M → q ≠ w.heap.size → _ = w7.heap[q]? := fun q h1 h2 => (hp.far q h2).trans (blk_far h1 _)
      refine ⟨(hstep A (by omega) (by omega)).trans ((hfar A hAlt (by omega) (by omega) (fun e => own_ne hA hAv6 (by decide) e.symm)).trans hA), ?_, by omega, by omega, ⟨_, (hp.far M (by omega)).trans hM8, ?_, ?_⟩, ?_⟩
      · refine owns_same hrow (fun q hq => ?_)
        have hqB : B = q := by simpa [isB, Value.ownBlock] using hq
        have hqlt := owns_lt hrow hq
        rcases hrow.2 with ⟨e0, _⟩ | ⟨g, cap, cur, e0, _, hg, _⟩
        · cases e0
        · cases e0
          subst hqB
          exact (hstep B (by omega) (by omega)).trans (hfar B hqlt (by omega) (by omega) (fun e => own_ne hg hAv6 (by decide) e.symm))
      · refine owns_same ho7 (fun q hq => hstep q ?_ ?_)
        · intro e1; exact own_ne HM7.out ho7 (by decide) (by rw [← e1]; exact hq.symm)
        · intro e1; exact own_ne HZ7.out ho7 (by decide) (by rw [← e1]; exact hq.symm)
      · intro q hq
        have hqB : g7 = q := by simpa [isB, Value.ownBlock] using hq
        subst hqB
        rcases hi7 with e | e
        · exact .inl e
        · exact .inr (by have := hbx.size; have := HW3.out.size; omega)
      · refine ⟨?_, ?_, ?_, ?_, fun q hq hO => ?_⟩
        · exact hp.os.trans ((setC_os _ _ _).trans (hg7.os.trans (hbx.os.trans HW3.out.os)))
        · exact hp.tape.trans ((setC_tape _ _ _).trans (hg7.tape.trans (hbx.tape.trans HW3.out.tape)))
        · exact hp.output.trans ((setC_output _ _ _).trans (hg7.output.trans (hbx.output.trans HW3.out.output)))
        · rw [hp.size, setC_size]
          have := hg7.size; have := hbx.size; have := HW3.out.size
          simp at *
          omega
        · have h1 : q ≠ M := fun e => hO (.inl e)
          have h2 : ¬ isB av q := fun e => hO (.inr e)
          exact (hstep q h1 (by omega)).trans ((hfar q (by have := hbx.size; have := HW3.out.size; omega) h1 (by omega) h2).trans ((hbx.block q (by have := HW3.out.size; omega)).trans (HW3.out.block q hq h1)))
end Mm
end Go.Proofs.YtfilbfenpdaahaaGreatDoor
namespace Go.Proofs.YtfilbfenpdaahaaGreatDoor
open Go.RowKit
open St
open Col
namespace Mm
/-- a new dictionary of the document's memory -/
structure DictW (w : World) (M : Nat) (fr ck : Int) (av sv : Value) (la : Int) (dv : Value) (k : Nat) (ps : List Value) (n : Nat) (D : Nat) (w' : World) : Prop where
  dic : w'.heap[D]? = some (dicC (.slice none 0 0) (.slice none 0 0) n 0 (ck + 1))
  d0 : w.heap.size ≤ D
  mem : ∃ dv', w'.heap[M]? = some (memC (fr - (1 + 2 * (n : Nat))) (ck + 1) av dv' sv la) ∧ w'.ownsRow 0 51 1 dv' (k + 1) (ps ++ [.pointer (some ⟨D, 0, none⟩)]) ∧ ∀ q, isB dv' q → isB dv q ∨ w.heap.size ≤ q
  frm : Frm (fun q => q = M ∨ isB dv q) w w'
def DictP (w : World) (M : Nat) (fr ck : Int) (av sv : Value) (la : Int) (dv : Value) (k : Nat) (ps : List Value) (n : Nat) (e : Ending) (w' : World) : Prop :=
  (tkE n 4096 (1 + 2 * (n : Nat)) fr ≠ 0 ∧ e = .returned (.tuple #[nulV.val, .int .i64 (tkE n 4096 (1 + 2 * (n : Nat)) fr)]) ∧ Below w.heap.size w w') ∨
  (tkE n 4096 (1 + 2 * (n : Nat)) fr = 0 ∧ ∃ D, e = .returned (.tuple #[(dicV D).val, .int .i64 0]) ∧ DictW w M fr ck av sv la dv k ps n D w')
set_option maxRecDepth 100000 in
set_option maxHeartbeats 1000000 in
theorem mdict_at {w : World} {M n k : Nat} {fr ck : Int} {av dv sv : Value} {la : Int} {ps : List Value} (h : w.heap[M]? = some (memC fr ck av dv sv la)) (hf : 0 ≤ fr) (hk : 0 ≤ ck) (hfk : ck + fr ≤ 1048576) (hav : w.ownsRow 0 51 1 dv k ps) (hkk : k ≤ 1048575) (hb : n ≤ 4096) :
    Calls Tryz.prog 28 #[.pointer (some ⟨M, 0, none⟩), .int .i64 n] w (DictP w M fr ck av sv la dv k ps n) := by
  have hlt : M < w.heap.size := (Array.getElem?_eq_some_iff.1 h).1
  have hMa : ¬ isB dv M := fun e => own_ne h hav (by decide) e.symm
  have hb1 := below1 w (.cells zeroVl 53)
  have hx1 : (w.alloc (.cells zeroVl 53)).heap[M]? = some (memC fr ck av dv sv la) := (hb1.block M hlt).trans h
  have HT := Lib.hid (take_at hx1 n 4096 (1 + 2 * (n : Nat)) hf hk hfk (by omega))
  have HB1 := Lib.hid hb1
  have HAv := Lib.hid hav
  have g0 : decide ((4096 : Int) < (n : Int)) = false := decide_eq_false (by omega)
  have e1 : (2 : Int) * (n : Int) = 2 * (n : Nat) := rfl
  have w1 : IntKind.i64.wrap (2 * (n : Int)) = 2 * (n : Int) := by rw [IntKind.wrap_i64]; omega
  have w2 : IntKind.i64.wrap (1 + 2 * (n : Int)) = 1 + 2 * (n : Int) := by rw [IntKind.wrap_i64]; omega
  unfold zeroVl at HT HB1
  clear h hx1 hb1 hav e1
  go_enter Tryz.func28, Tryz.ntmps28
  go_wp2_with fail
  refine HT.out.mono ?_; rintro e w2 hP
  rcases hP with ⟨hne, rfl, rfl⟩ | ⟨hz, rfl, hM2, hF2, hs2⟩
  · generalize hE : tkE n 4096 (1 + 2 * (n : Nat)) fr = E at *
    have g1 : (E != 0) = true := by simp [hne]
    have HE := Lib.hid hE
    clear hE HT
    go_wp2_with fail
    exact bodyPost_ret (results_vl2 Tryz.results28 _ _ w.heap.size rfl rfl (heap_alloc_new w _)) rfl (Or.inl ⟨by rw [HE.out]; exact hne, by rw [HE.out]; rfl, HB1.out⟩)
  · have hZ : w2.heap[w.heap.size]? = some (.cells zeroVl 53) := (hF2.block _ (by simp) (by omega)).trans (heap_alloc_new w _)
    have hw3 := Frm.ofBelow HB1.out hF2
    have hAv2 : w2.ownsRow 0 51 1 dv k ps := owns_same HAv.out (fun q hq => hw3.block q (owns_lt HAv.out hq) (fun e => hMa (by rw [← e]; exact hq)))
    have hlt2 : M < w2.heap.size := (Array.getElem?_eq_some_iff.1 hM2).1
    have hs3 : w2.heap.size = w.heap.size + 1 := by have := hs2; simpa using this
    have HM2 := Lib.hid hM2
    have HZ := Lib.hid hZ
    have HW3 := Lib.hid hw3
    have HAv2 := Lib.hid hAv2
    have x1 : w2.cell? ⟨M, 1, none⟩ = some (.int .i64 (ck + 1)) := blk_cell hM2 1
    have HL := Lib.hid (And.intro hlt2 (And.intro (Array.getElem?_eq_some_iff.1 hZ).1 hs3))
    have y3 : w2.cell? ⟨M, 3, none⟩ = some dv := blk_cell hM2 3
    have hbx : Below w2.heap.size w2 (w2.alloc (dicC (.slice none 0 0) (.slice none 0 0) n 0 (ck + 1))) := below1 _ _
    have hA : (w2.alloc (dicC (.slice none 0 0) (.slice none 0 0) n 0 (ck + 1))).heap[w2.heap.size]? = some (dicC (.slice none 0 0) (.slice none 0 0) n 0 (ck + 1)) := heap_alloc_new _ _
    have hsz6 : (w2.alloc (dicC (.slice none 0 0) (.slice none 0 0) n 0 (ck + 1))).heap.size = w2.heap.size + 1 := by simp
    generalize hwc : w2.alloc (dicC (.slice none 0 0) (.slice none 0 0) n 0 (ck + 1)) = wc at hbx hA hsz6
    have hlt6 : M < wc.heap.size := Nat.lt_of_lt_of_le hlt2 hbx.size
    have hM6 : wc.heap[M]? = some (memC (fr - (1 + 2 * (n : Nat))) (ck + 1) av dv sv la) := (hbx.block M hlt2).trans hM2
    have hZ6 : wc.heap[w.heap.size]? = some (.cells zeroVl 53) := (hbx.block _ HL.out.2.1).trans hZ
    have hAv6 : wc.ownsRow 0 51 1 dv k ps := owns_same hAv2 (fun q hq => hbx.block q (owns_lt hAv2 hq))
    obtain ⟨j0, hj, hj0, hj1, hj2⟩ := info_parts pdic_info
    obtain ⟨g7, c7, w7, hr7, ho7, hg7, hi7, hlt7⟩ := push_ptr (ty := 45) Tryz.underlying45 hj hj0 hj1 hj2 hAv6 (by omega) w2.heap.size
    have HR7 : Hid ((Builtin.append_ #[45, 45] 45 #[dv, .slice (some ⟨w2.heap.size + 1, 0, none⟩) 1 1]).run Tryz.prog ((w2.alloc (dicC (.slice none 0 0) (.slice none 0 0) n 0 (ck + 1))).alloc (.cells #[.pointer (some ⟨w2.heap.size, 0, none⟩)] 51)) = .ok (.slice (some ⟨g7, 0, none⟩) (k + 1) c7) w7) := Lib.hid (by rw [hwc, ← hsz6]; exact hr7)
    unfold dicC at HR7
    have hMa7 : w7.heap[M]? = some (memC (fr - (1 + 2 * (n : Nat))) (ck + 1) av dv sv la) := (grown_set_blk hg7 (by simp; omega) hMa).trans ((heap_alloc_old _ _ hlt6).trans hM6)
    have hZa : ¬ isB dv w.heap.size := fun e => own_ne hZ6 hAv6 (by decide) e.symm
    have hZ7 : w7.heap[w.heap.size]? = some (.cells zeroVl 53) := (grown_set_blk hg7 (by have := (Array.getElem?_eq_some_iff.1 hZ6).1; simp; omega) hZa).trans ((heap_alloc_old _ _ (Array.getElem?_eq_some_iff.1 hZ6).1).trans hZ6)
    have y7 : w7.cell? ⟨M, 3, none⟩ = some dv := blk_cell hMa7 3
    have yf := blk_free hMa7
    have HZ7 := Lib.hid hZ7
    unfold zeroVl at hZ7
    obtain ⟨z0, z1, z2, z3, z4, z5, z6, z7, z8, z9, zf⟩ := cells10 hZ7
    have hne7 : ¬ w.heap.size = M := by omega
    have hne8 : ¬ M = w.heap.size := by omega
    have HF := Lib.hid (And.intro hA (And.intro hbx (And.intro ho7 hg7)))
    have HM7 := Lib.hid hMa7
    clear HT hM2 hZ hF2 hs2 hs3 hw3 hAv2 hM6 hZ6 hAv6 hr7 ho7 hg7 hMa7 hZ7 hA hbx hj hj0 hj1 hj2 hwc
    go_wp2_with (at_builtin; refine wpList_append_run5 rfl (.tmp 32) (.tmp 34) 45 45 (.slice (some ⟨g7, 0, none⟩) (k + 1) c7) rfl rfl _ _ rfl rfl HR7.out ?_)
    have hM8 := blk_set HM7.out 3 (.slice (some ⟨g7, 0, none⟩) (k + 1) c7)
    have hZ8 := (blk_far hne7 (.slice (some ⟨g7, 0, none⟩) (k + 1) c7) (j := 3)).trans HZ7.out
    have hp := put10 hZ8 (.int .i64 8) (.bool false) (.int .i64 0) (.int .i64 0) (.string ⟨#[]⟩) (.pointer none) (.pointer none) (.pointer (some ⟨w2.heap.size, 0, none⟩)) (.int .i64 0) (.int .i64 0)
    obtain ⟨hA, hbx, ho7, hg7⟩ := HF.out
    have hfar : ∀ q, q < wc.heap.size → q ≠ M → q ≠ w.heap.size → ¬ isB dv q → w7.heap[q]? = wc.heap[q]? := fun q h1 h2 h3 h4 => (grown_set_blk hg7 (by simp; omega) h4).trans (heap_alloc_old _ _ h1)
    refine bodyPost_ret (results_vl2 Tryz.results28 _ _ w.heap.size rfl rfl hp.blk) rfl (Or.inr ⟨hz, w2.heap.size, rfl, ?_⟩)
    have hAv6 : wc.ownsRow 0 51 1 dv k ps := owns_same HAv2.out (fun q hq => hbx.block q (owns_lt HAv2.out hq))
    have hs2 := HL.out.2.2
    have hstep : ∀ q, q ≠ M → q ≠ w.heap.size → _ = w7.heap[q]? := fun q h1 h2 => (hp.far q h2).trans (blk_far h1 _)
    refine ⟨(hstep w2.heap.size (by omega) (by omega)).trans ((hfar w2.heap.size (by omega) (by omega) (by omega) (fun e => own_ne hA hAv6 (by decide) e.symm)).trans hA), by omega, ⟨_, (hp.far M (by omega)).trans hM8, ?_, ?_⟩, ?_⟩
    · refine owns_same ho7 (fun q hq => hstep q ?_ ?_)
      · intro e1; exact own_ne HM7.out ho7 (by decide) (by rw [← e1]; exact hq.symm)
      · intro e1; exact own_ne HZ7.out ho7 (by decide) (by rw [← e1]; exact hq.symm)
    · intro q hq
      have hqB : g7 = q := by simpa [isB, Value.ownBlock] using hq
      subst hqB
      rcases hi7 with e | e
      · exact .inl e
      · exact .inr (by omega)
    · refine ⟨?_, ?_, ?_, ?_, fun q hq hO => ?_⟩
      · exact hp.os.trans ((setC_os _ _ _).trans (hg7.os.trans (hbx.os.trans HW3.out.os)))
      · exact hp.tape.trans ((setC_tape _ _ _).trans (hg7.tape.trans (hbx.tape.trans HW3.out.tape)))
      · exact hp.output.trans ((setC_output _ _ _).trans (hg7.output.trans (hbx.output.trans HW3.out.output)))
      · rw [hp.size, setC_size]
        have := hg7.size
        simp at *
        omega
      · have h1 : q ≠ M := fun e => hO (.inl e)
        have h2 : ¬ isB dv q := fun e => hO (.inr e)
        exact (hstep q h1 (by omega)).trans ((hfar q (by omega) h1 (by omega) h2).trans ((hbx.block q (by omega)).trans (HW3.out.block q hq h1)))
end Mm
end Go.Proofs.YtfilbfenpdaahaaGreatDoor
