/-
  What stands between two calls of the stack's laws; the law's answers; StackRolls.
-/
import Derived.Test.YtcmoppliipdfgaaStkRoll2
namespace Go.Proofs.Ytcmoppliipdfgaa
open Go.RowKit
open St Stk
/-- the stack, in memory made since w -/
def Stt (w wr : World) (s : Nat) (most ov un : Int) (l : List Ob) : Prop := ∃ O : Nat → Prop, Sk O wr s most ov un l ∧ (∀ k, O k → w.heap.size ≤ k) ∧ Below w.heap.size w wr
theorem Stt.step {w wr w' : World} {s : Nat} {most ov un : Int} {l : List Ob} (h : Stt w wr s most ov un l) (hb : Below wr.heap.size wr w') : Stt w w' s most ov un l := by
  obtain ⟨O, h1, h2, h3⟩ := h
  exact ⟨O, h1.below hb, h2, bthen h3 hb⟩
theorem turn_stt {w wr w' : World} {O : Nat → Prop} {s : Nat} {most ov un : Int} {l : List Ob} (hO : ∀ k, O k → w.heap.size ≤ k) (hb : Below w.heap.size w wr) (hp : SkP O wr s most ov un l w') : Stt w w' s most ov un l := by
  obtain ⟨O', h1, hF, h3⟩ := hp
  have hz := hb.size
  refine ⟨O', h1, fun k hk => ?_, ⟨hF.os.trans hb.os, hF.tape.trans hb.tape, hF.output.trans hb.output, Nat.le_trans hz hF.size, fun k hk => (hF.block k (by omega) (fun e => by have := hO k e; omega)).trans (hb.block k hk)⟩⟩
  rcases h3 k hk with e | e
  · exact hO k e
  · omega
theorem Stt.bel {w wr : World} {s : Nat} {most ov un : Int} {l : List Ob} (h : Stt w wr s most ov un l) : Below w.heap.size w wr := by
  obtain ⟨_, _, _, h⟩ := h; exact h
section
variable {w wr : World} {s : Nat} {most ov un : Int} {l : List Ob}
/-- an error, and the stack as it is then -/
def StE (w : World) (s : Nat) (most ov un : Int) (l : List Ob) (E : Int) (e : Ending) (w' : World) : Prop := e = .returned (.int .i64 E) ∧ Stt w w' s most ov un l
theorem st_new (most ov un : Int) (w : World) (h1 : most ≤ 9223372036854775807) : Calls Try.prog 51 #[.int .i64 most, .int .i64 ov, .int .i64 un] w fun e w' => e = .returned (.pointer (some ⟨w.heap.size, 0, none⟩)) ∧ Stt w w' w.heap.size (max most 0) ov un [] :=
  (skNew_at most ov un w h1).mono fun _ _ ⟨he, hs, hb⟩ => ⟨he, _, hs, fun k hk => by omega, hb⟩
theorem st_push {ys : List Ob} {a : Option Addr} {c : Nat} (h : Stt w wr s most ov un l) (hs : SrcO wr a ys) (hc : a = none → c = 0) (hm : l.length + ys.length ≤ 50000) (hf : (l.length : Int) + ys.length ≤ most) :
    Calls Try.prog 53 #[.pointer (some ⟨s, 0, none⟩), .slice a ys.length c] wr (StE w s most ov un (l ++ ys) 0) := by
  obtain ⟨O, h1, h2, h3⟩ := h
  exact (push_fit h1 hs hc hm hf).mono fun _ _ ⟨he, hp⟩ => ⟨he, turn_stt h2 h3 hp⟩
theorem st_push_no {ys : List Ob} {a : Option Addr} {c : Nat} (h : Stt w wr s most ov un l) (hm : l.length + ys.length ≤ 50000) (hf : ¬ (l.length : Int) + ys.length ≤ most) :
    Calls Try.prog 53 #[.pointer (some ⟨s, 0, none⟩), .slice a ys.length c] wr (StE w s most ov un l ov) := by
  obtain ⟨O, h1, h2, h3⟩ := h
  exact (push_full h1 hm hf).mono fun _ _ ⟨he, hp⟩ => ⟨he, turn_stt h2 h3 hp⟩
theorem st_len (h : Stt w wr s most ov un l) : Calls Try.prog 64 #[.pointer (some ⟨s, 0, none⟩)] wr fun e w' => e = .returned (.int .i64 l.length) ∧ w' = wr := by
  obtain ⟨O, h1, h2, h3⟩ := h
  exact skLen_at h1
theorem st_all (h : Stt w wr s most ov un l) : Calls Try.prog 65 #[.pointer (some ⟨s, 0, none⟩)] wr fun e w' => ∃ a c, e = .returned (.slice a l.length c) ∧ SL w' (.slice a l.length c) l ∧ Below wr.heap.size wr w' ∧ Stt w w' s most ov un l ∧ ∀ k, isB (.slice a l.length c) k → wr.heap.size ≤ k := by
  obtain ⟨O, h1, h2, h3⟩ := h
  refine (skAll_at h1).mono ?_
  rintro e w' ⟨v, he, hn, hb, hk⟩
  obtain ⟨a, c, rfl, _⟩ := hn.form
  exact ⟨a, c, he, hn, hb, Stt.step ⟨O, h1, h2, h3⟩ hb, hk⟩
theorem st_roll {n : Nat} {j : Int} (h : Stt w wr s most ov un l) (hn : n ≤ l.length) : Calls Try.prog 58 #[.pointer (some ⟨s, 0, none⟩), .int .i64 n, .int .i64 j] wr (StE w s most ov un (rol n (upOf n j) l) 0) := by
  obtain ⟨O, h1, h2, h3⟩ := h
  by_cases h0 : n = 0
  · subst h0
    rw [rol_none]
    exact (roll_zero h1).mono fun _ _ ⟨he, hp⟩ => ⟨he, turn_stt h2 h3 hp⟩
  · exact (roll_yes h1 (by omega) hn).mono fun _ _ ⟨he, hp⟩ => ⟨he, turn_stt h2 h3 hp⟩
theorem src_one (w : World) (o : Ob) : SrcO (w.alloc (obC o)) (some ⟨w.heap.size, 0, none⟩) [o] := by
  refine .inr ⟨_, rfl, fun j z hz => ?_⟩
  rw [Addr.add_lit, Nat.zero_add]
  have : (w.alloc (obC o)).cell? ⟨w.heap.size, j, none⟩ = _ := blk_cell (heap_alloc_new w (obC o)) j
  rw [this, ← hz]
  simp [Ob.cells]
theorem src_two (w : World) (o p : Ob) : SrcO (w.alloc (.cells (o.cells ++ p.cells).toArray 40)) (some ⟨w.heap.size, 0, none⟩) [o, p] := by
  refine .inr ⟨_, rfl, fun j z hz => ?_⟩
  rw [Addr.add_lit, Nat.zero_add]
  have : (w.alloc (.cells (o.cells ++ p.cells).toArray 40)).cell? ⟨w.heap.size, j, none⟩ = _ := blk_cell (heap_alloc_new w (.cells (o.cells ++ p.cells).toArray 40)) j
  rw [this, ← hz]
  simp
set_option maxRecDepth 100000
set_option maxHeartbeats 1000000
theorem answers07 (w : World) : Calls Try.prog 52 #[] w fun e w' => e = .returned (.bool true) ∧ Below w.heap.size w w' := by
  have HN := Lib.hid (st_new 2 5 6 w (by decide))
  rw [show max (2 : Int) 0 = 2 from rfl] at HN
  go_enter Try.func52, Try.ntmps52
  go_wp2_with fail
  refine HN.out.mono ?_; rintro e w1 ⟨rfl, hst⟩
  have hb1 := below1 w1 (obC ⟨1, false, 0, 7, ⟨#[]⟩, 0, 0, 0⟩)
  have HP1 := Lib.hid (st_push (c := 1) (hst.step hb1) (src_one w1 _) (fun e => by cases e) (by simp) (by simp))
  unfold obC at HP1
  simp only [List.length_singleton] at HP1
  clear hst hb1
  go_wp2_with fail
  refine HP1.out.mono ?_; rintro e w2 ⟨rfl, hst⟩
  have HL := Lib.hid (st_len hst)
  rw [List.nil_append, List.length_singleton] at HL
  have HS := Lib.hid hst
  clear hst
  go_wp2_with fail
  refine HL.out.mono ?_; rintro e w3 ⟨rfl, rfl⟩
  have HP2 := Lib.hid (st_push_no (a := some ⟨w3.heap.size, 0, none⟩) (c := 2) (ys := [nul, nul]) (HS.out.step (below1 w3 (.cells (nul.cells ++ nul.cells).toArray 40))) (by simp) (by simp))
  simp only [List.length_cons, List.length_nil] at HP2
  go_wp2_with fail
  refine HP2.out.mono ?_; rintro e w4 ⟨rfl, hst⟩
  have HB := Lib.hid hst.bel
  clear hst
  go_wp2_with fail
  go_ret
  exact ⟨rfl, HB.out⟩
end
end Go.Proofs.Ytcmoppliipdfgaa
