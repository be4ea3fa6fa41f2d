/-
  What stands between two steps of the law StoreApart.
-/
import Derived.Test.YtlflkdmbbomjeaaStoRun
import Derived.Test.YtlflkdmbbomjeaaStoRendAll
import Derived.Test.YtlflkdmbbomjeaaStoAns
import Derived.Test.YtlflkdmbbomjeaaStoCopy3
namespace Go.Proofs.Ytlflkdmbbomjeaa
open Go.RowKit
open St
theorem ActsR.below {w w' : World} {v : Value} {L : List Ac} (h : ActsR w v L) (hb : Below w.heap.size w w') : ActsR w' v L := by
  refine ⟨?_, fun x hx => (h.src x hx).below hb, h.a0, h.c0, h.k0, h.few, h.nil⟩
  rcases h.row with h0 | ⟨ad, cap, e, hc⟩
  · exact .inl h0
  · refine .inr ⟨ad, cap, e, fun i x hx f hf => ?_⟩
    have h1 := hc i x hx f hf
    have h2 : ∃ u, x.cells[f]? = some u := ⟨_, List.getElem?_eq_getElem (by simp [Ac.cells]; omega)⟩
    obtain ⟨u, hu⟩ := h2
    rw [hu] at h1 ⊢
    exact (World.cell?_of_block (hb.block _ (World.block_lt_of_cell? w _ h1))).trans h1
/-- one row of bytes alone has turned -/
structure Byt (w w' : World) (B n c : Nat) : Prop where
  row : ∃ bs : List UInt8, bs.length = n ∧ w'.ownsRow 0 5 1 (.slice (some ⟨B, 0, none⟩) n c) n (bs.map bv)
  far : ∀ k, k ≠ B → w'.heap[k]? = w.heap[k]?
  os : w'.os = w.os
  tape : w'.tape = w.tape
  output : w'.output = w.output
  size : w'.heap.size = w.heap.size
theorem Byt.set {w w' : World} {B n c i : Nat} (h : Byt w w' B n c) (hi : i < n) : ∃ z : UInt8, w'.cell? ⟨B, i, none⟩ = some (.int .u8 z.toNat) ∧ w'.frozen? ⟨B, i, none⟩ = false ∧ ∀ y : Int, 0 ≤ y → y < 256 → Byt w (w'.setCell ⟨B, i, none⟩ (.int .u8 y)) B n c := by
  obtain ⟨bs, hl, hrow⟩ := h.row
  have hx := List.getElem?_eq_getElem (l := bs) (i := i) (by omega)
  refine ⟨bs[i]'(by omega), ?_, hrow.frozenAt i, fun y hy0 hy => ?_⟩
  · rw [hrow.cellAt i (by omega), List.getElem?_map, hx]; rfl
  · obtain ⟨y, rfl⟩ : ∃ m : Nat, y = m := ⟨y.toNat, by omega⟩
    have hst := (hrow.stored i (.int .u8 y)).1
    refine ⟨⟨bs.set i (UInt8.ofNat y), by simp [hl], ?_⟩, fun k hk => (blk_far hk _).trans (h.far k hk), h.os, h.tape, h.output, by rw [setC_size]; exact h.size⟩
    have e : (bs.map bv).set i (.int .u8 y) = (bs.set i (UInt8.ofNat y)).map bv := by
      rw [List.map_set]
      congr 1
      have : y % 256 = y := Nat.mod_eq_of_lt (by omega)
      simp [bv, this]
    rw [e] at hst
    exact hst
theorem Byt.start {w : World} {B n c : Nat} {bs : List UInt8} (hl : bs.length = n) (h : w.ownsRow 0 5 1 (.slice (some ⟨B, 0, none⟩) n c) n (bs.map bv)) : Byt w w B n c := ⟨⟨bs, hl, h⟩, fun _ _ => rfl, rfl, rfl, rfl, rfl⟩
theorem Byt.below {w w' : World} {B n c k : Nat} (h : Byt w w' B n c) (hk : k ≤ B) : Below k w w' := ⟨h.os, h.tape, h.output, by rw [h.size]; exact Nat.le_refl _, fun q hq => h.far q (by omega)⟩
/-- the store, what was made, the text's box: between two steps of the law -/
structure AP (w wx : World) (s : Nat) (fr : Int) (G : List (Th × Lay)) (O : Nat → Prop) (l : List Ob) (mv : Value) (b : Nat) (o : Ob) (N : Nat) : Prop where
  rep : Rep O wx s fr G
  row : wx.ownsRow 0 40 8 mv l.length (l.flatMap Ob.cells)
  box : wx.heap[b]? = some (obC o)
  bel : Below w.heap.size w wx
  oN : ∀ k, O k → k < N
  rN : ∀ k, isB mv k → k < N
  bN : b < N
  wN : w.heap.size ≤ N
  le : N ≤ wx.heap.size
theorem AP.step {w wx wy : World} {s : Nat} {fr : Int} {G : List (Th × Lay)} {O : Nat → Prop} {l : List Ob} {mv : Value} {b : Nat} {o : Ob} {N : Nat} (h : AP w wx s fr G O l mv b o N) (hb : Below N wx wy) : AP w wy s fr G O l mv b o N :=
  ⟨h.rep.same hb.size (fun k _ hk => hb.block k (h.oN k hk)), owns_same h.row (fun k hk => hb.block k (h.rN k hk)), (hb.block b h.bN).trans h.box, h.bel.trans (hb.mono h.wN), h.oN, h.rN, h.bN, h.wN, Nat.le_trans h.le hb.size⟩
theorem AP.on {w wx wy : World} {s : Nat} {fr : Int} {G : List (Th × Lay)} {O : Nat → Prop} {l : List Ob} {mv : Value} {b : Nat} {o : Ob} {N : Nat} (h : AP w wx s fr G O l mv b o N) (hb : Below wx.heap.size wx wy) : AP w wy s fr G O l mv b o N := h.step (hb.mono h.le)
theorem AP.byt {w wx wy : World} {s : Nat} {fr : Int} {G : List (Th × Lay)} {O : Nat → Prop} {l : List Ob} {mv : Value} {b : Nat} {o : Ob} {N B n c : Nat} (h : AP w wx s fr G O l mv b o N) (hy : Byt wx wy B n c) (h1 : ¬ O B) (h2 : ¬ isB mv B) (h3 : b ≠ B) (h4 : w.heap.size ≤ B) : AP w wy s fr G O l mv b o N :=
  ⟨h.rep.same (by rw [hy.size]; exact Nat.le_refl _) (fun k _ hk => hy.far k (fun e => h1 (e ▸ hk))), owns_same h.row (fun k hk => hy.far k (fun e => h2 (e ▸ hk))), (hy.far b h3).trans h.box, h.bel.trans (hy.below h4), h.oN, h.rN, h.bN, h.wN, by rw [hy.size]; exact h.le⟩
theorem AP.keep {w wx wy : World} {s : Nat} {fr : Int} {G : List (Th × Lay)} {O : Nat → Prop} {l : List Ob} {mv : Value} {b : Nat} {o : Ob} {N : Nat} {Q : Nat → Prop} (h : AP w wx s fr G O l mv b o N) (hk : Keep Q wx wy) (hQ : ∀ k, k < N → Q k) : AP w wy s fr G O l mv b o N :=
  h.step ⟨hk.os, hk.tape, hk.output, hk.size, fun k hk2 => hk.block k (hQ k hk2)⟩
/-- the string that was made last -/
theorem tld_last (G : List (Th × Lay)) (b : List UInt8) (ly : Lay) : tld (G ++ [(⟨6, b, [], [], 0, 0⟩, ly)]) (newOb ⟨6, b, [], [], 0, 0⟩ G.length) 6 = some G.length := by
  have hx : (G ++ [((⟨6, b, [], [], 0, 0⟩ : Th), ly)])[G.length]? = some (⟨6, b, [], [], 0, 0⟩, ly) := by simp
  unfold tld newOb
  rw [if_pos ⟨rfl, by show (1 : Int) ≤ (G.length : Int) + 1; omega⟩, show ((G.length : Int) + 1).toNat - 1 = G.length by omega, hx]
  simp [Th.length, liesB]
theorem bytes_last (G : List (Th × Lay)) (b : List UInt8) (ly : Lay) : bytesR (G ++ [(⟨6, b, [], [], 0, 0⟩, ly)]) (newOb ⟨6, b, [], [], 0, 0⟩ G.length) = b := by
  unfold bytesR
  rw [tld_last]
  simp [newOb, Th.length]
theorem gd_map {G D : List (Th × Lay)} (h : D.map (·.1) = G.map (·.1)) (hG : Gd G) : Gd D := by
  intro i x hx
  have h1 : (D.map (·.1))[i]? = some x.1 := by rw [List.getElem?_map, hx]; rfl
  rw [h, List.getElem?_map] at h1
  cases hy : G[i]? with
  | none => rw [hy] at h1; simp at h1
  | some y =>
    rw [hy] at h1
    have e : y.1 = x.1 := by simpa using h1
    rw [← e]
    exact hG i y hy
theorem same_src {a1 a2 : Option Addr} {l : List UInt8} {c1 c2 : Nat} (w : World) (h1 : Src w a1 l) (h2 : Src w a2 l) (hl : l.length ≤ 100000) :
    Calls Try.prog 33 #[.slice a1 l.length c1, .slice a2 l.length c2] w fun e w' => e = .returned (.bool true) ∧ Below w.heap.size w w' := by
  have HS1 := Lib.hid h1
  have HS2 := Lib.hid h2
  clear h1 h2
  go_enter Try.func33, Try.ntmps33
  go_wp2_with fail
  go_loopw [5] (fun v wr => ∃ k q : Nat, v = .int .i64 k ∧ k ≤ l.length ∧ wr = w.drewN q) (fun v _ => l.length - (intOf v).toNat)
  case atStart => exact ⟨0, 0, rfl, Nat.zero_le _, rfl⟩
  case round =>
    obtain ⟨k, q, rfl, hk, rfl⟩ := hrel
    by_cases hlt : k < l.length
    · have hz := List.getElem?_eq_getElem hlt
      rcases HS1.out with e | ⟨x1, rfl, h1⟩
      · rw [e] at hlt; simp at hlt
      rcases HS2.out with e | ⟨x2, rfl, h2⟩
      · rw [e] at hlt; simp at hlt
      have c1 : w.cell? (x1.add k) = some (bv (l[k]'hlt)) := h1 k _ hz
      have c2 : w.cell? (x2.add k) = some (bv (l[k]'hlt)) := h2 k _ hz
      unfold bv at c1 c2
      have hki : (k : Int) < (l.length : Int) := by omega
      clear hz h1 h2
      go_wp2_with fail
      go_quiet (fail)
      go_wp2_with fail
      go_roundw
      case rel => exact ⟨k + 1, _, by go_num, by omega, rfl⟩
      case measure => simp [intOf]; omega
    · go_wp2_with fail
      go_ret
      exact ⟨rfl, below_draw (Below.refl _ _) q⟩
theorem ob_ones (l : List Ob) : ∀ u ∈ l.flatMap Ob.cells, u.oneCell' = true := by
  intro u hu
  obtain ⟨o, _, ho⟩ := List.mem_flatMap.1 hu
  unfold Ob.cells at ho
  simp only [List.mem_cons, List.not_mem_nil, or_false] at ho
  rcases ho with rfl | rfl | rfl | rfl | rfl | rfl | rfl | rfl <;> rfl
theorem made_own8 (w : World) : (w.alloc (.cells #[] 40)).ownsRow w.heap.size 40 8 (.slice (some ⟨w.heap.size, 0, none⟩) 0 0) 0 [] := World.ownsRow_made w #[] 0 (Nat.le_refl _) (by unfold maxLen; omega) (by simp)
set_option maxHeartbeats 1000000 in
theorem copied8 {w : World} {a : Option Addr} {l : List Ob} {c : Nat} (h : w.ownsRow 0 40 8 (.slice a l.length c) l.length (l.flatMap Ob.cells)) (hm : l.length ≤ 1000) (ty : TypeId) :
    ∃ B c2 w2, (Builtin.append_ #[34, 34] ty #[.slice (some ⟨w.heap.size, 0, none⟩) 0 0, .slice a l.length c]).run Try.prog (w.alloc (.cells #[] 40)) = .ok (.slice (some ⟨B, 0, none⟩) l.length c2) w2 ∧
      Below w.heap.size w w2 ∧ w.heap.size ≤ B ∧ w2.ownsRow 0 40 8 (.slice (some ⟨B, 0, none⟩) l.length c2) l.length (l.flatMap Ob.cells) := by
  obtain ⟨i0, hi, hz0, hz1, hz2⟩ := info_parts obj_info5
  have hcell := h
  rcases h.2 with ⟨e, hn⟩ | ⟨g, cap, cur, e, _, hg, _⟩
  · obtain rfl : l = [] := List.eq_nil_of_length_eq_zero hn
    rw [e]
    have hr := run_append_owned_none (P := Try.prog) (w := w.alloc (.cells #[] 40)) w.heap.size 34 ty 40 i0 8 Try.underlying34 hi _ 0 [] (made_own8 w)
    exact ⟨w.heap.size, 0, _, hr, below1 _ _, Nat.le_refl _, own_zero (made_own8 w)⟩
  · cases e
    obtain ⟨v', w', hr, h2, h3, h4⟩ := run_append_own (P := Try.prog) (w.alloc (.cells #[] 40)) w.heap.size 34 ty 40 i0 _ 8 72 Try.underlying34 hi hz0 hz1 hz2 rfl (by decide) _ 0 [] (made_own8 w) ⟨g, 0, none⟩ l.length c (l.flatMap Ob.cells) hcell.1 (fun j u hu => cellOld (hcell.cells rfl j u hu)) (ob_ones l) (by unfold maxLen; omega) (by omega) (by simp)
    rw [Nat.zero_add, List.nil_append] at h2
    have hb : Below w.heap.size w w' := Below.grown (w := w.alloc (.cells #[] 40)) ((Below.refl _ _).alloc (Nat.le_refl _) _) h3 (by simp) (by intro k hk; simp [Value.ownBlock] at hk; omega)
    obtain ⟨g', cap', rfl, hgB⟩ : ∃ g cap, v' = .slice (some ⟨g, 0, none⟩) l.length cap ∧ w.heap.size ≤ g := by
      rcases h2.2 with ⟨e, hn⟩ | ⟨g, cap, cur, e, hg, _⟩
      · cases (h4.1 e).1
      · exact ⟨g, cap, e, hg⟩
    exact ⟨g', cap', w', hr, hb, hgB, own_zero h2⟩
theorem str_info : (Try.prog.info? 9).map (fun i => (i.zero, i.size, i.bytes)) = some (some (.string ⟨#[]⟩), 1, 16) := by kernel_rfl
/-- texts in a row -/
def txs (G : List (Th × Lay)) (l : List Ob) : List Value := l.map fun o => .string (rend G 3 o)
theorem txs_snoc (G : List (Th × Lay)) (l : List Ob) (i : Nat) (x : Ob) (h : l[i]? = some x) : txs G (l.take (i + 1)) = txs G (l.take i) ++ [.string (rend G 3 x)] := by
  have : l.take (i + 1) = l.take i ++ [x] := by rw [List.take_add_one, h]; rfl
  rw [this]; simp [txs]
theorem src_zeros {w : World} {B n : Nat} (h : w.heap[B]? = some (.cells (zeros n) 5 (0, 0))) : Src w (some ⟨B, 0, none⟩) (List.replicate n 0) := by
  refine .inr ⟨_, rfl, fun j z hz => ?_⟩
  rw [Addr.add_lit, Nat.zero_add, blk_cell h j, ← Array.getElem?_toList, zeros_list, List.getElem?_map, hz]
  rfl
end Go.Proofs.Ytlflkdmbbomjeaa
