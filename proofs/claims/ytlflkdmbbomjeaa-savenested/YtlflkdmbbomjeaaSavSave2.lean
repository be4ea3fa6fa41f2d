/-
  A save that is made, by a contract: Save.
-/
import Derived.Test.YtlflkdmbbomjeaaSavSave
namespace Go.Proofs.Ytlflkdmbbomjeaa
open Go.RowKit
open St
/-- the mark is made, the save lies in a box -/
def SMid (w2 : World) (s made nn nc cc K : Nat) (fr : Int) (tv mv : Value) (ac : Option Addr) (xs : List Value) (s5 : Value) (wx : World) : Prop :=
  ∃ b g cap, s5 = .pointer (some ⟨b, 0, none⟩) ∧ wx.heap[b]? = some (.cells #[.pointer (some ⟨s, 0, none⟩), .int .i64 ((K : Int) + 1)] 161 (0, 0)) ∧ w2.heap.size ≤ b ∧
    wx.heap[s]? = some (.cells #[tv, .int .i64 made, .int .i64 fr, .slice (some ⟨g, 0, none⟩) nn cap, .int .i64 ((K : Int) + 1), .slice ac nc cc] 110 (0, 0)) ∧
    wx.ownsRow 0 136 4 (.slice (some ⟨g, 0, none⟩) nn cap) nn xs ∧ (mv.ownBlock = some g ∨ w2.heap.size ≤ g) ∧ g < wx.heap.size ∧ Two s mv w2 wx
theorem Two.alloc {s : Nat} {mv : Value} {w w' : World} (h : Two s mv w w') (o : Obj) : Two s mv w (w'.alloc o) :=
  ⟨h.os, h.tape, h.output, by have := h.size; simp; omega, fun k hk h1 h2 => (heap_alloc_old _ _ (Nat.lt_of_lt_of_le hk h.size)).trans (h.block k hk h1 h2)⟩
theorem Two.undrew {s : Nat} {mv : Value} {w w' : World} (h : Two s mv w.drew w') : Two s mv w w' := ⟨h.os, h.tape, h.output, h.size, h.block⟩
theorem smid_a {w2 w3 : World} {s made nn nc cc K g cap : Nat} {fr : Int} {tv mv : Value} {ac : Option Addr} {xs : List Value}
    (hs : w3.heap[s]? = some (.cells #[tv, .int .i64 made, .int .i64 fr, .slice (some ⟨g, 0, none⟩) nn cap, .int .i64 ((K : Int) + 1), .slice ac nc cc] 110 (0, 0)))
    (ho : w3.ownsRow 0 136 4 (.slice (some ⟨g, 0, none⟩) nn cap) nn xs) (hat : mv.ownBlock = some g ∨ w2.heap.size ≤ g) (hlt : g < w3.heap.size) (ht : Two s mv w2 w3) :
    SMid w2 s made nn nc cc K fr tv mv ac xs (.pointer (some ⟨w3.heap.size, 0, none⟩)) (w3.alloc (.cells #[.pointer (some ⟨s, 0, none⟩), .int .i64 ((K : Int) + 1)] 161)) :=
  ⟨w3.heap.size, g, cap, rfl, heap_alloc_new w3 _, ht.size, (heap_alloc_old _ _ (Array.getElem?_eq_some_iff.1 hs).1).trans hs, ho.alloc _, hat, by simp; omega, ht.alloc _⟩
theorem smid_b {w2 w3 : World} {s made nn nc cc K g cap : Nat} {fr : Int} {tv mv : Value} {ac : Option Addr} {xs : List Value} {cs : Array Value} (hsl : s < w2.heap.size) (hmv : ∀ k, isB mv k → k < w2.heap.size)
    (hs : w3.heap[s]? = some (.cells #[tv, .int .i64 made, .int .i64 fr, .slice (some ⟨g, 0, none⟩) nn cap, .int .i64 ((K : Int) + 1), .slice ac nc cc] 110 (0, 0)))
    (ho : w3.ownsRow 0 136 4 (.slice (some ⟨g, 0, none⟩) nn cap) nn xs) (hat0 : mv.ownBlock = some g ∨ (w2.alloc (.cells cs 161)).drew.heap.size ≤ g) (hlt : g < w3.heap.size) (ht : Two s mv (w2.alloc (.cells cs 161)).drew w3) (hq : w3.heap[w2.heap.size]? = some (.cells #[.pointer none, .int .i64 0] 161 (0, 0))) :
    SMid w2 s made nn nc cc K fr tv mv ac xs (.pointer (some ⟨w2.heap.size, 0, none⟩)) ((w3.setCell ⟨w2.heap.size, 0, none⟩ (.pointer (some ⟨s, 0, none⟩))).setCell ⟨w2.heap.size, 1, none⟩ (.int .i64 ((K : Int) + 1))) := by
  have hz : (w2.alloc (.cells cs 161)).drew.heap.size = w2.heap.size + 1 := by show (w2.alloc _).heap.size = _; simp
  have hat : mv.ownBlock = some g ∨ w2.heap.size + 1 ≤ g := by rw [hz] at hat0; exact hat0
  have hgB : g ≠ w2.heap.size := by
    rcases hat with e | e
    · have := hmv g e; omega
    · omega
  have hfar : ∀ k, k ≠ w2.heap.size → ((w3.setCell ⟨w2.heap.size, 0, none⟩ (.pointer (some ⟨s, 0, none⟩))).setCell ⟨w2.heap.size, 1, none⟩ (.int .i64 ((K : Int) + 1))).heap[k]? = w3.heap[k]? := fun k hk => by rw [blk_far hk, blk_far hk]
  refine ⟨w2.heap.size, g, cap, rfl, blk_set (blk_set hq 0 _) 1 _, Nat.le_refl _, (hfar s (by omega)).trans hs, owns_same ho (fun k hk => hfar k (isB_ne hk hgB)), ?_, by rw [setC_size, setC_size]; exact hlt, ?_⟩
  · rcases hat with e | e
    · exact .inl e
    · exact .inr (by omega)
  · refine ⟨ht.os, ht.tape, ht.output, by rw [setC_size, setC_size]; have := ht.size; omega, fun k hk h1 h2 => ?_⟩
    have e2 : (w2.alloc (.cells cs 161)).drew.heap[k]? = w2.heap[k]? := heap_alloc_old _ _ hk
    rw [hfar k (by omega), ht.block k (by omega) h1 h2, e2]
theorem blk_ne {w : World} {a b : Nat} {c1 c2 : Array Value} {t1 t2 : TypeId} {f1 f2 : Nat × Nat} (h1 : w.heap[a]? = some (.cells c1 t1 f1)) (h2 : w.heap[b]? = some (.cells c2 t2 f2)) (ht : t1 ≠ t2) : a ≠ b := fun e => by
  subst e
  rw [h1] at h2
  cases h2
  exact ht rfl
theorem own_at {w : World} {g n c size : Nat} {e : TypeId} {xs : List Value} (h : w.ownsRow 0 e size (.slice (some ⟨g, 0, none⟩) n c) n xs) : ∃ cur, w.heap[g]? = some (.cells cur e (0, 0)) := by
  rcases h.2 with ⟨h0, _⟩ | ⟨g', cap, cur, hv, _, hg, _⟩
  · cases h0
  · cases hv; exact ⟨cur, hg⟩
theorem svd_end {w w2 wc w5 w' : World} {s v made K nc cc g cap gg cap2 b : Nat} {tv mv lv : Value} {ac : Option Addr} {fr : Int} {M : List Mrk} {A : List Nat} {o0 o1 o2 o3 o4 o5 o6 o7 : Value} {ob : Obj} {bx : Array Value} (hM : MkB w s tv made fr mv K (.slice ac nc cc) M) (hf : A.length < 15) (hK : K < 1000000) (hn : M.length < 1000000) (hbl : Below w.heap.size w w2) (hbx : wc.heap[w.heap.size]? = some (.cells bx 40 (0, 0)))
    (hs : wc.heap[s]? = some (.cells #[tv, .int .i64 made, .int .i64 fr, .slice (some ⟨g, 0, none⟩) (M.length + 1) cap, .int .i64 ((K : Int) + 1), .slice ac nc cc] 110 (0, 0))) (hvb : wc.heap[v]? = some (.cells #[.pointer (some ⟨s, 0, none⟩), lv] 158 (0, 0))) (hlv : wc.ownsRow 0 161 2 lv A.length (A.flatMap (savC s)))
    (ho : wc.ownsRow 0 136 4 (.slice (some ⟨g, 0, none⟩) (M.length + 1) cap) (M.length + 1) (M.flatMap Mrk.cells ++ [.int .i64 ((K : Int) + 1), .int .i64 made, .int .i64 fr, .int .i64 nc])) (hat : mv.ownBlock = some g ∨ w2.heap.size ≤ g) (htw : Two s mv w2 wc)
    (hown5 : w5.ownsRow 0 161 2 (.slice (some ⟨gg, 0, none⟩) (A.length + 1) cap2) (A.length + 1) (A.flatMap (savC s) ++ [.pointer (some ⟨s, 0, none⟩), .int .i64 ((K : Int) + 1)])) (hgrow : (wc.alloc ob).grownBy w5 lv.ownBlock) (hat5 : lv.ownBlock = some gg ∨ gg = b) (hb : wc.heap.size ≤ b)
    (hp : Put8 (w5.setCell ⟨v, 1, none⟩ (.slice (some ⟨gg, 0, none⟩) (A.length + 1) cap2)) w.heap.size 40 o0 o1 o2 o3 o4 o5 o6 o7 w') : Svd w s v made tv mv lv (.slice ac nc cc) fr K nc M A w' := by
  have hvl := own_ne hvb hlv (by decide)
  have hsl := own_ne hs hlv (by decide)
  have hxl := own_ne hbx hlv (by decide)
  obtain ⟨curg, hg⟩ := own_at ho
  have hgl := own_ne hg hlv (by decide)
  have hvx : v ≠ w.heap.size := blk_ne hvb hbx (by decide)
  have hsx : s ≠ w.heap.size := blk_ne hs hbx (by decide)
  have hgx : g ≠ w.heap.size := blk_ne hg hbx (by decide)
  have hsv : s ≠ v := blk_ne hs hvb (by decide)
  have hgv : g ≠ v := blk_ne hg hvb (by decide)
  have lt : ∀ {k : Nat} {o : Obj}, wc.heap[k]? = some o → k < wc.heap.size := fun h => (Array.getElem?_eq_some_iff.1 h).1
  have F5 : ∀ k, k < wc.heap.size → some k ≠ lv.ownBlock → w5.heap[k]? = wc.heap[k]? := fun k hk hne => by
    rw [hgrow.block k (by simp; omega) hne, heap_alloc_old _ _ hk]
  have F1 : ∀ k, k < wc.heap.size → some k ≠ lv.ownBlock → k ≠ v → k ≠ w.heap.size → w'.heap[k]? = wc.heap[k]? := fun k hk hne h1 h2 => by
    rw [hp.far k h2, blk_far h1, F5 k hk hne]
  have hv5 := (F5 v (lt hvb) hvl).trans hvb
  have hx5 := (F5 _ (lt hbx) hxl).trans hbx
  obtain ⟨curgg, hgg⟩ := own_at hown5
  have hggv : gg ≠ v := blk_ne hgg hv5 (by decide)
  have hggx : gg ≠ w.heap.size := blk_ne hgg hx5 (by decide)
  refine ⟨⟨.slice (some ⟨g, 0, none⟩) (M.length + 1) cap, .slice (some ⟨gg, 0, none⟩) (A.length + 1) cap2, ⟨(F1 s (lt hs) hsl hsv hsx).trans hs, ?_, rise_snoc hM.rise hM.top (by simp), ?_, by simp; omega, by omega⟩, ⟨?_, ?_, by simp; omega⟩, ?_, ?_⟩, ?_⟩
  · have := owns_same (w' := w') ho (fun k hk => by
      have e : g = k := by simpa [isB, Value.ownBlock] using hk
      subst e
      exact F1 g (lt hg) hgl hgv hgx)
    simpa [Mrk.cells] using this
  · intro x hx
    rcases List.mem_append.1 hx with h | h
    · have := hM.top x h; omega
    · have e : x = ⟨K + 1, made, fr, nc⟩ := by simpa using h
      rw [e]
      exact Nat.le_refl _
  · rw [hp.far v hvx]
    exact blk_set hv5 1 _
  · have := owns_same (w' := w') hown5 (fun k hk => by
      have e : gg = k := by simpa [isB, Value.ownBlock] using hk
      subst e
      rw [hp.far gg hggx, blk_far hggv])
    simpa [savC] using this
  · intro k hk
    have e : g = k := by simpa [isB, Value.ownBlock] using hk
    subst e
    rcases hat with e | e
    · exact .inl e
    · exact .inr (Nat.le_trans hbl.size e)
  · intro k hk
    have e : gg = k := by simpa [isB, Value.ownBlock] using hk
    subst e
    rcases hat5 with e | e
    · exact .inl e
    · exact .inr (by have := htw.size; have := hbl.size; omega)
  · refine ⟨hp.os.trans (hgrow.os.trans (htw.os.trans hbl.os)), hp.tape.trans (hgrow.tape.trans (htw.tape.trans hbl.tape)), hp.output.trans (hgrow.output.trans (htw.output.trans hbl.output)), ?_, fun k hk hO => ?_⟩
    · have h1 := hp.size
      rw [setC_size] at h1
      have h2 := hgrow.size
      have h3 := htw.size
      have h4 := hbl.size
      simp at h2
      omega
    · have h3 := htw.size
      have h4 := hbl.size
      rw [F1 k (by omega) (fun e => hO (.inr (.inr (.inr e.symm)))) (fun e => hO (.inr (.inr (.inl e)))) (by omega), htw.block k (by omega) (fun e => hO (.inl e)) (fun e => hO (.inr (.inl e.symm))), hbl.block k hk]
theorem arm_b {w2 w3 : World} {s v K : Nat} {mv : Value} (htw3 : Two s mv (w2.alloc (.cells #[.pointer none, .int .i64 0] 161)).drew w3) (hvlt : v < w2.heap.size) (hslt : s < w2.heap.size) (hvs : v ≠ s) (hvm : some v ≠ mv.ownBlock) (hbm : some w2.heap.size ≠ mv.ownBlock)
    (v0 : w2.cell? ⟨v, 0, none⟩ = some (.pointer (some ⟨s, 0, none⟩))) {P : Prop} (k : w3.cell? ⟨v, 0, none⟩ = some (.pointer (some ⟨s, 0, none⟩)) → w3.heap[w2.heap.size]? = some (.cells #[.pointer none, .int .i64 0] 161 (0, 0)) → w3.cell? ⟨w2.heap.size, 0, none⟩ = some (.pointer none) → w3.cell? ⟨w2.heap.size, 1, none⟩ = some (.int .i64 0) → (∀ j, w3.frozen? ⟨w2.heap.size, j, none⟩ = false) →
      ((w3.setCell ⟨w2.heap.size, 0, none⟩ (.pointer (some ⟨s, 0, none⟩))).setCell ⟨w2.heap.size, 1, none⟩ (.int .i64 ((K : Int) + 1))).cell? ⟨v, 0, none⟩ = some (.pointer (some ⟨s, 0, none⟩)) → P) : P := by
  have hz : (w2.alloc (.cells #[.pointer none, .int .i64 0] 161)).drew.heap.size = w2.heap.size + 1 := by show (w2.alloc _).heap.size = _; simp
  have a1 := htw3.block v (by omega) hvs hvm
  have a2 : (w2.alloc (.cells #[.pointer none, .int .i64 0] 161)).drew.heap[v]? = w2.heap[v]? := heap_alloc_old w2 _ hvlt
  have v3 := (World.cell?_of_block (a := ⟨v, 0, none⟩) (a1.trans a2)).trans v0
  have b1 := htw3.block w2.heap.size (by omega) (by omega) hbm
  have b2 : (w2.alloc (.cells #[.pointer none, .int .i64 0] 161)).drew.heap[w2.heap.size]? = some (.cells #[.pointer none, .int .i64 0] 161 (0, 0)) := heap_alloc_new w2 _
  have q3 := b1.trans b2
  refine k v3 q3 (blk_cell q3 0) (blk_cell q3 1) (blk_free q3) ?_
  exact (World.cell?_of_block (a := ⟨v, 0, none⟩) ((blk_far (by exact Nat.ne_of_lt hvlt) _).trans (blk_far (by exact Nat.ne_of_lt hvlt) _))).trans v3
set_option maxRecDepth 100000 in
set_option maxHeartbeats 1000000 in
theorem save_at {w : World} {s v made K nc cc : Nat} {tv mv lv : Value} {ac : Option Addr} {fr : Int} {M : List Mrk} {A : List Nat} (hM : MkB w s tv made fr mv K (.slice ac nc cc) M) (hS : SvB w s v lv A) (hA : ∀ n ∈ A, (mkI M n).isSome = true) (hf : A.length < 15) (hK : K < 1000000) (hn : M.length < 1000000) :
    Calls Try.prog 36 #[.pointer (some ⟨v, 0, none⟩)] w fun e w' => e = .returned (.tuple #[(sob ((K : Int) + 1)).val, .int .i64 0]) ∧ Svd w s v made tv mv lv (.slice ac nc cc) fr K nc M A w' := by
  have HL := Lib.hid (lost_no (hS.below (below1 w (.cells zeroOb 40))).sv.c0)
  have HA := Lib.hid (alive_at (hS.below (below1 w (.cells zeroOb 40))).sv (hM.below (below1 w (.cells zeroOb 40))).mv hM.rise hA)
  have HM0 := Lib.hid hM
  have HS0 := Lib.hid hS
  obtain ⟨a, c, rfl⟩ := own_slice hS.row
  have hne : ((A.length : Int) == 15) = false := by simp; omega
  unfold zeroOb at HL HA
  clear hM hS
  go_enter Try.func36, Try.ntmps36
  go_wp2_with fail
  refine HL.out.mono ?_; rintro e w2 ⟨rfl, rfl⟩
  go_wp2_with fail
  refine HA.out.mono ?_; rintro e w2 ⟨rfl, hb⟩
  have hBx : w2.heap[w.heap.size]? = some (.cells zeroOb 40 (0, 0)) := (hb.block _ (by simp)).trans (heap_alloc_new w _)
  have hbl := bthen (below1 w _) hb
  have hM2 := HM0.out.below hbl
  have hS2 := HS0.out.below hbl
  have hMk := mark_at (w := w2.drew) hM2.blk hM2.row (by omega) (by omega)
  have v0 : w2.cell? ⟨v, 0, none⟩ = some (.pointer (some ⟨s, 0, none⟩)) := hS2.sv.c0
  have v0d : w2.drew.cell? ⟨v, 0, none⟩ = some (.pointer (some ⟨s, 0, none⟩)) := v0
  have hvs : v ≠ s := fun e => by
    have h1 := hS2.blk
    rw [e, hM2.blk] at h1
    cases h1
  have hvm : some v ≠ mv.ownBlock := own_ne hS2.blk hM2.row (by decide)
  have hvlt := hS2.lt
  have hvltd : v < w2.drew.heap.size := hvlt
  have hslt := hM2.lt
  have hmlt : ∀ k, isB mv k → k < w2.heap.size := fun k hk => owns_lt hM2.row hk
  have hbm : some w2.heap.size ≠ mv.ownBlock := fun e => by have := hmlt _ e.symm; omega
  have hlta : w2.heap.size < (w2.alloc (.cells #[.pointer none, .int .i64 0] 161)).drew.heap.size := by show w2.heap.size < (w2.alloc _).heap.size; simp
  have hMa := hM2.below (below1 w2 (.cells #[.pointer none, .int .i64 0] 161))
  have HMa := Lib.hid (mark_at (w := (w2.alloc (.cells #[.pointer none, .int .i64 0] 161)).drew) hMa.blk hMa.row (by omega) (by omega))
  have v0a : (w2.alloc (.cells #[.pointer none, .int .i64 0] 161)).drew.cell? ⟨v, 0, none⟩ = some (.pointer (some ⟨s, 0, none⟩)) := cell_alloc_old v0
  have HMk := Lib.hid hMk
  have HBx := Lib.hid hBx
  have HBl := Lib.hid hbl
  have HM2 := Lib.hid hM2
  have HS2 := Lib.hid hS2
  clear hb hBx hbl hM2 hS2 hMk HA HL hMa
  go_wp2_with fail
  go_cut [5] (fun s5 wx => SMid w2 s made (M.length + 1) nc cc K fr tv mv ac (M.flatMap Mrk.cells ++ [.int .i64 ((K : Int) + 1), .int .i64 made, .int .i64 fr, .int .i64 nc]) s5 wx)
  case first =>
   go_region_held3 (fun w' => w'.cell? ⟨v, 0, none⟩ = some (.pointer (some ⟨s, 0, none⟩))) (first | with_reducible exact v0d | with_reducible exact v3 | with_reducible exact v0a | with_reducible exact cell_alloc_old v3 | with_reducible exact v3s)
    (first | (go_at_call 82; with_reducible refine HMk.out.mono ?_; rintro e w3 ⟨rfl, g, cap, hs3, ho3, hat3, hlt3, htw3⟩; have v3 : w3.cell? ⟨v, 0, none⟩ = some (.pointer (some ⟨s, 0, none⟩)) := (World.cell?_of_block (htw3.block v hvltd hvs hvm)).trans v0d) | (go_at_call 82; with_reducible refine HMa.out.mono ?_; rintro e w3 ⟨rfl, g, cap, hs3, ho3, hat3, hlt3, htw3⟩; refine arm_b (K := K) htw3 hvlt hslt hvs hvm hbm v0 ?_; intro v3 q3 q0 q1 qf v3s))
   all_goals go_wp2_with fail
   all_goals go_meet
   · exact smid_a hs3 ho3 hat3 hlt3 htw3.undrew
   · exact smid_b hslt hmlt hs3 ho3 hat3 hlt3 htw3 q3
  case rest =>
  obtain ⟨b, g, cap, e5, hb3, hble, hs3, ho3, hat3, hlt3, htw3⟩ := hcut
  subst e5
  have hvb : wc.heap[v]? = _ := (htw3.block v hvlt hvs hvm).trans HS2.out.blk
  have hsl2 := own_ne HM2.out.blk HS2.out.row (by decide)
  have hlm : ∀ k, isB (Value.slice a A.length c) k → some k ≠ mv.ownBlock := fun k hk e => by
    rcases HM2.out.row.2 with ⟨e0, _⟩ | ⟨g0, cap0, cur0, e0, _, hg0, _⟩
    · rw [e0] at e; cases e
    · have e1 : k = g0 := by rw [e0] at e; simpa [Value.ownBlock] using e
      subst e1
      exact own_ne hg0 HS2.out.row (by decide) hk.symm
  have hlv : wc.ownsRow 0 161 2 (.slice a A.length c) A.length (A.flatMap (savC s)) := owns_same HS2.out.row (fun k hk => htw3.block k (owns_lt HS2.out.row hk) (fun e => hsl2 (by rw [← e]; exact hk.symm)) (hlm k hk))
  have hxs : w.heap.size ≠ s := by have := HM0.out.lt; omega
  have hxm : some w.heap.size ≠ mv.ownBlock := fun e => by have := owns_lt HM0.out.row e.symm; omega
  have hbx : wc.heap[w.heap.size]? = some (.cells zeroOb 40 (0, 0)) := (htw3.block _ (Array.getElem?_eq_some_iff.1 HBx.out).1 hxs hxm).trans HBx.out
  have hbl : some b ≠ (Value.slice a A.length c).ownBlock := fun e => by have := owns_lt HS2.out.row e.symm; omega
  have hblt : b < wc.heap.size := (Array.getElem?_eq_some_iff.1 hb3).1
  have b0 : wc.cell? ⟨b, 0, none⟩ = some (.pointer (some ⟨s, 0, none⟩)) := blk_cell hb3 0
  have b1 : wc.cell? ⟨b, 1, none⟩ = some (.int .i64 ((K : Int) + 1)) := blk_cell hb3 1
  obtain ⟨i0, hi, hz0, hz1, hz2⟩ := info_parts saved_info
  have HI := Lib.hid (And.intro hi (And.intro hz0 (And.intro hz1 hz2)))
  have HF := Lib.hid (fun w5 w' gg cap2 ob (o0 o1 o2 o3 o4 o5 o6 o7 : Value) hown5 hgrow hat5 hp => svd_end (w5 := w5) (w' := w') (gg := gg) (cap2 := cap2) (ob := ob) (b := wc.heap.size + 1) (o0 := o0) (o1 := o1) (o2 := o2) (o3 := o3) (o4 := o4) (o5 := o5) (o6 := o6) (o7 := o7) HM0.out hf hK hn HBl.out hbx hs3 hvb hlv ho3 hat3 htw3 hown5 hgrow hat5 (Nat.le_succ _) hp)
  have hvw : v < w.heap.size := HS0.out.lt
  have hvb2 : v ≠ b := blk_ne hvb hb3 (by decide)
  have hxl := own_ne hbx hlv (by decide)
  have hvl := own_ne hvb hlv (by decide)
  have hvlt3 : v < wc.heap.size := (Array.getElem?_eq_some_iff.1 hvb).1
  have hxlt3 : w.heap.size < wc.heap.size := (Array.getElem?_eq_some_iff.1 hbx).1
  have HVb := Lib.hid hvb
  have HBx3 := Lib.hid hbx
  have HB3 := Lib.hid hb3
  have HLv := Lib.hid hlv
  clear hb3 hs3 ho3 hat3 hlt3 htw3 hvb hlv hbx hi hz0 hz1 hz2 hlm HMk HMa HBx HBl HM2 HS2 v0 v0d v0a hA HM0 HS0
  go_wp2_with (at_builtin; refine wpList_append_lies _ rfl (.tmp 26) (.tmp 28) 156 rfl 0 161 i0 _ 2 16 Try.underlying156 HI.out.1 HI.out.2.1 HI.out.2.2.1 HI.out.2.2.2 rfl (by omega) (.slice a A.length c) A.length (A.flatMap (savC s)) rfl (HLv.out.alloc _) ⟨wc.heap.size, 0, none⟩ 1 1 [.pointer (some ⟨s, 0, none⟩), .int .i64 ((K : Int) + 1)] rfl rfl (World.news_of_block (cs := #[.pointer (some ⟨s, 0, none⟩), .int .i64 ((K : Int) + 1)]) (t := 161) (fr := (0, 0)) (alloc_at rfl)) (by simp [Value.oneCell']) (by omega) (by unfold maxLen; omega) (by omega) (by simp) (wc.heap.size + 1) (by simp) ?_; intro gg cap2 w5 hown5 hgrow5 hat5 hlt5; have hv5 := (hgrow5.block v (by simp; omega) hvl).trans ((heap_alloc_old wc _ hvlt3).trans HVb.out); have hx5 := (hgrow5.block w.heap.size (by simp; omega) hxl).trans ((heap_alloc_old wc _ hxlt3).trans HBx3.out); have hb5 := (hgrow5.block b (by simp; omega) hbl).trans ((heap_alloc_old wc _ hblt).trans HB3.out); have v51 : w5.cell? ⟨v, 1, none⟩ = some (.slice a A.length c) := blk_cell hv5 1; have v5f := blk_free hv5 1; have b51 : w5.cell? ⟨b, 1, none⟩ = some (.int .i64 ((K : Int) + 1)) := blk_cell hb5 1; obtain ⟨d0, d1, d2, d3, d4, d5, d6, d7, df⟩ := box_cells hx5)
  have hx6 : (w5.setCell ⟨v, 1, none⟩ (.slice (some ⟨gg, 0, none⟩) (A.length + 1) cap2)).heap[w.heap.size]? = some (.cells zeroOb 40 (0, 0)) := (blk_far (by omega) _).trans hx5
  have hp := put8 hx6 (.int .i64 10) (.bool false) (.int .i64 0) (.int .i64 ((K : Int) + 1)) (.string ⟨#[]⟩) (.int .i64 0) (.int .i64 0) (.int .i64 0)
  exact bodyPost_ret (results_ob2 Try.results36 _ _ w.heap.size rfl rfl hp.blk) rfl ⟨rfl, HF.out _ _ _ _ _ _ _ _ _ _ _ _ _ hown5 hgrow5 hat5 hp⟩
end Go.Proofs.Ytlflkdmbbomjeaa
