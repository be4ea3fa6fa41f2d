/-
  What an array's part has, by a contract: Items.
What an array's part has, by a contract: Items.
Of dictionaries, by contracts: Size, Access, note, Lock.
A dictionary's access is set, by a contract: Lock.
What a string's part has, by a contract: Bytes.
Bytes are written into a string, by a contract: Write.
-/
import Derived.Test.YtfilbfenpdaahaaGreatDoorStoPut3
namespace Go.Proofs.YtfilbfenpdaahaaGreatDoor
open Go.RowKit
open St
theorem obj_info : (Tryz.prog.info? 27).map (fun i => (i.zero, i.size, i.bytes)) = some (some (.agg #[.int .i64 0, .bool false, .int .i64 0, .int .i64 0, .string ⟨#[]⟩, .int .i64 0, .int .i64 0, .int .i64 0]), 8, 72) := by kernel_rfl
def nobs (n : Nat) : Array Value := madeCells #[.int .i64 0, .bool false, .int .i64 0, .int .i64 0, .string ⟨#[]⟩, .int .i64 0, .int .i64 0, .int .i64 0] (n * 8)
theorem nobs_list (n : Nat) : (nobs n).toList = (List.replicate n nul).flatMap Ob.cells := by
  unfold nobs
  have e := made_list nul.cells 8 rfl (by decide) n
  simp only [Ob.cells, nul] at e
  rw [e]
  clear e
  induction n with
  | zero => rfl
  | succ n ih => rw [List.replicate_succ, List.flatten_cons, ih, List.replicate_succ, List.flatMap_cons]; rfl
theorem obs_len (l : List Ob) : (l.flatMap Ob.cells).length = l.length * 8 := by
  induction l with
  | nil => rfl
  | cons x l ih => rw [List.flatMap_cons, List.length_append, ih]; simp [Ob.cells]; omega
theorem make_obs (n : Nat) (hn : n ≤ 65535) (w : World) : (Instr.makeSlice 30 (.int .i64 n) (.int .i64 n)).run Tryz.prog w = .ok (.slice (some ⟨w.heap.size, 0, none⟩) n n) (w.alloc (.cells (nobs n) 27)) := by
  obtain ⟨i0, hi, hz0, hz1, hz2⟩ := info_parts obj_info
  have h := run_make (P := Tryz.prog) w 30 27 i0 _ Tryz.underlying30 hi hz0 .i64 .i64 n n (by omega) (Int.le_refl _) (by rw [hz2]; omega) (by omega)
  rw [hz1] at h
  simpa [nobs, Value.cells] using h
theorem lset8_ob (c o : Ob) (r a : List Value) (h : a = o.cells) : lset8 (a ++ r) 0 c = c.cells ++ r := by subst h; rfl
theorem lset8_obs (x : Ob) : ∀ (its : List Ob) (p : Nat), p < its.length → lset8 (its.flatMap Ob.cells) (p * 8) x = (its.set p x).flatMap Ob.cells
  | [], p, h => by simp at h
  | o :: its, 0, _ => by rw [List.flatMap_cons, Nat.zero_mul, lset8_ob x o _ _ rfl]; rfl
  | o :: its, p + 1, h => by
    rw [List.flatMap_cons, show (p + 1) * 8 = o.cells.length + p * 8 by simp [Ob.cells]; omega, lset8_right, lset8_obs x its p (by simpa using h), List.set_cons_succ, List.flatMap_cons]
theorem obs_at (its : List Ob) : ∀ (p f : Nat) (o : Ob), its[p]? = some o → f < 8 → (its.flatMap Ob.cells)[p * 8 + f]? = o.cells[f]? := by
  induction its with
  | nil => intro p f o h; simp at h
  | cons y its ih =>
    intro p f o h hf
    rw [List.flatMap_cons]
    cases p with
    | zero =>
      simp at h; subst h
      rw [List.getElem?_append_left (by simp [Ob.cells]; omega)]; simp
    | succ p =>
      rw [List.getElem?_append_right (by simp [Ob.cells]; omega)]
      have e : (p + 1) * 8 + f - y.cells.length = p * 8 + f := by simp [Ob.cells]; omega
      rw [e]; exact ih p f o (by simpa using h) hf
/-- a list is being copied: k of it are there -/
def Cpy (B n k : Nat) (l : List Ob) (w2 wr : World) : Prop := Below w2.heap.size w2 wr ∧ ∃ xs : List Ob, xs.length = n ∧ (∀ j, j < k → xs[j]? = l[j]?) ∧ wr.ownsRow 0 27 8 (.slice (some ⟨B, 0, none⟩) n n) n (xs.flatMap Ob.cells)
theorem Cpy.start {w2 : World} {n : Nat} {l : List Ob} (hn : n ≤ 65535) : Cpy w2.heap.size n 0 l w2 (w2.alloc (.cells (nobs n) 27)) := by
  refine ⟨below1 w2 _, List.replicate n nul, by simp, fun j hj => by omega, ?_⟩
  have hs : (nobs n).size = n * 8 := by rw [← Array.length_toList, nobs_list, obs_len]; simp
  have := own_of_block (size := 8) (heap_alloc_new w2 (.cells (nobs n) 27)) hn hs
  rw [nobs_list] at this; exact this
theorem Cpy.draws {B n k : Nat} {l : List Ob} {w2 wr : World} (h : Cpy B n k l w2 wr) (q : Nat) : Cpy B n k l w2 (wr.drewN q) := ⟨below_draw h.1 q, h.2⟩
theorem Cpy.next {B n k : Nat} {l : List Ob} {w2 wr : World} {x : Ob} (h : Cpy B n k l w2 wr) (hB : w2.heap.size ≤ B) (hk : k < n) (hx : l[k]? = some x) : Cpy B n (k + 1) l w2 (set8 wr B (k * 8) x) := by
  obtain ⟨hb, xs, hl, he, ho⟩ := h
  obtain ⟨e1, e2, e3⟩ := set8_env wr B (k * 8) x
  refine ⟨⟨e1.trans hb.os, e2.trans hb.tape, e3.trans hb.output, by rw [set8_size]; exact hb.size, fun j hj => (set8_far (by omega)).trans (hb.block j hj)⟩, xs.set k x, by simpa using hl, fun j hj => ?_, ?_⟩
  · rw [List.getElem?_set]
    split
    · rename_i e; subst e; rw [if_pos (by omega), hx]
    · exact he j (by omega)
  · have := set8_own ho (k * 8) x
    rw [lset8_obs x xs k (by omega)] at this; exact this
theorem Cpy.cells {B n k : Nat} {l : List Ob} {w2 wr : World} (h : Cpy B n k l w2 wr) (j : Nat) (hj : j < n) : (∃ v0 v1 v2 v3 v4 v5 v6 v7, wr.cell? ⟨B, j * 8, none⟩ = some v0 ∧ wr.cell? ⟨B, j * 8 + 1, none⟩ = some v1 ∧ wr.cell? ⟨B, j * 8 + 2, none⟩ = some v2 ∧ wr.cell? ⟨B, j * 8 + 3, none⟩ = some v3 ∧ wr.cell? ⟨B, j * 8 + 4, none⟩ = some v4 ∧ wr.cell? ⟨B, j * 8 + 5, none⟩ = some v5 ∧ wr.cell? ⟨B, j * 8 + 6, none⟩ = some v6 ∧ wr.cell? ⟨B, j * 8 + 7, none⟩ = some v7) ∧ ∀ o, wr.frozen? ⟨B, o, none⟩ = false := by
  obtain ⟨_, xs, hl, _, ho⟩ := h
  have hx : xs[j]? = some xs[j] := List.getElem?_eq_getElem (by omega)
  have hc : ∀ f, f < 8 → wr.cell? ⟨B, j * 8 + f, none⟩ = (xs[j]).cells[f]? := fun f hf => by rw [ho.cellAt (j * 8 + f) (by omega), obs_at xs j f _ hx hf]
  exact ⟨⟨_, _, _, _, _, _, _, _, hc 0 (by omega), hc 1 (by omega), hc 2 (by omega), hc 3 (by omega), hc 4 (by omega), hc 5 (by omega), hc 6 (by omega), hc 7 (by omega)⟩, fun o => ho.frozenAt o⟩
/-- the objects of o's part -/
def itemsR (G : List (Th × Lay)) (o : Ob) : List Ob := match tld G o 7 with
  | some t => match G[t]? with
    | some y => (y.1.items.drop o.frm.toNat).take o.len.toNat
    | none => []
  | none => []
def ItemsP (G : List (Th × Lay)) (o : Ob) (w : World) (e : Ending) (w' : World) : Prop :=
  Below w.heap.size w w' ∧ ((tld G o 7 = none ∧ e = .returned (.tuple #[.slice none 0 0, .int .i64 21])) ∨
    ∃ B, w.heap.size ≤ B ∧ tld G o 7 ≠ none ∧ e = .returned (.tuple #[.slice (some ⟨B, 0, none⟩) (itemsR G o).length (itemsR G o).length, .int .i64 0]) ∧ w'.ownsRow 0 27 8 (.slice (some ⟨B, 0, none⟩) (itemsR G o).length (itemsR G o).length) (itemsR G o).length ((itemsR G o).flatMap Ob.cells))
theorem slot_read {O : Nat → Prop} {w : World} {t : Th} {l : Lay} {B c p : Nat} {x : Ob} (h : ThR O w t l) (e : l.i = .slice (some ⟨B, 0, none⟩) t.items.length c) (hp : t.items[p]? = some x) : w.cell? ⟨B, p * 9, none⟩ = some (.int .i64 x.kind) ∧ w.cell? ⟨B, p * 9 + 1, none⟩ = some (.bool x.exec) ∧ w.cell? ⟨B, p * 9 + 2, none⟩ = some (.int .i64 x.acc) ∧ w.cell? ⟨B, p * 9 + 3, none⟩ = some (.int .i64 x.n) ∧ w.cell? ⟨B, p * 9 + 4, none⟩ = some (.string x.name) ∧ w.cell? ⟨B, p * 9 + 5, none⟩ = some (.int .i64 x.ref) ∧ w.cell? ⟨B, p * 9 + 6, none⟩ = some (.int .i64 x.frm) ∧ w.cell? ⟨B, p * 9 + 7, none⟩ = some (.int .i64 x.len) := by
  have hr := h.ri
  rw [e] at hr
  have hl : p < t.items.length := (List.getElem?_eq_some_iff.1 hp).1
  have hc : ∀ f, f < 9 → w.cell? ⟨B, p * 9 + f, none⟩ = (slotC x)[f]? := fun f hf => by rw [hr.cellAt (p * 9 + f) (by omega), slots_at _ p f _ hp hf]
  exact ⟨hc 0 (by omega), hc 1 (by omega), hc 2 (by omega), hc 3 (by omega), hc 4 (by omega), hc 5 (by omega), hc 6 (by omega), hc 7 (by omega)⟩
end Go.Proofs.YtfilbfenpdaahaaGreatDoor
namespace Go.Proofs.YtfilbfenpdaahaaGreatDoor
open Go.RowKit
open St
theorem box1 {w w2 : World} {a : Obj} (h : Below (w.alloc a).heap.size (w.alloc a) w2) : w2.heap[w.heap.size]? = some a := (h.block _ (by simp)).trans (heap_alloc_new w a)
theorem cpy_end {B n : Nat} {l : List Ob} {w2 wr : World} (h : Cpy B n n l w2 wr) (hl : l.length = n) : wr.ownsRow 0 27 8 (.slice (some ⟨B, 0, none⟩) n n) n (l.flatMap Ob.cells) := by
  obtain ⟨_, xs, hx, he, ho⟩ := h
  have : xs = l := List.ext_getElem? (fun j => by
    rcases Nat.lt_or_ge j n with hj | hj
    · exact he j hj
    · rw [List.getElem?_eq_none (by omega), List.getElem?_eq_none (by omega)])
  rw [this] at ho; exact ho
theorem Cpy.drew {B n k : Nat} {l : List Ob} {w2 wr : World} (h : Cpy B n k l w2 wr) : Cpy B n k l w2 wr.drew := h.draws 1
theorem cpy_round {B n k : Nat} {l : List Ob} {w2 wr : World} {x : Ob} (h : Cpy B n k l w2 wr) (hB : w2.heap.size ≤ B) (hk : k < n) (hx : l[k]? = some x) : Cpy B n (k + 1) l w2 ((((((((wr.setCell ⟨B, k * 8, none⟩ (.int .i64 x.kind)).setCell ⟨B, k * 8 + 1, none⟩ (.bool x.exec)).setCell ⟨B, k * 8 + 2, none⟩ (.int .i64 x.acc)).setCell ⟨B, k * 8 + 3, none⟩ (.int .i64 x.n)).setCell ⟨B, k * 8 + 4, none⟩ (.string x.name)).setCell ⟨B, k * 8 + 5, none⟩ (.int .i64 x.ref)).setCell ⟨B, k * 8 + 6, none⟩ (.int .i64 x.frm)).setCell ⟨B, k * 8 + 7, none⟩ (.int .i64 x.len)).drew := by
  have := (h.next hB hk hx).drew
  unfold set8 at this
  exact this
end Go.Proofs.YtfilbfenpdaahaaGreatDoor
namespace Go.Proofs.YtfilbfenpdaahaaGreatDoor
open Go.RowKit
open St
theorem vw_cells {w : World} {s t : Nat} {tv : Value} {G : List (Th × Lay)} {y : Th × Lay} (h : Vw w s tv G) (hy : G[t]? = some y) :
    w.cell? ⟨blkOf tv, t * 7, none⟩ = some (.int .i64 (t + 1 : Nat)) ∧ w.cell? ⟨blkOf tv, t * 7 + 1, none⟩ = some (.int .i64 y.1.kind) ∧ w.cell? ⟨blkOf tv, t * 7 + 2, none⟩ = some y.2.b ∧ w.cell? ⟨blkOf tv, t * 7 + 3, none⟩ = some y.2.i ∧ w.cell? ⟨blkOf tv, t * 7 + 4, none⟩ = some y.2.p ∧ w.cell? ⟨blkOf tv, t * 7 + 5, none⟩ = some (.int .i64 y.1.most) ∧ w.cell? ⟨blkOf tv, t * 7 + 6, none⟩ = some (.int .i64 y.1.acc) := by
  rcases h.row with ⟨_, rfl⟩ | ⟨g, cap, rfl, _, hc⟩
  · simp at hy
  · exact thC_len hy hc
/-- the thing of a dictionary's object -/
def dicT (G : List (Th × Lay)) (o : Ob) : Option Th := match tld G o 8 with
  | none => none
  | some t => G[t]?.map (·.1)
theorem dicT_some {G : List (Th × Lay)} {o : Ob} {t : Nat} {y : Th × Lay} (h : tld G o 8 = some t) (hy : G[t]? = some y) : dicT G o = some y.1 := by unfold dicT; rw [h]; simp [hy]
theorem dicT_none {G : List (Th × Lay)} {o : Ob} (h : tld G o 8 = none) : dicT G o = none := by unfold dicT; rw [h]
def sizeV (d : Option Th) : Value := match d with
  | none => .tuple #[.int .i64 0, .int .i64 0, .int .i64 21]
  | some y => .tuple #[.int .i64 y.pairs.length, .int .i64 y.most, .int .i64 0]
def accV (d : Option Th) : Int := match d with
  | none => 0
  | some y => y.acc
set_option maxRecDepth 100000 in
set_option maxHeartbeats 1000000 in
theorem access_at {O : Nat → Prop} {w : World} {s : Nat} {fr : Int} {G : List (Th × Lay)} (h : Rep O w s fr G) (o : Ob) :
    Calls Tryz.prog 30 #[.pointer (some ⟨s, 0, none⟩), o.val] w fun e w' => e = .returned (.int .i64 (accV (dicT G o))) ∧ Below w.heap.size w w' := by
  have h2 := h.below (below1 w (obC o))
  obtain ⟨tv, hv⟩ := Rep.vw h2
  have HT := Lib.hid (told_rep h2 hv o 8)
  have HV := Lib.hid (fun w3 hb => hv.below (w' := w3) hb)
  unfold obC at HT HV
  unfold Ob.val at HT ⊢
  cases ht : tld G o 8 with
  | none =>
    rw [ht] at HT
    rw [dicT_none ht]
    simp only [thP, Option.map_none] at HT
    clear ht h h2 hv HV
    go_enter Tryz.func30, Tryz.ntmps30
    go_wp2_with fail
    refine HT.out.mono ?_; rintro e w3 ⟨rfl, hb⟩
    have HB := Lib.hid (bthen (below1 w _) hb)
    clear hb
    go_wp2_with fail
    go_ret
    exact ⟨rfl, HB.out⟩
  | some t =>
    rw [ht] at HT
    simp only [thP, Option.map_some] at HT
    obtain ⟨_, _, _, y, hy, _⟩ := tld_bounds h ht
    rw [dicT_some ht hy]
    have HV2 := Lib.hid (fun w3 hb => vw_cells (HV.out w3 hb) hy)
    clear ht h h2 hv HV hy
    go_enter Tryz.func30, Tryz.ntmps30
    go_wp2_with fail
    refine HT.out.mono ?_; rintro e w3 ⟨rfl, hb⟩
    obtain ⟨_, _, _, _, _, _, c6⟩ := HV2.out w3 hb
    have HB := Lib.hid (bthen (below1 w _) hb)
    clear hb
    go_wp2_with fail
    go_ret
    exact ⟨rfl, HB.out⟩
theorem note_end {w w2 : World} {o : Obj} {q : Nat} (h : Below ((w.alloc o).drewN q).heap.size ((w.alloc o).drewN q) w2) : Below w.heap.size w w2 := bthen (below_draw (below1 w o) q) h
theorem note_cell {w w2 : World} {o : Obj} {q : Nat} {a : Addr} {v : Value} (h : Below ((w.alloc o).drewN q).heap.size ((w.alloc o).drewN q) w2) (hc : w.cell? a = some v) : w2.cell? a = some v :=
  ((note_end h).cell (World.block_lt_of_cell? w _ hc)).trans hc
/-- without a mark nothing is noted -/
theorem note_at {O : Nat → Prop} {w : World} {s g t : Nat} {fr : Int} {G : List (Th × Lay)} (h : Rep O w s fr G) (hc : w.cell? ⟨g, t * 7, none⟩ = some (.int .i64 (t + 1 : Nat))) (chs : Array Value) :
    Calls Tryz.prog 51 #[.pointer (some ⟨s, 0, none⟩), .pointer (some ⟨g, t * 7, none⟩), .agg chs] w fun e w' => e = .returned (.tuple #[]) ∧ Below w.heap.size w w' := by
  have h1 := h.below (below1 w (.cells chs 114))
  have HL := Lib.hid (fun q => last_at (w := (w.alloc (.cells chs 114)).drewN q) (h1.below (below_draw (Below.refl _ _) q)))
  have hlt := World.block_lt_of_cell? w _ hc
  have hfd : ∀ w, (Instr.field 126 (.agg #[.int .i64 0, .int .i64 0, .int .i64 0, .int .i64 0]) 1).run Tryz.prog w = .ok (.int .i64 0) w := fun w => (mark_field w _ _ _ _).2
  have hgt : decide ((0 : Int) < (t : Int) + 1) = true := decide_eq_true (by omega)
  clear h h1
  go_enter Tryz.func51, Tryz.ntmps51
  go_wp2_with fail
  go_region_with (first | (go_at_call 67; refine (HL.out 1).mono ?_; rintro e w2 ⟨rfl, hb⟩; have hc2 := note_cell hb hc))
  all_goals go_wp2_with fail
  all_goals exact bodyPost_ret (v := .tuple #[]) (by simp [results, Tryz.results51, go_sem]) rfl ⟨rfl, note_end hb⟩
/-- a dictionary is locked -/
def lockG (G : List (Th × Lay)) (t : Nat) (a : Int) : List (Th × Lay) := G.modify t fun y => (⟨y.1.kind, y.1.bytes, y.1.items, y.1.pairs, y.1.most, a⟩, y.2)
theorem thsC_lock (a : Int) : ∀ (G : List (Th × Lay)) (r t : Nat) (y : Th × Lay), G[t]? = some y → thsC r (lockG G t a) = (thsC r G).set (t * 7 + 6) (.int .i64 a)
  | [], r, t, y, h => by simp at h
  | x :: G, r, 0, y, _ => by
    unfold lockG
    rw [List.modify_zero_cons, thsC, thsC, List.set_append_left _ _ (by simp [thC])]
    rfl
  | x :: G, r, t + 1, y, h => by
    have ih := thsC_lock a G (r + 1) t y (by simpa using h)
    unfold lockG at ih ⊢
    rw [List.modify_succ_cons, thsC, thsC, ih, List.set_append_right _ _ (by simp [thC]; omega)]
    congr 2
    simp [thC]; omega
theorem rep_lock {O : Nat → Prop} {w : World} {s t : Nat} {fr a : Int} {G : List (Th × Lay)} {tv : Value} {y : Th × Lay} (h : Rep O w s fr G) (hv : Vw w s tv G) (hy : G[t]? = some y) : Rep O (w.setCell ⟨blkOf tv, t * 7 + 6, none⟩ (.int .i64 a)) s fr (lockG G t a) ∧ O (blkOf tv) := by
  obtain ⟨tv2, am, cm, ac, cc, hb, ht, ho⟩ := h.blk
  have e0 : tv2 = tv := by have := blk_cell hb 0; rw [hv.c0] at this; simpa using this.symm
  subst e0
  have hlt : t < G.length := (List.getElem?_eq_some_iff.1 hy).1
  rcases ht.2 with ⟨_, hn⟩ | ⟨g, cap, cur, rfl, _, hg, _⟩
  · omega
  have hOg : O g := ho g rfl
  have hst := own_stored ht (t * 7 + 6) (.int .i64 a)
  have hfar : ∀ k, k ≠ g → (w.setCell ⟨g, t * 7 + 6, none⟩ (.int .i64 a)).heap[k]? = w.heap[k]? := fun k hk => blk_far hk _
  have hk : ∀ {n size : Nat} {e : TypeId} {v : Value} {xs : List Value}, w.ownsRow 0 e size v n xs → 69 ≠ e → (w.setCell ⟨g, t * 7 + 6, none⟩ (.int .i64 a)).ownsRow 0 e size v n xs := fun hr hne =>
    owns_same hr (fun k hk => hfar k (fun e1 => own_ne hg hr hne (by rw [← e1]; exact hk.symm)))
  have hsg : s ≠ g := fun e1 => by subst e1; rw [hb] at hg; cases hg
  refine ⟨⟨h.os, fun k ho => by rw [setC_size]; exact h.olt k ho, ⟨_, am, cm, ac, cc, ?_, ?_, ho⟩, fun i x hx => ?_, fun i j x z hij hx hz => ?_, h.fr0, ?_⟩, hOg⟩
  · rw [show (blkOf (.slice (some ⟨g, 0, none⟩) G.length cap)) = g from rfl, hfar s hsg]; unfold lockG; rw [List.length_modify]; exact hb
  · have : (lockG G t a).length = G.length := by unfold lockG; rw [List.length_modify]
    rw [thsC_lock a G 0 t y hy, this]; exact hst
  · unfold lockG at hx
    rcases modify_at hx with ⟨rfl, y', hy', rfl⟩ | ⟨_, hx'⟩
    · have hr := h.row i y' hy'
      exact ⟨hk hr.rb (by decide), hk hr.ri (by decide), hk hr.rp (by decide), hr.ob, hr.oi, hr.op, hr.nb, hr.ni, hr.np, hr.nm⟩
    · have hr := h.row i x hx'
      exact ⟨hk hr.rb (by decide), hk hr.ri (by decide), hk hr.rp (by decide), hr.ob, hr.oi, hr.op, hr.nb, hr.ni, hr.np, hr.nm⟩
  · have key : ∀ (j : Nat) (x : Th × Lay), (lockG G t a)[j]? = some x → ∃ x', G[j]? = some x' ∧ x'.2 = x.2 := fun j x hx => by
      unfold lockG at hx
      rcases modify_at hx with ⟨rfl, y', hy', rfl⟩ | ⟨_, hx'⟩
      · exact ⟨y', hy', rfl⟩
      · exact ⟨x, hx', rfl⟩
    obtain ⟨x', hx', ex⟩ := key i x hx
    obtain ⟨z', hz', ez⟩ := key j z hz
    rw [← ex, ← ez]
    exact h.apart i j x' z' hij hx' hz'
  · unfold lockG; rw [List.length_modify]; exact h.few
end Go.Proofs.YtfilbfenpdaahaaGreatDoor
namespace Go.Proofs.YtfilbfenpdaahaaGreatDoor
open Go.RowKit
open St
def lockE (G : List (Th × Lay)) (o : Ob) (a : Int) : Int := if tld G o 8 = none then 21 else if 0 ≤ a ∧ a ≤ 3 then 0 else 21
/-- behind a call that may turn the store: the error and nothing, or what it is then -/
def Turn (O : Nat → Prop) (w : World) (s : Nat) (fr : Int) (E : Int) (G' : List (Th × Lay)) (e : Ending) (w' : World) : Prop :=
  e = .returned (.int .i64 E) ∧ ((E ≠ 0 ∧ Below w.heap.size w w') ∨ (E = 0 ∧ Rep O w' s fr G' ∧ Frm O w w'))
def lockR (G : List (Th × Lay)) (o : Ob) (a : Int) : List (Th × Lay) := match tld G o 8 with
  | some t => lockG G t a
  | none => G
theorem lock_same {G : List (Th × Lay)} {t : Nat} {y : Th × Lay} (hy : G[t]? = some y) : lockG G t y.1.acc = G := by
  unfold lockG
  apply List.ext_getElem?
  intro j
  rw [List.getElem?_modify]
  by_cases h : t = j
  · subst h; simp [hy]
  · simp [h]
theorem frm_one {O : Nat → Prop} {w w2 : World} {B j : Nat} {v : Value} (hb : Below w.heap.size w w2) (hO : O B) : Frm O w (w2.setCell ⟨B, j, none⟩ v) :=
  ⟨hb.os, hb.tape, hb.output, by rw [setC_size]; exact hb.size, fun k hk hk2 => (blk_far (fun e => hk2 (by rw [e]; exact hO)) _).trans (hb.block k hk)⟩
set_option maxRecDepth 100000 in
set_option maxHeartbeats 1000000 in
theorem lock_at {O : Nat → Prop} {w : World} {s : Nat} {fr : Int} {G : List (Th × Lay)} (h : Rep O w s fr G) (o : Ob) (a : Int) :
    Calls Tryz.prog 29 #[.pointer (some ⟨s, 0, none⟩), o.val, .int .i64 a] w (Turn O w s fr (lockE G o a) (lockR G o a)) := by
  have h2 := h.below (below1 w (obC o))
  obtain ⟨tv, hv⟩ := Rep.vw h2
  have HT := Lib.hid (told_rep h2 hv o 8)
  have HV := Lib.hid (fun w3 hb => hv.below (w' := w3) hb)
  have HR := Lib.hid (fun w3 hb => h2.below (w' := w3) hb)
  have hle : lockE G o a = if tld G o 8 = none then 21 else if 0 ≤ a ∧ a ≤ 3 then 0 else 21 := rfl
  have hlr : lockR G o a = match tld G o 8 with
    | some t => lockG G t a
    | none => G := rfl
  unfold obC at HT HV HR
  unfold Ob.val at HT ⊢
  cases ht : tld G o 8 with
  | none =>
    rw [ht, if_pos rfl] at hle
    rw [hle]
    rw [ht] at HT
    simp only [thP, Option.map_none] at HT
    clear ht h h2 hv HV HR hle hlr
    go_enter Tryz.func29, Tryz.ntmps29
    go_wp2_with fail
    refine HT.out.mono ?_; rintro e w3 ⟨rfl, hb⟩
    have HB := Lib.hid (bthen (below1 w _) hb)
    clear hb
    go_wp2_with fail
    go_ret
    exact ⟨rfl, .inl ⟨by decide, HB.out⟩⟩
  | some t =>
    rw [ht, if_neg (by simp)] at hle
    rw [ht] at hlr
    simp only at hlr
    rw [ht] at HT
    simp only [thP, Option.map_some] at HT
    obtain ⟨_, _, _, y, hy, _⟩ := tld_bounds h ht
    have HV2 := Lib.hid (fun w3 hb => vw_cells (HV.out w3 hb) hy)
    by_cases ha : 0 ≤ a ∧ a ≤ 3
    · rw [if_pos ha] at hle
      rw [hle, hlr]
      obtain ⟨a0, a3⟩ := ha
      by_cases hac : a = y.1.acc
      · have HS := Lib.hid (fun w3 hb => (by have := HR.out w3 hb; rw [hac, lock_same hy]; exact this : Rep O w3 s fr (lockG G t a)))
        have HAC := Lib.hid hac
        clear ht h h2 hv HV HR hle hlr hy hac
        go_enter Tryz.func29, Tryz.ntmps29
        go_wp2_with fail
        refine HT.out.mono ?_; rintro e w3 ⟨rfl, hb⟩
        obtain ⟨_, _, _, _, _, _, c6⟩ := HV2.out w3 hb
        rw [← HAC.out] at c6
        have HB := Lib.hid (bthen (below1 w _) hb)
        have HS3 := Lib.hid (HS.out w3 hb)
        clear hb
        go_wp2_with fail
        go_ret
        exact ⟨rfl, .inr ⟨rfl, HS3.out, Frm.of_below HB.out⟩⟩
      · have hne : (a != y.1.acc) = true := by simp [hac]
        have HN := Lib.hid (fun w3 hb chs => note_at (g := blkOf tv) (HR.out w3 hb) (HV2.out w3 hb).1 chs)
        have HF := Lib.hid (fun w3 hb => rep_lock (a := a) (HR.out w3 hb) (HV.out w3 hb) hy)
        have HFz := Lib.hid (show ∀ w3 (hb : Below (w.alloc (.cells #[.int .i64 o.kind, .bool o.exec, .int .i64 o.acc, .int .i64 o.n, .string o.name, .int .i64 o.ref, .int .i64 o.frm, .int .i64 o.len] 27)).heap.size (w.alloc (.cells #[.int .i64 o.kind, .bool o.exec, .int .i64 o.acc, .int .i64 o.n, .string o.name, .int .i64 o.ref, .int .i64 o.frm, .int .i64 o.len] 27)) w3), ∀ q, w3.frozen? ⟨blkOf tv, q, none⟩ = false from fun w3 hb q => by
          obtain ⟨tv2, am, cm, ac, cc, ⟨c0, _⟩, hr, _⟩ := (HR.out w3 hb).cells
          rw [(HV.out w3 hb).c0] at c0
          cases c0
          rcases hr with ⟨_, e⟩ | ⟨g, cap, e, _, _, hf, _⟩
          · rw [e] at hy; simp at hy
          · rw [e]; exact hf q)
        clear ht h h2 hv HV HR hle hlr hy hac
        go_enter Tryz.func29, Tryz.ntmps29
        go_wp2_with fail
        refine HT.out.mono ?_; rintro e w3 ⟨rfl, hb⟩
        obtain ⟨_, _, _, _, _, _, c6⟩ := HV2.out w3 hb
        have HN3 := Lib.hid (HN.out w3 hb)
        have HB3 := Lib.hid hb
        clear hb HN
        go_wp2_with fail
        refine (HN3.out _).mono ?_; rintro e w4 ⟨rfl, hb4⟩
        have hbb := bthen HB3.out hb4
        have HB := Lib.hid (bthen (below1 w _) hbb)
        have HF4 := Lib.hid (HF.out w4 hbb)
        clear c6
        obtain ⟨_, _, _, _, _, _, c6⟩ := HV2.out w4 hbb
        have f6 := HFz.out w4 hbb
        clear hb4 hbb
        go_wp2_with fail
        go_ret
        exact ⟨rfl, .inr ⟨rfl, HF4.out.1, frm_one HB.out HF4.out.2⟩⟩
    · rw [if_neg ha] at hle
      rw [hle]
      by_cases ha0 : a < 0
      · clear ht h h2 hv HV HR hle hlr hy ha
        go_enter Tryz.func29, Tryz.ntmps29
        go_wp2_with fail
        refine HT.out.mono ?_; rintro e w3 ⟨rfl, hb⟩
        have HB := Lib.hid (bthen (below1 w _) hb)
        clear hb
        go_wp2_with fail
        go_ret
        exact ⟨rfl, .inl ⟨by decide, HB.out⟩⟩
      · have ha3 : 3 < a := by omega
        clear ht h h2 hv HV HR hle hlr hy ha
        go_enter Tryz.func29, Tryz.ntmps29
        go_wp2_with fail
        refine HT.out.mono ?_; rintro e w3 ⟨rfl, hb⟩
        have HB := Lib.hid (bthen (below1 w _) hb)
        clear hb
        go_wp2_with fail
        go_ret
        exact ⟨rfl, .inl ⟨by decide, HB.out⟩⟩
end Go.Proofs.YtfilbfenpdaahaaGreatDoor
namespace Go.Proofs.YtfilbfenpdaahaaGreatDoor
open Go.RowKit
open St
/-- the bytes of o's part -/
def bytesR (G : List (Th × Lay)) (o : Ob) : List UInt8 := match tld G o 6 with
  | some t => match G[t]? with
    | some y => (y.1.bytes.drop o.frm.toNat).take o.len.toNat
    | none => []
  | none => []
def BytesP (G : List (Th × Lay)) (o : Ob) (w : World) (e : Ending) (w' : World) : Prop :=
  Below w.heap.size w w' ∧ ((tld G o 6 = none ∧ e = .returned (.tuple #[.slice none 0 0, .int .i64 21])) ∨
    ∃ B, w.heap.size ≤ B ∧ tld G o 6 ≠ none ∧ e = .returned (.tuple #[.slice (some ⟨B, 0, none⟩) (bytesR G o).length (bytesR G o).length, .int .i64 0]) ∧ w'.heap[B]? = some (.cells ((bytesR G o).map bv).toArray 5 (0, 0)))
theorem bytes_len6 {x : Th} (h : x.kind = 6) : x.length = x.bytes.length := by unfold Th.length; rw [if_pos h]
/-- the bytes of a part of a row can be read -/
theorem src_part {O : Nat → Prop} {w : World} {t : Th} {l : Lay} {F L n c : Nat} {a b : Option Addr} (h : ThR O w t l) (e : l.b = .slice a n c) (hF : F + L ≤ t.bytes.length) (hb : L = 0 ∨ ∃ B, a = some ⟨B, 0, none⟩ ∧ b = some ⟨B, F, none⟩) : Src w b ((t.bytes.drop F).take L) := by
  rcases hb with rfl | ⟨B, rfl, rfl⟩
  · exact .inl (by simp)
  · have hr := h.rb
    rw [e] at hr
    obtain ⟨a2, c2, e2⟩ := own_slice hr
    cases e2
    refine .inr ⟨_, rfl, fun j z hz => ?_⟩
    rw [List.getElem?_take] at hz
    split at hz
    · rw [List.getElem?_drop] at hz
      rw [Addr.add_lit, hr.cellAt (F + j) (by omega), List.getElem?_map, hz]; rfl
    · cases hz
theorem clone_part {w2 : World} {part : List UInt8} {L : Nat} (hp : part.length = L) (hL : L ≤ 65535) (a : Option Addr) (c : Nat) (hs : Src w2 a part) :
    Calls Tryz.prog 22 #[.slice a L c] (w2.drewN 1) fun e w' => e = .returned (.slice (some ⟨w2.heap.size, 0, none⟩) L L) ∧ w'.heap[w2.heap.size]? = some (.cells (part.map bv).toArray 5 (0, 0)) ∧ Below w2.heap.size w2 w' := by
  subst hp
  exact (clone_at (w := w2.drewN 1) (hs.below (below_draw (Below.refl _ _) 1)) hL).mono (fun e w' hh => ⟨hh.1, hh.2.1, bthen (below_draw (Below.refl _ _) 1) hh.2.2⟩)
set_option maxRecDepth 100000 in
set_option maxHeartbeats 1000000 in
theorem bytes_at {O : Nat → Prop} {w : World} {s : Nat} {fr : Int} {G : List (Th × Lay)} (h : Rep O w s fr G) (o : Ob) :
    Calls Tryz.prog 10 #[.pointer (some ⟨s, 0, none⟩), o.val] w (BytesP G o w) := by
  have h2 := h.below (below1 w (obC o))
  obtain ⟨tv, hv⟩ := Rep.vw h2
  have HT := Lib.hid (told_rep h2 hv o 6)
  have HBX := Lib.hid (fun w2 hb => box1 (w := w) (w2 := w2) (a := obC o) hb)
  have HR := Lib.hid (fun w3 hb => h2.below (w' := w3) hb)
  have HV := Lib.hid (fun w3 hb => hv.below (w' := w3) hb)
  have hir : bytesR G o = match tld G o 6 with
    | some t => match G[t]? with
      | some y => (y.1.bytes.drop o.frm.toNat).take o.len.toNat
      | none => []
    | none => [] := rfl
  unfold BytesP
  unfold obC at HT HR HV
  simp only [obC] at HBX
  unfold Ob.val at HT ⊢
  cases ht : tld G o 6 with
  | none =>
    rw [ht] at HT
    simp only [thP, Option.map_none] at HT
    clear hir ht h h2 hv HR HV HBX
    go_enter Tryz.func10, Tryz.ntmps10
    go_wp2_with fail
    refine HT.out.mono ?_; rintro e w3 ⟨rfl, hb⟩
    have HB := Lib.hid (bthen (below1 w _) hb)
    clear hb
    go_wp2_with fail
    exact bodyPost_ret (v := .tuple #[.slice none 0 0, .int .i64 21]) (by simp [results, Tryz.results10, go_sem]) rfl ⟨HB.out, .inl ⟨trivial, rfl⟩⟩
  | some t =>
    rw [ht] at HT hir
    simp only [thP, Option.map_some] at HT
    obtain ⟨b1, b2, b3, y, hy, hyk, hyl, hyL⟩ := tld_bounds h ht
    have hil := bytes_len6 hyk
    simp only [hy] at hir
    obtain ⟨L, hL⟩ : ∃ L : Nat, o.len = L := ⟨o.len.toNat, by omega⟩
    obtain ⟨F, hF⟩ : ∃ F : Nat, o.frm = F := ⟨o.frm.toNat, by omega⟩
    rw [hL, hF, Int.toNat_natCast, Int.toNat_natCast] at hir
    have hpl : (bytesR G o).length = L := by rw [hir]; simp; omega
    rw [hpl]
    generalize bytesR G o = part at *
    have HLen := Lib.hid hL
    have HFrm := Lib.hid hF
    have hLb : L ≤ 65535 := by omega
    have hFL : F + L ≤ 65535 := by omega
    have hyL2 : y.1.bytes.length ≤ 65535 := by omega
    have hfi : F + L ≤ y.1.bytes.length := by omega
    have HPL := Lib.hid (And.intro hpl hir)
    have HCell := Lib.hid (show ∀ w4 (hb : Below (w.alloc (.cells #[.int .i64 o.kind, .bool o.exec, .int .i64 o.acc, .int .i64 o.n, .string o.name, .int .i64 o.ref, .int .i64 o.frm, .int .i64 o.len] 27)).heap.size (w.alloc (.cells #[.int .i64 o.kind, .bool o.exec, .int .i64 o.acc, .int .i64 o.n, .string o.name, .int .i64 o.ref, .int .i64 o.frm, .int .i64 o.len] 27)) w4), w4.cell? ⟨blkOf tv, t * 7 + 2, none⟩ = some y.2.b ∧ ThR O w4 y.1 y.2 from fun w4 hb => by
      rcases (HV.out w4 hb).row with ⟨_, e⟩ | ⟨g, cap, e, _, hc⟩
      · rw [e] at hy; simp at hy
      · exact ⟨by rw [e]; exact hc t 2 y hy (by omega), (HR.out w4 hb).row t y hy⟩)
    clear hir ht h h2 hv HR HV hy hyk hL hF b1 b2 b3 hyl hyL hil hpl
    go_enter Tryz.func10, Tryz.ntmps10
    go_wp2_with fail
    refine HT.out.mono ?_; rintro e w2 ⟨rfl, hb⟩
    obtain ⟨_, _, _, _, _, _, o6, o7⟩ := cellsOb (HBX.out w2 hb)
    rw [HLen.out] at o7
    rw [HFrm.out] at o6
    obtain ⟨hcell, hthr⟩ := HCell.out w2 hb
    have HTH := Lib.hid hthr
    have HB2 := Lib.hid hb
    have hix0 : 0 ≤ (F : Int) + (L : Int) := by omega
    rcases hthr.rb.2 with ⟨ei, hn0⟩ | ⟨Bi, ci, cur, ei, _, _, hnc, hcm, _⟩
    · have hF0 : F = 0 := by omega
      have hL0 : L = 0 := by omega
      subst hF0 hL0
      have HK := Lib.hid (clone_part HPL.out.1 (by omega) none 0 (by rw [HPL.out.2]; exact src_part hthr ei (by omega) (.inl rfl)))
      rw [ei] at hcell
      clear hb hthr ei
      go_wp2_with fail
      go_still_tail 11, (by kernel_rfl)
      change wpList _ _ _ _ _ (w2.drewN 1)
      go_wp2_with fail
      refine HK.out.mono ?_; rintro e w3 ⟨rfl, hk3, hb3⟩
      have HB3 := Lib.hid (And.intro hk3 hb3)
      clear hk3 hb3
      go_wp2_with fail
      exact bodyPost_ret (v := .tuple #[.slice (some ⟨w2.heap.size, 0, none⟩) 0 0, .int .i64 0]) (by simp [results, Tryz.results10, go_sem]) rfl ⟨bthen (bthen (below1 w _) HB2.out) HB3.out.2, .inr ⟨w2.heap.size, by have := (bthen (below1 w _) HB2.out).size; omega, by simp, rfl, HB3.out.1⟩⟩
    · have HEI := Lib.hid ei
      rw [ei] at hcell
      unfold maxLen at hcm
      by_cases hcF : ci = F
      · have hL0 : L = 0 := by omega
        subst hL0 hcF
        have HK := Lib.hid (clone_part HPL.out.1 (by omega) (some ⟨Bi, 0, none⟩) 0 (by rw [HPL.out.2]; exact src_part hthr ei (by omega) (.inl rfl)))
        clear hb hthr ei
        go_wp2_with fail
        go_still_tail 11, (by kernel_rfl)
        change wpList _ _ _ _ _ (w2.drewN 1)
        go_wp2_with fail
        refine HK.out.mono ?_; rintro e w3 ⟨rfl, hk3, hb3⟩
        have HB3 := Lib.hid (And.intro hk3 hb3)
        clear hk3 hb3
        go_wp2_with fail
        exact bodyPost_ret (v := .tuple #[.slice (some ⟨w2.heap.size, 0, none⟩) 0 0, .int .i64 0]) (by simp [results, Tryz.results10, go_sem]) rfl ⟨bthen (bthen (below1 w _) HB2.out) HB3.out.2, .inr ⟨w2.heap.size, by have := (bthen (below1 w _) HB2.out).size; omega, by simp, rfl, HB3.out.1⟩⟩
      · have HK := Lib.hid (clone_part HPL.out.1 (by omega) (some ⟨Bi, F, none⟩) (ci - F) (by rw [HPL.out.2]; exact src_part hthr ei (by omega) (.inr ⟨Bi, rfl, rfl⟩)))
        clear hb hthr ei
        go_wp2_with fail
        go_still_tail 11, (by kernel_rfl)
        change wpList _ _ _ _ _ (w2.drewN 1)
        go_wp2_with fail
        refine HK.out.mono ?_; rintro e w3 ⟨rfl, hk3, hb3⟩
        have HB3 := Lib.hid (And.intro hk3 hb3)
        clear hk3 hb3
        go_wp2_with fail
        exact bodyPost_ret (v := .tuple #[.slice (some ⟨w2.heap.size, 0, none⟩) L L, .int .i64 0]) (by simp [results, Tryz.results10, go_sem]) rfl ⟨bthen (bthen (below1 w _) HB2.out) HB3.out.2, .inr ⟨w2.heap.size, by have := (bthen (below1 w _) HB2.out).size; omega, by simp, rfl, HB3.out.1⟩⟩
end Go.Proofs.YtfilbfenpdaahaaGreatDoor
namespace Go.Proofs.YtfilbfenpdaahaaGreatDoor
open Go.RowKit
open St
def wrF (p : Nat) (b : List UInt8) (y : Th × Lay) : Th × Lay := (⟨y.1.kind, y.1.bytes.take p ++ b ++ y.1.bytes.drop (p + b.length), y.1.items, y.1.pairs, y.1.most, y.1.acc⟩, y.2)
def wrG (G : List (Th × Lay)) (t p : Nat) (b : List UInt8) : List (Th × Lay) := G.modify t (wrF p b)
theorem wrF_head (p : Nat) (b : List UInt8) : SameHead (wrF p b) := ⟨fun _ => rfl, fun _ => rfl, fun _ => rfl, fun _ => rfl⟩
theorem isB_type {w : World} {base n size B : Nat} {e t : TypeId} {v : Value} {xs : List Value} {cs : Array Value} {fr : Nat × Nat} (h : w.ownsRow base e size v n xs) (hB : w.heap[B]? = some (.cells cs t fr)) (hne : t ≠ e) : ¬ isB v B := fun k => own_ne hB h hne k.symm
/-- what a copy into a string's row leaves -/
theorem rep_write {O : Nat → Prop} {w w' : World} {s i B c p : Nat} {fr : Int} {G : List (Th × Lay)} {y : Th × Lay} {cur : Array Value} {b : List UInt8} (h : Rep O w s fr G) (hy : G[i]? = some y) (e : y.2.b = .slice (some ⟨B, 0, none⟩) y.1.bytes.length c) (hB : w.heap[B]? = some (.cells cur 5 (0, 0))) (hp : p + b.length ≤ y.1.bytes.length)
    (hg : w'.heap[B]? = some (.cells (cur.toList.take p ++ b.map bv ++ cur.toList.drop (p + b.length)).toArray 5 (0, 0))) (hfar : ∀ k, k ≠ B → w'.heap[k]? = w.heap[k]?) (hsz : w'.heap.size = w.heap.size) : Rep O w' s fr (wrG G i p b) := by
  have hr := h.row i y hy
  have hrb := hr.rb
  rw [e] at hrb
  obtain ⟨hl0, hor⟩ := hrb
  rcases hor with ⟨e0, _⟩ | ⟨g, cap, cur2, e0, _, hg2, hnc, hcm, hcs, htk⟩
  · cases e0
  cases e0
  rw [hB] at hg2
  cases hg2
  have ni := isB_type hr.ri hB (by decide)
  have np := isB_type hr.rp hB (by decide)
  have hcl : cur.toList.length = c := by simpa using hcs
  have hlen : (y.1.bytes.take p ++ b ++ y.1.bytes.drop (p + b.length)).length = y.1.bytes.length := by simp; omega
  refine rep_modify h (wrF_head p b) hy hB ⟨by decide, by decide⟩ hfar hsz (.inl (by rw [e]; rfl)) ⟨fun _ => rfl, fun k => absurd k ni, fun k => absurd k np⟩ ?_
  refine ⟨?_, owns_same hr.ri (fun k hk => hfar k (fun e1 => ni (e1 ▸ hk))), owns_same hr.rp (fun k hk => hfar k (fun e1 => np (e1 ▸ hk))), hr.ob, hr.oi, hr.op, by simp only [wrF]; rw [hlen]; exact hr.nb, hr.ni, hr.np, hr.nm⟩
  simp only [wrF]
  rw [hlen, e]
  refine ⟨by simp; omega, .inr ⟨B, c, _, rfl, Nat.zero_le _, hg, hnc, hcm, by simp; omega, ?_⟩⟩
  have hbm : cur.toList.take y.1.bytes.length = y.1.bytes.map bv := by simpa using htk
  have hcur : cur.toList = y.1.bytes.map bv ++ cur.toList.drop y.1.bytes.length := by rw [← hbm, List.take_append_drop]
  rw [hcur]
  generalize cur.toList.drop y.1.bytes.length = R
  simp only [Nat.mul_one]
  have t1 : (y.1.bytes.map bv ++ R).take p = (y.1.bytes.map bv).take p := List.take_append_of_le_length (by simp; omega)
  have t2 : (y.1.bytes.map bv ++ R).drop (p + b.length) = (y.1.bytes.map bv).drop (p + b.length) ++ R := List.drop_append_of_le_length (by simp; omega)
  rw [t1, t2, ← List.append_assoc]
  have hl2 : ((y.1.bytes.map bv).take p ++ b.map bv ++ (y.1.bytes.map bv).drop (p + b.length)).length = y.1.bytes.length := by simp; omega
  rw [← hl2, List.take_left]
  simp [List.map_take, List.map_drop]
def writeE (G : List (Th × Lay)) (o : Ob) (at_ : Int) (n : Nat) : Int := if tld G o 6 = none then 21 else if liesB at_ n o.len = true then 0 else 11
def writeR (G : List (Th × Lay)) (o : Ob) (at_ : Int) (b : List UInt8) : List (Th × Lay) := match tld G o 6 with
  | some t => wrG G t (o.frm + at_).toNat b
  | none => G
theorem wr_nil {G : List (Th × Lay)} {t p : Nat} : wrG G t p [] = G := by
  unfold wrG
  apply List.ext_getElem?
  intro j
  rw [List.getElem?_modify]
  by_cases h : t = j
  · simp [h, wrF]
  · simp [h]
set_option maxRecDepth 100000 in
set_option maxHeartbeats 1000000 in
theorem write_at {O : Nat → Prop} {w : World} {s c0 : Nat} {fr : Int} {G : List (Th × Lay)} {a : Option Addr} {b : List UInt8} (h : Rep O w s fr G) (hS : Src w a b) (o : Ob) (at_ : Int) :
    Calls Tryz.prog 71 #[.pointer (some ⟨s, 0, none⟩), o.val, .int .i64 at_, .slice a b.length c0] w (Turn O w s fr (writeE G o at_ b.length) (writeR G o at_ b)) := by
  have h2 := h.below (below1 w (obC o))
  obtain ⟨tv, hv⟩ := Rep.vw h2
  have HT := Lib.hid (told_rep h2 hv o 6)
  have HV := Lib.hid (fun w3 hb => hv.below (w' := w3) hb)
  have HR := Lib.hid (fun w3 hb => h2.below (w' := w3) hb)
  have HBX := Lib.hid (fun w2 hb => box1 (w := w) (w2 := w2) (a := obC o) hb)
  have HSr := Lib.hid (fun w3 (hb : Below w.heap.size w w3) => hS.below hb)
  have hle : writeE G o at_ b.length = if tld G o 6 = none then 21 else if liesB at_ b.length o.len = true then 0 else 11 := rfl
  have hlr : writeR G o at_ b = match tld G o 6 with
    | some t => wrG G t (o.frm + at_).toNat b
    | none => G := rfl
  unfold obC at HT HV HR
  simp only [obC] at HBX
  unfold Ob.val at HT ⊢
  cases ht : tld G o 6 with
  | none =>
    rw [ht, if_pos rfl] at hle
    rw [hle]
    rw [ht] at HT
    simp only [thP, Option.map_none] at HT
    clear ht h h2 hv HV HR hle hlr HBX
    go_enter Tryz.func71, Tryz.ntmps71
    go_wp2_with fail
    refine HT.out.mono ?_; rintro e w3 ⟨rfl, hb⟩
    have HB := Lib.hid (bthen (below1 w _) hb)
    clear hb
    go_wp2_with fail
    go_ret
    exact ⟨rfl, .inl ⟨by decide, HB.out⟩⟩
  | some t =>
    rw [ht, if_neg (by simp)] at hle
    rw [ht] at hlr
    simp only at hlr
    rw [ht] at HT
    simp only [thP, Option.map_some] at HT
    obtain ⟨b1, b2, b3, y, hy, hyk, hyl, hyL⟩ := tld_bounds h ht
    have hil := bytes_len6 hyk
    obtain ⟨L, hL⟩ : ∃ L : Nat, o.len = L := ⟨o.len.toNat, by omega⟩
    obtain ⟨F, hF⟩ : ∃ F : Nat, o.frm = F := ⟨o.frm.toNat, by omega⟩
    have HLen := Lib.hid hL
    have HFrm := Lib.hid hF
    have hLb : L ≤ 65535 := by omega
    have HLi := Lib.hid (fun w => lies_at at_ b.length L hLb w)
    rw [hL] at hle
    cases hl : liesB at_ b.length L with
    | false =>
      rw [hl, if_neg (by decide)] at hle
      rw [hl] at HLi
      rw [hle]
      clear ht h h2 hv HV HR hle hlr hy hyk hL hF b1 b2 b3 hyl hyL hil hl
      go_enter Tryz.func71, Tryz.ntmps71
      go_wp2_with fail
      refine HT.out.mono ?_; rintro e w3 ⟨rfl, hb⟩
      obtain ⟨_, _, _, _, _, _, o6, o7⟩ := cellsOb (HBX.out w3 hb)
      rw [HLen.out] at o7
      have HB := Lib.hid (bthen (below1 w _) hb)
      clear hb
      go_wp2_with fail
      refine (HLi.out _).mono ?_; rintro e w5 ⟨rfl, rfl⟩
      go_wp2_with fail
      go_ret
      exact ⟨rfl, .inl ⟨by decide, HB.out⟩⟩
    | true =>
      have hlb := liesB_iff.1 hl
      rw [hl, if_pos rfl] at hle
      rw [hl] at HLi
      obtain ⟨I, rfl⟩ : ∃ I : Nat, at_ = I := ⟨at_.toNat, by omega⟩
      rw [show (o.frm + (I : Int)).toNat = F + I by omega] at hlr
      rw [hle, hlr]
      have hfit : F + I + b.length ≤ y.1.bytes.length := by omega
      have hyL2 : y.1.bytes.length ≤ 65535 := by omega
      have hix0 : 0 ≤ (F : Int) + (I : Int) := by omega
      have hix1 : (F : Int) + (I : Int) ≤ (y.1.bytes.length : Int) := by omega
      have HV2 := Lib.hid (fun w3 hb => vw_cells (HV.out w3 hb) hy)
      have HTh := Lib.hid (fun w3 hb => (HR.out w3 hb).row t y hy)
      have HY := Lib.hid hy
      clear ht h h2 hv HV hle hlr hy hyk hL hF b1 b2 b3 hyl hyL hil hl hlb
      go_enter Tryz.func71, Tryz.ntmps71
      go_wp2_with fail
      refine HT.out.mono ?_; rintro e w3 ⟨rfl, hb⟩
      obtain ⟨_, _, _, _, _, _, o6, o7⟩ := cellsOb (HBX.out w3 hb)
      rw [HLen.out] at o7
      rw [HFrm.out] at o6
      obtain ⟨_, _, c2, _⟩ := HV2.out w3 hb
      have hth := HTh.out w3 hb
      have HR3 := Lib.hid (HR.out w3 hb)
      have HB := Lib.hid (bthen (below1 w _) hb)
      have hS3 := HSr.out w3 (bthen (below1 w _) hb)
      have HS3 := Lib.hid hS3
      by_cases hb0 : b = []
      · subst hb0
        have hcp : ∀ d dl dc W, (Builtin.copy_ #[35, 35] 3 #[.slice d dl dc, .slice a 0 c0]).run Tryz.prog W = .ok (.int .i64 0) W := fun d dl dc W => run_copy_none W _ _ _ 5 d a dl dc 0 c0 Tryz.underlying35 (by kernel_rfl) (by simp)
        simp only [List.length_nil] at *
        rcases hth.rb.2 with ⟨ei, hn0⟩ | ⟨Bi, ci, cur, ei, _, hBi, hnc, hcm, hcs, _⟩
        · have hF0 : F = 0 := by omega
          have hI0 : I = 0 := by omega
          subst hF0 hI0
          rw [ei] at c2
          clear hb hth ei hS3
          go_wp2_with fail
          refine (HLi.out _).mono ?_; rintro e w5 ⟨rfl, rfl⟩
          go_wp2_with fail
          go_region
          all_goals go_wp2_with fail
          all_goals go_ret
          all_goals exact ⟨rfl, .inr ⟨rfl, by rw [wr_nil]; exact HR3.out.below (below_draw (Below.refl _ _) 1), Frm.of_below (below_draw HB.out 1)⟩⟩
        · rw [ei] at c2
          unfold maxLen at hcm
          clear hb hth ei hBi hS3 hcs
          go_wp2_with fail
          refine (HLi.out _).mono ?_; rintro e w5 ⟨rfl, rfl⟩
          go_wp2_with fail
          go_region
          all_goals go_wp2_with fail
          all_goals go_ret
          all_goals exact ⟨rfl, .inr ⟨rfl, by rw [wr_nil]; exact HR3.out.below (below_draw (Below.refl _ _) 1), Frm.of_below (below_draw HB.out 1)⟩⟩
      · have hbl : 0 < b.length := List.length_pos_iff.2 hb0
        rcases hth.rb.2 with ⟨ei, hn0⟩ | ⟨Bi, ci, cur, ei, _, hBi, hnc, hcm, hcs, _⟩
        · omega
        · have hOB := hth.ob Bi (by rw [ei]; rfl)
          rw [ei] at c2
          unfold maxLen at hcm
          have hcs2 : cur.size = ci := by simpa using hcs
          have hciF : ¬ ci = F + I := by omega
          obtain ⟨wz, hrun, hgz, hfarz, hszz, z1, z2, z3⟩ := copy_run (W := w3.drew) (c := c0) (o := F + I) (dl := y.1.bytes.length - (F + I)) (dc := ci - (F + I)) hS3 hBi (by omega) (by omega)
          have HFin := Lib.hid (rep_write (w := w3.drew) (HR3.out.below (below_draw (Below.refl _ _) 1)) HY.out ei hBi hfit hgz hfarz hszz)
          have HFrm2 := Lib.hid (show Frm O w wz from ⟨z1.trans HB.out.os, z2.trans HB.out.tape, z3.trans HB.out.output, by rw [hszz]; exact HB.out.size, fun k hk hkO => (hfarz k (fun e => hkO (by rw [e]; exact hOB))).trans (HB.out.block k hk)⟩)
          clear hb hth ei hBi hS3 hcs hgz hfarz hszz z1 z2 z3 hb0
          go_wp2_with fail
          refine (HLi.out _).mono ?_; rintro e w5 ⟨rfl, rfl⟩
          go_wp2_with fail
          go_region
          all_goals go_wp2_with fail
          all_goals go_ret
          all_goals exact ⟨rfl, .inr ⟨rfl, HFin.out, HFrm2.out⟩⟩
end Go.Proofs.YtfilbfenpdaahaaGreatDoor
