/-
  New rows: what make makes, a copy of bytes (clone), and a thing that is taken up into a store (hold), of the store as a whole.
-/
import Derived.Test.YtfilbfenpdaahaaGreatDoorStoHold
import Derived.Laws.CopyOwn
import Derived.Laws.MakeOwn
namespace Go.Proofs.YtfilbfenpdaahaaGreatDoor
open Go.RowKit
open St
theorem made_flat (z : List Value) (m : Nat) (hz : z.length = m) (hm : 0 < m) : ∀ n : Nat, (List.range (n * m)).map (fun j => z.toArray[j % z.toArray.size]!) = (List.replicate n z).flatten
  | 0 => by simp
  | n + 1 => by
    rw [List.replicate_succ', List.flatten_append, ← made_flat z m hz hm n, Nat.add_mul, Nat.one_mul, List.range_add, List.map_append]
    congr 1
    simp only [List.map_map, List.flatten_cons, List.flatten_nil, List.append_nil]
    apply List.ext_getElem
    · simp [hz]
    · intro i h1 h2
      simp at h1
      simp [hz, Nat.mod_eq_of_lt h1, List.getElem?_eq_getElem h2]
theorem made_list (z : List Value) (m : Nat) (hz : z.length = m) (hm : 0 < m) (n : Nat) : (madeCells z.toArray (n * m)).toList = (List.replicate n z).flatten := by
  rw [← made_flat z m hz hm n]; simp [madeCells]
theorem u8_info : (Tryz.prog.info? 5).map (fun i => (i.zero, i.size, i.bytes)) = some (some (.int .u8 0), 1, 1) := by kernel_rfl
theorem slot_info : (Tryz.prog.info? 110).map (fun i => (i.zero, i.size, i.bytes)) = some (some (.agg #[.int .i64 0, .bool false, .int .i64 0, .int .i64 0, .string ⟨#[]⟩, .int .i64 0, .int .i64 0, .int .i64 0, .int .i64 0]), 9, 80) := by kernel_rfl
def zeros (n : Nat) : Array Value := madeCells #[.int .u8 0] (n * 1)
def nulls (n : Nat) : Array Value := madeCells #[.int .i64 0, .bool false, .int .i64 0, .int .i64 0, .string ⟨#[]⟩, .int .i64 0, .int .i64 0, .int .i64 0, .int .i64 0] (n * 9)
theorem zeros_list (n : Nat) : (zeros n).toList = (List.replicate n (0 : UInt8)).map bv := by
  unfold zeros
  rw [made_list [.int .u8 0] 1 rfl (by decide) n]
  induction n with
  | zero => rfl
  | succ n ih => rw [List.replicate_succ, List.flatten_cons, ih, List.replicate_succ, List.map_cons]; rfl
theorem nulls_list (n : Nat) : (nulls n).toList = (List.replicate n nul).flatMap slotC := by
  unfold nulls
  have e := made_list (slotC nul) 9 rfl (by decide) n
  simp only [slotC, nul] at e
  rw [e]
  clear e
  induction n with
  | zero => rfl
  | succ n ih => rw [List.replicate_succ, List.flatten_cons, ih, List.replicate_succ, List.flatMap_cons]; rfl
theorem make_bytes (n : Nat) (hn : n ≤ 65535) (w : World) : (Instr.makeSlice 35 (.int .i64 n) (.int .i64 n)).run Tryz.prog w = .ok (.slice (some ⟨w.heap.size, 0, none⟩) n n) (w.alloc (.cells (zeros n) 5)) := by
  obtain ⟨i0, hi, hz0, hz1, hz2⟩ := info_parts u8_info
  have h := run_make (P := Tryz.prog) w 35 5 i0 _ Tryz.underlying35 hi hz0 .i64 .i64 n n (by omega) (Int.le_refl _) (by rw [hz2]; omega) (by omega)
  rw [hz1] at h
  simpa [zeros, Value.cells] using h
theorem make_slots (n : Nat) (hn : n ≤ 65535) (w : World) : (Instr.makeSlice 66 (.int .i64 n) (.int .i64 n)).run Tryz.prog w = .ok (.slice (some ⟨w.heap.size, 0, none⟩) n n) (w.alloc (.cells (nulls n) 110)) := by
  obtain ⟨i0, hi, hz0, hz1, hz2⟩ := info_parts slot_info
  have h := run_make (P := Tryz.prog) w 66 110 i0 _ Tryz.underlying66 hi hz0 .i64 .i64 n n (by omega) (Int.le_refl _) (by rw [hz2]; omega) (by omega)
  rw [hz1] at h
  simpa [nulls, Value.cells] using h
/-- bytes that can be read at a slice's address -/
def Src (w : World) (a : Option Addr) (l : List UInt8) : Prop := l = [] ∨ ∃ ad, a = some ad ∧ ∀ j z, l[j]? = some z → w.cell? (ad.add j) = some (bv z)
/-- a copy of bytes into a row g, from o on -/
theorem copy_run {W : World} {a : Option Addr} {c g o dl dc : Nat} {l : List UInt8} {cur : Array Value} (h : Src W a l) (hg : W.heap[g]? = some (.cells cur 5 (0, 0))) (hfit : o + l.length ≤ cur.size) (hd : l.length ≤ dl) :
    ∃ w', (Builtin.copy_ #[35, 35] 3 #[.slice (some ⟨g, o, none⟩) dl dc, .slice a l.length c]).run Tryz.prog W = .ok (.int .i64 l.length) w' ∧
      w'.heap[g]? = some (.cells (cur.toList.take o ++ l.map bv ++ cur.toList.drop (o + l.length)).toArray 5 (0, 0)) ∧ (∀ k, k ≠ g → w'.heap[k]? = W.heap[k]?) ∧ w'.heap.size = W.heap.size ∧ w'.os = W.os ∧ w'.tape = W.tape ∧ w'.output = W.output := by
  have hsz : ((Tryz.prog.info? 5).map (·.size)) = some 1 := by kernel_rfl
  rcases h with rfl | ⟨ad, rfl, hc⟩
  · exact ⟨W, run_copy_none W _ _ _ 5 _ a dl dc 0 c Tryz.underlying35 hsz (by simp), by simpa using hg, fun _ _ => rfl, rfl, rfl, rfl, rfl⟩
  · have hr := run_copy_row (P := Tryz.prog) W 35 35 3 5 g o dl dc ad l.length c cur 5 (l.map bv) Tryz.underlying35 hsz hg (by rw [List.length_map]; exact (Nat.min_eq_left hd).symm) (fun j v hv => by
        rw [List.getElem?_map] at hv
        obtain ⟨z, hz, rfl⟩ := Option.map_eq_some_iff.1 hv
        exact hc j z hz) (by simpa using hfit) (by intro v hv; obtain ⟨z, _, rfl⟩ := List.mem_map.1 hv; rfl)
    rw [List.length_map] at hr
    exact ⟨_, hr, setRow_heap W g _ _ _ _ hg, fun k hk => setRow_other W g k _ hk, by simp [World.setRow], rfl, rfl, rfl⟩
theorem Src.below {w w' : World} {a : Option Addr} {l : List UInt8} (h : Src w a l) (hb : Below w.heap.size w w') : Src w' a l := by
  rcases h with h | ⟨ad, e, hc⟩
  · exact .inl h
  · exact .inr ⟨ad, e, fun j z hz => (hb.cell (World.block_lt_of_cell? w _ (hc j z hz))).trans (hc j z hz)⟩
set_option maxRecDepth 100000 in
theorem clone_at {w : World} {a : Option Addr} {c : Nat} {l : List UInt8} (h : Src w a l) (hl : l.length ≤ 65535) :
    Calls Tryz.prog 22 #[.slice a l.length c] w fun e w' => e = .returned (.slice (some ⟨w.heap.size, 0, none⟩) l.length l.length) ∧ w'.heap[w.heap.size]? = some (.cells (l.map bv).toArray 5 (0, 0)) ∧ Below w.heap.size w w' := by
  have hmk := make_bytes l.length hl
  have hb1 := below1 w (.cells (zeros l.length) 5)
  have hzs : (zeros l.length).size = l.length := by rw [← Array.length_toList, zeros_list]; simp
  obtain ⟨w', hr, hg, hfar, hsz, h1, h2, h3⟩ := copy_run (c := c) (o := 0) (dl := l.length) (dc := l.length) (h.below hb1) (heap_alloc_new w (.cells (zeros l.length) 5)) (by omega) (Nat.le_refl _)
  have hb : Below w.heap.size w w' := hb1.trans ⟨h1, h2, h3, by rw [hsz]; exact Nat.le_refl _, fun k hk => hfar k (by omega)⟩
  have HG := Lib.hid hg
  have HB := Lib.hid hb
  have HL := Lib.hid (And.intro hl hzs)
  clear h hg hb hfar hsz h1 h2 h3 hb1 hl hzs
  go_enter Tryz.func22, Tryz.ntmps22
  go_wp2_with fail
  go_ret
  exact ⟨rfl, by rw [HG.out, List.drop_of_length_le (by have := HL.out.2; simp; omega)]; simp, HB.out⟩
theorem own_of_block {w : World} {B n size : Nat} {e : TypeId} {cs : Array Value} (h : w.heap[B]? = some (.cells cs e (0, 0))) (hn : n ≤ 65535) (hs : cs.size = n * size) : w.ownsRow 0 e size (.slice (some ⟨B, 0, none⟩) n n) n cs.toList :=
  ⟨by simp [hs], .inr ⟨B, n, cs, rfl, Nat.zero_le _, h, Nat.le_refl _, by unfold maxLen; omega, hs, by rw [List.take_of_length_le (by simp [hs])]⟩⟩
/-- the object that tells of the whole of a new thing -/
def newOb (t : Th) (n : Nat) : Ob := ⟨t.kind, false, 0, 0, ⟨#[]⟩, n + 1, 0, t.length⟩
def thV (t : Th) (l : Lay) : Value := .agg #[.int .i64 0, .int .i64 t.kind, l.b, l.i, l.p, .int .i64 t.most, .int .i64 t.acc]
theorem apart_symm {l m : Lay} (h : apartL l m) : apartL m l := fun k => ⟨fun a b => (h k).1 b a, fun a b => (h k).2.1 b a, fun a b => (h k).2.2 b a⟩
theorem getElem?_snoc {G : List (Th × Lay)} {y x : Th × Lay} {i : Nat} (h : (G ++ [y])[i]? = some x) : G[i]? = some x ∨ (i = G.length ∧ x = y) := by
  rcases Nat.lt_or_ge i G.length with hi | hi
  · rw [List.getElem?_append_left hi] at h; exact .inl h
  · rw [List.getElem?_append_right hi] at h
    rcases Nat.eq_or_lt_of_le hi with e | e
    · subst e; simp at h; exact .inr ⟨rfl, h.symm⟩
    · rw [List.getElem?_eq_none (by simp; omega)] at h; cases h
theorem hold_rep {O : Nat → Prop} {w : World} {s : Nat} {fr : Int} {G : List (Th × Lay)} {t : Th} {l : Lay} (h : Rep O w s fr G) (hT : ThR O w t l) (hap : ∀ (i : Nat) (x : Th × Lay), G[i]? = some x → apartL x.2 l) (hfew : G.length + fr + 1 ≤ 1048576) :
    Calls Tryz.prog 16 #[.pointer (some ⟨s, 0, none⟩), thV t l] w fun e w' => e = .returned (newOb t G.length).val ∧ Rep (Up O w w') w' s fr (G ++ [(t, l)]) ∧ Frm O w w' := by
  obtain ⟨tv, am, cm, ac, cc, hb, hown, ho⟩ := h.blk
  obtain ⟨ab, cb, eb⟩ := own_slice hT.rb
  obtain ⟨ai, ci, ei⟩ := own_slice hT.ri
  obtain ⟨ap, cp, ep⟩ := own_slice hT.rp
  have hf0 := h.fr0
  have hc := hold_at (kd := t.kind) (mo := t.most) (ac := t.acc) (ab := ab) (nb := t.bytes.length) (cb := cb) (ai := ai) (ni := t.items.length) (ci := ci) (ap := ap) (np := t.pairs.length) (cp := cp) hb hown (by omega)
  unfold thV
  rw [eb, ei, ep]
  refine hc.mono ?_
  rintro e w' ⟨rfl, g, cap, hs', hown', hat, hlt', htwo⟩
  have hFr : Frm O w w' := ⟨htwo.os, htwo.tape, htwo.output, htwo.size, fun k hk hO => htwo.block k hk (fun e => hO (by rw [e]; exact h.os)) (fun e => hO (ho k e.symm))⟩
  refine ⟨rfl, ?_, hFr⟩
  have keep : ∀ k, k < w.heap.size → (∃ e : TypeId, ∃ c f, w.heap[k]? = some (.cells c e f) ∧ e ≠ 63 ∧ e ≠ 69) → w'.heap[k]? = w.heap[k]? := by
    rintro k hk ⟨e, c, f, hkc, n1, n2⟩
    refine htwo.block k hk (fun e1 => ?_) (own_ne hkc hown n2)
    subst e1
    rw [hb] at hkc; cases hkc; exact n1 rfl
  have keepR : ∀ {n size : Nat} {e : TypeId} {v : Value} {xs : List Value}, w.ownsRow 0 e size v n xs → e ≠ 63 → e ≠ 69 → w'.ownsRow 0 e size v n xs := by
    intro n size e v xs ho n1 n2
    refine owns_same ho (fun k hk => ?_)
    rcases ho.2 with ⟨rfl, _⟩ | ⟨g', cap', cur', rfl, _, hg', _⟩
    · cases hk
    · have : g' = k := by simpa [isB, Value.ownBlock] using hk
      subst this
      exact keep g' (Array.getElem?_eq_some_iff.1 hg').1 ⟨_, _, _, hg', n1, n2⟩
  have keepT : ∀ {t' : Th} {l' : Lay}, ThR O w t' l' → ThR (Up O w w') w' t' l' := fun hr =>
    ⟨keepR hr.rb (by decide) (by decide), keepR hr.ri (by decide) (by decide), keepR hr.rp (by decide) (by decide), fun k hk => .inl (hr.ob k hk), fun k hk => .inl (hr.oi k hk), fun k hk => .inl (hr.op k hk), hr.nb, hr.ni, hr.np, hr.nm⟩
  refine ⟨.inl h.os, fun k ho => by rcases ho with e | e; exact Nat.lt_of_lt_of_le (h.olt k e) hFr.size; exact e.2, ⟨_, am, cm, ac, cc, by rw [List.length_append]; exact hs', ?_, ?_⟩, fun i x hx => ?_, fun i j x y hij hx hy => ?_, hf0, by simp; omega⟩
  · rw [thsC_append, List.length_append]
    simp only [thsC, List.append_nil, Nat.zero_add]
    have := hown'
    rw [← eb, ← ei, ← ep] at this
    exact this
  · intro k hk
    have : g = k := by simpa [isB, Value.ownBlock] using hk
    subst this
    rcases hat with e | e
    · exact .inl (ho g e)
    · exact .inr ⟨e, hlt'⟩
  · rcases getElem?_snoc hx with hx | ⟨_, rfl⟩
    · exact keepT (h.row i x hx)
    · exact keepT hT
  · rcases getElem?_snoc hx with hx | ⟨ei', rfl⟩
    · rcases getElem?_snoc hy with hy | ⟨_, rfl⟩
      · exact h.apart i j x y hij hx hy
      · exact hap i x hx
    · rcases getElem?_snoc hy with hy | ⟨ej, rfl⟩
      · exact apart_symm (hap j y hy)
      · omega
end Go.Proofs.YtfilbfenpdaahaaGreatDoor
