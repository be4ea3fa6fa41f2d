/-
  A copy of a store, by a contract: Copy.
-/
import Derived.Test.YtlflkdmbbomjeaaStoCopy2
namespace Go.Proofs.Ytlflkdmbbomjeaa
open Go.RowKit
open St
set_option maxRecDepth 100000 in
theorem clone0_mark (w : World) (am : Option Addr) (cm : Nat) :
    Calls Try.prog 75 #[.slice am 0 cm] w fun e w' => e = .returned (.slice (some ⟨w.heap.size, 0, none⟩) 0 0) ∧ Below w.heap.size w w' := by
  obtain ⟨i0, hi, hz0, hz1, hz2⟩ := info_parts mark_infoC
  obtain ⟨mc, hmk⟩ : ∃ mc : Array Value, (Instr.makeSlice 107 (.int .i64 0) (.int .i64 0)).run Try.prog w = .ok (.slice (some ⟨w.heap.size, 0, none⟩) 0 0) (w.alloc (.cells mc 136)) := by
    have h := run_make (P := Try.prog) w 107 136 i0 _ Try.underlying107 hi hz0 .i64 .i64 0 0 (by omega) (Int.le_refl _) (by omega) (by omega)
    exact ⟨_, h⟩
  have hcp := fun W => copy0 (W := W) (d := ⟨w.heap.size, 0, none⟩) (am := am) (cm := cm) Try.underlying107 hi
  clear hi hz0 hz1 hz2
  go_enter Try.func75, Try.ntmps75
  go_wp2_with fail
  go_ret
  exact ⟨rfl, below1 w _⟩
set_option maxRecDepth 100000 in
theorem clone0_change (w : World) (am : Option Addr) (cm : Nat) :
    Calls Try.prog 76 #[.slice am 0 cm] w fun e w' => e = .returned (.slice (some ⟨w.heap.size, 0, none⟩) 0 0) ∧ Below w.heap.size w w' := by
  obtain ⟨i0, hi, hz0, hz1, hz2⟩ := info_parts change_infoC
  obtain ⟨mc, hmk⟩ : ∃ mc : Array Value, (Instr.makeSlice 108 (.int .i64 0) (.int .i64 0)).run Try.prog w = .ok (.slice (some ⟨w.heap.size, 0, none⟩) 0 0) (w.alloc (.cells mc 131)) := by
    have h := run_make (P := Try.prog) w 108 131 i0 _ Try.underlying108 hi hz0 .i64 .i64 0 0 (by omega) (Int.le_refl _) (by omega) (by omega)
    exact ⟨_, h⟩
  have hcp := fun W => copy0 (W := W) (d := ⟨w.heap.size, 0, none⟩) (am := am) (cm := cm) Try.underlying108 hi
  clear hi hz0 hz1 hz2
  go_enter Try.func76, Try.ntmps76
  go_wp2_with fail
  go_ret
  exact ⟨rfl, below1 w _⟩
/-- a row of bytes is a source -/
theorem src_own {w : World} {n : Nat} {v : Value} {l : List UInt8} (h : w.ownsRow 0 5 1 v n (l.map bv)) {a : Option Addr} {c : Nat} (e : v = .slice a l.length c) : Src w a l := by
  rcases h.2 with ⟨e0, _⟩ | ⟨g, cap, cur, e0, _⟩
  · rw [e] at e0
    injection e0 with _ e1 _
    exact .inl (List.eq_nil_of_length_eq_zero e1)
  · rw [e] at e0
    injection e0 with e1 _ _
    subst e1
    refine .inr ⟨_, rfl, fun j z hz => ?_⟩
    exact h.cells (g := g) (by rw [e]; rfl) j _ (by rw [List.getElem?_map, hz]; rfl)
theorem cps_cells {w wr : World} {H B k : Nat} {fr : Int} {am ac : Option Addr} {cm cc : Nat} {G D : List (Th × Lay)} {y : Th × Lay} (h : Cps w wr H B fr am ac cm cc G k D) (hy : D[k]? = some y) : wr.cell? ⟨B, k * 7 + 2, none⟩ = some y.2.b ∧ wr.cell? ⟨B, k * 7 + 3, none⟩ = some y.2.i ∧ wr.cell? ⟨B, k * 7 + 4, none⟩ = some y.2.p ∧ (∀ q, wr.frozen? ⟨B, q, none⟩ = false) := by
  have hk : k < D.length := (List.getElem?_eq_some_iff.1 hy).1
  have hl := h.len
  have hc : ∀ f, f < 7 → wr.cell? ⟨B, k * 7 + f, none⟩ = (thC k y)[f]? := fun f hf => by rw [h.row.cellAt (k * 7 + f) (by omega), thsC_at D 0 k f y hy hf, Nat.zero_add]
  exact ⟨hc 2 (by omega), hc 3 (by omega), hc 4 (by omega), fun q => h.row.frozenAt q⟩
theorem cps_start {w w2 : World} {fr : Int} {am ac : Option Addr} {cm cc : Nat} {G : List (Th × Lay)} {tv : Value} (hb2 : Below (w.heap.size + 1) (w.alloc (.cells #[tv, .int .i64 G.length, .int .i64 fr, .slice am 0 cm, .int .i64 0, .slice ac 0 cc] 110)) w2) (hown : w2.ownsRow 0 121 7 (.slice (some ⟨w.heap.size + 1, 0, none⟩) G.length G.length) G.length (thsC 0 G)) :
    Cps w (w2.setCell ⟨w.heap.size, 0, none⟩ (.slice (some ⟨w.heap.size + 1, 0, none⟩) G.length G.length)) w.heap.size (w.heap.size + 1) fr am ac cm cc G 0 G := by
  have hH : w2.heap[w.heap.size]? = some (.cells #[tv, .int .i64 G.length, .int .i64 fr, .slice am 0 cm, .int .i64 0, .slice ac 0 cc] 110 (0, 0)) := (hb2.block _ (by omega)).trans (heap_alloc_new w _)
  have hb : Below w.heap.size w w2 := (below1 w _).trans (hb2.mono (by omega))
  refine ⟨below_set hb (by simp) _, rfl, rfl, blk_set hH 0 _, owns_same hown (fun q hq => blk_far (by
    have : w.heap.size + 1 = q := by simpa [isB, Value.ownBlock] using hq
    omega) _), rfl, fun j y hy => ⟨y, hy, rfl, fun _ => rfl⟩, fun j y hj => by omega, fun i j x y _ hi => by omega⟩
set_option maxRecDepth 100000 in
set_option maxHeartbeats 2000000 in
theorem copy_at {O : Nat → Prop} {w : World} {s : Nat} {fr : Int} {G : List (Th × Lay)} (h : Rep O w s fr G) :
    Calls Try.prog 31 #[.pointer (some ⟨s, 0, none⟩)] w fun e w' => e = .returned (.pointer (some ⟨w.heap.size, 0, none⟩)) ∧ Below w.heap.size w w' ∧ ∃ D, Rep (fun k => w.heap.size ≤ k ∧ k < w'.heap.size) w' w.heap.size fr D ∧ D.map (·.1) = G.map (·.1) := by
  obtain ⟨tv, am, cm, ac, cc, hb, ht, ho⟩ := h.blk
  have hlt := h.lt
  obtain ⟨c0, c1, c2, c3, c4, c5⟩ : w.cell? ⟨s, 0, none⟩ = some tv ∧ w.cell? ⟨s, 1, none⟩ = some (.int .i64 G.length) ∧ w.cell? ⟨s, 2, none⟩ = some (.int .i64 fr) ∧ w.cell? ⟨s, 3, none⟩ = some (.slice am 0 cm) ∧ w.cell? ⟨s, 4, none⟩ = some (.int .i64 0) ∧ w.cell? ⟨s, 5, none⟩ = some (.slice ac 0 cc) := ⟨blk_cell hb 0, blk_cell hb 1, blk_cell hb 2, blk_cell hb 3, blk_cell hb 4, blk_cell hb 5⟩
  have hn : G.length ≤ 1048576 := by have := h.few; have := h.fr0; omega
  have hCT := clone_thing (ht.alloc (.cells #[tv, .int .i64 G.length, .int .i64 fr, .slice am 0 cm, .int .i64 0, .slice ac 0 cc] 110)) hn (thsC_one G 0 (Rep.slc h))
  rw [show (w.alloc (.cells #[tv, .int .i64 G.length, .int .i64 fr, .slice am 0 cm, .int .i64 0, .slice ac 0 cc] 110)).heap.size = w.heap.size + 1 by simp] at hCT
  have HCT := Lib.hid hCT
  have HRep := Lib.hid h
  have HSb := Lib.hid hb
  obtain ⟨ta, tc, et⟩ := own_slice ht
  subst et
  clear hCT h ht ho hb
  go_enter Try.func31, Try.ntmps31
  go_wp2_with fail
  refine HCT.out.mono ?_; rintro e w2 ⟨rfl, hown2, hb2⟩
  have HC0 := Lib.hid (cps_start hb2 hown2)
  have hH2 : w2.heap[w.heap.size]? = some (.cells #[.slice ta G.length tc, .int .i64 G.length, .int .i64 fr, .slice am 0 cm, .int .i64 0, .slice ac 0 cc] 110 (0, 0)) := (hb2.block _ (by omega)).trans (heap_alloc_new w _)
  have h20 : w2.cell? ⟨w.heap.size, 0, none⟩ = some (.slice ta G.length tc) := blk_cell hH2 0
  have f20 := blk_free hH2 0
  clear hown2 hb2 hH2 c0 c1 c2 c3 c4 c5
  go_wp2_with fail
  go_loopw [20] (fun v wr => ∃ k D, v = .int .i64 (k : Nat) ∧ k ≤ G.length ∧ Cps w wr w.heap.size (w.heap.size + 1) fr am ac cm cc G k D) (fun v _ => G.length - (intOf v).toNat)
  case atStart => exact ⟨0, G, rfl, Nat.zero_le _, HC0.out⟩
  case round =>
    obtain ⟨k, D, rfl, hk, hcp⟩ := hrel
    have HCP := Lib.hid hcp
    by_cases hlt2 : k < G.length
    · obtain ⟨y, hy⟩ : ∃ y, D[k]? = some y := ⟨_, List.getElem?_eq_getElem (by have := hcp.len; omega)⟩
      obtain ⟨z, hz, e1, e2⟩ := hcp.th k y hy
      have hth := ((HRep.out).below hcp.below).row k z hz
      rw [← e1, ← e2 (Nat.le_refl _)] at hth
      obtain ⟨q2, q3, q4, qf⟩ := cps_cells hcp hy
      obtain ⟨ab, cb, eb⟩ := own_slice hth.rb
      obtain ⟨ai, ci, ei⟩ := own_slice hth.ri
      obtain ⟨ap, cpp, ep⟩ := own_slice hth.rp
      have hlr : w.heap.size + 1 < wr.heap.size := owns_lt hcp.row rfl
      have h0 : wr.cell? ⟨w.heap.size, 0, none⟩ = some (.slice (some ⟨w.heap.size + 1, 0, none⟩) G.length G.length) := blk_cell hcp.blk 0
      have HCl := Lib.hid (clone_at (c := cb) (src_own hth.rb eb) hth.nb)
      have hzl : ∀ q, (isB y.2.b q ∨ isB y.2.i q ∨ isB y.2.p q) → q < w.heap.size := fun q hq => by
        have := (HRep.out.row k z hz).lt (k := q)
        rw [← e2 (Nat.le_refl _)] at this
        exact this hq
      have HSl := Lib.hid (fun w' (hb : OnlyB (w.heap.size + 1) wr w') => clone_slot (only_own hb hth.ri (fun q hq => by have := hzl q (.inr (.inl hq)); omega)) (by have := hth.ni; omega) (slots_one _))
      have HPl := Lib.hid (fun w' (hb : OnlyB (w.heap.size + 1) wr w') => clone_pair (only_own hb hth.rp (fun q hq => by have := hzl q (.inr (.inr hq)); omega)) (by have := hth.np; omega) (pairs_one _))
      rw [ei] at HSl
      rw [ep] at HPl
      rw [eb] at q2
      rw [ei] at q3
      rw [ep] at q4
      have HY := Lib.hid hy
      have HTh := Lib.hid hth
      have hkz : (k : Int) < (G.length : Int) := by omega
      clear hz e1 e2 hcp hth hy
      go_wp2_with fail
      refine HCl.out.mono ?_; rintro e wa ⟨rfl, hka, hba⟩
      have oa := ((OnlyB.refl (w.heap.size + 1) wr).step hba).set (j := k * 7 + 2) (.slice (some ⟨wr.heap.size, 0, none⟩) y.1.bytes.length y.1.bytes.length)
      have ca := World.cell?_of_block (w := wr) (w' := wa) (a := ⟨w.heap.size + 1, k * 7 + 2, none⟩) (hba.block _ hlr)
      have a2 := ca.trans q2
      have a3 := (World.cell?_of_block (w := wr) (w' := wa) (a := ⟨w.heap.size + 1, k * 7 + 3, none⟩) (hba.block _ hlr)).trans q3
      have af : ∀ q, wa.frozen? ⟨w.heap.size + 1, q, none⟩ = false := fun q => (World.frozen?_of_block (w := wr) (w' := wa) (a := ⟨w.heap.size + 1, q, none⟩) (hba.block _ hlr)).trans (qf q)
      have HSa := Lib.hid (HSl.out _ oa)
      rw [setC_size] at HSa
      have HA := Lib.hid (And.intro hka hba)
      have OA := Lib.hid oa
      have hla := hba.size
      clear hka hba oa ca
      go_wp2_with fail
      refine HSa.out.mono ?_; rintro e wb ⟨rfl, hrb, hbb⟩
      have hbb' : Below (wa.setCell ⟨w.heap.size + 1, k * 7 + 2, none⟩ (.slice (some ⟨wr.heap.size, 0, none⟩) y.1.bytes.length y.1.bytes.length)).heap.size (wa.setCell ⟨w.heap.size + 1, k * 7 + 2, none⟩ (.slice (some ⟨wr.heap.size, 0, none⟩) y.1.bytes.length y.1.bytes.length)) wb := by rw [setC_size]; exact hbb
      have ob := (OA.out.step hbb').set (j := k * 7 + 3) (.slice (some ⟨wa.heap.size, 0, none⟩) y.1.items.length y.1.items.length)
      have hBa := hbb.block (w.heap.size + 1) (by omega)
      have b3 : wb.cell? ⟨w.heap.size + 1, k * 7 + 3, none⟩ = some (.slice ai y.1.items.length ci) := by rw [World.cell?_of_block hBa, World.cell?_setCell_other _ _ _ _ (by simp)]; exact a3
      have b4 : wb.cell? ⟨w.heap.size + 1, k * 7 + 4, none⟩ = some (.slice ap y.1.pairs.length cpp) := by
        rw [World.cell?_of_block hBa, World.cell?_setCell_other _ _ _ _ (by simp)]
        exact (World.cell?_of_block (w := wr) (w' := wa) (a := ⟨w.heap.size + 1, k * 7 + 4, none⟩) (HA.out.2.block _ hlr)).trans q4
      have bf : ∀ q, wb.frozen? ⟨w.heap.size + 1, q, none⟩ = false := fun q => by rw [World.frozen?_of_block (a := ⟨w.heap.size + 1, q, none⟩) hBa, World.frozen?_setCell]; exact af q
      have HPb := Lib.hid (HPl.out _ ob)
      rw [setC_size] at HPb
      have HBb := Lib.hid (And.intro hrb hbb)
      have OB := Lib.hid ob
      have hlb : wa.heap.size ≤ wb.heap.size := by have := hbb.size; rwa [setC_size] at this
      clear hrb hbb hbb' ob hBa a2 a3 af HSa
      go_wp2_with fail
      refine HPb.out.mono ?_; rintro e wc ⟨rfl, hrc, hbc⟩
      have hBc := hbc.block (w.heap.size + 1) (by omega)
      have c4 : wc.cell? ⟨w.heap.size + 1, k * 7 + 4, none⟩ = some (.slice ap y.1.pairs.length cpp) := by rw [World.cell?_of_block hBc, World.cell?_setCell_other _ _ _ _ (by simp)]; exact b4
      have cf : ∀ q, wc.frozen? ⟨w.heap.size + 1, q, none⟩ = false := fun q => by rw [World.frozen?_of_block (a := ⟨w.heap.size + 1, q, none⟩) hBc, World.frozen?_setCell]; exact bf q
      have hra := own_of_block (size := 1) HA.out.1 HTh.out.nb (by simp)
      have HStep := Lib.hid (HCP.out.step HY.out HA.out.2 hra rfl HBb.out.2 HBb.out.1 rfl hbc hrc ⟨HTh.out.nb, HTh.out.ni, HTh.out.np, HTh.out.nm⟩)
      clear hrc hbc hBc hra b3 b4 bf HPb
      go_wp2_with fail
      go_roundw
      case rel => exact ⟨k + 1, _, by go_num, by omega, HStep.out⟩
      case measure => simp [intOf]; omega
    · have hkG : k = G.length := by omega
      subst hkG
      have hbw := hcp.below
      have hs3 := (hbw.block s hlt).trans HSb.out
      have g3 : wr.cell? ⟨s, 3, none⟩ = some (.slice am 0 cm) := blk_cell hs3 3
      have hlr : w.heap.size < wr.heap.size := (Array.getElem?_eq_some_iff.1 hcp.blk).1
      have HM := Lib.hid (clone0_mark wr am cm)
      have HX := Lib.hid (fun w => clone0_change w ac cc)
      have hneS : ¬ s = w.heap.size := by omega
      clear hcp hs3
      go_wp2_with fail
      refine HM.out.mono ?_; rintro e w5 ⟨rfl, hb5⟩
      have hH5 := (hb5.block w.heap.size hlr).trans HCP.out.blk
      have k53 : w5.cell? ⟨w.heap.size, 3, none⟩ = some (.slice am 0 cm) := blk_cell hH5 3
      have f53 := blk_free hH5 3
      have hs5 := (hb5.block s (by omega)).trans ((HCP.out.below.block s hlt).trans HSb.out)
      have g5 : w5.cell? ⟨s, 5, none⟩ = some (.slice ac 0 cc) := blk_cell hs5 5
      have HB5 := Lib.hid hb5
      clear hb5 hH5 hs5 g3
      go_wp2_with fail
      refine (HX.out _).mono ?_; rintro e w6 ⟨rfl, hb6⟩
      have hH5 : (w5.setCell ⟨w.heap.size, 3, none⟩ (.slice (some ⟨wr.heap.size, 0, none⟩) 0 0)).heap[w.heap.size]? = some (.cells #[.slice (some ⟨w.heap.size + 1, 0, none⟩) G.length G.length, .int .i64 G.length, .int .i64 fr, .slice (some ⟨wr.heap.size, 0, none⟩) 0 0, .int .i64 0, .slice ac 0 cc] 110 (0, 0)) := blk_set ((HB5.out.block w.heap.size hlr).trans HCP.out.blk) 3 _
      have hl5 : wr.heap.size ≤ w5.heap.size := HB5.out.size
      have hH6 := (hb6.block w.heap.size (by rw [setC_size]; omega)).trans hH5
      have k65 : w6.cell? ⟨w.heap.size, 5, none⟩ = some (.slice ac 0 cc) := blk_cell hH6 5
      have f65 := blk_free hH6 5
      have hl6 : w5.heap.size ≤ w6.heap.size := by have := hb6.size; rwa [setC_size] at this
      rw [setC_size]
      have hfin := HCP.out.rep (w' := w6.setCell ⟨w.heap.size, 5, none⟩ (.slice (some ⟨w5.heap.size, 0, none⟩) 0 0)) HRep.out.fr0 HRep.out.few (by rw [setC_size]; omega) (blk_set hH6 5 _) (fun q hq hn => by rw [blk_far hn, hb6.block q (by rw [setC_size]; omega), blk_far hn, HB5.out.block q hq])
      have hbel : Below w.heap.size w (w6.setCell ⟨w.heap.size, 5, none⟩ (.slice (some ⟨w5.heap.size, 0, none⟩) 0 0)) := below_set ((below_set (HCP.out.below.trans (HB5.out.mono HCP.out.below.size)) (a := ⟨w.heap.size, 3, none⟩) (by simp) (.slice (some ⟨wr.heap.size, 0, none⟩) 0 0)).trans (hb6.mono (by rw [setC_size]; omega))) (by simp) _
      have HF := Lib.hid hfin
      have HBel := Lib.hid hbel
      clear hfin hbel hH5 hH6 hb6
      go_wp2_with fail
      go_ret
      exact ⟨rfl, HBel.out, _, HF.out⟩
end Go.Proofs.Ytlflkdmbbomjeaa
