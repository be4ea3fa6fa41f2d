/-
  One of what was made, or a plain thing, by a contract: pick.
-/
import Derived.Test.YtlflkdmbbomjeaaStoPlain
namespace Go.Proofs.Ytlflkdmbbomjeaa
open Go.RowKit
open St
def zval : List Value := [.int .i64 0, .bool false, .int .i64 0, .int .i64 0, .string ⟨#[]⟩, .pointer none, .pointer none, .pointer none, .int .i64 0, .int .i64 0]
/-- so many values, all of them none -/
def zvals (n : Nat) : List Value := (List.replicate n ()).flatMap fun _ => zval
theorem zvals_at (n i f : Nat) (hi : i < n) (hf : f < 10) : (zvals n)[i * 10 + f]? = zval[f]? := by
  unfold zvals
  have : ∀ (l : List Unit) (i : Nat), i < l.length → (l.flatMap fun _ => zval)[i * 10 + f]? = zval[f]? := by
    intro l
    induction l with
    | nil => intro i hi; simp at hi
    | cons x l ih =>
      intro i hi
      cases i with
      | zero => rw [List.flatMap_cons, List.getElem?_append_left (by simp [zval]; omega)]; simp
      | succ i =>
        rw [List.flatMap_cons, List.getElem?_append_right (by simp [zval]; omega), show (i + 1) * 10 + f - zval.length = i * 10 + f by simp [zval]; omega]
        exact ih i (by simpa using hi)
  exact this _ i (by simpa using hi)
def PickP (w : World) (e : Ending) (w' : World) : Prop := (∃ (o : Ob) (k : Int) (x : Bool) (n : Int) (nm : ByteArray), e = .returned (.tuple #[o.val, .agg (valC k x n nm)]) ∧ Good o) ∧ Below w.heap.size w w'
theorem plVa_is (n : Nat) : ∃ k e m nm, plVa n = valC k e m nm := by
  unfold plVa
  repeat' split
  all_goals exact ⟨_, _, _, _, rfl⟩
set_option maxRecDepth 100000 in
set_option maxHeartbeats 1000000 in
theorem pick_at {w : World} {a av : Option Addr} {c cv : Nat} {l : List Ob} (hm : w.ownsRow 0 40 8 (.slice a l.length c) l.length (l.flatMap Ob.cells)) (hv : w.ownsRow 0 45 10 (.slice av l.length cv) l.length (zvals l.length)) (hg : ∀ o ∈ l, Good o) (hl : l.length ≤ 100) (k : Int) (hk0 : -9223372036854775808 ≤ k) (hk1 : k ≤ 9223372036854775807) :
    Calls Try.prog 11 #[.slice a l.length c, .slice av l.length cv, .int .i64 k] w (PickP w) := by
  by_cases hneg : k < 0
  · obtain ⟨K, hK⟩ : ∃ K : Nat, -(k + 1) = K := ⟨(-(k + 1)).toNat, by omega⟩
    · have hK0 : 0 ≤ K := Nat.zero_le _
      by_cases hbr : 0 < l.length ∧ 0 < K % 3
      · obtain ⟨hL, hK3⟩ := hbr
        obtain ⟨J, hJ⟩ : ∃ J : Nat, (K : Int) % (l.length : Int) = J := ⟨K % l.length, by simp⟩
        have hJL : J < l.length := by have h1 : (K : Int) % (l.length : Int) < l.length := Int.emod_lt_of_pos _ (by omega); omega
        have hJt : (K : Int).tmod (l.length : Int) = J := by rw [Int.tmod_eq_emod_of_nonneg (by omega)]; exact hJ
        have hd3 : decide ((0 : Int) < (K : Int) % 3) = true := decide_eq_true (by omega)
        have hdL : decide ((0 : Int) < (l.length : Int)) = true := decide_eq_true (by omega)
        obtain ⟨x, hx⟩ : ∃ x, l[J]? = some x := ⟨_, List.getElem?_eq_getElem hJL⟩
        have hgx := hg x (List.mem_of_getElem? hx)
        obtain ⟨g, rfl⟩ : ∃ g, a = some ⟨g, 0, none⟩ := by
          rcases hm.2 with ⟨e, hn⟩ | ⟨g, cap, cur, e, _⟩
          · omega
          · cases e; exact ⟨g, rfl⟩
        obtain ⟨q, rfl⟩ : ∃ q, av = some ⟨q, 0, none⟩ := by
          rcases hv.2 with ⟨e, hn⟩ | ⟨g, cap, cur, e, _⟩
          · omega
          · cases e; exact ⟨g, rfl⟩
        have hglt : g < w.heap.size := owns_lt hm rfl
        have hqlt : q < w.heap.size := owns_lt hv rfl
        have hc : ∀ f, f < 8 → w.cell? ⟨g, J * 8 + f, none⟩ = x.cells[f]? := fun f hf => by rw [hm.cellAt (J * 8 + f) (by omega)]; exact obs_at l J f x hx hf
        have hz : ∀ f, f < 10 → w.cell? ⟨q, J * 10 + f, none⟩ = zval[f]? := fun f hf => by rw [hv.cellAt (J * 10 + f) (by omega)]; exact zvals_at l.length J f hJL hf
        have x0 : w.cell? ⟨g, J * 8, none⟩ = some (.int .i64 x.kind) := hc 0 (by omega)
        have x1 : w.cell? ⟨g, J * 8 + 1, none⟩ = some (.bool x.exec) := hc 1 (by omega)
        have x2 : w.cell? ⟨g, J * 8 + 2, none⟩ = some (.int .i64 x.acc) := hc 2 (by omega)
        have x3 : w.cell? ⟨g, J * 8 + 3, none⟩ = some (.int .i64 x.n) := hc 3 (by omega)
        have x4 : w.cell? ⟨g, J * 8 + 4, none⟩ = some (.string x.name) := hc 4 (by omega)
        have x5 : w.cell? ⟨g, J * 8 + 5, none⟩ = some (.int .i64 x.ref) := hc 5 (by omega)
        have x6 : w.cell? ⟨g, J * 8 + 6, none⟩ = some (.int .i64 x.frm) := hc 6 (by omega)
        have x7 : w.cell? ⟨g, J * 8 + 7, none⟩ = some (.int .i64 x.len) := hc 7 (by omega)
        have z0 : w.cell? ⟨q, J * 10, none⟩ = some (.int .i64 0) := hz 0 (by omega)
        have z1 : w.cell? ⟨q, J * 10 + 1, none⟩ = some (.bool false) := hz 1 (by omega)
        have z2 : w.cell? ⟨q, J * 10 + 2, none⟩ = some (.int .i64 0) := hz 2 (by omega)
        have z3 : w.cell? ⟨q, J * 10 + 3, none⟩ = some (.int .i64 0) := hz 3 (by omega)
        have z4 : w.cell? ⟨q, J * 10 + 4, none⟩ = some (.string ⟨#[]⟩) := hz 4 (by omega)
        have z5 : w.cell? ⟨q, J * 10 + 5, none⟩ = some (.pointer none) := hz 5 (by omega)
        have z6 : w.cell? ⟨q, J * 10 + 6, none⟩ = some (.pointer none) := hz 6 (by omega)
        have z7 : w.cell? ⟨q, J * 10 + 7, none⟩ = some (.pointer none) := hz 7 (by omega)
        have z8 : w.cell? ⟨q, J * 10 + 8, none⟩ = some (.int .i64 0) := hz 8 (by omega)
        have z9 : w.cell? ⟨q, J * 10 + 9, none⟩ = some (.int .i64 0) := hz 9 (by omega)
        have hJi : (J : Int) < (l.length : Int) := by omega
        have HGx := Lib.hid hgx
        have hLi : (0 : Int) < (l.length : Int) := by omega
        clear hm hv hg hx hc hz hgx
        go_enter Try.func11, Try.ntmps11
        go_wp2_with fail
        go_region
        all_goals go_wp2_with fail
        all_goals exact bodyPost_ret (results_ov Try.results11 _ _ w.heap.size (w.heap.size + 1) rfl rfl ((heap_alloc_old _ _ (by simp)).trans (heap_alloc_new w _)) (alloc_at (by simp))) rfl ⟨⟨x, 0, false, 0, ⟨#[]⟩, rfl, HGx.out⟩, below_draw (below2 w _ _) 1⟩
      · obtain ⟨J, hJ⟩ : ∃ J : Nat, (K : Int) % 100 = J := ⟨K % 100, by simp⟩
        have hJ1 : J < 100 := by omega
        have HP := Lib.hid (plain_at J hJ1 ((w.alloc (.cells zeroOb 40)).alloc (.cells (valC 0 false 0 ⟨#[]⟩) 45)))
        unfold zeroOb valC at HP
        have HG := Lib.hid (plOb_good J hJ1)
        have hno : ¬ (0 < l.length ∧ 0 < K % 3) := hbr
        obtain ⟨yk, ye, yn, ym, hy⟩ := plVa_is J
        rw [hy] at HP
        generalize plOb J = x at *
        unfold valC Ob.val at HP
        have HX := Lib.hid hno
        clear hm hv hg hbr hy hno
        by_cases hL : 0 < l.length
        · have hd3 : decide ((0 : Int) < (K : Int) % 3) = false := decide_eq_false (by have := HX.out; omega)
          have hLi : (0 : Int) < (l.length : Int) := by omega
          go_enter Try.func11, Try.ntmps11
          go_wp2_with fail
          refine HP.out.mono ?_; rintro e w2 ⟨rfl, hb⟩
          obtain ⟨hq1, hq2⟩ := two_res hb
          obtain ⟨d0, d1, d2, d3, d4, d5, d6, d7⟩ := cellsOb hq1
          obtain ⟨f0, f1, f2, f3, f4, f5, f6, f7, f8, f9⟩ := put10b hq2
          have g1 := blk_free hq1
          have g2 := blk_free hq2
          have hp := put8 hq1 (.int .i64 x.kind) (.bool x.exec) (.int .i64 x.acc) (.int .i64 x.n) (.string x.name) (.int .i64 x.ref) (.int .i64 x.frm) (.int .i64 x.len)
          have hq3 := (hp.far (w.heap.size + 1) (by omega)).trans hq2
          have hq := put10 hq3 (.int .i64 yk) (.bool ye) (.int .i64 0) (.int .i64 yn) (.string ym) (.pointer none) (.pointer none) (.pointer none) (.int .i64 0) (.int .i64 0)
          have HP8 := Lib.hid hp
          have HQ := Lib.hid hq
          have HB := Lib.hid (bthen (below2 w _ _) hb)
          clear hq1 hq2 hp hq3 hq hb
          go_wp2_with fail
          exact bodyPost_ret (results_ov Try.results11 _ _ w.heap.size (w.heap.size + 1) rfl rfl ((HQ.out.far w.heap.size (by omega)).trans HP8.out.blk) HQ.out.blk) rfl ⟨⟨x, yk, ye, yn, ym, rfl, HG.out⟩, two_end HB.out HP8.out HQ.out⟩
        · have hLi : ¬ (0 : Int) < (l.length : Int) := by omega
          go_enter Try.func11, Try.ntmps11
          go_wp2_with fail
          refine HP.out.mono ?_; rintro e w2 ⟨rfl, hb⟩
          obtain ⟨hq1, hq2⟩ := two_res hb
          obtain ⟨d0, d1, d2, d3, d4, d5, d6, d7⟩ := cellsOb hq1
          obtain ⟨f0, f1, f2, f3, f4, f5, f6, f7, f8, f9⟩ := put10b hq2
          have g1 := blk_free hq1
          have g2 := blk_free hq2
          have hp := put8 hq1 (.int .i64 x.kind) (.bool x.exec) (.int .i64 x.acc) (.int .i64 x.n) (.string x.name) (.int .i64 x.ref) (.int .i64 x.frm) (.int .i64 x.len)
          have hq3 := (hp.far (w.heap.size + 1) (by omega)).trans hq2
          have hq := put10 hq3 (.int .i64 yk) (.bool ye) (.int .i64 0) (.int .i64 yn) (.string ym) (.pointer none) (.pointer none) (.pointer none) (.int .i64 0) (.int .i64 0)
          have HP8 := Lib.hid hp
          have HQ := Lib.hid hq
          have HB := Lib.hid (bthen (below2 w _ _) hb)
          clear hq1 hq2 hp hq3 hq hb
          go_wp2_with fail
          exact bodyPost_ret (results_ov Try.results11 _ _ w.heap.size (w.heap.size + 1) rfl rfl ((HQ.out.far w.heap.size (by omega)).trans HP8.out.blk) HQ.out.blk) rfl ⟨⟨x, yk, ye, yn, ym, rfl, HG.out⟩, two_end HB.out HP8.out HQ.out⟩
  · obtain ⟨K, rfl⟩ : ∃ K : Nat, k = K := ⟨k.toNat, by omega⟩
    · have hK0 : 0 ≤ K := Nat.zero_le _
      by_cases hbr : 0 < l.length ∧ 0 < K % 3
      · obtain ⟨hL, hK3⟩ := hbr
        obtain ⟨J, hJ⟩ : ∃ J : Nat, (K : Int) % (l.length : Int) = J := ⟨K % l.length, by simp⟩
        have hJL : J < l.length := by have h1 : (K : Int) % (l.length : Int) < l.length := Int.emod_lt_of_pos _ (by omega); omega
        have hJt : (K : Int).tmod (l.length : Int) = J := by rw [Int.tmod_eq_emod_of_nonneg (by omega)]; exact hJ
        have hd3 : decide ((0 : Int) < (K : Int) % 3) = true := decide_eq_true (by omega)
        have hdL : decide ((0 : Int) < (l.length : Int)) = true := decide_eq_true (by omega)
        obtain ⟨x, hx⟩ : ∃ x, l[J]? = some x := ⟨_, List.getElem?_eq_getElem hJL⟩
        have hgx := hg x (List.mem_of_getElem? hx)
        obtain ⟨g, rfl⟩ : ∃ g, a = some ⟨g, 0, none⟩ := by
          rcases hm.2 with ⟨e, hn⟩ | ⟨g, cap, cur, e, _⟩
          · omega
          · cases e; exact ⟨g, rfl⟩
        obtain ⟨q, rfl⟩ : ∃ q, av = some ⟨q, 0, none⟩ := by
          rcases hv.2 with ⟨e, hn⟩ | ⟨g, cap, cur, e, _⟩
          · omega
          · cases e; exact ⟨g, rfl⟩
        have hglt : g < w.heap.size := owns_lt hm rfl
        have hqlt : q < w.heap.size := owns_lt hv rfl
        have hc : ∀ f, f < 8 → w.cell? ⟨g, J * 8 + f, none⟩ = x.cells[f]? := fun f hf => by rw [hm.cellAt (J * 8 + f) (by omega)]; exact obs_at l J f x hx hf
        have hz : ∀ f, f < 10 → w.cell? ⟨q, J * 10 + f, none⟩ = zval[f]? := fun f hf => by rw [hv.cellAt (J * 10 + f) (by omega)]; exact zvals_at l.length J f hJL hf
        have x0 : w.cell? ⟨g, J * 8, none⟩ = some (.int .i64 x.kind) := hc 0 (by omega)
        have x1 : w.cell? ⟨g, J * 8 + 1, none⟩ = some (.bool x.exec) := hc 1 (by omega)
        have x2 : w.cell? ⟨g, J * 8 + 2, none⟩ = some (.int .i64 x.acc) := hc 2 (by omega)
        have x3 : w.cell? ⟨g, J * 8 + 3, none⟩ = some (.int .i64 x.n) := hc 3 (by omega)
        have x4 : w.cell? ⟨g, J * 8 + 4, none⟩ = some (.string x.name) := hc 4 (by omega)
        have x5 : w.cell? ⟨g, J * 8 + 5, none⟩ = some (.int .i64 x.ref) := hc 5 (by omega)
        have x6 : w.cell? ⟨g, J * 8 + 6, none⟩ = some (.int .i64 x.frm) := hc 6 (by omega)
        have x7 : w.cell? ⟨g, J * 8 + 7, none⟩ = some (.int .i64 x.len) := hc 7 (by omega)
        have z0 : w.cell? ⟨q, J * 10, none⟩ = some (.int .i64 0) := hz 0 (by omega)
        have z1 : w.cell? ⟨q, J * 10 + 1, none⟩ = some (.bool false) := hz 1 (by omega)
        have z2 : w.cell? ⟨q, J * 10 + 2, none⟩ = some (.int .i64 0) := hz 2 (by omega)
        have z3 : w.cell? ⟨q, J * 10 + 3, none⟩ = some (.int .i64 0) := hz 3 (by omega)
        have z4 : w.cell? ⟨q, J * 10 + 4, none⟩ = some (.string ⟨#[]⟩) := hz 4 (by omega)
        have z5 : w.cell? ⟨q, J * 10 + 5, none⟩ = some (.pointer none) := hz 5 (by omega)
        have z6 : w.cell? ⟨q, J * 10 + 6, none⟩ = some (.pointer none) := hz 6 (by omega)
        have z7 : w.cell? ⟨q, J * 10 + 7, none⟩ = some (.pointer none) := hz 7 (by omega)
        have z8 : w.cell? ⟨q, J * 10 + 8, none⟩ = some (.int .i64 0) := hz 8 (by omega)
        have z9 : w.cell? ⟨q, J * 10 + 9, none⟩ = some (.int .i64 0) := hz 9 (by omega)
        have hJi : (J : Int) < (l.length : Int) := by omega
        have HGx := Lib.hid hgx
        have hLi : (0 : Int) < (l.length : Int) := by omega
        clear hm hv hg hx hc hz hgx
        go_enter Try.func11, Try.ntmps11
        go_wp2_with fail
        go_region
        all_goals go_wp2_with fail
        all_goals exact bodyPost_ret (results_ov Try.results11 _ _ w.heap.size (w.heap.size + 1) rfl rfl ((heap_alloc_old _ _ (by simp)).trans (heap_alloc_new w _)) (alloc_at (by simp))) rfl ⟨⟨x, 0, false, 0, ⟨#[]⟩, rfl, HGx.out⟩, below_draw (below2 w _ _) 1⟩
      · obtain ⟨J, hJ⟩ : ∃ J : Nat, (K : Int) % 100 = J := ⟨K % 100, by simp⟩
        have hJ1 : J < 100 := by omega
        have HP := Lib.hid (plain_at J hJ1 ((w.alloc (.cells zeroOb 40)).alloc (.cells (valC 0 false 0 ⟨#[]⟩) 45)))
        unfold zeroOb valC at HP
        have HG := Lib.hid (plOb_good J hJ1)
        have hno : ¬ (0 < l.length ∧ 0 < K % 3) := hbr
        obtain ⟨yk, ye, yn, ym, hy⟩ := plVa_is J
        rw [hy] at HP
        generalize plOb J = x at *
        unfold valC Ob.val at HP
        have HX := Lib.hid hno
        clear hm hv hg hbr hy hno
        by_cases hL : 0 < l.length
        · have hd3 : decide ((0 : Int) < (K : Int) % 3) = false := decide_eq_false (by have := HX.out; omega)
          have hLi : (0 : Int) < (l.length : Int) := by omega
          go_enter Try.func11, Try.ntmps11
          go_wp2_with fail
          refine HP.out.mono ?_; rintro e w2 ⟨rfl, hb⟩
          obtain ⟨hq1, hq2⟩ := two_res hb
          obtain ⟨d0, d1, d2, d3, d4, d5, d6, d7⟩ := cellsOb hq1
          obtain ⟨f0, f1, f2, f3, f4, f5, f6, f7, f8, f9⟩ := put10b hq2
          have g1 := blk_free hq1
          have g2 := blk_free hq2
          have hp := put8 hq1 (.int .i64 x.kind) (.bool x.exec) (.int .i64 x.acc) (.int .i64 x.n) (.string x.name) (.int .i64 x.ref) (.int .i64 x.frm) (.int .i64 x.len)
          have hq3 := (hp.far (w.heap.size + 1) (by omega)).trans hq2
          have hq := put10 hq3 (.int .i64 yk) (.bool ye) (.int .i64 0) (.int .i64 yn) (.string ym) (.pointer none) (.pointer none) (.pointer none) (.int .i64 0) (.int .i64 0)
          have HP8 := Lib.hid hp
          have HQ := Lib.hid hq
          have HB := Lib.hid (bthen (below2 w _ _) hb)
          clear hq1 hq2 hp hq3 hq hb
          go_wp2_with fail
          exact bodyPost_ret (results_ov Try.results11 _ _ w.heap.size (w.heap.size + 1) rfl rfl ((HQ.out.far w.heap.size (by omega)).trans HP8.out.blk) HQ.out.blk) rfl ⟨⟨x, yk, ye, yn, ym, rfl, HG.out⟩, two_end HB.out HP8.out HQ.out⟩
        · have hLi : ¬ (0 : Int) < (l.length : Int) := by omega
          go_enter Try.func11, Try.ntmps11
          go_wp2_with fail
          refine HP.out.mono ?_; rintro e w2 ⟨rfl, hb⟩
          obtain ⟨hq1, hq2⟩ := two_res hb
          obtain ⟨d0, d1, d2, d3, d4, d5, d6, d7⟩ := cellsOb hq1
          obtain ⟨f0, f1, f2, f3, f4, f5, f6, f7, f8, f9⟩ := put10b hq2
          have g1 := blk_free hq1
          have g2 := blk_free hq2
          have hp := put8 hq1 (.int .i64 x.kind) (.bool x.exec) (.int .i64 x.acc) (.int .i64 x.n) (.string x.name) (.int .i64 x.ref) (.int .i64 x.frm) (.int .i64 x.len)
          have hq3 := (hp.far (w.heap.size + 1) (by omega)).trans hq2
          have hq := put10 hq3 (.int .i64 yk) (.bool ye) (.int .i64 0) (.int .i64 yn) (.string ym) (.pointer none) (.pointer none) (.pointer none) (.int .i64 0) (.int .i64 0)
          have HP8 := Lib.hid hp
          have HQ := Lib.hid hq
          have HB := Lib.hid (bthen (below2 w _ _) hb)
          clear hq1 hq2 hp hq3 hq hb
          go_wp2_with fail
          exact bodyPost_ret (results_ov Try.results11 _ _ w.heap.size (w.heap.size + 1) rfl rfl ((HQ.out.far w.heap.size (by omega)).trans HP8.out.blk) HQ.out.blk) rfl ⟨⟨x, yk, ye, yn, ym, rfl, HG.out⟩, two_end HB.out HP8.out HQ.out⟩
end Go.Proofs.Ytlflkdmbbomjeaa
