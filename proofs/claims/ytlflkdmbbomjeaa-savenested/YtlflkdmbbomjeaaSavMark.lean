/-
  The marks of a store: which one has a number, by contracts: markAt, Elder of a null; a new one: Mark.
-/
import Derived.Test.YtlflkdmbbomjeaaStoNew
namespace Go.Proofs.Ytlflkdmbbomjeaa
open Go.RowKit
open St
/-- a mark, plainly -/
structure Mrk where
  num : Nat
  made : Nat
  free : Int
  chg : Nat
def Mrk.cells (m : Mrk) : List Value := [.int .i64 m.num, .int .i64 m.made, .int .i64 m.free, .int .i64 m.chg]
/-- what is read of a store's marks -/
structure Mv (w : World) (s : Nat) (mv : Value) (M : List Mrk) : Prop where
  c3 : w.cell? ⟨s, 3, none⟩ = some mv
  few : M.length ≤ 1048576
  row : (mv = .slice none 0 0 ∧ M = []) ∨ ∃ g cap, mv = .slice (some ⟨g, 0, none⟩) M.length cap ∧ g < w.heap.size ∧ ∀ (i f : Nat) (x : Mrk), M[i]? = some x → f < 4 → w.cell? ⟨g, i * 4 + f, none⟩ = x.cells[f]?
theorem Mv.lt {w : World} {s : Nat} {mv : Value} {M : List Mrk} (h : Mv w s mv M) : s < w.heap.size := World.block_lt_of_cell? w _ h.c3
theorem Mv.below {w w' : World} {s : Nat} {mv : Value} {M : List Mrk} (h : Mv w s mv M) (hb : Below w.heap.size w w') : Mv w' s mv M := by
  refine ⟨(hb.cell (by exact h.lt)).trans h.c3, h.few, ?_⟩
  rcases h.row with h0 | ⟨g, cap, rfl, hg, hc⟩
  · exact .inl h0
  · exact .inr ⟨g, cap, rfl, Nat.lt_of_lt_of_le hg hb.size, fun i f x hx hf => (hb.cell (by exact hg)).trans (hc i f x hx hf)⟩
/-- the numbers rise -/
def Rise (M : List Mrk) : Prop := ∀ (i j : Nat) (x y : Mrk), i < j → M[i]? = some x → M[j]? = some y → x.num < y.num
/-- how many have a number below n: the first ones -/
def lowM (M : List Mrk) (n : Int) : Nat := (M.takeWhile fun x => decide ((x.num : Int) < n)).length
theorem lowM_le (M : List Mrk) (n : Int) : lowM M n ≤ M.length := by
  unfold lowM
  have := (List.takeWhile_prefix (l := M) (p := fun x => decide ((x.num : Int) < n))).length_le
  exact this
theorem lowM_below {M : List Mrk} {n : Int} {i : Nat} {x : Mrk} (hi : i < lowM M n) (hx : M[i]? = some x) : (x.num : Int) < n := by
  unfold lowM at hi
  have h1 : (M.takeWhile fun x => decide ((x.num : Int) < n))[i]? = some x := by
    have hp := List.takeWhile_prefix (l := M) (p := fun x => decide ((x.num : Int) < n))
    obtain ⟨t, ht⟩ := hp
    rw [← ht, List.getElem?_append_left hi] at hx
    exact hx
  have h2 := List.mem_of_getElem? h1
  have h3 := List.all_takeWhile (l := M) (p := fun x => decide ((x.num : Int) < n))
  rw [List.all_eq_true] at h3
  exact of_decide_eq_true (h3 x h2)
theorem takeWhile_stop {α : Type} (p : α → Bool) : ∀ (l : List α) (x : α), l[(l.takeWhile p).length]? = some x → p x = false
  | [], x, h => by simp at h
  | a :: l, x, h => by
    by_cases ha : p a = true
    · rw [List.takeWhile_cons_of_pos ha] at h
      exact takeWhile_stop p l x (by simpa using h)
    · rw [List.takeWhile_cons_of_neg ha] at h
      simp at h
      subst h
      simpa using ha
theorem lowM_above {M : List Mrk} {n : Int} (hr : Rise M) {i : Nat} {x : Mrk} (hi : lowM M n ≤ i) (hx : M[i]? = some x) : n ≤ (x.num : Int) := by
  have hlt : lowM M n < M.length := Nat.lt_of_le_of_lt hi (List.getElem?_eq_some_iff.1 hx).1
  have hy := List.getElem?_eq_getElem hlt
  have h0 := takeWhile_stop _ M _ hy
  have h1 : n ≤ (M[lowM M n].num : Int) := by simpa using h0
  rcases Nat.lt_or_eq_of_le hi with h | h
  · have := hr _ _ _ _ h hy hx; omega
  · rw [← h, hy] at hx; cases hx; exact h1
/-- the search's test -/
theorem markAt1_at {w : World} {b1 b2 s g i n cap m : Nat} {r : Int} (hi : i < n) (h1 : w.cell? ⟨b1, 0, none⟩ = some (.pointer (some ⟨s, 0, none⟩))) (h2 : w.cell? ⟨b2, 0, none⟩ = some (.int .i64 r))
    (h3 : w.cell? ⟨s, 3, none⟩ = some (.slice (some ⟨g, 0, none⟩) n cap)) (h4 : w.cell? ⟨g, i * 4, none⟩ = some (.int .i64 m)) :
    Calls Try.prog 126 #[.int .i64 i, .pointer (some ⟨b1, 0, none⟩), .pointer (some ⟨b2, 0, none⟩)] w fun e w' => e = .returned (.bool (decide (r ≤ (m : Int)))) ∧ ∃ q, w' = w.drewN q := by
  have hiz : (i : Int) < (n : Int) := by omega
  go_enter Try.func126, Try.ntmps126
  go_wp2
  go_quiet (fail)
  go_wp2
  go_ret
  exact ⟨by simp, _, rfl⟩
structure Sea2 (w : World) (b1 b2 s : Nat) (r : Int) (v : Value) (M : List Mrk) : Prop where
  c1 : w.cell? ⟨b1, 0, none⟩ = some (.pointer (some ⟨s, 0, none⟩))
  c2 : w.cell? ⟨b2, 0, none⟩ = some (.int .i64 r)
  c3 : w.cell? ⟨s, 3, none⟩ = some v
  row : M = [] ∨ ∃ g cap, v = .slice (some ⟨g, 0, none⟩) M.length cap ∧ ∀ (i : Nat) (x : Mrk), M[i]? = some x → w.cell? ⟨g, i * 4, none⟩ = some (.int .i64 x.num)
theorem Sea2.draws {w : World} {b1 b2 s : Nat} {r : Int} {v : Value} {M : List Mrk} (h : Sea2 w b1 b2 s r v M) (q : Nat) : Sea2 (w.drewN q) b1 b2 s r v M := ⟨h.c1, h.c2, h.c3, h.row⟩
set_option maxHeartbeats 1000000 in
theorem search2_at {w : World} {b1 b2 s : Nat} {r : Int} {v : Value} {M : List Mrk} (hn : M.length ≤ 1048576) (hR : Rise M) (h : Sea2 w b1 b2 s r v M) :
    Calls Try.prog 125 #[.int .i64 M.length, .func (.func 126) #[] #[.pointer (some ⟨b1, 0, none⟩), .pointer (some ⟨b2, 0, none⟩)]] w fun e w' => e = .returned (.int .i64 (lowM M r)) ∧ ∃ q, w' = w.drewN q := by
  have HS := Lib.hid h
  have HRi := Lib.hid hR
  have hle := lowM_le M r
  generalize hK : lowM M r = K at *
  have HK := Lib.hid hK
  generalize hN : M.length = N at *
  have HN := Lib.hid hN
  clear h hR hK hN
  go_enter Try.func125, Try.ntmps125
  go_wp2_with fail
  go_loopw [5, 6] (fun s5 s6 wr => ∃ lo hi q : Nat, s5 = .int .i64 lo ∧ s6 = .int .i64 hi ∧ lo ≤ K ∧ K ≤ hi ∧ hi ≤ N ∧ wr = w.drewN q) (fun s5 s6 _ => (intOf s6).toNat - (intOf s5).toNat)
  case atStart => exact ⟨0, N, 0, rfl, rfl, Nat.zero_le _, hle, Nat.le_refl _, rfl⟩
  case round =>
    obtain ⟨lo, hi, q, rfl, rfl, hlk, hkh, hin, rfl⟩ := hrel
    by_cases hlt : lo < hi
    · have hS := HS.out.draws q
      obtain ⟨c1, c2, c3, hrow⟩ := hS
      have hmid : (lo + hi) / 2 < M.length := by have := HN.out; omega
      rcases hrow with h0 | ⟨g, cap, rfl, hg⟩
      · subst h0; simp at hmid
      · have hx := List.getElem?_eq_getElem hmid
        have hc := markAt1_at (i := (lo + hi) / 2) hmid c1 c2 c3 (hg _ _ hx)
        rw [show (((lo + hi) / 2 : Nat) : Int) = ((lo : Int) + (hi : Int)) / 2 by omega] at hc
        by_cases hp : r ≤ (M[(lo + hi) / 2].num : Int)
        · rw [decide_eq_true hp] at hc
          have hKm : K ≤ (lo + hi) / 2 := by
            rcases Nat.lt_or_ge ((lo + hi) / 2) K with h | h
            · have := lowM_below (by rw [HK.out]; exact h) hx; omega
            · exact h
          have HC := Lib.hid hc
          clear hc c1 c2 c3 hg hp hx hmid
          go_wp2_with fail
          refine HC.out.mono ?_; rintro e w' ⟨rfl, nq, rfl⟩
          go_wp2_with fail
          go_roundw
          case rel => exact ⟨lo, (lo + hi) / 2, q + nq, rfl, by go_num, hlk, hKm, by omega, rfl⟩
          case measure => simp [intOf]; omega
        · rw [decide_eq_false hp] at hc
          have hKm : (lo + hi) / 2 < K := by
            rcases Nat.lt_or_ge ((lo + hi) / 2) K with h | h
            · exact h
            · have := lowM_above HRi.out (by rw [HK.out]; exact h) hx; omega
          have HC := Lib.hid hc
          clear hc c1 c2 c3 hg hp hx hmid
          go_wp2_with fail
          refine HC.out.mono ?_; rintro e w' ⟨rfl, nq, rfl⟩
          go_wp2_with fail
          go_roundw
          case rel => exact ⟨(lo + hi) / 2 + 1, hi, q + nq, by go_num, rfl, by omega, hkh, by omega, rfl⟩
          case measure => simp [intOf]; omega
    · have hKl : K = lo := by omega
      subst hKl
      go_wp2_with fail
      go_ret
      exact ⟨by go_num, _, rfl⟩
theorem Mv.sea {w : World} {s : Nat} {mv : Value} {M : List Mrk} (h : Mv w s mv M) (r : Int) : Sea2 ((w.alloc (.cells #[.pointer (some ⟨s, 0, none⟩)] 23)).alloc (.cells #[.int .i64 r] 3)) w.heap.size (w.heap.size + 1) s r mv M := by
  have hb := h.below (below2 w (.cells #[.pointer (some ⟨s, 0, none⟩)] 23) (.cells #[.int .i64 r] 3))
  refine ⟨by simp [go_sem], by simp [go_sem], hb.c3, ?_⟩
  rcases hb.row with ⟨_, rfl⟩ | ⟨g, cap, e, _, hc⟩
  · exact .inl rfl
  · exact .inr ⟨g, cap, e, fun i x hx => (hc i 0 x hx (by omega)).trans rfl⟩
/-- which mark has that number -/
def mkI (M : List Mrk) (n : Int) : Option Nat := match M[lowM M n]? with
  | some x => if (x.num : Int) = n then some (lowM M n) else none
  | none => none
theorem mkI_some {M : List Mrk} {n : Int} {i : Nat} (h : mkI M n = some i) : ∃ x, M[i]? = some x ∧ (x.num : Int) = n := by
  unfold mkI at h
  split at h
  · rename_i x hx
    split at h
    · rename_i e; cases h; exact ⟨x, hx, e⟩
    · cases h
  · cases h
theorem mkI_of {M : List Mrk} (hR : Rise M) {i : Nat} {x : Mrk} (hx : M[i]? = some x) : mkI M x.num = some i := by
  have h1 : lowM M x.num = i := by
    rcases Nat.lt_trichotomy (lowM M x.num) i with h | h | h
    · have hlt : lowM M x.num < M.length := Nat.lt_trans h (List.getElem?_eq_some_iff.1 hx).1
      have hy := List.getElem?_eq_getElem hlt
      have a := lowM_above hR (Nat.le_refl _) hy
      have b := hR _ _ _ _ h hy hx
      omega
    · exact h
    · have := lowM_below h hx; omega
  unfold mkI
  rw [h1, hx]
  simp
theorem mkI_none {M : List Mrk} {n : Int} (h : ∀ x ∈ M, (x.num : Int) ≠ n) : mkI M n = none := by
  cases hm : mkI M n with
  | none => rfl
  | some i =>
    obtain ⟨x, hx, e⟩ := mkI_some hm
    exact absurd e (h x (List.mem_of_getElem? hx))
def mkV (x : Option Nat) : Value := match x with
  | some i => .tuple #[.int .i64 i, .bool true]
  | none => .tuple #[.int .i64 0, .bool false]
set_option maxHeartbeats 1000000 in
theorem markAt_at {w : World} {s : Nat} {mv : Value} {M : List Mrk} (h : Mv w s mv M) (hR : Rise M) (r : Int) :
    Calls Try.prog 115 #[.pointer (some ⟨s, 0, none⟩), .int .i64 r] w fun e w' => e = .returned (mkV (mkI M r)) ∧ Below w.heap.size w w' := by
  have hS := search2_at h.few hR (h.sea r)
  have hle := lowM_le M r
  have hmk : mkI M r = match M[lowM M r]? with
    | some x => if (x.num : Int) = r then some (lowM M r) else none
    | none => none := rfl
  generalize hK : lowM M r = K at *
  have hb := h.below (below2 w (.cells #[.pointer (some ⟨s, 0, none⟩)] 23) (.cells #[.int .i64 r] 3))
  have hlt := h.lt
  have hmf : ∀ (fn : Fn) (first cap : Array Value) (w : World), (Instr.makeFunc fn first cap).run Try.prog w = .ok (.func fn first cap) w := fun _ _ _ _ => rfl
  have hfew := h.few
  have hc3 := h.c3
  clear h hR hK
  have HS := Lib.hid hS
  clear hS
  rcases hb.row with ⟨rfl, rfl⟩ | ⟨g, cap, rfl, hg, hc⟩
  · have hk0 : K = 0 := by simpa using hle
    subst hk0
    simp only [List.getElem?_nil] at hmk
    rw [hmk]
    simp only [List.length_nil, mkV] at *
    clear hb hmk
    go_enter Try.func115, Try.ntmps115
    go_wp2_with fail
    refine HS.out.mono ?_; rintro e w' ⟨rfl, q, rfl⟩
    go_wp2_with fail
    go_quiet (fail)
    go_wp2_with fail
    exact bodyPost_ret (v := .tuple #[.int .i64 0, .bool false]) (by simp [results, Try.results115, go_sem]) rfl ⟨rfl, below_draw (below_draw (below2 _ _ _) q) _⟩
  · have hb3 := hb.c3
    cases hx : M[K]? with
    | none =>
      rw [hx] at hmk
      simp only at hmk
      rw [hmk]
      have hKM : K = M.length := by have := List.getElem?_eq_none_iff.1 hx; omega
      subst hKM
      have hke : ((M.length : Int) == (M.length : Int)) = true := by simp
      simp only [mkV]
      clear hb hmk hc hx
      go_enter Try.func115, Try.ntmps115
      go_wp2_with fail
      refine HS.out.mono ?_; rintro e w' ⟨rfl, q, rfl⟩
      go_wp2_with fail
      go_quiet (fail)
      go_wp2_with fail
      exact bodyPost_ret (v := .tuple #[.int .i64 0, .bool false]) (by simp [results, Try.results115, go_sem]) rfl ⟨rfl, below_draw (below_draw (below2 _ _ _) q) _⟩
    | some x =>
      rw [hx] at hmk
      simp only at hmk
      have hKM : K < M.length := (List.getElem?_eq_some_iff.1 hx).1
      have hcx := hc K 0 x hx (by omega)
      have hcx2 : ∀ q, (((w.alloc (.cells #[.pointer (some ⟨s, 0, none⟩)] 23)).alloc (.cells #[.int .i64 r] 3)).drewN q).cell? ⟨g, K * 4, none⟩ = some (.int .i64 x.num) := fun q => hcx
      by_cases hxr : (x.num : Int) = r
      · rw [if_pos hxr] at hmk
        rw [hmk]
        simp only [mkV]
        have hne : ((x.num : Int) != r) = false := by simp [hxr]
        have hKe : ((K : Int) == (M.length : Int)) = false := by simp; omega
        clear hb hmk hc hx hcx hxr
        go_enter Try.func115, Try.ntmps115
        go_wp2_with fail
        refine HS.out.mono ?_; rintro e w' ⟨rfl, q, rfl⟩
        have hcx3 := hcx2 q
        go_wp2_with fail
        go_quiet (fail)
        go_wp2_with fail
        exact bodyPost_ret (v := .tuple #[.int .i64 K, .bool true]) (by simp [results, Try.results115, go_sem]) rfl ⟨rfl, below_draw (below_draw (below2 _ _ _) q) _⟩
      · rw [if_neg hxr] at hmk
        rw [hmk]
        simp only [mkV]
        have hne : ((x.num : Int) != r) = true := by simp [hxr]
        have hKe : ((K : Int) == (M.length : Int)) = false := by simp; omega
        clear hb hmk hc hx hcx hxr
        go_enter Try.func115, Try.ntmps115
        go_wp2_with fail
        refine HS.out.mono ?_; rintro e w' ⟨rfl, q, rfl⟩
        have hcx3 := hcx2 q
        go_wp2_with fail
        go_quiet (fail)
        go_wp2_with fail
        exact bodyPost_ret (v := .tuple #[.int .i64 0, .bool false]) (by simp [results, Try.results115, go_sem]) rfl ⟨rfl, below_draw (below_draw (below2 _ _ _) q) _⟩
/-- a null may be asked about wherever there is a store -/
theorem valid_nul (w : World) (s : Nat) : Calls Try.prog 38 #[.pointer (some ⟨s, 0, none⟩), nul.val] w fun e w' => e = .returned (.bool true) ∧ Below w.heap.size w w' := by
  unfold nul Ob.val
  go_enter Try.func38, Try.ntmps38
  go_wp2_with fail
  go_ret
  exact ⟨rfl, below1 _ _⟩
theorem elder_nul {w : World} {s : Nat} {mv : Value} {M : List Mrk} (h : Mv w s mv M) (hR : Rise M) (r : Int) :
    Calls Try.prog 114 #[.pointer (some ⟨s, 0, none⟩), nul.val, .int .i64 r] w fun e w' => e = .returned (.bool (mkI M r).isSome) ∧ Below w.heap.size w w' := by
  have HM := Lib.hid (markAt_at (h.below (below1 w (obC nul))) hR r)
  unfold obC at HM
  simp only [nul] at HM
  cases hk : mkI M r with
  | none =>
    rw [hk] at HM
    simp only [mkV] at HM
    unfold nul Ob.val
    clear h hR hk
    go_enter Try.func114, Try.ntmps114
    go_wp2_with fail
    refine HM.out.mono ?_; rintro e w1 ⟨rfl, hb⟩
    have HB := Lib.hid (bthen (below1 w _) hb)
    clear hb
    go_wp2_with fail
    go_ret
    exact ⟨rfl, HB.out⟩
  | some i =>
    rw [hk] at HM
    simp only [mkV] at HM
    have HVa := Lib.hid (fun w => valid_nul w s)
    unfold nul Ob.val at HVa ⊢
    clear h hR hk
    go_enter Try.func114, Try.ntmps114
    go_wp2_with fail
    refine HM.out.mono ?_; rintro e w1 ⟨rfl, hb⟩
    have hbx : w1.heap[w.heap.size]? = some (obC nul) := (hb.block w.heap.size (by simp)).trans (heap_alloc_new w _)
    unfold obC at hbx
    simp only [nul] at hbx
    have x0 : w1.cell? ⟨w.heap.size, 0, none⟩ = some (.int .i64 0) := blk_cell hbx 0
    have x1 : w1.cell? ⟨w.heap.size, 1, none⟩ = some (.bool false) := blk_cell hbx 1
    have x2 : w1.cell? ⟨w.heap.size, 2, none⟩ = some (.int .i64 0) := blk_cell hbx 2
    have x3 : w1.cell? ⟨w.heap.size, 3, none⟩ = some (.int .i64 0) := blk_cell hbx 3
    have x4 : w1.cell? ⟨w.heap.size, 4, none⟩ = some (.string ⟨#[]⟩) := blk_cell hbx 4
    have x5 : w1.cell? ⟨w.heap.size, 5, none⟩ = some (.int .i64 0) := blk_cell hbx 5
    have x6 : w1.cell? ⟨w.heap.size, 6, none⟩ = some (.int .i64 0) := blk_cell hbx 6
    have x7 : w1.cell? ⟨w.heap.size, 7, none⟩ = some (.int .i64 0) := blk_cell hbx 7
    have HB := Lib.hid (bthen (below1 w _) hb)
    have hlt : w.heap.size < w1.heap.size := (Array.getElem?_eq_some_iff.1 hbx).1
    clear hb hbx
    go_wp2_with fail
    refine (HVa.out _).mono ?_; rintro e w2 ⟨rfl, hb2⟩
    have y0 : w2.cell? ⟨w.heap.size, 0, none⟩ = some (.int .i64 0) := (hb2.cell (by exact hlt)).trans x0
    have HB2 := Lib.hid (bthen HB.out hb2)
    clear hb2 x0 x1 x2 x3 x4 x5 x6 x7 HB hlt
    go_wp2_with fail
    go_ret
    exact ⟨rfl, HB2.out⟩
end Go.Proofs.Ytlflkdmbbomjeaa
