/-
  The saves of a store: which are alive, and where one is, by contracts: lost, stands, alive, find, Depth, Alive.
-/
import Derived.Test.YtlflkdmbbomjeaaSavMark
import Derived.Test.YtlflkdmbbomjeaaStoOps
namespace Go.Proofs.Ytlflkdmbbomjeaa
open Go.RowKit
open St
/-- what is read of the saves at block v: their store's block s, and their marks -/
structure Sv (w : World) (s v : Nat) (lv : Value) (A : List Nat) : Prop where
  c0 : w.cell? ⟨v, 0, none⟩ = some (.pointer (some ⟨s, 0, none⟩))
  c1 : w.cell? ⟨v, 1, none⟩ = some lv
  few : A.length ≤ 15
  row : (lv = .slice none 0 0 ∧ A = []) ∨ ∃ g cap, lv = .slice (some ⟨g, 0, none⟩) A.length cap ∧ g < w.heap.size ∧ A.length ≤ cap ∧ cap ≤ maxLen ∧ ∀ (i n : Nat), A[i]? = some n → w.cell? ⟨g, i * 2, none⟩ = some (.pointer (some ⟨s, 0, none⟩)) ∧ w.cell? ⟨g, i * 2 + 1, none⟩ = some (.int .i64 n)
theorem Sv.lt {w : World} {s v : Nat} {lv : Value} {A : List Nat} (h : Sv w s v lv A) : v < w.heap.size := World.block_lt_of_cell? w _ h.c0
theorem Sv.below {w w' : World} {s v : Nat} {lv : Value} {A : List Nat} (h : Sv w s v lv A) (hb : Below w.heap.size w w') : Sv w' s v lv A := by
  refine ⟨(hb.cell (by exact h.lt)).trans h.c0, (hb.cell (by exact h.lt)).trans h.c1, h.few, ?_⟩
  rcases h.row with h0 | ⟨g, cap, rfl, hg, hk, hm, hc⟩
  · exact .inl h0
  · exact .inr ⟨g, cap, rfl, Nat.lt_of_lt_of_le hg hb.size, hk, hm, fun i n hn => ⟨(hb.cell (by exact hg)).trans (hc i n hn).1, (hb.cell (by exact hg)).trans (hc i n hn).2⟩⟩
/-- saves of no store -/
def Los (w : World) (pv : Value) : Prop := pv = .pointer none ∨ ∃ v, pv = .pointer (some ⟨v, 0, none⟩) ∧ w.cell? ⟨v, 0, none⟩ = some (.pointer none)
theorem Los.below {w w' : World} {pv : Value} (h : Los w pv) (hb : Below w.heap.size w w') : Los w' pv := by
  rcases h with h | ⟨v, e, hc⟩
  · exact .inl h
  · exact .inr ⟨v, e, (hb.cell (by exact World.block_lt_of_cell? w _ hc)).trans hc⟩
theorem lost_yes {w : World} {pv : Value} (h : Los w pv) : Calls Try.prog 80 #[pv] w fun e w' => e = .returned (.bool true) ∧ w' = w := by
  rcases h with rfl | ⟨v, rfl, hc⟩
  · go_enter Try.func80, Try.ntmps80
    go_wp2_with fail
    go_ret
    exact ⟨rfl, rfl⟩
  · go_enter Try.func80, Try.ntmps80
    go_wp2_with fail
    go_ret
    exact ⟨rfl, rfl⟩
theorem lost_no {w : World} {s v : Nat} (h : w.cell? ⟨v, 0, none⟩ = some (.pointer (some ⟨s, 0, none⟩))) : Calls Try.prog 80 #[.pointer (some ⟨v, 0, none⟩)] w fun e w' => e = .returned (.bool false) ∧ w' = w := by
  go_enter Try.func80, Try.ntmps80
  go_wp2_with fail
  go_ret
  exact ⟨rfl, rfl⟩
theorem stands_at {w : World} {s n : Nat} {mv : Value} {M : List Mrk} (h : Mv w s mv M) (hR : Rise M) :
    Calls Try.prog 111 #[.agg #[.pointer (some ⟨s, 0, none⟩), .int .i64 n]] w fun e w' => e = .returned (.bool (mkI M n).isSome) ∧ Below w.heap.size w w' := by
  have HE := Lib.hid (elder_nul (h.below (below1 w (.cells #[.pointer (some ⟨s, 0, none⟩), .int .i64 n] 161))) hR n)
  unfold nul Ob.val at HE
  clear h hR
  go_enter Try.func111, Try.ntmps111
  go_wp2_with fail
  refine HE.out.mono ?_; rintro e w1 ⟨rfl, hb⟩
  have HB := Lib.hid (bthen (below1 w _) hb)
  clear hb
  go_wp2_with fail
  go_ret
  exact ⟨rfl, HB.out⟩
theorem alive_lost {w : World} {pv : Value} (h : Los w pv) : Calls Try.prog 81 #[pv] w fun e w' => e = .returned (.slice none 0 0) ∧ w' = w := by
  have HL := Lib.hid (lost_yes h)
  clear h
  go_enter Try.func81, Try.ntmps81
  go_wp2_with fail
  refine HL.out.mono ?_; rintro e w1 ⟨rfl, rfl⟩
  go_wp2_with fail
  go_ret
  exact ⟨rfl, rfl⟩
set_option maxHeartbeats 1000000 in
theorem alive_at {w : World} {s v : Nat} {lv mv : Value} {A : List Nat} {M : List Mrk} (h : Sv w s v lv A) (hM : Mv w s mv M) (hR : Rise M) (hA : ∀ n ∈ A, (mkI M n).isSome = true) :
    Calls Try.prog 81 #[.pointer (some ⟨v, 0, none⟩)] w fun e w' => e = .returned lv ∧ Below w.heap.size w w' := by
  have HL := Lib.hid (lost_no h.c0)
  have c1 := h.c1
  have hlt := h.lt
  rcases h.row with ⟨rfl, rfl⟩ | ⟨g, cap, rfl, hg, hk, hm, hc⟩
  · clear h hM hR hA
    go_enter Try.func81, Try.ntmps81
    go_wp2_with fail
    refine HL.out.mono ?_; rintro e w1 ⟨rfl, rfl⟩
    go_wp2_with fail
    go_loopw [3] (fun s3 wr => s3 = .int .i64 0 ∧ wr = w1) (fun _ _ => 0)
    case atStart => exact ⟨rfl, rfl⟩
    case round =>
      obtain ⟨rfl, rfl⟩ := hrel
      go_wp2_with fail
      go_ret
      exact ⟨rfl, Below.refl _ _⟩
  · have hki : (A.length : Int) ≤ (cap : Int) := by omega
    have hfew := h.few
    unfold maxLen at hm
    rcases Nat.eq_zero_or_pos A.length with h0 | h0
    · rw [h0] at c1 hki ⊢
      clear h hM hR hA hc hk hfew
      go_enter Try.func81, Try.ntmps81
      go_wp2_with fail
      refine HL.out.mono ?_; rintro e w1 ⟨rfl, rfl⟩
      go_wp2_with fail
      go_loopw [3] (fun s3 wr => s3 = .int .i64 0 ∧ wr = w1) (fun _ _ => 0)
      case atStart => exact ⟨rfl, rfl⟩
      case round =>
        obtain ⟨rfl, rfl⟩ := hrel
        go_wp2_with fail
        go_ret
        exact ⟨rfl, Below.refl _ _⟩
    · obtain ⟨m, hm1⟩ : ∃ m, A.length = m + 1 := ⟨A.length - 1, by omega⟩
      have hx := List.getElem?_eq_getElem (l := A) (i := m) (by omega)
      obtain ⟨d0, d1⟩ := hc m _ hx
      have hst := stands_at (n := A[m]) hM hR
      rw [hA _ (List.getElem_mem _)] at hst
      have HSt := Lib.hid hst
      have HSv := Lib.hid h
      rw [hm1] at c1 hki hfew ⊢
      generalize A[m]'(by omega) = N at *
      have HRef := Lib.hid (fun w' hb => (HSv.out.below (w' := w') hb).c1)
      rw [hm1] at HRef
      clear h hM hR hA hc hk hst hx
      go_enter Try.func81, Try.ntmps81
      go_wp2_with fail
      refine HL.out.mono ?_; rintro e w1 ⟨rfl, rfl⟩
      go_wp2_with fail
      go_loopw [3] (fun s3 wr => s3 = .int .i64 ((m : Int) + 1) ∧ wr = w1) (fun _ _ => 0)
      case atStart => exact ⟨by simp, rfl⟩
      case round =>
        obtain ⟨rfl, rfl⟩ := hrel
        go_wp2_with fail
        refine HSt.out.mono ?_; rintro e w2 ⟨rfl, hb⟩
        have e1 := HRef.out w2 hb
        have HB := Lib.hid hb
        clear hb
        go_wp2_with fail
        go_ret
        exact ⟨by simp, HB.out⟩
/-- where in A the number n is, or -1 -/
def fdI (A : List Nat) (n : Int) : Int := match A.findIdx? (fun x : Nat => (x : Int) == n) with
  | some i => i
  | none => -1
theorem fdI_some {A : List Nat} {n : Int} {i : Nat} (hi : i < A.length) (he : (A[i] : Int) = n) (hb : ∀ j (hj : j < i), (A[j]'(by omega) : Int) ≠ n) : fdI A n = i := by
  have : A.findIdx? (fun x : Nat => (x : Int) == n) = some i := by
    rw [List.findIdx?_eq_some_iff_getElem]
    exact ⟨hi, by simp [he], fun j hj => by simpa using hb j hj⟩
  unfold fdI
  rw [this]
theorem fdI_none {A : List Nat} {n : Int} (hb : ∀ j (hj : j < A.length), (A[j] : Int) ≠ n) : fdI A n = -1 := by
  have : A.findIdx? (fun x : Nat => (x : Int) == n) = none := by
    rw [List.findIdx?_eq_none_iff]
    intro x hx
    obtain ⟨j, hj, rfl⟩ := List.getElem_of_mem hx
    simpa using hb j hj
  unfold fdI
  rw [this]
/-- the test of a search -/
theorem find1_at {w : World} {b k : Nat} {n : Int} {p : Value} (h : w.cell? ⟨b, 3, none⟩ = some (.int .i64 n)) :
    Calls Try.prog 113 #[.agg #[p, .int .i64 k], .pointer (some ⟨b, 0, none⟩)] w fun e w' => e = .returned (.bool ((k : Int) == n)) ∧ Below w.heap.size w w' := by
  have hlt : b < w.heap.size := World.block_lt_of_cell? w _ h
  go_enter Try.func113, Try.ntmps113
  go_wp2_with fail
  go_ret
  exact ⟨rfl, below1 _ _⟩
theorem index_nil {w : World} {b : Nat} : Calls Try.prog 112 #[.slice none 0 0, .func (.func 113) #[] #[.pointer (some ⟨b, 0, none⟩)]] w fun e w' => e = .returned (.int .i64 (-1)) ∧ w' = w := by
  go_enter Try.func112, Try.ntmps112
  go_wp2_with fail
  go_loopw [8] (fun s8 wr => s8 = .int .i64 0 ∧ wr = w) (fun _ _ => 0)
  case atStart => exact ⟨rfl, rfl⟩
  case round =>
    obtain ⟨rfl, rfl⟩ := hrel
    go_wp2_with fail
    go_ret
    exact ⟨rfl, rfl⟩
set_option maxHeartbeats 1000000 in
theorem index_at {w : World} {s v b : Nat} {n : Int} {lv : Value} {A : List Nat} (h : Sv w s v lv A) (hb : w.cell? ⟨b, 3, none⟩ = some (.int .i64 n)) :
    Calls Try.prog 112 #[lv, .func (.func 113) #[] #[.pointer (some ⟨b, 0, none⟩)]] w fun e w' => e = .returned (.int .i64 (fdI A n)) ∧ Below w.heap.size w w' := by
  have hlt : b < w.heap.size := World.block_lt_of_cell? w _ hb
  have HSv := Lib.hid h
  have HBx := Lib.hid hb
  have hfew := h.few
  rcases h.row with ⟨rfl, rfl⟩ | ⟨g, cap, rfl, hg, hk, hm, hc⟩
  · exact index_nil.mono (fun e w' ⟨h1, h2⟩ => ⟨by rw [h1]; simp [fdI], by rw [h2]; exact Below.refl _ _⟩)
  · have HC := Lib.hid hc
    clear h hc hb hk hm
    go_enter Try.func112, Try.ntmps112
    go_wp2_with fail
    go_loopw [8] (fun s8 wr => ∃ k : Nat, s8 = .int .i64 k ∧ k ≤ A.length ∧ (∀ j (hj : j < A.length), j < k → (A[j] : Int) ≠ n) ∧ Below w.heap.size w wr) (fun s8 _ => A.length - (intOf s8).toNat)
    case atStart => exact ⟨0, rfl, Nat.zero_le _, fun j _ h => by omega, Below.refl _ _⟩
    case round =>
      obtain ⟨k, rfl, hk, hno, hbl⟩ := hrel
      have HNo := Lib.hid hno
      have HBl := Lib.hid hbl
      by_cases hlt2 : k < A.length
      · obtain ⟨d0, d1⟩ := HC.out k _ (List.getElem?_eq_getElem hlt2)
        have e0 : wr.cell? ⟨g, k * 2, none⟩ = some (.pointer (some ⟨s, 0, none⟩)) := (hbl.cell (by exact hg)).trans d0
        have e1 : wr.cell? ⟨g, k * 2 + 1, none⟩ = some (.int .i64 (A[k] : Nat)) := (hbl.cell (by exact hg)).trans d1
        have hbx : wr.cell? ⟨b, 3, none⟩ = some (.int .i64 n) := (hbl.cell (by exact hlt)).trans HBx.out
        have hf := find1_at (k := A[k]) (p := .pointer (some ⟨s, 0, none⟩)) hbx
        by_cases hq : (A[k] : Int) = n
        · have hfd : fdI A n = k := fdI_some hlt2 hq (fun j hj => HNo.out j (by omega) hj)
          have hqe : ((A[k] : Int) == n) = true := by simp [hq]
          rw [hqe] at hf
          have HFd := Lib.hid hfd
          have HF := Lib.hid hf
          clear hf hno hbl d0 d1 hq hfd hqe hbx
          go_wp2_with fail
          refine HF.out.mono ?_; rintro e w2 ⟨rfl, hb2⟩
          have HB2 := Lib.hid (bthen HBl.out hb2)
          clear hb2
          go_wp2_with fail
          go_ret
          exact ⟨by rw [HFd.out]; rfl, HB2.out⟩
        · have hqe : ((A[k] : Int) == n) = false := by simp [hq]
          rw [hqe] at hf
          have HF := Lib.hid hf
          have HQ := Lib.hid hq
          clear hf hno hbl d0 d1 hq hqe hbx
          go_wp2_with fail
          refine HF.out.mono ?_; rintro e w2 ⟨rfl, hb2⟩
          have HB2 := Lib.hid (bthen HBl.out hb2)
          clear hb2
          go_wp2_with fail
          go_roundw
          case rel => exact ⟨k + 1, by go_num, by omega, fun j hj hjk => by
            rcases Nat.lt_or_eq_of_le (Nat.le_of_lt_succ hjk) with e | e
            · exact HNo.out j hj e
            · subst e; exact HQ.out, HB2.out⟩
          case measure => simp [intOf]; omega
      · have hkn : k = A.length := by omega
        have hfd : fdI A n = -1 := fdI_none (fun j hj => HNo.out j hj (by omega))
        have HFd := Lib.hid hfd
        subst hkn
        clear hno hbl hfd
        go_wp2_with fail
        go_ret
        exact ⟨by rw [HFd.out]; rfl, HBl.out⟩
/-- where the save is that o tells of, or -1 -/
def fndI (A : List Nat) (o : Ob) : Int := if o.kind = 10 then fdI A o.n else -1
set_option maxHeartbeats 1000000 in
theorem find_at {w : World} {s v : Nat} {lv mv : Value} {A : List Nat} {M : List Mrk} (h : Sv w s v lv A) (hM : Mv w s mv M) (hR : Rise M) (hA : ∀ n ∈ A, (mkI M n).isSome = true) (o : Ob) :
    Calls Try.prog 83 #[.pointer (some ⟨v, 0, none⟩), o.val] w fun e w' => e = .returned (.int .i64 (fndI A o)) ∧ Below w.heap.size w w' := by
  unfold fndI
  by_cases hk : o.kind = 10
  · rw [if_pos hk]
    have HA := Lib.hid (alive_at (h.below (below1 w (obC o))) (hM.below (below1 w (obC o))) hR hA)
    have HI := Lib.hid (fun w2 (hb : Below (w.alloc (obC o)).heap.size (w.alloc (obC o)) w2) => index_at (b := w.heap.size) (n := o.n) ((h.below (below1 w (obC o))).below hb) (by
      rw [World.cell?_of_block (hb.block w.heap.size (by simp))]
      unfold obC
      simp [World.cell?_alloc_new]))
    have hmf : ∀ (fn : Fn) (first cap : Array Value) (w : World), (Instr.makeFunc fn first cap).run Try.prog w = .ok (.func fn first cap) w := fun _ _ _ _ => rfl
    unfold obC at HA HI
    unfold Ob.val
    rw [hk] at HA HI ⊢
    clear h hM hR hA hk
    go_enter Try.func83, Try.ntmps83
    go_wp2_with fail
    refine HA.out.mono ?_; rintro e w2 ⟨rfl, hb⟩
    have HI2 := Lib.hid (HI.out w2 hb)
    have HB := Lib.hid (bthen (below1 w _) hb)
    clear hb HI
    go_wp2_with fail
    refine HI2.out.mono ?_; rintro e w3 ⟨rfl, hb⟩
    have HB3 := Lib.hid (bthen HB.out hb)
    clear hb
    go_wp2_with fail
    go_ret
    exact ⟨rfl, HB3.out⟩
  · rw [if_neg hk]
    have hkn : (o.kind != 10) = true := by simp [hk]
    unfold Ob.val
    clear h hM hR hA hk
    go_enter Try.func83, Try.ntmps83
    go_wp2_with fail
    go_ret
    exact ⟨rfl, below1 _ _⟩
theorem find_lost {w : World} {pv : Value} (h : Los w pv) (o : Ob) :
    Calls Try.prog 83 #[pv, o.val] w fun e w' => e = .returned (.int .i64 (-1)) ∧ Below w.heap.size w w' := by
  by_cases hk : o.kind = 10
  · have HA := Lib.hid (alive_lost (h.below (below1 w (obC o))))
    have hmf : ∀ (fn : Fn) (first cap : Array Value) (w : World), (Instr.makeFunc fn first cap).run Try.prog w = .ok (.func fn first cap) w := fun _ _ _ _ => rfl
    unfold obC at HA
    unfold Ob.val
    rw [hk] at HA ⊢
    clear h hk
    go_enter Try.func83, Try.ntmps83
    go_wp2_with fail
    refine HA.out.mono ?_; rintro e w2 ⟨rfl, rfl⟩
    go_wp2_with fail
    refine index_nil.mono ?_; rintro e w3 ⟨rfl, rfl⟩
    go_wp2_with fail
    go_ret
    exact ⟨rfl, below1 _ _⟩
  · have hkn : (o.kind != 10) = true := by simp [hk]
    unfold Ob.val
    clear h hk
    go_enter Try.func83, Try.ntmps83
    go_wp2_with fail
    go_ret
    exact ⟨rfl, below1 _ _⟩
theorem depth_at {w : World} {s v : Nat} {lv mv : Value} {A : List Nat} {M : List Mrk} (h : Sv w s v lv A) (hM : Mv w s mv M) (hR : Rise M) (hA : ∀ n ∈ A, (mkI M n).isSome = true) :
    Calls Try.prog 45 #[.pointer (some ⟨v, 0, none⟩)] w fun e w' => e = .returned (.int .i64 A.length) ∧ Below w.heap.size w w' := by
  have HA := Lib.hid (alive_at h hM hR hA)
  obtain ⟨a, c, rfl⟩ : ∃ a c, lv = .slice a A.length c := by
    rcases h.row with ⟨rfl, rfl⟩ | ⟨g, cap, rfl, _⟩
    · exact ⟨none, 0, rfl⟩
    · exact ⟨_, _, rfl⟩
  clear h hM hR hA
  go_enter Try.func45, Try.ntmps45
  go_wp2_with fail
  refine HA.out.mono ?_; rintro e w2 ⟨rfl, hb⟩
  have HB := Lib.hid hb
  clear hb
  go_wp2_with fail
  go_ret
  exact ⟨rfl, HB.out⟩
theorem depth_lost {w : World} {pv : Value} (h : Los w pv) : Calls Try.prog 45 #[pv] w fun e w' => e = .returned (.int .i64 0) ∧ w' = w := by
  have HA := Lib.hid (alive_lost h)
  clear h
  go_enter Try.func45, Try.ntmps45
  go_wp2_with fail
  refine HA.out.mono ?_; rintro e w2 ⟨rfl, rfl⟩
  go_wp2_with fail
  go_ret
  exact ⟨rfl, rfl⟩
theorem isAlive_at {w : World} {s v : Nat} {lv mv : Value} {A : List Nat} {M : List Mrk} (h : Sv w s v lv A) (hM : Mv w s mv M) (hR : Rise M) (hA : ∀ n ∈ A, (mkI M n).isSome = true) (o : Ob) :
    Calls Try.prog 46 #[.pointer (some ⟨v, 0, none⟩), o.val] w fun e w' => e = .returned (.bool (decide (0 ≤ fndI A o))) ∧ Below w.heap.size w w' := by
  have HF := Lib.hid (find_at (h.below (below1 w (obC o))) (hM.below (below1 w (obC o))) hR hA o)
  unfold obC at HF
  unfold Ob.val at HF ⊢
  clear h hM hR hA
  generalize fndI A o = K at *
  go_enter Try.func46, Try.ntmps46
  go_wp2_with fail
  refine HF.out.mono ?_; rintro e w2 ⟨rfl, hb⟩
  have HB := Lib.hid (bthen (below1 w _) hb)
  clear hb
  go_wp2_with fail
  go_ret
  exact ⟨by simp, HB.out⟩
theorem isAlive_lost {w : World} {pv : Value} (h : Los w pv) (o : Ob) : Calls Try.prog 46 #[pv, o.val] w fun e w' => e = .returned (.bool false) ∧ Below w.heap.size w w' := by
  have HF := Lib.hid (find_lost (h.below (below1 w (obC o))) o)
  unfold obC at HF
  unfold Ob.val at HF ⊢
  clear h
  go_enter Try.func46, Try.ntmps46
  go_wp2_with fail
  refine HF.out.mono ?_; rintro e w2 ⟨rfl, hb⟩
  have HB := Lib.hid (bthen (below1 w _) hb)
  clear hb
  go_wp2_with fail
  go_ret
  exact ⟨rfl, HB.out⟩
theorem save_lost {w : World} {pv : Value} (h : Los w pv) : Calls Try.prog 36 #[pv] w fun e w' => e = .returned (.tuple #[nul.val, .int .i64 21]) ∧ Below w.heap.size w w' := by
  have HL := Lib.hid (lost_yes (h.below (below1 w (obC nul))))
  unfold obC at HL
  simp only [nul] at HL
  clear h
  go_enter Try.func36, Try.ntmps36
  go_wp2_with fail
  refine HL.out.mono ?_; rintro e w2 ⟨rfl, rfl⟩
  go_wp2_with fail
  refine bodyPost_ret (results_ob2 Try.results36 _ _ w.heap.size rfl rfl (heap_alloc_new w _)) rfl ⟨rfl, below1 _ _⟩
theorem restore_lost {w : World} {pv : Value} (h : Los w pv) (o : Ob) : Calls Try.prog 39 #[pv, o.val, .slice none 0 0] w fun e w' => e = .returned (.int .i64 21) ∧ Below w.heap.size w w' := by
  have HL := Lib.hid (lost_yes (h.below (below1 w (obC o))))
  unfold obC at HL
  unfold Ob.val
  clear h
  go_enter Try.func39, Try.ntmps39
  go_wp2_with fail
  refine HL.out.mono ?_; rintro e w2 ⟨rfl, rfl⟩
  go_wp2_with fail
  go_ret
  exact ⟨rfl, below1 _ _⟩
/-- what is no save that is alive is not restored -/
theorem restore_no {w : World} {s v : Nat} {lv mv : Value} {A : List Nat} {M : List Mrk} (h : Sv w s v lv A) (hM : Mv w s mv M) (hR : Rise M) (hA : ∀ n ∈ A, (mkI M n).isSome = true) (o : Ob) (hn : fndI A o < 0) :
    Calls Try.prog 39 #[.pointer (some ⟨v, 0, none⟩), o.val, .slice none 0 0] w fun e w' => e = .returned (.int .i64 (if o.kind = 10 then 8 else 16)) ∧ Below w.heap.size w w' := by
  have HL := Lib.hid (lost_no (h.below (below1 w (obC o))).c0)
  have HF := Lib.hid (find_at (h.below (below1 w (obC o))) (hM.below (below1 w (obC o))) hR hA o)
  unfold obC at HL HF
  unfold Ob.val at HF ⊢
  by_cases hk : o.kind = 10
  · rw [if_pos hk]
    generalize fndI A o = K at *
    rw [hk] at HL HF ⊢
    clear h hM hR hA hk
    go_enter Try.func39, Try.ntmps39
    go_wp2_with fail
    refine HL.out.mono ?_; rintro e w2 ⟨rfl, rfl⟩
    go_wp2_with fail
    refine HF.out.mono ?_; rintro e w2 ⟨rfl, hb⟩
    have HB := Lib.hid (bthen (below1 w _) hb)
    clear hb
    go_wp2_with fail
    go_ret
    exact ⟨rfl, HB.out⟩
  · rw [if_neg hk]
    have hkn : (o.kind != 10) = true := by simp [hk]
    clear h hM hR hA hk hn
    go_enter Try.func39, Try.ntmps39
    go_wp2_with fail
    refine HL.out.mono ?_; rintro e w2 ⟨rfl, rfl⟩
    go_wp2_with fail
    go_ret
    exact ⟨rfl, below1 _ _⟩
/-- new saves -/
theorem saves_new (w : World) (q : Option Addr) : Calls Try.prog 34 #[.pointer q] w fun e w' => e = .returned (.pointer (some ⟨w.heap.size, 0, none⟩)) ∧ w' = w.alloc (.cells #[.pointer q, .slice none 0 0] 158) := by
  go_enter Try.func34, Try.ntmps34
  go_wp2_with fail
  go_ret
  exact ⟨rfl, rfl⟩
end Go.Proofs.Ytlflkdmbbomjeaa
