/-
  A new store with its saves, and what the law's own question answers: answers.
-/
import Derived.Test.YtlflkdmbbomjeaaSavSave2
import Derived.Test.YtlflkdmbbomjeaaStoPart
namespace Go.Proofs.Ytlflkdmbbomjeaa
open Go.RowKit
open St
theorem new_mk (c : Int) (w : World) (h1 : 1 ≤ c) (h2 : c ≤ 1048576) :
    Calls Try.prog 9 #[.int .i64 c] w fun e w' => e = .returned (.tuple #[.pointer (some ⟨w.heap.size, 0, none⟩), .int .i64 0]) ∧ w' = w.alloc (.cells #[.slice none 0 0, .int .i64 0, .int .i64 c, .slice none 0 0, .int .i64 0, .slice none 0 0] 110) := by
  go_enter Try.func9, Try.ntmps9
  go_wp2_with fail
  exact bodyPost_ret (v := .tuple #[.pointer (some ⟨w.heap.size, 0, none⟩), .int .i64 0]) (by simp [results, Try.results9, go_sem]) rfl ⟨rfl, rfl⟩
/-- a store without things, with marks and saves, all of it from block B on -/
structure SS (B : Nat) (w : World) (s v : Nat) (fr : Int) (M : List Mrk) (A : List Nat) (K : Nat) : Prop where
  at_ : ∃ mv lv, MkB w s (.slice none 0 0) 0 fr mv K (.slice none 0 0) M ∧ SvB w s v lv A ∧ (∀ k, isB mv k → B ≤ k) ∧ (∀ k, isB lv k → B ≤ k)
  ls : B ≤ s
  lv : B ≤ v
  plain : ∀ x ∈ M, x.made = 0 ∧ x.free = fr ∧ x.chg = 0
  all : ∀ n ∈ A, ∃ x ∈ M, x.num = n
theorem SS.below {B : Nat} {w w' : World} {s v : Nat} {fr : Int} {M : List Mrk} {A : List Nat} {K : Nat} (h : SS B w s v fr M A K) (hb : Below w.heap.size w w') : SS B w' s v fr M A K := by
  obtain ⟨mv, lv, hM, hS, h1, h2⟩ := h.at_
  exact ⟨⟨mv, lv, hM.below hb, hS.below hb, h1, h2⟩, h.ls, h.lv, h.plain, h.all⟩
theorem alive_all {M : List Mrk} {A : List Nat} (hR : Rise M) (h : ∀ n ∈ A, ∃ x ∈ M, x.num = n) : ∀ n ∈ A, (mkI M n).isSome = true := fun n hn => by
  obtain ⟨x, hx, rfl⟩ := h n hn
  obtain ⟨i, hi, e⟩ := List.getElem_of_mem hx
  rw [mkI_of hR (List.getElem?_eq_some_iff.2 ⟨hi, e⟩)]
  rfl
theorem SS.few {B : Nat} {w : World} {s v : Nat} {fr : Int} {M : List Mrk} {A : List Nat} {K : Nat} (h : SS B w s v fr M A K) : A.length ≤ 15 := by
  obtain ⟨mv, lv, hM, hS, h1, h2⟩ := h.at_
  exact hS.few
theorem ss_depth {B : Nat} {w : World} {s v : Nat} {fr : Int} {M : List Mrk} {A : List Nat} {K : Nat} (h : SS B w s v fr M A K) :
    Calls Try.prog 45 #[.pointer (some ⟨v, 0, none⟩)] w fun e w' => e = .returned (.int .i64 A.length) ∧ Below w.heap.size w w' := by
  obtain ⟨mv, lv, hM, hS, h1, h2⟩ := h.at_
  exact depth_at hS.sv hM.mv hM.rise (alive_all hM.rise h.all)
theorem ss_alive {B : Nat} {w : World} {s v : Nat} {fr : Int} {M : List Mrk} {A : List Nat} {K : Nat} (h : SS B w s v fr M A K) (o : Ob) :
    Calls Try.prog 46 #[.pointer (some ⟨v, 0, none⟩), o.val] w fun e w' => e = .returned (.bool (decide (0 ≤ fndI A o))) ∧ Below w.heap.size w w' := by
  obtain ⟨mv, lv, hM, hS, h1, h2⟩ := h.at_
  exact isAlive_at hS.sv hM.mv hM.rise (alive_all hM.rise h.all) o
theorem ss_restore_no {B : Nat} {w : World} {s v : Nat} {fr : Int} {M : List Mrk} {A : List Nat} {K : Nat} (h : SS B w s v fr M A K) (o : Ob) (hn : fndI A o < 0) :
    Calls Try.prog 39 #[.pointer (some ⟨v, 0, none⟩), o.val, .slice none 0 0] w fun e w' => e = .returned (.int .i64 (if o.kind = 10 then 8 else 16)) ∧ Below w.heap.size w w' := by
  obtain ⟨mv, lv, hM, hS, h1, h2⟩ := h.at_
  exact restore_no hS.sv hM.mv hM.rise (alive_all hM.rise h.all) o hn
theorem ss_save_full {B : Nat} {w : World} {s v : Nat} {fr : Int} {M : List Mrk} {A : List Nat} {K : Nat} (h : SS B w s v fr M A K) (hf : A.length = 15) :
    Calls Try.prog 36 #[.pointer (some ⟨v, 0, none⟩)] w fun e w' => e = .returned (.tuple #[nul.val, .int .i64 9]) ∧ Below w.heap.size w w' := by
  obtain ⟨mv, lv, hM, hS, h1, h2⟩ := h.at_
  exact save_full hM hS (alive_all hM.rise h.all) hf
theorem ss_save {B : Nat} {w : World} {s v : Nat} {fr : Int} {M : List Mrk} {A : List Nat} {K : Nat} (h : SS B w s v fr M A K) (hB : B ≤ w.heap.size) (hf : A.length < 15) (hK : K < 1000000) (hn : M.length < 1000000) :
    Calls Try.prog 36 #[.pointer (some ⟨v, 0, none⟩)] w fun e w' => e = .returned (.tuple #[(sob ((K : Int) + 1)).val, .int .i64 0]) ∧ SS B w' s v fr (M ++ [⟨K + 1, 0, fr, 0⟩]) (A ++ [K + 1]) (K + 1) ∧ Below B w w' ∧
      ∀ k, k < w.heap.size → (∀ c t f, w.heap[k]? = some (.cells c t f) → t ≠ 110 ∧ t ≠ 136 ∧ t ≠ 158 ∧ t ≠ 161) → w'.heap[k]? = w.heap[k]? := by
  obtain ⟨mv, lv, hM, hS, h1, h2⟩ := h.at_
  refine (save_at hM hS (alive_all hM.rise h.all) hf hK hn).mono ?_
  rintro e w' ⟨rfl, ⟨mv', lv', hM', hS', h3, h4⟩, hF⟩
  refine ⟨rfl, ⟨⟨mv', lv', hM', hS', fun k hk => ?_, fun k hk => ?_⟩, h.ls, h.lv, fun x hx => ?_, fun n hn => ?_⟩, hF.below hB (fun k hk hO => ?_), fun k hk hT => hF.block k hk (fun hO => ?_)⟩
  · rcases h3 k hk with e | e
    · exact h1 k e
    · omega
  · rcases h4 k hk with e | e
    · exact h2 k e
    · omega
  · rcases List.mem_append.1 hx with e | e
    · exact h.plain x e
    · have e2 : x = ⟨K + 1, 0, fr, 0⟩ := by simpa using e
      rw [e2]; exact ⟨rfl, rfl, rfl⟩
  · rcases List.mem_append.1 hn with e | e
    · obtain ⟨x, hx, e2⟩ := h.all n e
      exact ⟨x, List.mem_append.2 (.inl hx), e2⟩
    · have e2 : n = K + 1 := by simpa using e
      exact ⟨⟨K + 1, 0, fr, 0⟩, by simp, e2.symm⟩
  · have l1 := h.ls
    have l2 := h.lv
    rcases hO with e | e | e | e
    · omega
    · have := h1 k e; omega
    · omega
    · have := h2 k e; omega
  · rcases hO with e | e | e | e
    · subst e
      exact (hT _ _ _ hM.blk).1 rfl
    · rcases hM.row.2 with ⟨e0, _⟩ | ⟨g0, cap0, cur0, e0, _, hg0, _⟩
      · rw [e0] at e; cases e
      · have e1 : g0 = k := by rw [e0] at e; simpa [isB, Value.ownBlock] using e
        subst e1
        exact (hT _ _ _ hg0).2.1 rfl
    · subst e
      exact (hT _ _ _ hS.blk).2.2.1 rfl
    · rcases hS.row.2 with ⟨e0, _⟩ | ⟨g0, cap0, cur0, e0, _, hg0, _⟩
      · rw [e0] at e; cases e
      · have e1 : g0 = k := by rw [e0] at e; simpa [isB, Value.ownBlock] using e
        subst e1
        exact (hT _ _ _ hg0).2.2.2 rfl
/-- the beginning: a store, and saves of it -/
theorem ss_new (w : World) (c : Int) : SS w.heap.size ((w.alloc (.cells #[.slice none 0 0, .int .i64 0, .int .i64 c, .slice none 0 0, .int .i64 0, .slice none 0 0] 110)).alloc (.cells #[.pointer (some ⟨w.heap.size, 0, none⟩), .slice none 0 0] 158)) w.heap.size (w.heap.size + 1) c [] [] 0 := by
  refine ⟨⟨.slice none 0 0, .slice none 0 0, ⟨?_, World.ownsRow_nil _ _ _ _, fun i j x y _ hx => by simp at hx, fun x hx => by simp at hx, by simp, by omega⟩, ⟨alloc_at (by simp), World.ownsRow_nil _ _ _ _, by simp⟩, (fun k hk => by cases hk), (fun k hk => by cases hk)⟩, Nat.le_refl _, by omega, fun x hx => by simp at hx, fun n hn => by simp at hn⟩
  rw [heap_alloc_old _ _ (by simp)]
  exact heap_alloc_new w _
theorem fnd_last (A : List Nat) (n : Nat) (h : ∀ x ∈ A, x ≠ n) : fndI (A ++ [n]) (sob n) = A.length := by
  unfold fndI sob
  rw [if_pos rfl]
  refine fdI_some (i := A.length) (by simp) (by simp) (fun j hj => ?_)
  rw [List.getElem_append_left hj]
  have := h A[j] (List.getElem_mem _)
  show (A[j] : Int) ≠ (n : Int)
  omega
set_option maxRecDepth 100000 in
set_option maxHeartbeats 1000000 in
theorem answers06 (w : World) : Calls Try.prog 35 #[] w fun e w' => e = .returned (.bool true) ∧ Below w.heap.size w w' := by
  have HN := Lib.hid (new_mk 50 w (by decide) (by decide))
  have hN := saves_new (w.alloc (.cells #[.slice none 0 0, .int .i64 0, .int .i64 50, .slice none 0 0, .int .i64 0, .slice none 0 0] 110)) (some ⟨w.heap.size, 0, none⟩)
  rw [show (w.alloc (.cells #[.slice none 0 0, .int .i64 0, .int .i64 50, .slice none 0 0, .int .i64 0, .slice none 0 0] 110)).heap.size = w.heap.size + 1 by simp] at hN
  have HS := Lib.hid hN
  have h0 := ss_new w 50
  have hsv := ss_save h0 (by simp; omega) (by simp) (by omega) (by simp)
  simp only [List.nil_append, Nat.zero_add] at hsv
  rw [show ((0 : Nat) : Int) + 1 = 1 from rfl] at hsv
  have HSv := Lib.hid hsv
  have HB2 := Lib.hid (below2 w (.cells #[.slice none 0 0, .int .i64 0, .int .i64 50, .slice none 0 0, .int .i64 0, .slice none 0 0] 110) (.cells #[.pointer (some ⟨w.heap.size, 0, none⟩), .slice none 0 0] 158))
  clear hN h0 hsv
  go_enter Try.func35, Try.ntmps35
  go_wp2_with fail
  refine HN.out.mono ?_; rintro e w1 ⟨rfl, rfl⟩
  go_wp2_with fail
  refine HS.out.mono ?_; rintro e w1 ⟨rfl, rfl⟩
  go_wp2_with fail
  refine HSv.out.mono ?_; rintro e w1 ⟨rfl, hss, hbl, _⟩
  have hss2 := hss.below (below1 w1 (obC (sob 1)))
  have HD := Lib.hid (ss_depth hss2)
  have HAl := Lib.hid (fun w3 hb => ss_alive (hss2.below (w' := w3) hb) (sob 1))
  have HB := Lib.hid (HB2.out.trans hbl)
  simp only [List.length_singleton] at HD
  unfold obC sob at HD HAl
  have hfd : fndI [1] (sob 1) = 0 := fnd_last [] 1 (by simp)
  unfold sob at hfd
  simp only [hfd] at HAl
  unfold Ob.val at HAl
  unfold sob Ob.val
  clear hss hbl hss2 HSv HB2 hfd
  go_wp2_with fail
  refine HD.out.mono ?_; rintro e w3 ⟨rfl, hb⟩
  have hbx : w3.heap[w1.heap.size]? = some (obC (sob 1)) := (hb.block _ (by simp)).trans (heap_alloc_new w1 _)
  unfold obC sob at hbx
  obtain ⟨x0, x1, x2, x3, x4, x5, x6, x7⟩ := cellsOb hbx
  have HA2 := Lib.hid (HAl.out w3 hb)
  have HB3 := Lib.hid (HB.out.trans ((bthen (below1 w1 _) hb).mono HB.out.size))
  clear hb hbx HAl
  go_wp2_with fail
  refine HA2.out.mono ?_; rintro e w4 ⟨rfl, hb⟩
  have HB4 := Lib.hid (HB3.out.trans (hb.mono HB3.out.size))
  clear hb
  go_wp2_with fail
  go_ret
  exact ⟨rfl, HB4.out⟩
end Go.Proofs.Ytlflkdmbbomjeaa
