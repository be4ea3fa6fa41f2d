/-
  The walk of the law FixSums.
-/
import Derived.Test.YtgclgifjjdpapaaFixSum
import Derived.Laws.AppendOwnNone
namespace Go.Proofs.Ytgclgifjjdpapaa
open Go.RowKit
open Fx
theorem info3 : (Try.prog.info? 3).map (fun i => (i.zero, i.size, i.bytes)) = some (some (.int .i64 0), 1, 8) := by kernel_rfl
theorem bel_draws {B : Nat} {v w : World} (h : Below B v w) (n : Nat) : Below B v (w.drewN n) := h.trans ⟨rfl, rfl, rfl, Nat.le_refl _, fun _ _ => rfl⟩
/-- what the law's own loop holds: the sum so far and no error, or no sum and the first error -/
def TotRel (L : List Int) (t l i : Value) : Prop :=
  ∃ (k : Nat) (s e : Int), k ≤ L.length ∧ i = .int .i64 k ∧ t = .int .i64 s ∧ l = .int .i64 e ∧ ((e = 0 ∧ sums L 0 = sums (L.drop k) s) ∨ (e ≠ 0 ∧ s = 0 ∧ sums L 0 = (0, e)))
theorem addV_of_error {a b : Int} (h : addE a b ≠ 0) : addV a b = 0 := by
  unfold addV addE at *
  split
  · rename_i h1
    rw [if_pos h1] at h
    unfold outV outE at *
    split
    · rename_i h2; rw [if_pos h2] at h; exact absurd rfl h
    · rfl
  · rfl
theorem made_own (w : World) (k : Nat) : ((w.drewN k).alloc (Obj.cells #[] 3)).ownsRow w.heap.size 3 1 (Value.slice (some ⟨w.heap.size, 0, none⟩) 0 0) 0 [] :=
  World.ownsRow_made (w.drewN k) #[] 0 (Nat.le_refl _) (by unfold maxLen; omega) rfl
theorem src_cells (w : World) (k : Nat) {L : List Int} {x : Addr} (h : ∀ j z, L[j]? = some z → w.cell? (x.add j) = some (.int .i64 z)) :
    ∀ j u, (L.map (Value.int .i64))[j]? = some u → ((w.drewN k).alloc (Obj.cells #[] 3)).cell? (x.add j) = some u := by
  intro j u hu
  rw [List.getElem?_map] at hu
  obtain ⟨z, hz, rfl⟩ := Option.map_eq_some_iff.1 hu
  have hc := h j z hz
  have hlt := World.block_lt_of_cell? w _ hc
  rw [World.cell?_alloc_lt _ _ _ (by simpa using hlt)]
  exact hc
theorem ints_one (L : List Int) : ∀ u ∈ L.map (Value.int .i64), u.oneCell' = true := by
  intro u hu
  obtain ⟨z, _, rfl⟩ := List.mem_map.1 hu
  rfl
theorem own_reads {w : World} {B : Nat} {v : Value} {L : List Int} (h : w.ownsRow B 3 1 v L.length (L.map (Value.int .i64))) :
    ∃ a c, v = .slice a L.length c ∧ RdI w a L := by
  rcases h.2 with ⟨rfl, h0⟩ | ⟨g, cap, cur, rfl, _, hh, _, _, _, hcur⟩
  · exact ⟨none, 0, by rw [h0], Or.inl (List.eq_nil_of_length_eq_zero h0)⟩
  · refine ⟨some ⟨g, 0, none⟩, cap, rfl, Or.inr ⟨g, 0, rfl, fun k z hz => ?_⟩⟩
    have hc := h.cells (g := g) rfl k (.int .i64 z) (by rw [List.getElem?_map, hz]; rfl)
    by_cases hk : k = 0
    · subst hk; simpa [Addr.add] using hc
    · simpa [Addr.add, hk] using hc
theorem grown_below (w : World) (k : Nat) {w' : World} (hg : ((w.drewN k).alloc (Obj.cells #[] 3)).grownBy w' (Value.slice (some ⟨w.heap.size, 0, none⟩) 0 0).ownBlock) : Below w.heap.size w w' :=
  Below.grown (w := (w.drewN k).alloc (Obj.cells #[] 3)) ((bel_draws (Below.refl _ _) k).alloc (Nat.le_refl _) _) hg (by simp) (by intro k hk; simp [Value.ownBlock] at hk; omega)
set_option maxHeartbeats 1000000 in
theorem lawFixSums (a b : Int) (ad : Option Addr) (c : Nat) (L : List Int) (w : World)
    (hrow : (ad = none ∧ c = 0 ∧ L = []) ∨ ∃ x, ad = some x ∧ ∀ j z, L[j]? = some z → w.cell? (x.add j) = some (.int .i64 z)) (hmax : L.length ≤ maxLen) :
    Calls Try.prog 3 #[.int .i64 a, .int .i64 b, .slice ad L.length c] w fun e w' => e = .returned (.bool true) ∧ Below w.heap.size w w' := by
  unfold maxLen at hmax
  by_cases hlen : L.length ≤ 10000
  · have hl : decide ((10000 : Int) < (L.length : Int)) = false := by simp; omega
    have hrd : RdI w ad L := by
      rcases hrow with ⟨_, _, rfl⟩ | ⟨x, rfl, hx⟩
      · exact Or.inl rfl
      · rcases Nat.eq_zero_or_pos L.length with h0 | h0
        · exact Or.inl (List.eq_nil_of_length_eq_zero h0)
        · right
          obtain ⟨bb, off, spot⟩ := x
          have hc := hx 0 _ (List.getElem?_eq_getElem h0)
          have hspot : spot = none := by simpa [Addr.add] using World.cell?_spot hc
          subst hspot
          refine ⟨bb, off, rfl, fun k z hz => ?_⟩
          have := hx k z hz
          by_cases h : k = 0
          · subst h; simpa [Addr.add] using this
          · simpa [Addr.add, h] using this
    have HR := Lib.hid hrow
    have HD := Lib.hid hrd
    clear hrow hrd
    go_enter Try.func3, Try.ntmps3
    go_wp2_with fail
    refine (fixAdd_any _ _ _).mono ?_; rintro e w' ⟨rfl, rfl⟩
    go_wp2_with fail
    refine (refAdd_any _ _ _).mono ?_; rintro e w' ⟨rfl, rfl⟩
    go_wp2_with fail
    refine (fixSub_any _ _ _).mono ?_; rintro e w' ⟨rfl, rfl⟩
    go_wp2_with fail
    refine (refSub_any _ _ _).mono ?_; rintro e w' ⟨rfl, rfl⟩
    go_wp2_with fail
    refine (answers_any _).mono ?_; rintro e w' ⟨rfl, k1, rfl⟩
    go_wp2_with fail
    refine (same_refl _ _ _).mono ?_; rintro e w' ⟨rfl, rfl⟩
    go_wp2_with fail
    refine (same_refl _ _ _).mono ?_; rintro e w' ⟨rfl, rfl⟩
    go_wp2_with fail
    refine (fixFits_any _ _).mono ?_; rintro e w' ⟨rfl, rfl⟩
    go_wp2_with fail
    refine (refFits_any _ _).mono ?_; rintro e w' ⟨rfl, rfl⟩
    go_wp2_with fail
    go_loop [15, 16, 17] (TotRel L) (fun _ _ i => L.length - (intOf i).toNat)
    case atStart => exact ⟨0, 0, 0, Nat.zero_le _, rfl, rfl, rfl, Or.inl ⟨rfl, rfl⟩⟩
    case round =>
      obtain ⟨k, s, e, hk, rfl, rfl, rfl, hs⟩ := hrel
      by_cases hin : k < L.length ∧ e = 0
      · obtain ⟨hlt, rfl⟩ := hin
        have hs := hs.resolve_right (by simp)
        obtain ⟨z, hz⟩ : ∃ z, L[k]? = some z := ⟨_, List.getElem?_eq_getElem hlt⟩
        rcases HD.out with h | ⟨bb, off, rfl, hcell⟩
        · subst h; simp at hlt
        · have hc := hcell k z hz
          have hnext : (addE s z = 0 ∧ sums L 0 = sums (L.drop (k + 1)) (addV s z)) ∨ (addE s z ≠ 0 ∧ addV s z = 0 ∧ sums L 0 = (0, addE s z)) := by
            rw [hs.2, drop_at hz, sums_cons]
            by_cases he : addE s z = 0
            · left; rw [if_pos he]; exact ⟨he, rfl⟩
            · right; rw [if_neg he]; exact ⟨he, addV_of_error he, rfl⟩
          have HN := Lib.hid hnext
          clear hnext hcell hz hs
          go_wp2_with fail
          refine (refAdd_any _ _ _).mono ?_; rintro e w' ⟨rfl, rfl⟩
          go_wp2_with fail
          go_round
          case rel => exact ⟨k + 1, _, _, by omega, by go_num, rfl, rfl, HN.out⟩
          case measure => simp [intOf]; omega
      · have hfin : (e = 0 ∧ sums L 0 = (s, 0)) ∨ ((e != 0) = true ∧ sums L 0 = (0, e)) := by
          rcases hs with ⟨rfl, h⟩ | ⟨h1, rfl, h2⟩
          · left; refine ⟨rfl, ?_⟩
            rw [h, List.drop_of_length_le (by omega)]; rfl
          · right; exact ⟨by simp [h1], h2⟩
        obtain ⟨i0, hi, hz0, hz1, hz2⟩ := info_parts info3
        rcases HR.out with ⟨rfl, rfl, rfl⟩ | ⟨x, rfl, hx⟩
        · obtain rfl : k = 0 := by simpa using hk
          have HI := Lib.hid (And.intro hi (And.intro hz0 (And.intro hz1 hz2)))
          rcases hfin with ⟨rfl, hf⟩ | ⟨he, hf⟩
          · have HF := Lib.hid hf
            clear hf hs hin HR hi hz0 hz1 hz2
            go_wp2_with (at_builtin; refine wpList_append_own_none rfl (.tmp 102) (.tmp 103) 22 rfl w.heap.size 3 i0 1 Try.underlying22 HI.out.1 _ 0 [] rfl (made_own w k1) rfl ?_)
            go_wp2_with fail
            refine (fixSum_at _ 0 [] _ (by simp) (Or.inl rfl)).mono ?_; rintro e w' ⟨rfl, rfl⟩
            rw [HF.out]
            go_wp2_with fail
            refine (same_refl _ _ _).mono ?_; rintro e w' ⟨rfl, rfl⟩
            go_wp2_with fail
            go_ret
            exact ⟨rfl, bel_draws ((Below.refl _ _).alloc (Nat.le_refl _) _) _⟩
          · have HF := Lib.hid hf
            clear hf hs hin HR hi hz0 hz1 hz2
            go_wp2_with (at_builtin; refine wpList_append_own_none rfl (.tmp 102) (.tmp 103) 22 rfl w.heap.size 3 i0 1 Try.underlying22 HI.out.1 _ 0 [] rfl (made_own w k1) rfl ?_)
            go_wp2_with fail
            refine (fixSum_at _ 0 [] _ (by simp) (Or.inl rfl)).mono ?_; rintro e w' ⟨rfl, rfl⟩
            rw [HF.out]
            go_wp2_with fail
            refine (same_refl _ _ _).mono ?_; rintro e w' ⟨rfl, rfl⟩
            go_wp2_with fail
            go_ret
            exact ⟨rfl, bel_draws ((Below.refl _ _).alloc (Nat.le_refl _) _) _⟩
        · have HX := Lib.hid hx
          have HI := Lib.hid (And.intro hi (And.intro hz0 (And.intro hz1 hz2)))
          rcases hfin with ⟨rfl, hf⟩ | ⟨he, hf⟩
          · have hkl : ¬ k < L.length := fun h => hin ⟨h, rfl⟩
            have HF := Lib.hid hf
            clear hf hs hin hx HR hi hz0 hz1 hz2
            go_wp2_with (at_builtin; refine wpList_append_own _ rfl (.tmp 102) (.tmp 103) 22 rfl w.heap.size 3 i0 (.int .i64 0) 1 8 Try.underlying22 HI.out.1 HI.out.2.1 HI.out.2.2.1 HI.out.2.2.2 rfl (by decide) _ 0 [] rfl (made_own w k1) x L.length c (L.map (Value.int .i64)) rfl (by simp) (src_cells w k1 HX.out) (ints_one L) (by unfold maxLen; omega) (by omega) (by simp) ?_)
            intro v' w2 hown hgr _
            obtain ⟨a', c', rfl, hrd'⟩ := own_reads hown
            have hbel := grown_below w k1 hgr
            clear hown hgr
            have HB := Lib.hid hbel
            have HRD := Lib.hid hrd'
            clear hbel hrd'
            go_wp2_with fail
            refine (fixSum_at a' c' L _ hlen HRD.out).mono ?_; rintro e w' ⟨rfl, rfl⟩
            rw [HF.out]
            go_wp2_with fail
            refine (same_refl _ _ _).mono ?_; rintro e w' ⟨rfl, rfl⟩
            go_wp2_with fail
            go_ret
            exact ⟨rfl, HB.out⟩
          · have HF := Lib.hid hf
            have he2 : (e == 0) = false := by simpa using he
            clear hf hs hin hx HR hi hz0 hz1 hz2
            by_cases hkl : k < L.length
            · go_wp2_with (at_builtin; refine wpList_append_own _ rfl (.tmp 102) (.tmp 103) 22 rfl w.heap.size 3 i0 (.int .i64 0) 1 8 Try.underlying22 HI.out.1 HI.out.2.1 HI.out.2.2.1 HI.out.2.2.2 rfl (by decide) _ 0 [] rfl (made_own w k1) x L.length c (L.map (Value.int .i64)) rfl (by simp) (src_cells w k1 HX.out) (ints_one L) (by unfold maxLen; omega) (by omega) (by simp) ?_)
              intro v' w2 hown hgr _
              obtain ⟨a', c', rfl, hrd'⟩ := own_reads hown
              have hbel := grown_below w k1 hgr
              clear hown hgr
              have HB := Lib.hid hbel
              have HRD := Lib.hid hrd'
              clear hbel hrd'
              go_wp2_with fail
              refine (fixSum_at a' c' L _ hlen HRD.out).mono ?_; rintro e w' ⟨rfl, rfl⟩
              rw [HF.out]
              go_wp2_with fail
              refine (same_refl _ _ _).mono ?_; rintro e w' ⟨rfl, rfl⟩
              go_wp2_with fail
              go_ret
              exact ⟨rfl, HB.out⟩
            · go_wp2_with (at_builtin; refine wpList_append_own _ rfl (.tmp 102) (.tmp 103) 22 rfl w.heap.size 3 i0 (.int .i64 0) 1 8 Try.underlying22 HI.out.1 HI.out.2.1 HI.out.2.2.1 HI.out.2.2.2 rfl (by decide) _ 0 [] rfl (made_own w k1) x L.length c (L.map (Value.int .i64)) rfl (by simp) (src_cells w k1 HX.out) (ints_one L) (by unfold maxLen; omega) (by omega) (by simp) ?_)
              intro v' w2 hown hgr _
              obtain ⟨a', c', rfl, hrd'⟩ := own_reads hown
              have hbel := grown_below w k1 hgr
              clear hown hgr
              have HB := Lib.hid hbel
              have HRD := Lib.hid hrd'
              clear hbel hrd'
              go_wp2_with fail
              refine (fixSum_at a' c' L _ hlen HRD.out).mono ?_; rintro e w' ⟨rfl, rfl⟩
              rw [HF.out]
              go_wp2_with fail
              refine (same_refl _ _ _).mono ?_; rintro e w' ⟨rfl, rfl⟩
              go_wp2_with fail
              go_ret
              exact ⟨rfl, HB.out⟩
  · have hl : decide ((10000 : Int) < (L.length : Int)) = true := by simp; omega
    clear hrow
    go_enter Try.func3, Try.ntmps3
    go_wp2_with fail
    refine (fixAdd_any _ _ _).mono ?_; rintro e w' ⟨rfl, rfl⟩
    go_wp2_with fail
    refine (refAdd_any _ _ _).mono ?_; rintro e w' ⟨rfl, rfl⟩
    go_wp2_with fail
    refine (fixSub_any _ _ _).mono ?_; rintro e w' ⟨rfl, rfl⟩
    go_wp2_with fail
    refine (refSub_any _ _ _).mono ?_; rintro e w' ⟨rfl, rfl⟩
    go_wp2_with fail
    refine (answers_any _).mono ?_; rintro e w' ⟨rfl, k1, rfl⟩
    go_wp2_with fail
    refine (same_refl _ _ _).mono ?_; rintro e w' ⟨rfl, rfl⟩
    go_wp2_with fail
    refine (same_refl _ _ _).mono ?_; rintro e w' ⟨rfl, rfl⟩
    go_wp2_with fail
    refine (fixFits_any _ _).mono ?_; rintro e w' ⟨rfl, rfl⟩
    go_wp2_with fail
    refine (refFits_any _ _).mono ?_; rintro e w' ⟨rfl, rfl⟩
    go_wp2_with fail
    refine (answers_any _).mono ?_; rintro e w' ⟨rfl, k2, rfl⟩
    go_wp2_with fail
    go_ret
    exact ⟨rfl, bel_draws (Below.refl _ _) _⟩
end Go.Proofs.Ytgclgifjjdpapaa
