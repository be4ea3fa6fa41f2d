/-
  The document's Token, whole, and the walk of the law DecTokens.
-/
import Derived.Test.YtaebpjcigajolaaDecTokW2
import Derived.Test.YtaebpjcigajolaaDecTokW4
import Derived.Test.YtaebpjcigajolaaDecTokW5
namespace Go.Proofs.Ytaebpjcigajolaa
open Go.RowKit
open Fx Dc
namespace Dc
theorem find_E (s : ByteArray) (a b : List UInt8) (x : UInt8) (h : s.data.toList = a ++ x :: b) :
    ∃ h : a.length < s.size, s[a.length] = x ∧ (s.extract 0 a.length).data.toList = a ∧ (s.extract (a.length + 1) s.size).data.toList = b := by
  have hl : a.length < s.size := by rw [size_list, h]; simp
  refine ⟨hl, ?_, ?_, ?_⟩
  · have h1 := getElem_of s a.length hl
    rw [h, List.getElem?_append_right (Nat.le_refl _)] at h1
    simp at h1; exact h1.symm
  · rw [ext_to2, h, List.take_left]
  · rw [ext_from2, h, List.drop_append, List.drop_of_length_le (by omega)]; simp
end Dc
theorem refToken_any (s : ByteArray) (hs : s.size ≤ 3000) (w : World) : Calls Try.prog 26 #[.string s] w (TokPost (tokR s.data.toList) w) := by
  by_cases h64 : s.size ≤ 64
  · by_cases hc : rxC s.data.toList
    · exact refToken_rx s h64 hc w
    · rw [tok_plain (by rw [← size_list]; exact h64) hc]
      cases ho : whoO s.data.toList with
      | some m =>
        have e : tokP s.data.toList = (1, m, true, 0) := by unfold tokP; rw [ho]; rfl
        rw [e]; exact refToken_whole s h64 hc m ho w
      | none =>
        rcases split_E s.data.toList with hE | ⟨a, x, b, hab, hx, hE⟩
        · exact refToken_noE s h64 hc ho hE _ (tok_noE ho hE) w
        · obtain ⟨hl, hsx, hya, hPb⟩ := find_E s a b x hab
          obtain ⟨y, hy⟩ : ∃ y : ByteArray, s.extract 0 a.length = y := ⟨_, rfl⟩
          obtain ⟨P, hP⟩ : ∃ P : ByteArray, s.extract (a.length + 1) s.size = P := ⟨_, rfl⟩
          rw [hy] at hya
          rw [hP] at hPb
          have hx2 : s[a.length].toNat = 101 ∨ s[a.length].toNat = 69 := by
            rw [hsx]; rcases hx with rfl | rfl
            · left; rfl
            · right; rfl
          have hw : whoO (a ++ x :: b) = none := by rw [← hab]; exact ho
          have hbad := tok_Ebad hw hx hE
          have hgood := tok_E hw hx hE
          rw [hab]
          rw [← hya] at hgood
          have hEy : noE y.data.toList := by rw [hya]; exact hE
          by_cases h0 : 0 < P.size
          · have hhd := head_byte P h0
            obtain ⟨t, ht⟩ : ∃ t, b = P[0] :: t := by
              rw [hPb] at hhd
              cases b with
              | nil => simp at hhd
              | cons c t => simp at hhd; exact ⟨t, by rw [hhd]⟩
            have htd : t = P.data.toList.drop 1 := by rw [hPb, ht]; rfl
            by_cases h1 : P[0].toNat = 45
            · have e : P[0] = 45 := UInt8.toNat_inj.1 h1
              rw [e] at ht
              have hcl : csL b = P.data.toList.drop 1 := by rw [ht, (cs_minus t).2, htd]
              have hcb : csB b = true := by rw [ht]; exact (cs_minus t).1
              rw [hcl] at hbad
              rw [hcl, hcb] at hgood
              exact refToken_minus s y P a.length h64 hc ho hl hx2 hy hP hEy _ h0 h1 hbad (by rw [hya] at hgood ⊢; exact hgood) w
            · by_cases h2 : P[0].toNat = 43
              · have e : P[0] = 43 := UInt8.toNat_inj.1 h2
                rw [e] at ht
                have hcl : csL b = P.data.toList.drop 1 := by rw [ht, (cs_plus t).2, htd]
                have hcb : csB b = false := by rw [ht]; exact (cs_plus t).1
                rw [hcl] at hbad
                rw [hcl, hcb] at hgood
                exact refToken_plus s y P a.length h64 hc ho hl hx2 hy hP hEy _ h0 h2 hbad (by rw [hya] at hgood ⊢; exact hgood) w
              · have hcs := cs_other (c := P[0]) (t := t) (fun e => h1 (by rw [e]; rfl)) (fun e => h2 (by rw [e]; rfl))
                have hcl : csL b = P.data.toList := by rw [ht, hcs.2, hPb, ht]
                have hcb : csB b = false := by rw [ht]; exact hcs.1
                rw [hcl] at hbad
                rw [hcl, hcb] at hgood
                exact refToken_none s y P a.length h64 hc ho hl hx2 hy hP hEy _ h0 h1 h2 hbad (by rw [hya] at hgood ⊢; exact hgood) w
          · have hPn : P.data.toList = [] := List.eq_nil_of_length_eq_zero (by rw [← size_list]; omega)
            have hb0 : b = [] := by rw [← hPb]; exact hPn
            have hcl : csL b = P.data.toList := by rw [hb0, hPn]; rfl
            have hcb : csB b = false := by rw [hb0]; rfl
            rw [hcl] at hbad
            rw [hcl, hcb] at hgood
            exact refToken_empty s y P a.length h64 hc ho hl hx2 hy hP hEy _ (by omega) hbad (by rw [hya] at hgood ⊢; exact hgood) w
  · have e : tokR s.data.toList = (0, 0, false, 0) := by unfold tokR; rw [if_pos (by rw [← size_list]; omega)]
    rw [e]; exact refToken_long s (by omega) hs w
def tokX (w : World) (k n : Int) : World := w.alloc (Obj.cells #[.int .i64 k, .int .i64 n, .string ⟨#[]⟩] 25)
theorem tokX_cells {w w' : World} (k n : Int) (hb : Below (tokX w k n).heap.size (tokX w k n) w') : w'.cell? ⟨w.heap.size, 0, none⟩ = some (.int .i64 k) ∧ w'.cell? ⟨w.heap.size, 1, none⟩ = some (.int .i64 n) ∧ w'.cell? ⟨w.heap.size, 2, none⟩ = some (.string ⟨#[]⟩) := by
  have hs : (tokX w k n).heap.size = w.heap.size + 1 := by simp [tokX]
  refine ⟨?_, ?_, ?_⟩ <;> (rw [(bcell hb).1 _ _ (by omega)]; unfold tokX; simp [go_sem])
theorem tokX_below {w w' : World} (hb : Below w.heap.size w w') (k n : Int) : Below w.heap.size w (tokX w' k n) := hb.alloc hb.size _
end Go.Proofs.Ytaebpjcigajolaa
