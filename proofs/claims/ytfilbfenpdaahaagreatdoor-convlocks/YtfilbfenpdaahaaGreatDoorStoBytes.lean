/-
  What a string's part has, by a contract: Bytes.
-/
import Derived.Test.YtfilbfenpdaahaaGreatDoorStoItems2
namespace Go.Proofs.YtfilbfenpdaahaaGreatDoor
open Go.RowKit
open St
/-- the bytes of o's part -/
def bytesR (G : List (Th × Lay)) (o : Ob) : List UInt8 := match tld G o 6 with
  | some t => match G[t]? with
    | some y => (y.1.bytes.drop o.frm.toNat).take o.len.toNat
    | none => []
  | none => []
def BytesP (G : List (Th × Lay)) (o : Ob) (w : World) (e : Ending) (w' : World) : Prop :=
  Below w.heap.size w w' ∧ ((tld G o 6 = none ∧ e = .returned (.tuple #[.slice none 0 0, .int .i64 21])) ∨
    ∃ B, w.heap.size ≤ B ∧ tld G o 6 ≠ none ∧ e = .returned (.tuple #[.slice (some ⟨B, 0, none⟩) (bytesR G o).length (bytesR G o).length, .int .i64 0]) ∧ w'.heap[B]? = some (.cells ((bytesR G o).map bv).toArray 5 (0, 0)))
theorem bytes_len6 {x : Th} (h : x.kind = 6) : x.length = x.bytes.length := by unfold Th.length; rw [if_pos h]
/-- the bytes of a part of a row can be read -/
theorem src_part {O : Nat → Prop} {w : World} {t : Th} {l : Lay} {F L n c : Nat} {a b : Option Addr} (h : ThR O w t l) (e : l.b = .slice a n c) (hF : F + L ≤ t.bytes.length) (hb : L = 0 ∨ ∃ B, a = some ⟨B, 0, none⟩ ∧ b = some ⟨B, F, none⟩) : Src w b ((t.bytes.drop F).take L) := by
  rcases hb with rfl | ⟨B, rfl, rfl⟩
  · exact .inl (by simp)
  · have hr := h.rb
    rw [e] at hr
    obtain ⟨a2, c2, e2⟩ := own_slice hr
    cases e2
    refine .inr ⟨_, rfl, fun j z hz => ?_⟩
    rw [List.getElem?_take] at hz
    split at hz
    · rw [List.getElem?_drop] at hz
      rw [Addr.add_lit, hr.cellAt (F + j) (by omega), List.getElem?_map, hz]; rfl
    · cases hz
theorem clone_part {w2 : World} {part : List UInt8} {L : Nat} (hp : part.length = L) (hL : L ≤ 65535) (a : Option Addr) (c : Nat) (hs : Src w2 a part) :
    Calls Tryz.prog 22 #[.slice a L c] (w2.drewN 1) fun e w' => e = .returned (.slice (some ⟨w2.heap.size, 0, none⟩) L L) ∧ w'.heap[w2.heap.size]? = some (.cells (part.map bv).toArray 5 (0, 0)) ∧ Below w2.heap.size w2 w' := by
  subst hp
  exact (clone_at (w := w2.drewN 1) (hs.below (below_draw (Below.refl _ _) 1)) hL).mono (fun e w' hh => ⟨hh.1, hh.2.1, bthen (below_draw (Below.refl _ _) 1) hh.2.2⟩)
set_option maxRecDepth 100000 in
set_option maxHeartbeats 1000000 in
theorem bytes_at {O : Nat → Prop} {w : World} {s : Nat} {fr : Int} {G : List (Th × Lay)} (h : Rep O w s fr G) (o : Ob) :
    Calls Tryz.prog 10 #[.pointer (some ⟨s, 0, none⟩), o.val] w (BytesP G o w) := by
  have h2 := h.below (below1 w (obC o))
  obtain ⟨tv, hv⟩ := Rep.vw h2
  have HT := Lib.hid (told_rep h2 hv o 6)
  have HBX := Lib.hid (fun w2 hb => box1 (w := w) (w2 := w2) (a := obC o) hb)
  have HR := Lib.hid (fun w3 hb => h2.below (w' := w3) hb)
  have HV := Lib.hid (fun w3 hb => hv.below (w' := w3) hb)
  have hir : bytesR G o = match tld G o 6 with
    | some t => match G[t]? with
      | some y => (y.1.bytes.drop o.frm.toNat).take o.len.toNat
      | none => []
    | none => [] := rfl
  unfold BytesP
  unfold obC at HT HR HV
  simp only [obC] at HBX
  unfold Ob.val at HT ⊢
  cases ht : tld G o 6 with
  | none =>
    rw [ht] at HT
    simp only [thP, Option.map_none] at HT
    clear hir ht h h2 hv HR HV HBX
    go_enter Tryz.func10, Tryz.ntmps10
    go_wp2_with fail
    refine HT.out.mono ?_; rintro e w3 ⟨rfl, hb⟩
    have HB := Lib.hid (bthen (below1 w _) hb)
    clear hb
    go_wp2_with fail
    exact bodyPost_ret (v := .tuple #[.slice none 0 0, .int .i64 21]) (by simp [results, Tryz.results10, go_sem]) rfl ⟨HB.out, .inl ⟨trivial, rfl⟩⟩
  | some t =>
    rw [ht] at HT hir
    simp only [thP, Option.map_some] at HT
    obtain ⟨b1, b2, b3, y, hy, hyk, hyl, hyL⟩ := tld_bounds h ht
    have hil := bytes_len6 hyk
    simp only [hy] at hir
    obtain ⟨L, hL⟩ : ∃ L : Nat, o.len = L := ⟨o.len.toNat, by omega⟩
    obtain ⟨F, hF⟩ : ∃ F : Nat, o.frm = F := ⟨o.frm.toNat, by omega⟩
    rw [hL, hF, Int.toNat_natCast, Int.toNat_natCast] at hir
    have hpl : (bytesR G o).length = L := by rw [hir]; simp; omega
    rw [hpl]
    generalize bytesR G o = part at *
    have HLen := Lib.hid hL
    have HFrm := Lib.hid hF
    have hLb : L ≤ 65535 := by omega
    have hFL : F + L ≤ 65535 := by omega
    have hyL2 : y.1.bytes.length ≤ 65535 := by omega
    have hfi : F + L ≤ y.1.bytes.length := by omega
    have HPL := Lib.hid (And.intro hpl hir)
    have HCell := Lib.hid (show ∀ w4 (hb : Below (w.alloc (.cells #[.int .i64 o.kind, .bool o.exec, .int .i64 o.acc, .int .i64 o.n, .string o.name, .int .i64 o.ref, .int .i64 o.frm, .int .i64 o.len] 27)).heap.size (w.alloc (.cells #[.int .i64 o.kind, .bool o.exec, .int .i64 o.acc, .int .i64 o.n, .string o.name, .int .i64 o.ref, .int .i64 o.frm, .int .i64 o.len] 27)) w4), w4.cell? ⟨blkOf tv, t * 7 + 2, none⟩ = some y.2.b ∧ ThR O w4 y.1 y.2 from fun w4 hb => by
      rcases (HV.out w4 hb).row with ⟨_, e⟩ | ⟨g, cap, e, _, hc⟩
      · rw [e] at hy; simp at hy
      · exact ⟨by rw [e]; exact hc t 2 y hy (by omega), (HR.out w4 hb).row t y hy⟩)
    clear hir ht h h2 hv HR HV hy hyk hL hF b1 b2 b3 hyl hyL hil hpl
    go_enter Tryz.func10, Tryz.ntmps10
    go_wp2_with fail
    refine HT.out.mono ?_; rintro e w2 ⟨rfl, hb⟩
    obtain ⟨_, _, _, _, _, _, o6, o7⟩ := cellsOb (HBX.out w2 hb)
    rw [HLen.out] at o7
    rw [HFrm.out] at o6
    obtain ⟨hcell, hthr⟩ := HCell.out w2 hb
    have HTH := Lib.hid hthr
    have HB2 := Lib.hid hb
    have hix0 : 0 ≤ (F : Int) + (L : Int) := by omega
    rcases hthr.rb.2 with ⟨ei, hn0⟩ | ⟨Bi, ci, cur, ei, _, _, hnc, hcm, _⟩
    · have hF0 : F = 0 := by omega
      have hL0 : L = 0 := by omega
      subst hF0 hL0
      have HK := Lib.hid (clone_part HPL.out.1 (by omega) none 0 (by rw [HPL.out.2]; exact src_part hthr ei (by omega) (.inl rfl)))
      rw [ei] at hcell
      clear hb hthr ei
      go_wp2_with fail
      go_still_tail 11, (by kernel_rfl)
      change wpList _ _ _ _ _ (w2.drewN 1)
      go_wp2_with fail
      refine HK.out.mono ?_; rintro e w3 ⟨rfl, hk3, hb3⟩
      have HB3 := Lib.hid (And.intro hk3 hb3)
      clear hk3 hb3
      go_wp2_with fail
      exact bodyPost_ret (v := .tuple #[.slice (some ⟨w2.heap.size, 0, none⟩) 0 0, .int .i64 0]) (by simp [results, Tryz.results10, go_sem]) rfl ⟨bthen (bthen (below1 w _) HB2.out) HB3.out.2, .inr ⟨w2.heap.size, by have := (bthen (below1 w _) HB2.out).size; omega, by simp, rfl, HB3.out.1⟩⟩
    · have HEI := Lib.hid ei
      rw [ei] at hcell
      unfold maxLen at hcm
      by_cases hcF : ci = F
      · have hL0 : L = 0 := by omega
        subst hL0 hcF
        have HK := Lib.hid (clone_part HPL.out.1 (by omega) (some ⟨Bi, 0, none⟩) 0 (by rw [HPL.out.2]; exact src_part hthr ei (by omega) (.inl rfl)))
        clear hb hthr ei
        go_wp2_with fail
        go_still_tail 11, (by kernel_rfl)
        change wpList _ _ _ _ _ (w2.drewN 1)
        go_wp2_with fail
        refine HK.out.mono ?_; rintro e w3 ⟨rfl, hk3, hb3⟩
        have HB3 := Lib.hid (And.intro hk3 hb3)
        clear hk3 hb3
        go_wp2_with fail
        exact bodyPost_ret (v := .tuple #[.slice (some ⟨w2.heap.size, 0, none⟩) 0 0, .int .i64 0]) (by simp [results, Tryz.results10, go_sem]) rfl ⟨bthen (bthen (below1 w _) HB2.out) HB3.out.2, .inr ⟨w2.heap.size, by have := (bthen (below1 w _) HB2.out).size; omega, by simp, rfl, HB3.out.1⟩⟩
      · have HK := Lib.hid (clone_part HPL.out.1 (by omega) (some ⟨Bi, F, none⟩) (ci - F) (by rw [HPL.out.2]; exact src_part hthr ei (by omega) (.inr ⟨Bi, rfl, rfl⟩)))
        clear hb hthr ei
        go_wp2_with fail
        go_still_tail 11, (by kernel_rfl)
        change wpList _ _ _ _ _ (w2.drewN 1)
        go_wp2_with fail
        refine HK.out.mono ?_; rintro e w3 ⟨rfl, hk3, hb3⟩
        have HB3 := Lib.hid (And.intro hk3 hb3)
        clear hk3 hb3
        go_wp2_with fail
        exact bodyPost_ret (v := .tuple #[.slice (some ⟨w2.heap.size, 0, none⟩) L L, .int .i64 0]) (by simp [results, Tryz.results10, go_sem]) rfl ⟨bthen (bthen (below1 w _) HB2.out) HB3.out.2, .inr ⟨w2.heap.size, by have := (bthen (below1 w _) HB2.out).size; omega, by simp, rfl, HB3.out.1⟩⟩
end Go.Proofs.YtfilbfenpdaahaaGreatDoor
