/-
  A dictionary's access is set, by a contract: Lock.
-/
import Derived.Test.YtfilbfenpdaahaaGreatDoorStoDict
namespace Go.Proofs.YtfilbfenpdaahaaGreatDoor
open Go.RowKit
open St
def lockE (G : List (Th × Lay)) (o : Ob) (a : Int) : Int := if tld G o 8 = none then 21 else if 0 ≤ a ∧ a ≤ 3 then 0 else 21
/-- behind a call that may turn the store: the error and nothing, or what it is then -/
def Turn (O : Nat → Prop) (w : World) (s : Nat) (fr : Int) (E : Int) (G' : List (Th × Lay)) (e : Ending) (w' : World) : Prop :=
  e = .returned (.int .i64 E) ∧ ((E ≠ 0 ∧ Below w.heap.size w w') ∨ (E = 0 ∧ Rep O w' s fr G' ∧ Frm O w w'))
def lockR (G : List (Th × Lay)) (o : Ob) (a : Int) : List (Th × Lay) := match tld G o 8 with
  | some t => lockG G t a
  | none => G
theorem lock_same {G : List (Th × Lay)} {t : Nat} {y : Th × Lay} (hy : G[t]? = some y) : lockG G t y.1.acc = G := by
  unfold lockG
  apply List.ext_getElem?
  intro j
  rw [List.getElem?_modify]
  by_cases h : t = j
  · subst h; simp [hy]
  · simp [h]
theorem frm_one {O : Nat → Prop} {w w2 : World} {B j : Nat} {v : Value} (hb : Below w.heap.size w w2) (hO : O B) : Frm O w (w2.setCell ⟨B, j, none⟩ v) :=
  ⟨hb.os, hb.tape, hb.output, by rw [setC_size]; exact hb.size, fun k hk hk2 => (blk_far (fun e => hk2 (by rw [e]; exact hO)) _).trans (hb.block k hk)⟩
set_option maxRecDepth 100000 in
set_option maxHeartbeats 1000000 in
theorem lock_at {O : Nat → Prop} {w : World} {s : Nat} {fr : Int} {G : List (Th × Lay)} (h : Rep O w s fr G) (o : Ob) (a : Int) :
    Calls Tryz.prog 29 #[.pointer (some ⟨s, 0, none⟩), o.val, .int .i64 a] w (Turn O w s fr (lockE G o a) (lockR G o a)) := by
  have h2 := h.below (below1 w (obC o))
  obtain ⟨tv, hv⟩ := Rep.vw h2
  have HT := Lib.hid (told_rep h2 hv o 8)
  have HV := Lib.hid (fun w3 hb => hv.below (w' := w3) hb)
  have HR := Lib.hid (fun w3 hb => h2.below (w' := w3) hb)
  have hle : lockE G o a = if tld G o 8 = none then 21 else if 0 ≤ a ∧ a ≤ 3 then 0 else 21 := rfl
  have hlr : lockR G o a = match tld G o 8 with
    | some t => lockG G t a
    | none => G := rfl
  unfold obC at HT HV HR
  unfold Ob.val at HT ⊢
  cases ht : tld G o 8 with
  | none =>
    rw [ht, if_pos rfl] at hle
    rw [hle]
    rw [ht] at HT
    simp only [thP, Option.map_none] at HT
    clear ht h h2 hv HV HR hle hlr
    go_enter Tryz.func29, Tryz.ntmps29
    go_wp2_with fail
    refine HT.out.mono ?_; rintro e w3 ⟨rfl, hb⟩
    have HB := Lib.hid (bthen (below1 w _) hb)
    clear hb
    go_wp2_with fail
    go_ret
    exact ⟨rfl, .inl ⟨by decide, HB.out⟩⟩
  | some t =>
    rw [ht, if_neg (by simp)] at hle
    rw [ht] at hlr
    simp only at hlr
    rw [ht] at HT
    simp only [thP, Option.map_some] at HT
    obtain ⟨_, _, _, y, hy, _⟩ := tld_bounds h ht
    have HV2 := Lib.hid (fun w3 hb => vw_cells (HV.out w3 hb) hy)
    by_cases ha : 0 ≤ a ∧ a ≤ 3
    · rw [if_pos ha] at hle
      rw [hle, hlr]
      obtain ⟨a0, a3⟩ := ha
      by_cases hac : a = y.1.acc
      · have HS := Lib.hid (fun w3 hb => (by have := HR.out w3 hb; rw [hac, lock_same hy]; exact this : Rep O w3 s fr (lockG G t a)))
        have HAC := Lib.hid hac
        clear ht h h2 hv HV HR hle hlr hy hac
        go_enter Tryz.func29, Tryz.ntmps29
        go_wp2_with fail
        refine HT.out.mono ?_; rintro e w3 ⟨rfl, hb⟩
        obtain ⟨_, _, _, _, _, _, c6⟩ := HV2.out w3 hb
        rw [← HAC.out] at c6
        have HB := Lib.hid (bthen (below1 w _) hb)
        have HS3 := Lib.hid (HS.out w3 hb)
        clear hb
        go_wp2_with fail
        go_ret
        exact ⟨rfl, .inr ⟨rfl, HS3.out, Frm.of_below HB.out⟩⟩
      · have hne : (a != y.1.acc) = true := by simp [hac]
        have HN := Lib.hid (fun w3 hb chs => note_at (g := blkOf tv) (HR.out w3 hb) (HV2.out w3 hb).1 chs)
        have HF := Lib.hid (fun w3 hb => rep_lock (a := a) (HR.out w3 hb) (HV.out w3 hb) hy)
        have HFz := Lib.hid (show ∀ w3 (hb : Below (w.alloc (.cells #[.int .i64 o.kind, .bool o.exec, .int .i64 o.acc, .int .i64 o.n, .string o.name, .int .i64 o.ref, .int .i64 o.frm, .int .i64 o.len] 27)).heap.size (w.alloc (.cells #[.int .i64 o.kind, .bool o.exec, .int .i64 o.acc, .int .i64 o.n, .string o.name, .int .i64 o.ref, .int .i64 o.frm, .int .i64 o.len] 27)) w3), ∀ q, w3.frozen? ⟨blkOf tv, q, none⟩ = false from fun w3 hb q => by
          obtain ⟨tv2, am, cm, ac, cc, ⟨c0, _⟩, hr, _⟩ := (HR.out w3 hb).cells
          rw [(HV.out w3 hb).c0] at c0
          cases c0
          rcases hr with ⟨_, e⟩ | ⟨g, cap, e, _, _, hf, _⟩
          · rw [e] at hy; simp at hy
          · rw [e]; exact hf q)
        clear ht h h2 hv HV HR hle hlr hy hac
        go_enter Tryz.func29, Tryz.ntmps29
        go_wp2_with fail
        refine HT.out.mono ?_; rintro e w3 ⟨rfl, hb⟩
        obtain ⟨_, _, _, _, _, _, c6⟩ := HV2.out w3 hb
        have HN3 := Lib.hid (HN.out w3 hb)
        have HB3 := Lib.hid hb
        clear hb HN
        go_wp2_with fail
        refine (HN3.out _).mono ?_; rintro e w4 ⟨rfl, hb4⟩
        have hbb := bthen HB3.out hb4
        have HB := Lib.hid (bthen (below1 w _) hbb)
        have HF4 := Lib.hid (HF.out w4 hbb)
        clear c6
        obtain ⟨_, _, _, _, _, _, c6⟩ := HV2.out w4 hbb
        have f6 := HFz.out w4 hbb
        clear hb4 hbb
        go_wp2_with fail
        go_ret
        exact ⟨rfl, .inr ⟨rfl, HF4.out.1, frm_one HB.out HF4.out.2⟩⟩
    · rw [if_neg ha] at hle
      rw [hle]
      by_cases ha0 : a < 0
      · clear ht h h2 hv HV HR hle hlr hy ha
        go_enter Tryz.func29, Tryz.ntmps29
        go_wp2_with fail
        refine HT.out.mono ?_; rintro e w3 ⟨rfl, hb⟩
        have HB := Lib.hid (bthen (below1 w _) hb)
        clear hb
        go_wp2_with fail
        go_ret
        exact ⟨rfl, .inl ⟨by decide, HB.out⟩⟩
      · have ha3 : 3 < a := by omega
        clear ht h h2 hv HV HR hle hlr hy ha
        go_enter Tryz.func29, Tryz.ntmps29
        go_wp2_with fail
        refine HT.out.mono ?_; rintro e w3 ⟨rfl, hb⟩
        have HB := Lib.hid (bthen (below1 w _) hb)
        clear hb
        go_wp2_with fail
        go_ret
        exact ⟨rfl, .inl ⟨by decide, HB.out⟩⟩
end Go.Proofs.YtfilbfenpdaahaaGreatDoor
