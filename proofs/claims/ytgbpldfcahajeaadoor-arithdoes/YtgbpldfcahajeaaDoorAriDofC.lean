/-
  ArithDoes where the operands are just so many (made by gendoes.py).
-/
import Derived.Test.YtgbpldfcahajeaaDoorAriDoi
namespace Go.Proofs.YtgbpldfcahajeaaDoor
open Go.RowKit
open Fx
namespace Ari
set_option maxHeartbeats 2000000 in
set_option maxRecDepth 100000 in
theorem full2ok (nm : ByteArray) (hk : OpsN nm 2) (ad : Addr) (a0 a1 : Ob) (cap : Nat) (r : Out) (w : World) (h1 : nm.size ≤ 1000) (hs : SrcO w (some ad) [a0, a1]) (HD : ∀ W v, SLO W v [a0, a1] → SinT W → Calls Tryd.prog 10 #[.string nm, v] W fun e w' => DoP W r e w')
    (HA : ∀ W v, SLV W v [a0, a1] → Calls Tryd.prog 12 #[.string nm, v] W fun e w' => RefO W r e w') (hT : SinT w) (hr : r.e = 0) : Calls Tryd.prog 3 #[.string nm, .slice (some ad) 2 cap] w fun e w' => e = .returned (.bool true) ∧ Below w.heap.size w w' := by
  have hA := fun W => answers_at W
  obtain ⟨hK, hN⟩ := hk
  have HS := Lib.hid hs
  have HT := Lib.hid hT
  have HDO := Lib.hid HD
  have HAR := Lib.hid HA
  have HR := Lib.hid hr
  have hV := val_at a0
  have hV1 := val_at a1
  unfold Ob.val Ob.vl at *
  clear hT HD hs HA hr
  go_enter Tryd.func3, Tryd.ntmps3
  go_wp2_with fail
  refine (hK _).mono ?_; rintro e w1 ⟨rfl, rfl⟩
  go_wp2_with fail
  refine (hA _).mono ?_; rintro e w2 ⟨rfl, hb2⟩
  have HB2 := Lib.hid hb2
  have HS2 := Lib.hid (HS.out.below hb2)
  clear hb2
  go_wp2_with fail
  refine (hN _).mono ?_; rintro e w3 ⟨rfl, rfl⟩
  obtain ⟨v3, w3, hr3, hrow3, hg3, hi3⟩ := SLO.append (freshO w2) (HS2.out.below (below1 _ _)) (fun e => by cases e) (show ([] : List Ob).length + [a0, a1].length ≤ 100000 by simp) 22
  have HR3 := Lib.hid (show SLO w3 v3 [a0, a1] by simpa using hrow3)
  have HB3 := Lib.hid (show Below w2.heap.size w2 w3 from (below1 w2 _).grown hg3 (by simp) (fun k hk => by simp [Value.ownBlock] at hk; omega))
  have HRn := Lib.hid hr3
  clear hrow3 hg3 hi3 hr3
  go_wp2_with (at_builtin; refine wpList_append_run8 rfl (.tmp 56) (.tmp 57) 22 22 22 v3 rfl rfl _ _ rfl rfl HRn.out ?_)
  refine (HDO.out _ _ HR3.out ((HT.out.below HB2.out).below HB3.out)).mono ?_; rintro e w4 hD
  obtain ⟨bk, hbk, rfl, hcs⟩ := hD.ok HR.out
  have HC4 := Lib.hid hcs
  have hk4 : bk < w4.heap.size := (Array.getElem?_eq_some_iff.1 hcs).1
  clear hcs hbk
  have HS4 := Lib.hid (((HS2.out.below HB3.out)).below hD.below)
  have HB4 := Lib.hid (bthen (bthen HB2.out HB3.out) hD.below)
  clear hD
  obtain ⟨o0, o1, o2, o3, o4, o5, o6, o7⟩ := src_one HS4.out
  have hlt := World.block_lt_of_cell? w4 _ o0
  go_wp2_with fail
  refine wp_loop_rounds 4 ?_
  rw [rounds_succ]
  go_wp2_with fail
  refine (hV _).mono ?_; rintro e w5 ⟨rfl, hb5⟩
  have HC5 := Lib.hid ((hb5.block _ hk4).trans HC4.out)
  have hk5 : bk < w5.heap.size := Nat.lt_of_lt_of_le hk4 hb5.size
  have HB5 := Lib.hid (bthen HB4.out hb5)
  have HS5 := Lib.hid (HS4.out.below hb5)
  clear hb5 o0 o1 o2 o3 o4 o5 o6 o7 hlt
  obtain ⟨v6, w6, hr6, hrow6, hg6, hi6⟩ := SLV.append (c := 1) (SLV.nil _) (srcV_new w5 a0) (fun e => by cases e) (show ([] : List Ob).length + [a0].length ≤ 100000 by simp) 30
  have HR6 := Lib.hid (show SLV w6 v6 [a0] by simpa using hrow6)
  have HQ6 := Lib.hid (show Below w5.heap.size w5 w6 from (below1 w5 _).grown hg6 (by simp) (fun k hk => by simp [Value.ownBlock] at hk))
  have HO6 := Lib.hid (ho_new hi6)
  have HRn6 := Lib.hid hr6
  clear hrow6 hg6 hi6 hr6
  go_wp2_with (at_builtin; refine wpList_append_run8 rfl (.tmp 82) (.tmp 88) 30 30 30 v6 rfl rfl _ _ rfl rfl HRn6.out ?_)
  have HB6 := Lib.hid (bthen HB5.out HQ6.out)
  have HS6 := Lib.hid (HS5.out.below HQ6.out)
  have HC6 := Lib.hid ((HQ6.out.block _ hk5).trans HC5.out)
  have hk6 : bk < w6.heap.size := Nat.lt_of_lt_of_le hk5 HQ6.out.size
  obtain ⟨o0, o1, o2, o3, o4, o5, o6, o7⟩ := src_twoB HS6.out
  have hlt := World.block_lt_of_cell? w6 _ o0
  rw [rounds_succ]
  go_wp2_with fail
  refine (hV1 _).mono ?_; rintro e w7 ⟨rfl, hb7⟩
  have HC7 := Lib.hid ((hb7.block _ hk6).trans HC6.out)
  have hk7 : bk < w7.heap.size := Nat.lt_of_lt_of_le hk6 hb7.size
  have HRo7 := Lib.hid (HR6.out.below hb7)
  have HB7 := Lib.hid (bthen HB6.out hb7)
  have HP7 := Lib.hid hb7
  have HS7 := Lib.hid (HS6.out.below hb7)
  clear hb7 o0 o1 o2 o3 o4 o5 o6 o7 hlt
  obtain ⟨v8, w8, hr8, hrow8, hg8, hi8⟩ := SLV.append (c := 1) (HRo7.out.below (below1 _ _)) (srcV_new w7 a1) (fun e => by cases e) (show ([a0] : List Ob).length + [a1].length ≤ 100000 by simp) 30
  have HR8 := Lib.hid (show SLV w8 v8 [a0, a1] by simpa using hrow8)
  have HQ8 := Lib.hid (show Below w5.heap.size w5 w8 from (bthen (bthen HQ6.out HP7.out) (below1 w7 _)).grown hg8 (by have := HQ6.out.size; have := HP7.out.size; simp; omega) (fun k hk => HO6.out k hk))
  have HRn8 := Lib.hid hr8
  clear hrow8 hg8 hi8 hr8
  go_wp2_with (at_builtin; refine wpList_append_run8 rfl (.tmp 82) (.tmp 88) 30 30 30 v8 rfl rfl _ _ rfl rfl HRn8.out ?_)
  have HB8 := Lib.hid (bthen HB5.out HQ8.out)
  have HC8 := Lib.hid ((HQ8.out.block _ hk5).trans HC5.out)
  have hk8 : bk < w8.heap.size := Nat.lt_of_lt_of_le hk5 HQ8.out.size
  rw [rounds_succ]
  go_wp2_with fail
  refine (HAR.out _ _ HR8.out).mono ?_; rintro e w9 hF
  obtain ⟨bq, hbq, rfl, hcq⟩ := hF.ok HR.out
  have HC9 := (hF.below.block _ hk8).trans HC8.out
  have HB9 := Lib.hid (bthen HB8.out hF.below)
  have p9 := fun o => blk_cell HC9 o
  have q9 := fun o => blk_cell hcq o
  clear hF hcq HC9 hbq
  go_wp2_with fail
  refine wp_loop_rounds 3 ?_
  rw [rounds_succ]
  go_wp2_with fail
  go_quiet (fail)
  go_wp2_with fail
  rw [rounds_succ]
  go_wp2_with fail
  go_ret
  exact ⟨rfl, below_draw HB9.out _⟩
end Ari
end Go.Proofs.YtgbpldfcahajeaaDoor
