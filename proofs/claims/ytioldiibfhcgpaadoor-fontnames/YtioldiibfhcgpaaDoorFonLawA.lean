/-
  What a program that does nothing does not answer; the walks of FontWidths and FontEven.
-/
import Derived.Test.YtioldiibfhcgpaaDoorFonRef
namespace Go.Proofs.YtioldiibfhcgpaaDoor
open Go.RowKit
namespace Fo
theorem fonAns_at (w : World) (ht : NmT w) : Calls Tryd.prog 7 #[] w fun e w' => e = .returned (.bool true) ∧ Below w.heap.size w w' := by
  have HW := Lib.hid (width_at 4 65 (by omega) w ht)
  rw [show wid 4 65 = 667 from rfl] at HW
  have HN := Lib.hid (fun (v : World) (h : NmT v) => name_at 0 (by omega) v h)
  rw [show nmS 0 = ⟨#[67, 111, 117, 114, 105, 101, 114]⟩ from rfl] at HN
  have HT := Lib.hid ht
  clear ht
  go_enter Tryd.func7, Tryd.ntmps7
  go_wp2_with fail
  refine HW.out.mono ?_; rintro e w1 ⟨rfl, hb1⟩
  have HT1 := Lib.hid (HT.out.below hb1)
  have HB1 := Lib.hid hb1
  clear hb1
  go_wp2_with fail
  refine (HN.out _ HT1.out).mono ?_; rintro e w2 ⟨rfl, rfl⟩
  go_wp2_with fail
  go_ret
  exact ⟨rfl, HB1.out⟩
theorem wd_walk (i c : Int) (hc : 0 ≤ c ∧ c < 256) (w : World) (ht : NmT w) : Calls Tryd.prog 3 #[.int .i64 i, .int .u8 c] w fun e w' => e = .returned (.bool true) ∧ Below w.heap.size w w' := by
  have HA := Lib.hid (fonAns_at w ht)
  have HW := Lib.hid (fun (v : World) (h : NmT v) => width_at i c hc v h)
  have HR := Lib.hid (fun (v : World) => refWidth_at i c hc v)
  have HT := Lib.hid ht
  generalize wid i c = r at *
  clear ht hc
  go_enter Tryd.func3, Tryd.ntmps3
  go_wp2_with fail
  refine HA.out.mono ?_; rintro e w1 ⟨rfl, hb1⟩
  have HT1 := Lib.hid (HT.out.below hb1)
  have HB1 := Lib.hid hb1
  clear hb1
  go_wp2_with fail
  refine (HW.out _ HT1.out).mono ?_; rintro e w2 ⟨rfl, hb2⟩
  have HB2 := Lib.hid (bthen HB1.out hb2)
  clear hb2
  go_wp2_with fail
  refine (HR.out _).mono ?_; rintro e w3 ⟨rfl, rfl⟩
  go_wp2_with fail
  go_ret
  exact ⟨rfl, HB2.out⟩
theorem even_pair : wdL (fno 0) = wdL (fno 2) ∧ wdL (fno 1) = wdL (fno 3) ∧ wdL (fno 4) = wdL (fno 6) ∧ wdL (fno 5) = wdL (fno 7) := ⟨rfl, rfl, rfl, rfl⟩
theorem wid_same {i j : Int} (h : wdL (fno i) = wdL (fno j)) (c : Int) : wid i c = wid j c := by unfold wid; rw [h]
theorem wid_six (c : Int) (h1 : 32 ≤ c) (h2 : c ≤ 126) : wid 0 c = 600 ∧ wid 3 c = 600 := by
  have e : ∀ k : Nat, k < 95 → (List.replicate 95 (600 : Int)).getD k 0 = 600 := fun k hk => by rw [List.getD_eq_getElem?_getD, List.getElem?_replicate_of_lt hk]; rfl
  rw [wid_in 0 c h1 h2, wid_in 3 c h1 h2]
  exact ⟨e _ (by omega), e _ (by omega)⟩
def EvR (w : World) (i : Value) (w' : World) : Prop := ∃ k : Nat, k ≤ 2 ∧ i = .int .i64 k ∧ Below w.heap.size w w'
/-- Width, wherever the names lie -/
def WdC (i c r : Int) : Prop := ∀ v : World, NmT v → Calls Tryd.prog 8 #[.int .i64 i, .int .u8 c] v fun e w' => e = .returned (.int .i64 r) ∧ Below v.heap.size v w'
theorem wdc (i c : Int) (hc : 0 ≤ c ∧ c < 256) : WdC i c (wid i c) := fun v h => width_at i c hc v h
theorem wdc_pair (c : Int) (hc : 0 ≤ c ∧ c < 256) (k : Nat) (hk : k < 2) : ∃ r q, WdC k c r ∧ WdC ((k : Int) + 2) c r ∧ WdC (4 + (k : Int)) c q ∧ WdC (6 + (k : Int)) c q := by
  obtain ⟨h0, h1, h2, h3⟩ := even_pair
  match k, hk with
  | 0, _ => exact ⟨_, _, wdc 0 c hc, by rw [wid_same h0]; exact wdc 2 c hc, wdc 4 c hc, by rw [wid_same h2]; exact wdc 6 c hc⟩
  | 1, _ => exact ⟨_, _, wdc 1 c hc, by rw [wid_same h1]; exact wdc 3 c hc, wdc 5 c hc, by rw [wid_same h3]; exact wdc 7 c hc⟩
set_option maxRecDepth 100000 in
set_option maxHeartbeats 1000000 in
theorem ev_walk (c d : Int) (hc : 0 ≤ c ∧ c < 256) (hd : 0 ≤ d ∧ d < 256) (w : World) (ht : NmT w) : Calls Tryd.prog 6 #[.int .u8 c, .int .u8 d] w fun e w' => e = .returned (.bool true) ∧ Below w.heap.size w w' := by
  have HT := Lib.hid ht
  have HC := Lib.hid hc
  have HD := Lib.hid hd
  clear ht hc hd
  go_enter Tryd.func6, Tryd.ntmps6
  go_upto_region 1 with fail
  go_cut [5] (fun b wx => b = .bool (decide (32 ≤ c) && decide (c ≤ 126) && decide (32 ≤ d) && decide (d ≤ 126)) ∧ w = wx)
  case first =>
    go_wp2_with fail
    all_goals go_meet
    all_goals exact ⟨by congr 1; simp <;> omega, rfl⟩
  case rest =>
    obtain ⟨rfl, rfl⟩ := hcut
    obtain ⟨b, hb⟩ : ∃ b, (decide (32 ≤ c) && decide (c ≤ 126) && decide (32 ≤ d) && decide (d ≤ 126)) = b := ⟨_, rfl⟩
    rw [hb]
    have HBB := Lib.hid hb
    clear hb
    go_wp2_with fail
    go_loopw [6] (EvR w) (fun i _ => 2 - (intOf i).toNat)
    case atStart => exact ⟨0, by omega, rfl, Below.refl _ _⟩
    case round =>
      obtain ⟨k, hk, rfl, hbel⟩ := hrel
      have HT1 := Lib.hid (HT.out.below hbel)
      have HB := Lib.hid hbel
      clear hbel
      by_cases hlt : k < 2
      · obtain ⟨r, q, c1, c2, c3, c4⟩ := wdc_pair c HC.out k hlt
        have h1 := Lib.hid c1
        have h2 := Lib.hid c2
        have h3 := Lib.hid c3
        have h4 := Lib.hid c4
        have hlt' : (k : Int) < 2 := by omega
        have hk0 : (0 : Int) ≤ k := by omega
        clear c1 c2 c3 c4
        go_wp2_with fail
        refine (h1.out _ HT1.out).mono ?_; rintro e w1 ⟨rfl, hb1⟩
        have HT2 := Lib.hid (HT1.out.below hb1)
        have HB2 := Lib.hid (bthen HB.out hb1)
        clear hb1
        go_wp2_with fail
        refine (h2.out _ HT2.out).mono ?_; rintro e w2 ⟨rfl, hb2⟩
        have HT3 := Lib.hid (HT2.out.below hb2)
        have HB3 := Lib.hid (bthen HB2.out hb2)
        clear hb2
        go_wp2_with fail
        refine (h3.out _ HT3.out).mono ?_; rintro e w3 ⟨rfl, hb3⟩
        have HT4 := Lib.hid (HT3.out.below hb3)
        have HB4 := Lib.hid (bthen HB3.out hb3)
        clear hb3
        go_wp2_with fail
        refine (h4.out _ HT4.out).mono ?_; rintro e w4 ⟨rfl, hb4⟩
        have HB5 := Lib.hid (bthen HB4.out hb4)
        clear hb4
        go_wp2_with fail
        go_roundw
        case rel => exact ⟨k + 1, by omega, by congr 1, HB5.out⟩
        case measure => simp [intOf]; omega
      · obtain rfl : k = 2 := by omega
        have HA := Lib.hid (fonAns_at wr HT1.out)
        cases b with
        | false =>
          go_wp2_with fail
          refine HA.out.mono ?_; rintro e w1 ⟨rfl, hb1⟩
          have HB1 := Lib.hid (bthen HB.out hb1)
          clear hb1
          go_wp2_with fail
          go_ret
          exact ⟨rfl, HB1.out⟩
        | true =>
          obtain ⟨e1, e2⟩ : wid 0 c = 600 ∧ wid 3 d = 600 := by
            have := HBB.out
            simp at this
            exact ⟨(wid_six c (by omega) (by omega)).1, (wid_six d (by omega) (by omega)).2⟩
          have h1 := wdc 0 c HC.out
          have h2 := wdc 3 d HD.out
          rw [e1] at h1
          rw [e2] at h2
          have H1 := Lib.hid h1
          have H2 := Lib.hid h2
          clear e1 e2 h1 h2
          go_wp2_with fail
          refine HA.out.mono ?_; rintro e w1 ⟨rfl, hb1⟩
          have HT2 := Lib.hid (HT1.out.below hb1)
          have HB2 := Lib.hid (bthen HB.out hb1)
          clear hb1
          go_wp2_with fail
          refine (H1.out _ HT2.out).mono ?_; rintro e w2 ⟨rfl, hb2⟩
          have HT3 := Lib.hid (HT2.out.below hb2)
          have HB3 := Lib.hid (bthen HB2.out hb2)
          clear hb2
          go_wp2_with fail
          refine (H2.out _ HT3.out).mono ?_; rintro e w3 ⟨rfl, hb3⟩
          have HT4 := Lib.hid (HT3.out.below hb3)
          have HB4 := Lib.hid (bthen HB3.out hb3)
          clear hb3
          go_wp2_with fail
          refine (H1.out _ HT4.out).mono ?_; rintro e w4 ⟨rfl, hb4⟩
          have HB5 := Lib.hid (bthen HB4.out hb4)
          clear hb4
          go_wp2_with fail
          go_ret
          exact ⟨rfl, HB5.out⟩
end Fo
end Go.Proofs.YtioldiibfhcgpaaDoor
