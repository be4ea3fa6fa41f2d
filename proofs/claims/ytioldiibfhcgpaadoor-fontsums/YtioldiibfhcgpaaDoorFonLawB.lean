/-
  The walk of FontSums.
-/
import Derived.Test.YtioldiibfhcgpaaDoorFonLawA
import Derived.Test.YtioldiibfhcgpaaDoorFonSum
namespace Go.Proofs.YtioldiibfhcgpaaDoor
open Go.RowKit
namespace Fo
/-- font's Sum of these bytes, where they lie so -/
def SmC (i : Int) (a : Option Addr) (l : List UInt8) (n c : Nat) (v : Int) : Prop := ∀ u : World, NmT u → Src u a l → Calls Tryd.prog 14 #[.int .i64 i, .slice a n c] u fun e w' => e = .returned (.int .i64 v) ∧ Below u.heap.size u w'
def RmC (i : Int) (a : Option Addr) (l : List UInt8) (n c : Nat) (v : Int) : Prop := ∀ u : World, Src u a l → Calls Tryd.prog 15 #[.int .i64 i, .slice a n c] u fun e w' => e = .returned (.int .i64 v) ∧ u = w'
theorem smc (i : Int) (a : Option Addr) (l : List UInt8) (n c : Nat) (v : Int) (hn : l.length = n) (hl : n ≤ 6000) (hv : sumL i l = v) : SmC i a l n c v := by
  subst hn hv
  exact fun u ht hs => sum_at i a l c hl u ht hs
theorem rmc (i : Int) (a : Option Addr) (l : List UInt8) (n c : Nat) (v : Int) (hn : l.length = n) (hl : n ≤ 6000) (hv : sumL i l = v) : RmC i a l n c v := by
  subst hn hv
  exact fun u hs => refSum_at i a l c hl u hs
set_option maxRecDepth 100000 in
theorem sums_far (i : Int) (a b : Option Addr) (l m : List UInt8) (c d : Nat) (h : 3000 < l.length ∨ 3000 < m.length) (w : World) (ht : NmT w) :
    Calls Tryd.prog 5 #[.int .i64 i, .slice a l.length c, .slice b m.length d] w fun e w' => e = .returned (.bool true) ∧ Below w.heap.size w w' := by
  have HA := Lib.hid (fonAns_at w ht)
  clear ht
  by_cases h1 : 3000 < l.length
  · have h1' : (3000 : Int) < l.length := by omega
    go_enter Tryd.func5, Tryd.ntmps5
    go_wp2_with fail
    refine HA.out.mono ?_; rintro e w1 ⟨rfl, hb1⟩
    have HB1 := Lib.hid hb1
    clear hb1
    go_wp2_with fail
    go_ret
    exact ⟨rfl, HB1.out⟩
  · have h2 : 3000 < m.length := by omega
    have h2' : (3000 : Int) < m.length := by omega
    go_enter Tryd.func5, Tryd.ntmps5
    go_wp2_with fail
    refine HA.out.mono ?_; rintro e w1 ⟨rfl, hb1⟩
    have HB1 := Lib.hid hb1
    clear hb1
    go_wp2_with fail
    go_ret
    exact ⟨rfl, HB1.out⟩
set_option maxRecDepth 100000 in
set_option maxHeartbeats 1000000 in
theorem sums_near (i : Int) (a b : Option Addr) (l m : List UInt8) (c d : Nat) (hl : l.length ≤ 3000) (hm : m.length ≤ 3000) (w : World) (ht : NmT w) (ha : Src w a l) (hc : a = none → c = 0) (hb : Src w b m) (hd : b = none → d = 0) :
    Calls Tryd.prog 5 #[.int .i64 i, .slice a l.length c, .slice b m.length d] w fun e w' => e = .returned (.bool true) ∧ Below w.heap.size w w' := by
  obtain ⟨v1, w1, r1, g, k, w2, r2, s2, bl2⟩ := catted ha hc hb hd hl hm 32 32
  obtain ⟨v3, w3, r3, g2, k2, w4, r4, s4, bl4⟩ := catted (hb.below bl2) hd (ha.below bl2) hc hm hl 32 32
  obtain ⟨A, hA⟩ : ∃ A, sumL i l = A := ⟨_, rfl⟩
  obtain ⟨B, hB⟩ : ∃ B, sumL i m = B := ⟨_, rfl⟩
  have bA := sumL_bd i l
  have bB := sumL_bd i m
  rw [hA] at bA
  rw [hB] at bB
  have cA := Lib.hid (smc i a l l.length c A rfl (by omega) hA)
  have cB := Lib.hid (smc i b m m.length d B rfl (by omega) hB)
  have cAB := Lib.hid (smc i (some ⟨g, 0, none⟩) (l ++ m) (l ++ m).length k (A + B) rfl (by rw [List.length_append]; omega) (by rw [sumL_append, hA, hB]))
  have rAB := Lib.hid (rmc i (some ⟨g, 0, none⟩) (l ++ m) (l ++ m).length k (A + B) rfl (by rw [List.length_append]; omega) (by rw [sumL_append, hA, hB]))
  have cBA := Lib.hid (smc i (some ⟨g2, 0, none⟩) (m ++ l) (m ++ l).length k2 (A + B) rfl (by rw [List.length_append]; omega) (by rw [sumL_append, hA, hB]; omega))
  have A0 : 0 ≤ A := bA.1
  have A1 : A ≤ 3045000 := by omega
  have B0 : 0 ≤ B := bB.1
  have B1 : B ≤ 3045000 := by omega
  have HT4 := Lib.hid ((ht.below bl2).below bl4)
  have HB4 := Lib.hid (bthen bl2 bl4)
  have HSa := Lib.hid ((ha.below bl2).below bl4)
  have HSb := Lib.hid ((hb.below bl2).below bl4)
  have HS2 := Lib.hid (s2.below bl4)
  have HS4 := Lib.hid s4
  have R1 := Lib.hid r1
  have R2 := Lib.hid r2
  have R3 := Lib.hid r3
  have R4 := Lib.hid r4
  have HA := Lib.hid (fun (v : World) (h : NmT v) => fonAns_at v h)
  have hl' : (l.length : Int) ≤ 3000 := by omega
  have hm' : (m.length : Int) ≤ 3000 := by omega
  generalize (l ++ m).length = n1 at *
  generalize (m ++ l).length = n2 at *
  clear ht ha hc hb hd r1 r2 r3 r4 s2 s4 bl2 bl4 bA bB hA hB
  go_enter Tryd.func5, Tryd.ntmps5
  go_wp2_with (at_builtin; first | (refine wpList_append_run rfl (.tmp 19) (.tmp 20) 32 32 (v1) rfl rfl _ _ rfl rfl R1.out ?_) | (refine wpList_append_run rfl (.tmp 21) (.tmp 22) 32 32 (.slice (some ⟨g, 0, none⟩) n1 k) rfl rfl _ _ rfl rfl R2.out ?_) | (refine wpList_append_run rfl (.tmp 24) (.tmp 25) 32 32 (v3) rfl rfl _ _ rfl rfl R3.out ?_) | (refine wpList_append_run rfl (.tmp 26) (.tmp 27) 32 32 (.slice (some ⟨g2, 0, none⟩) n2 k2) rfl rfl _ _ rfl rfl R4.out ?_))
  clear R1 R2 R3 R4
  refine (cAB.out _ HT4.out HS2.out).mono ?_; rintro e w5 ⟨rfl, hb5⟩
  have HB5 := Lib.hid (bthen HB4.out hb5)
  have HT5 := Lib.hid (HT4.out.below hb5)
  have Sa5 := Lib.hid (HSa.out.below hb5)
  have Sb5 := Lib.hid (HSb.out.below hb5)
  have S25 := Lib.hid (HS2.out.below hb5)
  have S45 := Lib.hid (HS4.out.below hb5)
  clear hb5 HB4 HT4 HSa HSb HS2 HS4
  go_wp2_with fail
  refine (HA.out _ HT5.out).mono ?_; rintro e w6 ⟨rfl, hb6⟩
  have HB6 := Lib.hid (bthen HB5.out hb6)
  have HT6 := Lib.hid (HT5.out.below hb6)
  have Sa6 := Lib.hid (Sa5.out.below hb6)
  have Sb6 := Lib.hid (Sb5.out.below hb6)
  have S26 := Lib.hid (S25.out.below hb6)
  have S46 := Lib.hid (S45.out.below hb6)
  clear hb6 HB5 HT5 Sa5 Sb5 S25 S45
  go_wp2_with fail
  refine (rAB.out _ S26.out).mono ?_; rintro e w7 ⟨rfl, rfl⟩
  go_wp2_with fail
  refine (cA.out _ HT6.out Sa6.out).mono ?_; rintro e w8 ⟨rfl, hb8⟩
  have HB8 := Lib.hid (bthen HB6.out hb8)
  have HT8 := Lib.hid (HT6.out.below hb8)
  have Sb8 := Lib.hid (Sb6.out.below hb8)
  have S48 := Lib.hid (S46.out.below hb8)
  clear hb8 HB6 HT6 Sa6 Sb6 S26 S46
  go_wp2_with fail
  refine (cB.out _ HT8.out Sb8.out).mono ?_; rintro e w9 ⟨rfl, hb9⟩
  have HB9 := Lib.hid (bthen HB8.out hb9)
  have HT9 := Lib.hid (HT8.out.below hb9)
  have S49 := Lib.hid (S48.out.below hb9)
  clear hb9 HB8 HT8 Sb8 S48
  go_wp2_with fail
  refine (cBA.out _ HT9.out S49.out).mono ?_; rintro e w10 ⟨rfl, hb10⟩
  have HB10 := Lib.hid (bthen HB9.out hb10)
  clear hb10
  go_wp2_with fail
  go_ret
  exact ⟨rfl, HB10.out⟩
theorem sums_walk (i : Int) (a b : Option Addr) (l m : List UInt8) (c d : Nat) (w : World) (ht : NmT w) (ha : Src w a l) (hc : a = none → c = 0) (hb : Src w b m) (hd : b = none → d = 0) :
    Calls Tryd.prog 5 #[.int .i64 i, .slice a l.length c, .slice b m.length d] w fun e w' => e = .returned (.bool true) ∧ Below w.heap.size w w' := by
  by_cases h : 3000 < l.length ∨ 3000 < m.length
  · exact sums_far i a b l m c d h w ht
  · exact sums_near i a b l m c d (by omega) (by omega) w ht ha hc hb hd
end Fo
end Go.Proofs.YtioldiibfhcgpaaDoor
