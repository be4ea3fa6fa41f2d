/-
  The law StoreParts, walked.
-/
import Derived.Test.YtdpaogjglipaeaaStoPartsW
namespace Go.Proofs.Ytdpaogjglipaeaa
open Go.RowKit
open St
set_option maxRecDepth 100000 in
set_option maxHeartbeats 2000000 in
theorem parts_nat (n f z m l : Nat) (hn : n ≤ 255) (hf : f ≤ 255) (hz : z ≤ 255) (hm : m ≤ 255) (hl : l ≤ 255) (w : World) :
    Calls Try.prog 4 #[.int .u8 n, .int .u8 f, .int .u8 z, .int .u8 m, .int .u8 l] w fun e w' => e = .returned (.bool true) ∧ Below w.heap.size w w' := by
  have HN := Lib.hid (new_at 2000 w (by decide) (by decide))
  go_enter Try.func4, Try.ntmps4
  go_wp2_with fail
  refine HN.out.mono ?_; rintro e w1 ⟨rfl, hr1, hb1⟩
  have HA := Lib.hid (array_at hr1 (n : Int))
  have HB1 := Lib.hid hb1
  have HR1 := Lib.hid hr1
  clear hr1 hb1
  go_wp2_with fail
  refine HA.out.mono ?_; rintro e w2 hM
  rcases hM with ⟨hne, _⟩ | ⟨_, rfl, ly, hr2, hF2⟩
  · exact absurd (clm7 n hn) hne
  rw [List.nil_append, show (⟨7, [], List.replicate (n : Int).toNat nul, [], 0, 0⟩ : Th) = thK n (f + m) 0 by unfold thK; rw [itK_zero]; rfl] at hr2
  simp only [List.length_nil]
  rw [newOb7 n]
  have hb2 := frm_low hF2 (B := w.heap.size) HB1.out.size (fun k hk => by rw [hk]; exact Nat.le_refl _)
  have hps2 : PS _ w w2 _ _ n (f + m) 0 ly w2.heap.size := ⟨hr2, fun q hq => by
    rcases hq with e | e
    · rw [e]; exact Nat.le_refl _
    · have := HB1.out.size; omega, hr2.olt, Nat.le_refl _, by have := hF2.size; have := HB1.out.size; omega, HB1.out.trans hb2⟩
  clear HA HR1 HB1 hb2 hF2 hr2
  generalize Up (fun k => k = w.heap.size) w1 w2 = O at hps2
  generalize (2000 : Int) - cellsI 7 n = fr at hps2
  have hps3 := hps2.step (below1 w2 (obC (ob7 0 n)))
  have hbx3 := heap_alloc_new w2 (obC (ob7 0 n))
  unfold obC at hps3 hbx3
  simp only [ob7] at hps3 hbx3
  simp only [ob7, Ob.val]
  have HPS3 := Lib.hid hps3
  have HBX3 := Lib.hid hbx3
  have hw2 := hps2.low
  clear hps2 hps3 hbx3
  go_wp2_with fail
  refine (answers_any _).mono ?_; rintro e w4 ⟨rfl, hb4⟩
  have hps4 := HPS3.out.step hb4
  have hbx4 := (hb4.block w2.heap.size (by simp)).trans HBX3.out
  obtain ⟨x0, x1, x2, x3, x4, x5, x6, x7⟩ := cellsOb hbx4
  have HP := Lib.hid (part_at hps4.rep (ob7 0 n) f z)
  have HPS4 := Lib.hid hps4
  have HBX4 := Lib.hid hbx4
  have hw4 : w2.heap.size < w4.heap.size := by have := hb4.size; simp at this; omega
  rw [partA] at HP
  simp only [ob7, Ob.val] at HP
  clear hb4 hps4 hbx4 HPS3 HBX3
  by_cases hfit : f + z ≤ n
  · rw [if_pos hfit] at HP
    unfold ObE at HP
    simp only [Ob.val] at HP
    go_wp2_with fail
    refine HP.out.mono ?_; rintro e w5 ⟨rfl, hb5⟩
    have hps5 := (HPS4.out.step hb5).step (below1 w5 (obC (ob7 f z)))
    have hbx5 := (heap_alloc_old w5 (obC (ob7 f z)) (by have := hb5.size; omega)).trans ((hb5.block w2.heap.size (by omega)).trans HBX4.out)
    have hby5 := heap_alloc_new w5 (obC (ob7 f z))
    have HP2 := Lib.hid (part_at hps5.rep (ob7 f z) m l)
    rw [partB n (f + m) 0 ly f z m l hfit] at HP2
    have hfd : decide ((f : Int) + (z : Int) ≤ (n : Int)) = true := decide_eq_true (by omega)
    have hw5 : w2.heap.size < w5.heap.size := by have := hb5.size; omega
    unfold obC at hps5 hbx5 hby5 HP2
    simp only [ob7, Ob.val] at hps5 hbx5 hby5 HP2
    have HPS5 := Lib.hid hps5
    have HBX5 := Lib.hid hbx5
    clear hb5 x0 x1 x2 x3 x4 x5 x6 x7 hps5 hbx5 hby5 HPS4 HBX4 HP
    by_cases hdeep : m + l ≤ z
    · rw [if_pos hdeep] at HP2
      unfold ObE at HP2
      simp only [Ob.val] at HP2
      go_wp2_with fail
      refine HP2.out.mono ?_; rintro e w6 ⟨rfl, hb6⟩
      have hps6 := (HPS5.out.step hb6).step (below1 w6 (obC (ob7 ((f : Int) + m) l)))
      have hbx6 := (heap_alloc_old w6 (obC (ob7 ((f : Int) + m) l)) (by have := hb6.size; simp at this; omega)).trans ((hb6.block w2.heap.size (by simp; omega)).trans HBX5.out)
      have hby6 := heap_alloc_new w6 (obC (ob7 ((f : Int) + m) l))
      have hdd : decide ((m : Int) + (l : Int) ≤ (z : Int)) = true := decide_eq_true (by omega)
      have hw6 : w2.heap.size < w6.heap.size := by have := hb6.size; simp at this; omega
      unfold obC at hps6 hbx6 hby6
      simp only [ob7] at hps6 hbx6 hby6
      have HPS6 := Lib.hid hps6
      have HBX6 := Lib.hid hbx6
      have HBY6 := Lib.hid hby6
      clear hb6 hps6 hbx6 hby6 HPS5 HBX5 HP2
      go_wp2_with fail
      go_loopw [21] (fun v wr => ∃ k : Nat, v = .int .i64 k ∧ k ≤ l ∧ PS O w wr w.heap.size fr n (f + m) k ly w2.heap.size ∧ wr.heap[w2.heap.size]? = some (obC (ob7 0 n)) ∧ wr.heap[w6.heap.size]? = some (obC (ob7 ((f : Int) + m) l))) (fun v _ => l - (intOf v).toNat)
      case atStart => exact ⟨0, rfl, Nat.zero_le _, HPS6.out, HBX6.out, HBY6.out⟩
      case round =>
        obtain ⟨k, rfl, hk, hps, hbx, hby⟩ := hrel
        have HPSr := Lib.hid hps
        have HBXr := Lib.hid hbx
        have HBYr := Lib.hid hby
        by_cases hlt : k < l
        · have HPut := Lib.hid (put_at hps.rep (ob7 ((f : Int) + m) l) k ⟨1, false, 0, (k : Int) + 1, ⟨#[]⟩, 0, 0, 0⟩)
          unfold obC at hby
          simp only [ob7] at hby
          obtain ⟨y0, y1, y2, y3, y4, y5, y6, y7⟩ := cellsOb hby
          have hpe : putE [(thK n (f + m) k, ly)] (ob7 ((f : Int) + m) l) k ⟨1, false, 0, (k : Int) + 1, ⟨#[]⟩, 0, 0, 0⟩ = 0 := by
            have := putE7 n (f + m) k ly (f + m) l k ⟨1, false, 0, (k : Int) + 1, ⟨#[]⟩, 0, 0, 0⟩ (by omega) (.inr rfl)
            rw [if_pos (by omega)] at this
            simpa using this
          unfold PutP at HPut
          rw [hpe] at HPut
          simp only [ob7, Ob.val] at HPut
          have HPE := Lib.hid hpe
          clear hps hbx hby hpe
          go_wp2_with fail
          refine HPut.out.mono ?_; rintro e w7 ⟨rfl, hor⟩
          have hgood : PS O w w7 w.heap.size fr n (f + m) (k + 1) ly w2.heap.size ∧ w7.heap[w2.heap.size]? = some (obC (ob7 0 n)) ∧ w7.heap[w6.heap.size]? = some (obC (ob7 ((f : Int) + m) l)) := by
            rcases hor with ⟨h0, _⟩ | ⟨_, t, ht, hr7, hF7⟩
            · exact absurd rfl h0
            · have ht2 := tld7 n (f + m) k ly (f + m) l (by omega)
              simp only [ob7, Int.natCast_add] at ht2
              rw [ht2] at ht
              cases ht
              rw [show ((f : Int) + (m : Int) + (k : Int)).toNat = f + m + k by omega, putG7] at hr7
              exact ⟨HPSr.out.put hr7 hF7, HPSr.out.box (Nat.le_refl _) HBXr.out hF7, HPSr.out.box (by omega) HBYr.out hF7⟩
          have HG := Lib.hid hgood
          clear hor hgood y0 y1 y2 y3 y4 y5 y6 y7
          go_wp2_with fail
          go_roundw
          case rel => exact ⟨k + 1, by go_num, by omega, HG.out⟩
          case measure => simp [intOf]; omega
        · have hkl : k = l := by omega
          subst hkl
          have HIt := Lib.hid (items_at hps.rep (ob7 0 n))
          unfold ItemsP at HIt
          rw [itemsR7] at HIt
          have ht7 := tld7 n (f + m) k ly 0 n (by omega)
          simp only [Int.ofNat_zero] at ht7
          rw [ht7, itK_len] at HIt
          unfold obC at hbx
          simp only [ob7, Ob.val] at hbx HIt
          obtain ⟨x0, x1, x2, x3, x4, x5, x6, x7⟩ := cellsOb hbx
          clear hps hbx hby ht7
          go_wp2_with fail
          refine HIt.out.mono ?_; rintro e w8 ⟨hb8, hor⟩
          rcases hor with ⟨hno, _⟩ | ⟨B, hBl, _, rfl, hown⟩
          · cases hno
          · have hrd : ∀ i, i < n → w8.cell? ⟨B, i * 8 + 3, none⟩ = some (.int .i64 (if f + m ≤ i ∧ i < f + m + k then (i : Int) - (f + m : Nat) + 1 else 0)) := fun i hi => by
              have hx := List.getElem?_eq_getElem (l := itK n (f + m) k) (i := i) (by rw [itK_len]; exact hi)
              rw [hown.cellAt (i * 8 + 3) (by omega), obs_at _ i 3 _ hx (by omega), ← itK_n n (f + m) k i hi]
              rfl
            have HRd := Lib.hid hrd
            have HPS8 := Lib.hid (HPSr.out.step hb8)
            have HBY8 := Lib.hid ((hb8.block w6.heap.size (Array.getElem?_eq_some_iff.1 HBYr.out).1).trans HBYr.out)
            clear hrd hown hb8 x0 x1 x2 x3 x4 x5 x6 x7 HIt HPSr HBXr HBYr
            go_wp2_with fail
            go_loopw [24] (fun v wr => ∃ i : Nat, v = .int .i64 i ∧ i ≤ n ∧ wr = w8) (fun v _ => n - (intOf v).toNat)
            case atStart => exact ⟨0, rfl, Nat.zero_le _, rfl⟩
            case round =>
              obtain ⟨i, rfl, hi, rfl⟩ := hrel
              by_cases hlt2 : i < n
              · have hc := HRd.out i hlt2
                by_cases h1 : (i : Int) - (f : Int) - (m : Int) + 1 < 1
                · rw [if_neg (by omega)] at hc
                  go_wp2_with fail
                  go_roundw
                  case rel => exact ⟨i + 1, by go_num, by omega, trivial⟩
                  case measure => simp [intOf]; omega
                · by_cases h2 : (k : Int) < (i : Int) - (f : Int) - (m : Int) + 1
                  · rw [if_neg (by omega)] at hc
                    go_wp2_with fail
                    go_roundw
                    case rel => exact ⟨i + 1, by go_num, by omega, trivial⟩
                    case measure => simp [intOf]; omega
                  · rw [if_pos (by omega), show (i : Int) - ((f + m : Nat) : Int) + 1 = (i : Int) - (f : Int) - (m : Int) + 1 by omega] at hc
                    go_wp2_with fail
                    go_roundw
                    case rel => exact ⟨i + 1, by go_num, by omega, trivial⟩
                    case measure => simp [intOf]; omega
              · have hin : i = n := by omega
                subst hin
                have hp1 : putE [(thK i (f + m) k, ly)] (ob7 ((f : Int) + m) k) (k : Int) nul = 11 := by
                  have := putE7 i (f + m) k ly (f + m) k (k : Int) nul (by omega) (.inl rfl)
                  rw [if_neg (by omega)] at this
                  simpa using this
                have hp2 : putE [(thK i (f + m) k, ly)] (ob7 ((f : Int) + m) k) (-1) nul = 11 := by
                  have := putE7 i (f + m) k ly (f + m) k (-1) nul (by omega) (.inl rfl)
                  rw [if_neg (by omega)] at this
                  simpa using this
                have hby := HBY8.out
                have HPut1 := Lib.hid (put_at HPS8.out.rep (ob7 ((f : Int) + m) k) (k : Int) nul)
                have HPut2 := Lib.hid (fun w9 hb => put_at (HPS8.out.step (w' := w9) hb).rep (ob7 ((f : Int) + m) k) (-1) nul)
                unfold PutP at HPut1 HPut2
                rw [hp1] at HPut1
                simp only [hp2] at HPut2
                unfold obC at hby
                simp only [ob7, Ob.val, nul] at hby HPut1 HPut2
                obtain ⟨y0, y1, y2, y3, y4, y5, y6, y7⟩ := cellsOb hby
                clear hp1 hp2 hby
                go_wp2_with fail
                refine HPut1.out.mono ?_; rintro e w9 ⟨rfl, hor⟩
                have hb9 : Below wr.heap.size wr w9 := by
                  rcases hor with ⟨_, hb⟩ | ⟨h0, _⟩
                  · exact hb
                  · exact absurd h0 (by decide)
                have hby9 := (hb9.block w6.heap.size (Array.getElem?_eq_some_iff.1 HBY8.out).1).trans HBY8.out
                have HP2' := Lib.hid (HPut2.out w9 hb9)
                have HPS9 := Lib.hid (HPS8.out.step hb9)
                unfold obC at hby9
                simp only [ob7] at hby9
                clear y0 y1 y2 y3 y4 y5 y6 y7 hor hb9
                obtain ⟨y0, y1, y2, y3, y4, y5, y6, y7⟩ := cellsOb hby9
                clear hby9
                go_wp2_with fail
                refine HP2'.out.mono ?_; rintro e w10 ⟨rfl, hor⟩
                have hb10 : Below w9.heap.size w9 w10 := by
                  rcases hor with ⟨_, hb⟩ | ⟨h0, _⟩
                  · exact hb
                  · exact absurd h0 (by decide)
                have HB := Lib.hid (HPS9.out.step hb10).below
                clear hor hb10 y0 y1 y2 y3 y4 y5 y6 y7
                go_wp2_with fail
                go_ret
                exact ⟨rfl, HB.out⟩
    · rw [if_neg hdeep] at HP2
      unfold ObE at HP2
      simp only [Ob.val, nul] at HP2
      have hdd : decide ((m : Int) + (l : Int) ≤ (z : Int)) = false := decide_eq_false (by omega)
      go_wp2_with fail
      refine HP2.out.mono ?_; rintro e w6 ⟨rfl, hb6⟩
      have HB := Lib.hid ((HPS5.out.step hb6).step (below1 w6 (obC nul))).below
      unfold obC nul at HB
      clear hb6
      go_wp2_with fail
      go_ret
      exact ⟨rfl, HB.out⟩
  · rw [if_neg hfit] at HP
    unfold ObE at HP
    simp only [Ob.val, nul] at HP
    have hfd : decide ((f : Int) + (z : Int) ≤ (n : Int)) = false := decide_eq_false (by omega)
    go_wp2_with fail
    refine HP.out.mono ?_; rintro e w5 ⟨rfl, hb5⟩
    have HB := Lib.hid ((HPS4.out.step hb5).step (below1 w5 (obC nul))).below
    unfold obC nul at HB
    clear hb5 x0 x1 x2 x3 x4 x5 x6 x7
    go_wp2_with fail
    go_ret
    exact ⟨rfl, HB.out⟩
theorem u8_is {z : Int} (h : (Lit.int .u8 z).wf = true) : ∃ n : Nat, z = n ∧ n ≤ 255 := by
  have : 0 ≤ z ∧ z ≤ 255 := by simpa [Lit.wf, IntKind.min, IntKind.max, IntKind.signed, IntKind.bits] using h
  exact ⟨z.toNat, by omega, by omega⟩
theorem lawStoreParts (a b c d g : Int) (ha : (Lit.int .u8 a).wf = true) (hb : (Lit.int .u8 b).wf = true) (hc : (Lit.int .u8 c).wf = true) (hd : (Lit.int .u8 d).wf = true) (hg : (Lit.int .u8 g).wf = true) (w : World) :
    Calls Try.prog 4 #[.int .u8 a, .int .u8 b, .int .u8 c, .int .u8 d, .int .u8 g] w fun e w' => e = .returned (.bool true) ∧ Below w.heap.size w w' := by
  obtain ⟨a, rfl, ka⟩ := u8_is ha
  obtain ⟨b, rfl, kb⟩ := u8_is hb
  obtain ⟨c, rfl, kc⟩ := u8_is hc
  obtain ⟨d, rfl, kd⟩ := u8_is hd
  obtain ⟨g, rfl, kg⟩ := u8_is hg
  exact parts_nat a b c d g ka kb kc kd kg w
end Go.Proofs.Ytdpaogjglipaeaa
