/-
  The law CollMoves, walked.
-/
import Derived.Test.YtmcopfcmnbhaaaaGreatColMovM
import Derived.OwnWalk
namespace Go.Proofs.YtmcopfcmnbhaaaaGreat
open Go.RowKit
open St
open Stk
namespace Col
set_option maxRecDepth 100000 in
set_option maxHeartbeats 4000000 in
theorem moves_nat (n f t z : Nat) (hn : n ≤ 255) (hf : f ≤ 255) (ht : t ≤ 255) (hz : z ≤ 255) (w : World) :
    Calls Tryz.prog 5 #[.int .u8 n, .int .u8 f, .int .u8 t, .int .u8 z] w fun e w' => e = .returned (.bool true) ∧ Below w.heap.size w w' := by
  have HN := Lib.hid (new_at 2000 w (by decide) (by decide))
  have HA := Lib.hid answers09
  go_enter Tryz.func5, Tryz.ntmps5
  go_wp2_with fail
  refine HN.out.mono ?_; rintro e w1 ⟨rfl, hr1, hb1⟩
  have HR1 := Lib.hid hr1
  have HB1 := Lib.hid hb1
  clear hr1 hb1
  go_wp2_with fail
  refine (HA.out _).mono ?_; rintro e w2 ⟨rfl, hb2⟩
  have HR2 := Lib.hid (HR1.out.below hb2)
  have HB2 := Lib.hid (bthen HB1.out hb2)
  clear hb2 HR1 HB1
  obtain ⟨K, hK⟩ : ∃ K : Nat, K = n % 40 := ⟨_, rfl⟩
  have hKe : (n : Int) % 40 = (K : Int) := by omega
  have hK39 : K ≤ 39 := by omega
  clear hK
  go_wp2_with fail
  rw [hKe]
  have HKe := Lib.hid hKe
  have hw2 : w.heap.size < w2.heap.size := HR2.out.lt
  clear hKe
  go_loopw [11, 13] (fun l v wr => ∃ i : Nat, v = .int .i64 i ∧ i ≤ K ∧ SL wr l (intsL i) ∧ (∀ j, isB l j → w2.heap.size ≤ j) ∧ Below w2.heap.size w2 wr) (fun _ v _ => K - (intOf v).toNat)
  case atStart => exact ⟨0, rfl, Nat.zero_le _, SL.nil _, fun j hj => (by cases hj), Below.refl _ _⟩
  case round =>
    obtain ⟨i, rfl, hi, hsl, hlo, hb⟩ := hrel
    by_cases hlt : i < K
    · have hbx := heap_alloc_new wr (obC (intO i))
      have hsrc : SrcO (wr.alloc (obC (intO i))) (some ⟨wr.heap.size, 0, none⟩) [intO i] := .inr ⟨_, rfl, fun j z hz => by
        rw [Addr.add_lit, Nat.zero_add, blk_cell hbx j]
        simpa [Ob.cells] using hz⟩
      obtain ⟨v', w', hr, hsl', hg, hi', _⟩ := SL.append (c := 1) (hsl.below (below1 wr _)) hsrc (fun e => by cases e) (by simp [intsL_len]; omega) 34
      rw [← intsL_snoc] at hsl'
      have hb' : Below w2.heap.size w2 w' := by
        refine Below.grown (hb.trans ((below1 wr _).mono hb.size)) hg (Nat.le_trans hb.size (by simp)) ?_
        intro k hk
        exact hlo k hk
      have hlo' : ∀ j, isB v' j → w2.heap.size ≤ j := fun j hj => by
        rcases hi' j hj with e | e
        · exact hlo j e
        · have := hb.size; simp at e; omega
      have HS := Lib.hid (And.intro hsl' (And.intro hlo' hb'))
      unfold obC intO at hr
      simp only [List.length_cons, List.length_nil, Nat.zero_add] at hr
      have HRn := Lib.hid hr
      clear hbx hsrc hsl hlo hb hsl' hlo' hb' hg hi' hr
      go_wp2_with (at_builtin; refine wpList_append_run9 rfl (.tmp 43) (.tmp 46) 34 34 34 v' rfl rfl _ _ rfl rfl HRn.out ?_)
      go_roundw
      case rel => exact ⟨i + 1, by go_num, by omega, HS.out.1, HS.out.2.1, HS.out.2.2⟩
      case measure => simp [intOf]; omega
    · have hik : i = K := by omega
      rw [hik] at hsl
      obtain ⟨la, lc, rfl, hlc, _⟩ := hsl.form
      rw [intsL_len] at hsl ⊢
      have hR3 := HR2.out.below hb
      have hM := list_at (c := lc) hR3 hsl.src (intsL_valid _ K) (by rw [intsL_len]; omega)
      rw [intsL_len] at hM
      have HM := Lib.hid hM
      have HB3 := Lib.hid (bthen HB2.out hb)
      clear hsl hlo hb hR3 hM hlc hik
      go_wp2_with fail
      refine HM.out.mono ?_; rintro e w4 hMd
      rcases hMd with ⟨hne, _⟩ | ⟨_, rfl, ly, hr4, hF4⟩
      · exact absurd (by unfold clm mostI cellsI; simp; omega) hne
      rw [List.nil_append, show (⟨7, [], intsL K, [], 0, 0⟩ : Th) = thI (intsL K) from rfl] at hr4
      have hno : newOb ⟨7, [], intsL K, [], 0, 0⟩ (List.length ([] : List (Th × Lay))) = obA 0 K := by simp [newOb, obA, Th.length, intsL_len]
      rw [hno]
      have hb4 : Below w.heap.size w w4 := HB3.out.trans (frm_low hF4 (B := w.heap.size) HB3.out.size (fun k hk => by rw [hk]; exact Nat.le_refl _))
      have hlo : ∀ q, Up (fun k => k = w.heap.size) wr w4 q → w.heap.size ≤ q := fun q hq => by
        rcases hq with e | e
        · rw [e]; exact Nat.le_refl _
        · have := HB3.out.size; omega
      have hbr : BR _ w [] w.heap.size _ _ w4 := ⟨⟨Frm.of_below hb4, fun p hp => by cases hp⟩, hr4⟩
      clear hno hF4 hr4 HM
      generalize Up (fun k => k = w.heap.size) wr w4 = O at hbr hlo
      generalize (2000 : Int) - cellsI 7 K = fr at hbr
      have hbr5 := hbr.alloc (obC (obA 0 K))
      have HBr5 := Lib.hid hbr5
      have HLo := Lib.hid hlo
      have HKp := Lib.hid (And.intro HKe.out hK39)
      unfold obA Ob.val
      unfold obC obA at HBr5
      clear hbr hbr5 hlo hb4
      by_cases hK0 : K = 0
      · rw [hK0] at HBr5 ⊢
        go_wp2_with fail
        go_ret
        exact ⟨rfl, HBr5.out.1.1.below (Nat.le_refl _) (fun k hk e => by have := HLo.out k e; omega)⟩
      · have hKb : ((K : Int) == 0) = false := by simp [hK0]
        have hKn : ¬ (K : Int) = 0 := by omega
        obtain ⟨F, hF⟩ : ∃ F : Nat, F = f % K := ⟨_, rfl⟩
        have hFlt : F < K := by rw [hF]; exact Nat.mod_lt _ (by omega)
        obtain ⟨D, hD⟩ : ∃ D : Nat, D = K - F + 1 := ⟨_, rfl⟩
        obtain ⟨Z, hZ⟩ : ∃ Z : Nat, Z = z % D := ⟨_, rfl⟩
        have hZlt : Z < D := by rw [hZ]; exact Nat.mod_lt _ (by omega)
        obtain ⟨T, hT⟩ : ∃ T : Nat, T = t % K := ⟨_, rfl⟩
        have hTlt : T < K := by rw [hT]; exact Nat.mod_lt _ (by omega)
        have m1 : (f : Int).tmod (K : Int) = F := by rw [Int.tmod_eq_emod_of_nonneg (by omega), hF]; simp
        have m2 : (z : Int).tmod (D : Int) = Z := by rw [Int.tmod_eq_emod_of_nonneg (by omega), hZ]; simp
        have m3 : (t : Int).tmod (K : Int) = T := by rw [Int.tmod_eq_emod_of_nonneg (by omega), hT]; simp
        have e1 : (f : Int) % (K : Int) = F := by rw [hF]; simp
        have e2 : (z : Int) % (D : Int) = Z := by rw [hZ]; simp
        have e3 : (t : Int) % (K : Int) = T := by rw [hT]; simp
        have d1 : (K : Int) - (F : Int) + 1 = (D : Int) := by omega
        have hDb : ((D : Int) == 0) = false := by simp; omega
        have hDn : ¬ (D : Int) = 0 := by omega
        have hD0 : ¬ D = 0 := by omega
        have HFe := Lib.hid (And.intro hF (And.intro hD hT))
        have hDK : D ≤ K + 1 := by omega
        have hFZ : F + Z ≤ K := by omega
        clear hF hD hZ hT
        have wf' : IntKind.i64.wrap (f : Int) = f := by rw [IntKind.wrap_i64]; omega
        have wz' : IntKind.i64.wrap (z : Int) = z := by rw [IntKind.wrap_i64]; omega
        have wt' : IntKind.i64.wrap (t : Int) = t := by rw [IntKind.wrap_i64]; omega
        have w1' : IntKind.i64.wrap (F : Int) = F := by rw [IntKind.wrap_i64]; omega
        have w2' : IntKind.i64.wrap ((K : Int) - (F : Int)) = (K : Int) - (F : Int) := by rw [IntKind.wrap_i64]; omega
        have w3' : IntKind.i64.wrap (D : Int) = D := by rw [IntKind.wrap_i64]; omega
        have w4' : IntKind.i64.wrap (Z : Int) = Z := by rw [IntKind.wrap_i64]; omega
        go_wp2_with fail
        have hbr5 := HBr5.out
        generalize hw5 : w4.alloc (.cells #[.int .i64 7, .bool false, .int .i64 0, .int .i64 0, .string ⟨#[]⟩, .int .i64 1, .int .i64 0, .int .i64 (K : Int)] 41) = w5 at *
        have hlt5 : w4.heap.size < w5.heap.size := by rw [← hw5]; simp
        clear hw5
        have HP : Hid (∀ w2, Rep O w2 w.heap.size fr [(thI (intsL K), ly)] → Calls Tryz.prog 16 #[.pointer (some ⟨w.heap.size, 0, none⟩), .agg #[.int .i64 7, .bool false, .int .i64 0, .int .i64 0, .string ⟨#[]⟩, .int .i64 1, .int .i64 0, .int .i64 (K : Int)], .int .i64 (F : Int), .int .i64 (Z : Int)] w2 fun e w' => e = .returned (.tuple #[.agg #[.int .i64 7, .bool false, .int .i64 0, .int .i64 0, .string ⟨#[]⟩, .int .i64 1, .int .i64 (F : Int), .int .i64 (Z : Int)], .int .i64 0]) ∧ Below w2.heap.size w2 w') := Lib.hid (fun w2 h2 => by
          have := part_at h2 (obA ((0 : Nat) : Int) K) F Z
          rw [partRA (intsL K) ly 0 K F Z (by rw [intsL_len]; omega) (by omega)] at this
          unfold ObE at this
          simpa only [Int.ofNat_zero, Int.zero_add, obA, Ob.val] using this)
        have HBb := Lib.hid (hbr5.below (w' := w5.drew) ⟨rfl, rfl, rfl, Nat.le_refl _, fun _ _ => rfl⟩)
        have hA := (hbr5.alloc (.cells #[.int .i64 0, .bool false, .int .i64 0, .int .i64 0, .string ⟨#[]⟩, .int .i64 0, .int .i64 0, .int .i64 0] 41)).below (w' := (w5.alloc (.cells #[.int .i64 0, .bool false, .int .i64 0, .int .i64 0, .string ⟨#[]⟩, .int .i64 0, .int .i64 0, .int .i64 0] 41)).drew) ⟨rfl, rfl, rfl, Nat.le_refl _, fun _ _ => rfl⟩
        have HAa := Lib.hid hA
        have HNe := Lib.hid (show w4.heap.size ≠ w5.heap.size ∧ w.heap.size ≤ w5.heap.size from ⟨by omega, by have := hbr5.1.1.size; exact this⟩)
        obtain ⟨x0, x1, x2, x3, x4, x5, x6, x7⟩ := cellsOb hbr5.1.b0
        clear hbr5 hA HBr5
        go_cut [16, 17] (fun b g wx => ∃ B, b = .pointer (some ⟨B, 0, none⟩) ∧ g = .int .i64 0 ∧ BR O w [(B, .cells #[.int .i64 7, .bool false, .int .i64 0, .int .i64 0, .string ⟨#[]⟩, .int .i64 1, .int .i64 (F : Int), .int .i64 (Z : Int)] 41), (w4.heap.size, .cells #[.int .i64 7, .bool false, .int .i64 0, .int .i64 0, .string ⟨#[]⟩, .int .i64 1, .int .i64 0, .int .i64 (K : Int)] 41)] w.heap.size fr [(thI (intsL K), ly)] wx)
        case first =>
          go_region_held3 (fun w' => w'.cell? ⟨w4.heap.size, 0, none⟩ = some (.int .i64 7) ∧ w'.cell? ⟨w4.heap.size, 1, none⟩ = some (.bool false) ∧ w'.cell? ⟨w4.heap.size, 2, none⟩ = some (.int .i64 0) ∧ w'.cell? ⟨w4.heap.size, 3, none⟩ = some (.int .i64 0) ∧ w'.cell? ⟨w4.heap.size, 4, none⟩ = some (.string ⟨#[]⟩) ∧ w'.cell? ⟨w4.heap.size, 5, none⟩ = some (.int .i64 1) ∧ w'.cell? ⟨w4.heap.size, 6, none⟩ = some (.int .i64 0) ∧ w'.cell? ⟨w4.heap.size, 7, none⟩ = some (.int .i64 (K : Int)))
            (first | with_reducible exact sB | with_reducible exact sA | with_reducible exact keep8 HNe.out.1 sA | go_keep)
            (first | (go_at_call 16; refine (HP.out _ HBb.out.2).mono ?_; rintro e wB ⟨rfl, hbB⟩; have HKB := Lib.hid (HBb.out.below hbB); have sB := cellsOb HKB.out.1.b0) | (go_at_call 16; refine (HP.out _ HAa.out.2).mono ?_; rintro e wA ⟨rfl, hbA⟩; have HKA := Lib.hid (HAa.out.below hbA); have sA := cellsOb HKA.out.1.b1; have zA := cellsOb HKA.out.1.b0; have zf := blk_free HKA.out.1.b0))
          all_goals (go_wp2_with fail; go_meet)
          · exact ⟨_, rfl, rfl, HKB.out.alloc _⟩
          · exact ⟨_, rfl, rfl, HKA.out.write8 (put8 HKA.out.1.b0 _ _ _ _ _ _ _ _) HNe.out.2 (fun p hp => by simp only [List.mem_singleton] at hp; rw [hp]; exact HNe.out.1)⟩
        case rest =>
        obtain ⟨B, rfl, rfl, hbr7⟩ := hcut
        obtain ⟨w7, hw7⟩ : ∃ v, v = wc := ⟨_, rfl⟩
        subst hw7
        obtain ⟨y0, y1, y2, y3, y4, y5, y6, y7⟩ := cellsOb hbr7.1.b0
        have sx := cellsOb hbr7.1.b1
        clear x0 x1 x2 x3 x4 x5 x6 x7
        obtain ⟨x0, x1, x2, x3, x4, x5, x6, x7⟩ := sx
        have lt7 : w4.heap.size < w7.heap.size := (Array.getElem?_eq_some_iff.1 hbr7.1.b1).1
        have lt7b : B < w7.heap.size := (Array.getElem?_eq_some_iff.1 hbr7.1.b0).1
        have hb8 := below1 w7 (.cells #[.int .i64 7, .bool false, .int .i64 0, .int .i64 0, .string ⟨#[]⟩, .int .i64 1, .int .i64 0, .int .i64 (K : Int), .int .i64 1, .bool false, .int .i64 0, .int .i64 (T : Int), .string ⟨#[]⟩, .int .i64 0, .int .i64 0, .int .i64 0, .int .i64 7, .bool false, .int .i64 0, .int .i64 0, .string ⟨#[]⟩, .int .i64 1, .int .i64 (F : Int), .int .i64 (Z : Int)] 41)
        have hsrc : SrcO (w7.alloc (.cells #[.int .i64 7, .bool false, .int .i64 0, .int .i64 0, .string ⟨#[]⟩, .int .i64 1, .int .i64 0, .int .i64 (K : Int), .int .i64 1, .bool false, .int .i64 0, .int .i64 (T : Int), .string ⟨#[]⟩, .int .i64 0, .int .i64 0, .int .i64 0, .int .i64 7, .bool false, .int .i64 0, .int .i64 0, .string ⟨#[]⟩, .int .i64 1, .int .i64 (F : Int), .int .i64 (Z : Int)] 41)) (some ⟨w7.heap.size, 0, none⟩) [obA ((0 : Nat) : Int) K, intO T, obA F Z] := .inr ⟨_, rfl, fun j z hz => by
          rw [Addr.add_lit, Nat.zero_add, blk_cell (heap_alloc_new w7 _) j]
          rw [← hz]
          simp [Ob.cells, obA, intO]⟩
        have hbr8 := hbr7.below hb8
        have hD := doPutI (c := 3) hbr8.2 (obA ((0 : Nat) : Int) K) (obA F Z) T 0 0 hsrc (tldA (intsL K) ly 0 K (by rw [intsL_len]; omega)) (tldA (intsL K) ly F Z (by rw [intsL_len]; omega)) rfl (.inl rfl) (by omega) (by omega) (by
          rw [itemsRA (intsL K) ly F Z (by rw [intsL_len]; omega)]
          intro y hy
          exact intsL_valid _ K y (List.mem_of_mem_drop (List.mem_of_mem_take hy)))
        rw [show (obA ((0 : Nat) : Int) (K : Int)).len = (K : Int) from rfl, show (obA (F : Int) (Z : Int)).len = (Z : Int) from rfl, itemsRA (intsL K) ly F Z (by rw [intsL_len]; omega), show ((obA ((0 : Nat) : Int) (K : Int)).frm + (T : Int)).toNat = T by simp [obA], putsGA] at hD
        have HD := Lib.hid hD
        have HBr8 := Lib.hid hbr8
        unfold sPutI at HD
        clear hD hbr8 hsrc hb8 hbr7
        by_cases hfit : T + Z ≤ K
        · have hlb : liesB (T : Int) (Z : Int) (K : Int) = true := by rw [liesB_iff]; omega
          rw [hlb] at HD
          go_wp2_with fail
          refine HD.out.mono ?_; rintro e w8 ⟨hF8, hor⟩
          rcases hor with ⟨_, rfl, hr8⟩ | ⟨hno, _⟩
          · have hbr9 := HBr8.out.put hF8 hr8
            have sz := cellsOb hbr9.1.b0
            have sx := cellsOb hbr9.1.b1
            have hIt := items_at hbr9.2 (obA ((0 : Nat) : Int) K)
            unfold ItemsP at hIt
            rw [itemsRA _ ly 0 K (by rw [sets_len, intsL_len]; omega), tldA _ ly 0 K (by rw [sets_len, intsL_len]; omega), List.drop_zero, List.take_of_length_le (by rw [sets_len, intsL_len]; exact Nat.le_refl _), sets_len, intsL_len] at hIt
            have HIt := Lib.hid hIt
            have HBr9 := Lib.hid hbr9
            have hgt : ¬ ((K : Int) < (T : Int) + (Z : Int)) := by omega
            unfold obA Ob.val at HIt
            simp only [Int.ofNat_zero] at HIt
            clear hbr9 hIt hF8 hr8 x0 x1 x2 x3 x4 x5 x6 x7 y0 y1 y2 y3 y4 y5 y6 y7
            obtain ⟨x0, x1, x2, x3, x4, x5, x6, x7⟩ := sx
            obtain ⟨z0, z1, z2, z3, z4, z5, z6, z7⟩ := sz
            go_wp2_with fail
            refine HIt.out.mono ?_; rintro e w9 ⟨hb9, hor⟩
            rcases hor with ⟨hno, _⟩ | ⟨B2, hB2, _, rfl, hown⟩
            · cases hno
            · have hbr10 := HBr9.out.below hb9
              have sz := cellsOb hbr10.1.b0
              have hrd : ∀ i, i < K → w9.cell? ⟨B2, i * 8 + 3, none⟩ = some (.int .i64 (if T ≤ i ∧ i < T + Z then (i : Int) - T + F else i)) := fun i hi => by
                rw [hown.cellAt (i * 8 + 3) (by omega), obs_at _ i 3 _ (moved_at K F Z T i (by omega) hi) (by omega)]
                rfl
              have HRd := Lib.hid hrd
              have HBe := Lib.hid hbr10.1.1
              clear hrd hown hbr10 hb9 x0 x1 x2 x3 x4 x5 x6 x7 z0 z1 z2 z3 z4 z5 z6 z7
              obtain ⟨z0, z1, z2, z3, z4, z5, z6, z7⟩ := sz
              go_wp2_with fail
              go_loopw [23] (fun v wr => ∃ j : Nat, v = .int .i64 j ∧ j ≤ K ∧ ∃ q, wr = w9.drewN q) (fun v _ => K - (intOf v).toNat)
              case atStart => exact ⟨0, rfl, Nat.zero_le _, 0, rfl⟩
              case round =>
                obtain ⟨j, rfl, hj, q, rfl⟩ := hrel
                by_cases hlt2 : j < K
                · have hc := HRd.out j hlt2
                  by_cases h1 : T ≤ j
                  · by_cases h2 : j < T + Z
                    · rw [if_pos ⟨h1, h2⟩] at hc
                      have g1 : decide ((T : Int) ≤ (j : Int)) = true := decide_eq_true (by omega)
                      have g2 : decide ((j : Int) < (T : Int) + (Z : Int)) = true := decide_eq_true (by omega)
                      have g3 : IntKind.i64.wrap ((j : Int) - (T : Int)) = (j : Int) - (T : Int) := by rw [IntKind.wrap_i64]; omega
                      have g4 : IntKind.i64.wrap ((j : Int) - (T : Int) + (F : Int)) = (j : Int) - (T : Int) + (F : Int) := by rw [IntKind.wrap_i64]; omega
                      go_wp2_with fail
                      go_roundw
                      case rel => exact ⟨j + 1, by go_num, by omega, _, rfl⟩
                      case measure => simp [intOf]; omega
                    · rw [if_neg (fun e => h2 e.2)] at hc
                      have g1 : decide ((T : Int) ≤ (j : Int)) = true := decide_eq_true (by omega)
                      have g2 : decide ((j : Int) < (T : Int) + (Z : Int)) = false := decide_eq_false (by omega)
                      go_wp2_with fail
                      go_roundw
                      case rel => exact ⟨j + 1, by go_num, by omega, _, rfl⟩
                      case measure => simp [intOf]; omega
                  · rw [if_neg (fun e => h1 e.1)] at hc
                    have g1 : decide ((T : Int) ≤ (j : Int)) = false := decide_eq_false (by omega)
                    go_wp2_with fail
                    go_roundw
                    case rel => exact ⟨j + 1, by go_num, by omega, _, rfl⟩
                    case measure => simp [intOf]; omega
                · have hjk : j = K := by omega
                  rw [hjk]
                  have HBq := Lib.hid (HBe.out.below (Nat.le_refl _) (fun k hk e => by have := HLo.out k e; omega) : Below w.heap.size w w9)
                  have HBq2 := Lib.hid (HBq.out.trans (show Below w.heap.size w9 (w9.drewN q) from ⟨rfl, rfl, rfl, Nat.le_refl _, fun _ _ => rfl⟩))
                  go_wp2_with fail
                  go_ret
                  exact ⟨rfl, HBq2.out⟩
          · cases hno
        · have hlb : liesB (T : Int) (Z : Int) (K : Int) = false := by
            cases hq : liesB (T : Int) (Z : Int) (K : Int) with
            | false => rfl
            | true => rw [liesB_iff] at hq; omega
          rw [hlb] at HD
          go_wp2_with fail
          refine HD.out.mono ?_; rintro e w8 ⟨hF8, hor⟩
          rcases hor with ⟨hno, _⟩ | ⟨_, rfl, hr8⟩
          · cases hno
          · have hbr9 := HBr8.out.put hF8 hr8
            obtain ⟨z0, z1, z2, z3, z4, z5, z6, z7⟩ := cellsOb hbr9.1.b0
            have HBe := Lib.hid hbr9.1.1
            have hgt : ¬ ((T : Int) + (Z : Int) ≤ (K : Int)) := by omega
            clear hbr9 hF8 hr8 x0 x1 x2 x3 x4 x5 x6 x7 y0 y1 y2 y3 y4 y5 y6 y7
            go_wp2_with fail
            go_ret
            exact ⟨rfl, HBe.out.below (Nat.le_refl _) (fun k hk e => by have := HLo.out k e; omega)⟩
end Col
theorem u8_col {z : Int} (h : (Lit.int .u8 z).wf = true) : ∃ n : Nat, z = n ∧ n ≤ 255 := by
  have : 0 ≤ z ∧ z ≤ 255 := by simpa [Lit.wf, IntKind.min, IntKind.max, IntKind.signed, IntKind.bits] using h
  exact ⟨z.toNat, by omega, by omega⟩
theorem lawCollMoves (a b c d : Int) (ha : (Lit.int .u8 a).wf = true) (hb : (Lit.int .u8 b).wf = true) (hc : (Lit.int .u8 c).wf = true) (hd : (Lit.int .u8 d).wf = true) (w : World) :
    Calls Tryz.prog 5 #[.int .u8 a, .int .u8 b, .int .u8 c, .int .u8 d] w fun e w' => e = .returned (.bool true) ∧ Below w.heap.size w w' := by
  obtain ⟨a, rfl, ka⟩ := u8_col ha
  obtain ⟨b, rfl, kb⟩ := u8_col hb
  obtain ⟨c, rfl, kc⟩ := u8_col hc
  obtain ⟨d, rfl, kd⟩ := u8_col hd
  exact Col.moves_nat a b c d ka kb kc kd w
end Go.Proofs.YtmcopfcmnbhaaaaGreat
