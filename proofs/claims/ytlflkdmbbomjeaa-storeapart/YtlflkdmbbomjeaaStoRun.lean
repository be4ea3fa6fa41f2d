/-
  Calls, one behind the other, by a contract: run.
-/
import Derived.Test.YtlflkdmbbomjeaaStoRunM
namespace Go.Proofs.Ytlflkdmbbomjeaa
open Go.RowKit
open St
theorem obj_info5 : (Try.prog.info? 40).map (fun i => (i.zero, i.size, i.bytes)) = some (some (.agg #[.int .i64 0, .bool false, .int .i64 0, .int .i64 0, .string ⟨#[]⟩, .int .i64 0, .int .i64 0, .int .i64 0]), 8, 72) := by kernel_rfl
set_option maxRecDepth 100000 in
set_option maxHeartbeats 2000000 in
theorem run_at {B : Nat → Prop} {O : Nat → Prop} {w : World} {s : Nat} {l : List Ob} {a : Option Addr} {c : Nat} {v : Value} {L : List Ac} (h : RunO B O w s l (.slice a l.length c)) (hl : l.length + 30 ≤ 100) (hA : ∀ W, Keep B w W → ActsR W v L) :
    Calls Try.prog 28 #[.pointer (some ⟨s, 0, none⟩), .slice a l.length c, v, .int .i64 30] w fun e w' => (∃ O' l' mv', e = .returned mv' ∧ RunO B O' w' s l' mv' ∧ l'.length ≤ l.length + 30) ∧ Keep B w w' := by
  have hA0 := hA w (Keep.refl _ _)
  have hfewL := hA0.few
  obtain ⟨va, vc, rfl⟩ : ∃ va vc, v = .slice va L.length vc := by
    rcases hA0.row with ⟨rfl, rfl⟩ | ⟨ad, cap, rfl, _⟩
    · exact ⟨none, 0, rfl⟩
    · exact ⟨_, _, rfl⟩
  have HA := Lib.hid hA
  have HR0 := Lib.hid h
  clear hA0 hA h
  go_enter Try.func28, Try.ntmps28
  go_wp2_with fail
  go_loopw [1, 9] (fun s1 s9 wr => ∃ (i : Nat) (O' : Nat → Prop) (l' : List Ob), s9 = .int .i64 i ∧ i ≤ 30 ∧ i ≤ L.length ∧ RunO B O' wr s l' s1 ∧ l'.length ≤ l.length + i ∧ Keep B w wr) (fun _ s9 _ => 30 - (intOf s9).toNat)
  case atStart => exact ⟨0, O, l, rfl, Nat.zero_le _, Nat.zero_le _, HR0.out, Nat.le_refl _, Keep.refl _ _⟩
  case round =>
    obtain ⟨i, O', l', rfl, hi30, hiL, hr, hl', hbw⟩ := hrel
    obtain ⟨ma, mc, rfl⟩ := own_slice hr.row
    have HR := Lib.hid hr
    have HBw := Lib.hid hbw
    by_cases hlt : i < L.length ∧ i < 30
    · obtain ⟨hlt1, hlt2⟩ := hlt
      obtain ⟨x, hx⟩ : ∃ x, L[i]? = some x := ⟨_, List.getElem?_eq_getElem hlt1⟩
      have hAr := HA.out wr hbw
      rcases hAr.row with ⟨e, e0⟩ | ⟨ad, cap, e, hc⟩
      · rw [e0] at hlt1; simp at hlt1
      cases e
      have hcx := hc i x hx
      have x0 : wr.cell? (ad.add (i * 7)) = some (.int .i64 x.d) := hcx 0 (by omega)
      have x1 : wr.cell? (ad.add (i * 7 + 1)) = some (.int .i64 x.a) := hcx 1 (by omega)
      have x2 : wr.cell? (ad.add (i * 7 + 2)) = some (.int .i64 x.c) := hcx 2 (by omega)
      have x3 : wr.cell? (ad.add (i * 7 + 3)) = some (.int .i64 x.k) := hcx 3 (by omega)
      have x4 : wr.cell? (ad.add (i * 7 + 4)) = some (.int .i64 x.n) := hcx 4 (by omega)
      have x5 : wr.cell? (ad.add (i * 7 + 5)) = some (.int .i64 x.m) := hcx 5 (by omega)
      have x6 : wr.cell? (ad.add (i * 7 + 6)) = some (.slice x.ba x.b.length x.bc) := hcx 6 (by omega)
      have yy1 := x1
      rw [add_two _ _ _ (by decide)] at yy1
      have yy2 := x2
      rw [add_two _ _ _ (by decide)] at yy2
      have yy3 := x3
      rw [add_two _ _ _ (by decide)] at yy3
      have yy4 := x4
      rw [add_two _ _ _ (by decide)] at yy4
      have yy5 := x5
      rw [add_two _ _ _ (by decide)] at yy5
      have yy6 := x6
      rw [add_two _ _ _ (by decide)] at yy6
      have hli : (i : Int) < (L.length : Int) := by omega
      have hli3 : (i : Int) < 30 := by omega
      have hxm := List.mem_of_getElem? hx
      have HXm := Lib.hid hxm
      have hw1 := below1 wr (acC x)
      have hr1 := hr.below hw1
      unfold acC at hw1 hr1
      have HR1 := Lib.hid hr1
      by_cases hskip : 500 < x.b.length ∨ 300 < x.n
      · have HBs := Lib.hid (hbw.trans (keep hw1 hr.base))
        clear hc hcx hAr hr hbw hr1 hw1 hx hxm
        by_cases hs1 : 500 < x.b.length
        · have hs1i : (500 : Int) < (x.b.length : Int) := by omega
          go_wp2_with fail
          go_roundw
          case rel => exact ⟨i + 1, O', l', by go_num, by omega, by omega, HR1.out, by omega, HBs.out⟩
          case measure => simp [intOf]; omega
        · have hs1i : ¬ (500 : Int) < (x.b.length : Int) := by omega
          have hs2 : 300 < x.n := by omega
          go_wp2_with fail
          go_roundw
          case rel => exact ⟨i + 1, O', l', by go_num, by omega, by omega, HR1.out, by omega, HBs.out⟩
          case measure => simp [intOf]; omega
      · have hs1i : ¬ (500 : Int) < (x.b.length : Int) := by omega
        have hs2 : ¬ 300 < x.n := by omega
        have hmk := make_vals l'.length (by omega)
        have hw2 := below1 (wr.alloc (acC x)) (.cells (zvalA l'.length) 45)
        have hr2 := (hr.below (below1 wr (acC x))).below hw2
        have hvr : ((wr.alloc (acC x)).alloc (.cells (zvalA l'.length) 45)).ownsRow 0 45 10 (.slice (some ⟨wr.heap.size + 1, 0, none⟩) l'.length l'.length) l'.length (zvals l'.length) := by
          have := own_of_block (w := (wr.alloc (acC x)).alloc (.cells (zvalA l'.length) 45)) (B := wr.heap.size + 1) (size := 10) (alloc_at (by simp)) (n := l'.length) (by omega) (zvalA_size _)
          rw [zvalA_list] at this
          exact this
        have HP1 := Lib.hid (pick_at hr2.row hvr hr2.good (by omega) x.a (hAr.a0 x hxm).1 (hAr.a0 x hxm).2)
        have hbx : ((wr.alloc (acC x)).alloc (.cells (zvalA l'.length) 45)).heap[wr.heap.size]? = some (acC x) := (heap_alloc_old _ _ (by simp)).trans (heap_alloc_new wr _)
        have HK2 := Lib.hid (fun W (hb : Below ((wr.alloc (acC x)).alloc (.cells (zvalA l'.length) 45)).heap.size ((wr.alloc (acC x)).alloc (.cells (zvalA l'.length) 45)) W) => And.intro (hr2.below hb) (And.intro (owns_same hvr (fun k hk => hb.block k (owns_lt hvr hk))) ((hb.block wr.heap.size (by simp; omega)).trans hbx)))
        have HCk := Lib.hid (And.intro (hAr.c0 x hxm) (hAr.k0 x hxm))
        have HBs2 := Lib.hid (hbw.trans (keep (bthen (below1 wr (acC x)) hw2) hr.base))
        unfold acC at HP1 HK2 HBs2
        clear hc hcx hAr hr hbw hr1 hw1 hw2 hr2 hvr hbx hx hxm hskip
        go_wp2_with fail
        refine HP1.out.mono ?_; rintro e w3 ⟨⟨o1, k1, y1, n1, m1, rfl, hg1⟩, hb3⟩
        obtain ⟨hr3, hv3, hx3⟩ := HK2.out w3 hb3
        have hz3 : wr.heap.size + 2 ≤ w3.heap.size := by have := hb3.size; simp at this; omega
        have hbw3 : Keep B w w3 := HBs2.out.trans (keep hb3 (fun k hk => by have := HR.out.base k hk; simp; omega))
        have hd4 := below2 w3 (obC o1) (.cells (valC k1 y1 n1 m1) 45)
        have hr4 := hr3.below hd4
        have hv4 := owns_same hv3 (fun k hk => hd4.block k (owns_lt hv3 hk))
        have hx4 := (hd4.block wr.heap.size (by omega)).trans hx3
        have hq4 : ((w3.alloc (obC o1)).alloc (.cells (valC k1 y1 n1 m1) 45)).heap[w3.heap.size]? = some (obC o1) := (heap_alloc_old _ _ (by simp)).trans (heap_alloc_new w3 _)
        have hbw4 : Keep B w ((w3.alloc (obC o1)).alloc (.cells (valC k1 y1 n1 m1) 45)) := hbw3.trans (keep hd4 (fun k hk => by have := HR.out.base k hk; omega))
        have HP2 := Lib.hid (pick_at hr4.row hv4 hr4.good (by omega) x.c HCk.out.1.1 HCk.out.1.2)
        have HK4 := Lib.hid (fun W (hb : Below ((w3.alloc (obC o1)).alloc (.cells (valC k1 y1 n1 m1) 45)).heap.size ((w3.alloc (obC o1)).alloc (.cells (valC k1 y1 n1 m1) 45)) W) => And.intro (hr4.below hb) (And.intro (owns_same hv4 (fun k hk => hb.block k (owns_lt hv4 hk))) (And.intro ((hb.block wr.heap.size (by simp; omega)).trans hx4) (And.intro ((hb.block w3.heap.size (by simp; omega)).trans hq4) (hbw4.trans (keep hb (fun k hk => by have := HR.out.base k hk; simp; omega)))))))
        have xx2 : ((w3.alloc (obC o1)).alloc (.cells (valC k1 y1 n1 m1) 45)).cell? ⟨wr.heap.size, 2, none⟩ = some (.int .i64 x.c) := blk_cell hx4 2
        have HG1 := Lib.hid hg1
        unfold obC valC at HP2 HK4 xx2
        unfold Ob.val valC
        clear hb3 hr3 hv3 hx3 hbw3 hd4 hr4 hv4 hx4 hq4 hbw4 x0 x1 x2 x3 x4 x5 x6 yy1 yy2 yy3 yy4 yy5 yy6 HP1 HK2
        go_wp2_with fail
        refine HP2.out.mono ?_; rintro e w5 ⟨⟨o2, k2, y2, n2, m2, rfl, hg2⟩, hb5⟩
        obtain ⟨hr5, hv5, hx5, hq5, hbw5⟩ := HK4.out w5 hb5
        have hz5 : w3.heap.size + 2 ≤ w5.heap.size := by have := hb5.size; simp at this; omega
        have hd6 := below2 w5 (obC o2) (.cells (valC k2 y2 n2 m2) 45)
        have hr6 := hr5.below hd6
        have hv6 := owns_same hv5 (fun k hk => hd6.block k (owns_lt hv5 hk))
        have hx6 := (hd6.block wr.heap.size (by omega)).trans hx5
        have hq6 := (hd6.block w3.heap.size (by omega)).trans hq5
        have hp6 : ((w5.alloc (obC o2)).alloc (.cells (valC k2 y2 n2 m2) 45)).heap[w5.heap.size]? = some (obC o2) := (heap_alloc_old _ _ (by simp)).trans (heap_alloc_new w5 _)
        have hbw6 : Keep B w ((w5.alloc (obC o2)).alloc (.cells (valC k2 y2 n2 m2) 45)) := hbw5.trans (keep hd6 (fun k hk => by have := HR.out.base k hk; omega))
        have HP3 := Lib.hid (pick_at hr6.row hv6 hr6.good (by omega) x.k HCk.out.2.1 HCk.out.2.2)
        have HK6 := Lib.hid (fun W (hb : Below ((w5.alloc (obC o2)).alloc (.cells (valC k2 y2 n2 m2) 45)).heap.size ((w5.alloc (obC o2)).alloc (.cells (valC k2 y2 n2 m2) 45)) W) => And.intro (hr6.below hb) (And.intro ((hb.block wr.heap.size (by simp; omega)).trans hx6) (And.intro ((hb.block w3.heap.size (by simp; omega)).trans hq6) (And.intro ((hb.block w5.heap.size (by simp; omega)).trans hp6) (hbw6.trans (keep hb (fun k hk => by have := HR.out.base k hk; simp; omega)))))))
        have xx3 : ((w5.alloc (obC o2)).alloc (.cells (valC k2 y2 n2 m2) 45)).cell? ⟨wr.heap.size, 3, none⟩ = some (.int .i64 x.k) := blk_cell hx6 3
        have HG2 := Lib.hid hg2
        unfold obC valC at HP3 HK6 xx3
        unfold Ob.val valC
        clear hb5 hr5 hv5 hx5 hq5 hbw5 hd6 hr6 hv6 hx6 hq6 hp6 hbw6 xx2 HP2 HK4
        go_wp2_with fail
        refine HP3.out.mono ?_; rintro e w7 ⟨⟨o3, k3, y3, n3, m3, rfl, hg3⟩, hb7⟩
        obtain ⟨hr7, hx7, hq7, hp7, hbw7⟩ := HK6.out w7 hb7
        have hz7 : w5.heap.size + 2 ≤ w7.heap.size := by have := hb7.size; simp at this; omega
        have hd8 : Below w7.heap.size w7 (((w7.alloc (obC o3)).alloc (.cells (valC k3 y3 n3 m3) 45)).alloc (.cells zeroOb 40)) := bthen (below2 w7 (obC o3) (.cells (valC k3 y3 n3 m3) 45)) (below1 _ _)
        have hpre : PreS B w s l' (.slice ma l'.length mc) x wr.heap.size w3.heap.size w5.heap.size w7.heap.size (w7.heap.size + 1 + 1) (((w7.alloc (obC o3)).alloc (.cells (valC k3 y3 n3 m3) 45)).alloc (.cells zeroOb 40)) := by
          refine ⟨⟨O', o1, o2, o3, hr7.below hd8, .fresh HR.out (Nat.le_refl _) ((hd8.block _ (by omega)).trans hx7), .fresh HR.out (by omega) ((hd8.block _ (by omega)).trans hq7), .fresh HR.out (by omega) ((hd8.block _ (by omega)).trans hp7), .fresh HR.out (by omega) ?_, .fresh HR.out (by omega) ?_, HG1.out, HG2.out, hg3⟩, hbw7.trans (keep hd8 (fun k hk => by have := HR.out.base k hk; omega))⟩
          · rw [heap_alloc_old _ _ (by simp; omega), heap_alloc_old _ _ (by simp)]; exact heap_alloc_new w7 _
          · exact alloc_at (by simp)
        have hz8 : ¬ B (w7.heap.size + 1 + 1) := fun hq => by have := HR.out.base _ hq; omega
        unfold obC valC zeroOb at hpre
        have HPre := Lib.hid hpre
        unfold Ob.val valC
        clear hb7 hr7 hx7 hq7 hp7 hbw7 hd8 xx3 HP3 HK6 hpre hg3 hmk
        go_upto_region 12 with (fail)
        generalize ((w7.alloc _).alloc _).alloc _ = W at HPre ⊢
        -- THE SWITCH
        by_cases hsw : x.d = 1 ∨ x.d = 2 ∨ x.d = 3 ∨ x.d = 4 ∨ x.d = 5 ∨ x.d = 6 ∨ x.d = 7 ∨ x.d = 8 ∨ x.d = 9 ∨ x.d = 10
        · rcases hsw with hd0 | hd0 | hd0 | hd0 | hd0 | hd0 | hd0 | hd0 | hd0 | hd0
          · -- 1
            obtain ⟨⟨O2, p1, p2, p3, hrW, hb0, hb1, hb2, hb3, hb4, g1, g2, g3⟩, hbel⟩ := HPre.out
            obtain ⟨fr, G, hR, hG⟩ := hrW.rep
            have z0 : W.cell? ⟨wr.heap.size, 0, none⟩ = some (.int .i64 x.d) := blk_cell hb0.blk 0
            have z4 : W.cell? ⟨wr.heap.size, 4, none⟩ = some (.int .i64 x.n) := blk_cell hb0.blk 4
            have z5 : W.cell? ⟨wr.heap.size, 5, none⟩ = some (.int .i64 x.m) := blk_cell hb0.blk 5
            have z6 : W.cell? ⟨wr.heap.size, 6, none⟩ = some (.slice x.ba x.b.length x.bc) := blk_cell hb0.blk 6
            have HrW := Lib.hid hrW
            have Hb4 := Lib.hid hb4
            have Hbel := Lib.hid hbel
            have HC := Lib.hid (string_up hR hG x.n (by omega))
            rw [hd0] at z0
            clear hb0 hb1 hb2 hb3 hb4 hrW hbel hR hG g1 g2 g3 hd0
            go_wp2_with fail
            refine HC.out.mono ?_
            rintro e w9 ⟨⟨p, E, rfl, hgp⟩, hu⟩
            obtain ⟨O3, hr9, hb9, hO9, hF9⟩ := HrW.out.upd hu
            have hbx9 := Hb4.out.upd hF9 hO9
            have hp := put8 hbx9.blk (.int .i64 p.kind) (.bool p.exec) (.int .i64 p.acc) (.int .i64 p.n) (.string p.name) (.int .i64 p.ref) (.int .i64 p.frm) (.int .i64 p.len)
            have hpos := pos_put hr9 hbx9 hz8 (Hbel.out.trans hb9) hgp hp
            obtain ⟨d0, d1, d2, d3, d4, d5, d6, d7, df⟩ := box_cells hbx9.blk
            unfold Ob.val
            clear hu hr9 hb9 hO9 hF9 hbx9 hp hgp
            go_upto_region 33 with (fail)
            generalize (World.setCell _ _ _) = W9 at hpos ⊢
            obtain ⟨⟨O4, pp, hr4, hbx, hgp⟩, hbl⟩ := hpos
            clear d0 d1 d2 d3 d4 d5 d6 d7 df
            have HR4 := Lib.hid hr4
            have HBl := Lib.hid hbl
            have HGp := Lib.hid hgp
            have hbb := hbx.blk
            unfold obC at hbb
            obtain ⟨u0, u1, u2, u3, u4, u5, u6, u7⟩ := cellsOb hbb
            clear hr4 hbl hgp hbx hbb
            by_cases hE : E = 0
            · subst hE
              obtain ⟨i0, hi0, hz0, hz1, hz2⟩ := info_parts obj_info5
              have HI := Lib.hid (And.intro hi0 (And.intro hz0 (And.intro hz1 hz2)))
              clear hi0 hz0 hz1 hz2
              go_wp2_with (at_builtin; refine wpList_append_lies _ rfl (.tmp 162) (.tmp 164) 34 rfl 0 40 i0 _ 8 72 Try.underlying34 HI.out.1 HI.out.2.1 HI.out.2.2.1 HI.out.2.2.2 rfl (by omega) (.slice ma l'.length mc) l'.length (l'.flatMap Ob.cells) rfl (HR4.out.row.alloc _) ⟨W9.heap.size, 0, none⟩ 1 1 [.int .i64 pp.kind, .bool pp.exec, .int .i64 pp.acc, .int .i64 pp.n, .string pp.name, .int .i64 pp.ref, .int .i64 pp.frm, .int .i64 pp.len] rfl rfl (World.news_of_block (cs := #[.int .i64 pp.kind, .bool pp.exec, .int .i64 pp.acc, .int .i64 pp.n, .string pp.name, .int .i64 pp.ref, .int .i64 pp.frm, .int .i64 pp.len]) (t := 40) (fr := (0, 0)) (alloc_at rfl)) (by simp [Value.oneCell']) (by omega) (by unfold maxLen; omega) (by omega) (by simp) (W9.heap.size + 1) (by simp) ?_; intro gg cap2 w10 hown10 hgrow10 hat10 hlt10; have HApp := Lib.hid (run_app (p := pp) HR4.out HBl.out HGp.out hown10 hgrow10 hat10); clear hown10 hgrow10 hat10)
              go_roundw
              case rel =>
                have := HApp.out
                rw [List.length_append, List.length_singleton] at this
                exact ⟨i + 1, O4, l' ++ [pp], by go_num, by omega, by omega, this.1, by simp; omega, this.2⟩
              case measure => simp [intOf]; omega
            · have hEe : (E == 0) = false := by simp [hE]
              clear hE
              go_wp2_with fail
              go_roundw
              case rel => exact ⟨i + 1, O4, l', by go_num, by omega, by omega, HR4.out, by omega, HBl.out⟩
              case measure => simp [intOf]; omega
          · -- 2
            obtain ⟨⟨O2, p1, p2, p3, hrW, hb0, hb1, hb2, hb3, hb4, g1, g2, g3⟩, hbel⟩ := HPre.out
            obtain ⟨fr, G, hR, hG⟩ := hrW.rep
            have z0 : W.cell? ⟨wr.heap.size, 0, none⟩ = some (.int .i64 x.d) := blk_cell hb0.blk 0
            have z4 : W.cell? ⟨wr.heap.size, 4, none⟩ = some (.int .i64 x.n) := blk_cell hb0.blk 4
            have z5 : W.cell? ⟨wr.heap.size, 5, none⟩ = some (.int .i64 x.m) := blk_cell hb0.blk 5
            have z6 : W.cell? ⟨wr.heap.size, 6, none⟩ = some (.slice x.ba x.b.length x.bc) := blk_cell hb0.blk 6
            have HrW := Lib.hid hrW
            have Hb4 := Lib.hid hb4
            have Hbel := Lib.hid hbel
            have HC := Lib.hid (array_up hR hG x.n (by omega))
            rw [hd0] at z0
            clear hb0 hb1 hb2 hb3 hb4 hrW hbel hR hG g1 g2 g3 hd0
            go_wp2_with fail
            refine HC.out.mono ?_
            rintro e w9 ⟨⟨p, E, rfl, hgp⟩, hu⟩
            obtain ⟨O3, hr9, hb9, hO9, hF9⟩ := HrW.out.upd hu
            have hbx9 := Hb4.out.upd hF9 hO9
            have hp := put8 hbx9.blk (.int .i64 p.kind) (.bool p.exec) (.int .i64 p.acc) (.int .i64 p.n) (.string p.name) (.int .i64 p.ref) (.int .i64 p.frm) (.int .i64 p.len)
            have hpos := pos_put hr9 hbx9 hz8 (Hbel.out.trans hb9) hgp hp
            obtain ⟨d0, d1, d2, d3, d4, d5, d6, d7, df⟩ := box_cells hbx9.blk
            unfold Ob.val
            clear hu hr9 hb9 hO9 hF9 hbx9 hp hgp
            go_upto_region 33 with (fail)
            generalize (World.setCell _ _ _) = W9 at hpos ⊢
            obtain ⟨⟨O4, pp, hr4, hbx, hgp⟩, hbl⟩ := hpos
            clear d0 d1 d2 d3 d4 d5 d6 d7 df
            have HR4 := Lib.hid hr4
            have HBl := Lib.hid hbl
            have HGp := Lib.hid hgp
            have hbb := hbx.blk
            unfold obC at hbb
            obtain ⟨u0, u1, u2, u3, u4, u5, u6, u7⟩ := cellsOb hbb
            clear hr4 hbl hgp hbx hbb
            by_cases hE : E = 0
            · subst hE
              obtain ⟨i0, hi0, hz0, hz1, hz2⟩ := info_parts obj_info5
              have HI := Lib.hid (And.intro hi0 (And.intro hz0 (And.intro hz1 hz2)))
              clear hi0 hz0 hz1 hz2
              go_wp2_with (at_builtin; refine wpList_append_lies _ rfl (.tmp 162) (.tmp 164) 34 rfl 0 40 i0 _ 8 72 Try.underlying34 HI.out.1 HI.out.2.1 HI.out.2.2.1 HI.out.2.2.2 rfl (by omega) (.slice ma l'.length mc) l'.length (l'.flatMap Ob.cells) rfl (HR4.out.row.alloc _) ⟨W9.heap.size, 0, none⟩ 1 1 [.int .i64 pp.kind, .bool pp.exec, .int .i64 pp.acc, .int .i64 pp.n, .string pp.name, .int .i64 pp.ref, .int .i64 pp.frm, .int .i64 pp.len] rfl rfl (World.news_of_block (cs := #[.int .i64 pp.kind, .bool pp.exec, .int .i64 pp.acc, .int .i64 pp.n, .string pp.name, .int .i64 pp.ref, .int .i64 pp.frm, .int .i64 pp.len]) (t := 40) (fr := (0, 0)) (alloc_at rfl)) (by simp [Value.oneCell']) (by omega) (by unfold maxLen; omega) (by omega) (by simp) (W9.heap.size + 1) (by simp) ?_; intro gg cap2 w10 hown10 hgrow10 hat10 hlt10; have HApp := Lib.hid (run_app (p := pp) HR4.out HBl.out HGp.out hown10 hgrow10 hat10); clear hown10 hgrow10 hat10)
              go_roundw
              case rel =>
                have := HApp.out
                rw [List.length_append, List.length_singleton] at this
                exact ⟨i + 1, O4, l' ++ [pp], by go_num, by omega, by omega, this.1, by simp; omega, this.2⟩
              case measure => simp [intOf]; omega
            · have hEe : (E == 0) = false := by simp [hE]
              clear hE
              go_wp2_with fail
              go_roundw
              case rel => exact ⟨i + 1, O4, l', by go_num, by omega, by omega, HR4.out, by omega, HBl.out⟩
              case measure => simp [intOf]; omega
          · -- 3
            obtain ⟨⟨O2, p1, p2, p3, hrW, hb0, hb1, hb2, hb3, hb4, g1, g2, g3⟩, hbel⟩ := HPre.out
            obtain ⟨fr, G, hR, hG⟩ := hrW.rep
            have z0 : W.cell? ⟨wr.heap.size, 0, none⟩ = some (.int .i64 x.d) := blk_cell hb0.blk 0
            have z4 : W.cell? ⟨wr.heap.size, 4, none⟩ = some (.int .i64 x.n) := blk_cell hb0.blk 4
            have z5 : W.cell? ⟨wr.heap.size, 5, none⟩ = some (.int .i64 x.m) := blk_cell hb0.blk 5
            have z6 : W.cell? ⟨wr.heap.size, 6, none⟩ = some (.slice x.ba x.b.length x.bc) := blk_cell hb0.blk 6
            have HrW := Lib.hid hrW
            have Hb4 := Lib.hid hb4
            have Hbel := Lib.hid hbel
            have HC := Lib.hid (dict_up hR hG x.n (by omega))
            rw [hd0] at z0
            clear hb0 hb1 hb2 hb3 hb4 hrW hbel hR hG g1 g2 g3 hd0
            go_wp2_with fail
            refine HC.out.mono ?_
            rintro e w9 ⟨⟨p, E, rfl, hgp⟩, hu⟩
            obtain ⟨O3, hr9, hb9, hO9, hF9⟩ := HrW.out.upd hu
            have hbx9 := Hb4.out.upd hF9 hO9
            have hp := put8 hbx9.blk (.int .i64 p.kind) (.bool p.exec) (.int .i64 p.acc) (.int .i64 p.n) (.string p.name) (.int .i64 p.ref) (.int .i64 p.frm) (.int .i64 p.len)
            have hpos := pos_put hr9 hbx9 hz8 (Hbel.out.trans hb9) hgp hp
            obtain ⟨d0, d1, d2, d3, d4, d5, d6, d7, df⟩ := box_cells hbx9.blk
            unfold Ob.val
            clear hu hr9 hb9 hO9 hF9 hbx9 hp hgp
            go_upto_region 33 with (fail)
            generalize (World.setCell _ _ _) = W9 at hpos ⊢
            obtain ⟨⟨O4, pp, hr4, hbx, hgp⟩, hbl⟩ := hpos
            clear d0 d1 d2 d3 d4 d5 d6 d7 df
            have HR4 := Lib.hid hr4
            have HBl := Lib.hid hbl
            have HGp := Lib.hid hgp
            have hbb := hbx.blk
            unfold obC at hbb
            obtain ⟨u0, u1, u2, u3, u4, u5, u6, u7⟩ := cellsOb hbb
            clear hr4 hbl hgp hbx hbb
            by_cases hE : E = 0
            · subst hE
              obtain ⟨i0, hi0, hz0, hz1, hz2⟩ := info_parts obj_info5
              have HI := Lib.hid (And.intro hi0 (And.intro hz0 (And.intro hz1 hz2)))
              clear hi0 hz0 hz1 hz2
              go_wp2_with (at_builtin; refine wpList_append_lies _ rfl (.tmp 162) (.tmp 164) 34 rfl 0 40 i0 _ 8 72 Try.underlying34 HI.out.1 HI.out.2.1 HI.out.2.2.1 HI.out.2.2.2 rfl (by omega) (.slice ma l'.length mc) l'.length (l'.flatMap Ob.cells) rfl (HR4.out.row.alloc _) ⟨W9.heap.size, 0, none⟩ 1 1 [.int .i64 pp.kind, .bool pp.exec, .int .i64 pp.acc, .int .i64 pp.n, .string pp.name, .int .i64 pp.ref, .int .i64 pp.frm, .int .i64 pp.len] rfl rfl (World.news_of_block (cs := #[.int .i64 pp.kind, .bool pp.exec, .int .i64 pp.acc, .int .i64 pp.n, .string pp.name, .int .i64 pp.ref, .int .i64 pp.frm, .int .i64 pp.len]) (t := 40) (fr := (0, 0)) (alloc_at rfl)) (by simp [Value.oneCell']) (by omega) (by unfold maxLen; omega) (by omega) (by simp) (W9.heap.size + 1) (by simp) ?_; intro gg cap2 w10 hown10 hgrow10 hat10 hlt10; have HApp := Lib.hid (run_app (p := pp) HR4.out HBl.out HGp.out hown10 hgrow10 hat10); clear hown10 hgrow10 hat10)
              go_roundw
              case rel =>
                have := HApp.out
                rw [List.length_append, List.length_singleton] at this
                exact ⟨i + 1, O4, l' ++ [pp], by go_num, by omega, by omega, this.1, by simp; omega, this.2⟩
              case measure => simp [intOf]; omega
            · have hEe : (E == 0) = false := by simp [hE]
              clear hE
              go_wp2_with fail
              go_roundw
              case rel => exact ⟨i + 1, O4, l', by go_num, by omega, by omega, HR4.out, by omega, HBl.out⟩
              case measure => simp [intOf]; omega
          · -- 4
            obtain ⟨⟨O2, p1, p2, p3, hrW, hb0, hb1, hb2, hb3, hb4, g1, g2, g3⟩, hbel⟩ := HPre.out
            obtain ⟨fr, G, hR, hG⟩ := hrW.rep
            have z0 : W.cell? ⟨wr.heap.size, 0, none⟩ = some (.int .i64 x.d) := blk_cell hb0.blk 0
            have z4 : W.cell? ⟨wr.heap.size, 4, none⟩ = some (.int .i64 x.n) := blk_cell hb0.blk 4
            have z5 : W.cell? ⟨wr.heap.size, 5, none⟩ = some (.int .i64 x.m) := blk_cell hb0.blk 5
            have z6 : W.cell? ⟨wr.heap.size, 6, none⟩ = some (.slice x.ba x.b.length x.bc) := blk_cell hb0.blk 6
            have HrW := Lib.hid hrW
            have Hb4 := Lib.hid hb4
            have Hbel := Lib.hid hbel
            have hltW : wr.heap.size < W.heap.size := (Array.getElem?_eq_some_iff.1 hb0.blk).1
            have hAx := HA.out W hbel
            have hSx := hAx.src x HXm.out
            obtain ⟨Bc, c2, w2, hrun, hb2, hBc, hown2⟩ := copied5 (c := x.bc) hSx (hAx.nil x HXm.out) (by omega) 36
            have hr2W := hrW.below hb2
            obtain ⟨fr2, G2, hR2, hG2⟩ := hr2W.rep
            have HC := Lib.hid (text_up (c := c2) hR2 hG2 (src_own hown2 rfl) (by omega))
            have HRun := Lib.hid hrun
            have HrW := Lib.hid hr2W
            have Hb4 := Lib.hid (hb4.below hb2)
            have Hbel := Lib.hid (hbel.trans (keep hb2 hrW.base))
            rw [hd0] at z0
            clear hb0 hb1 hb2 hb3 hb4 hrW hbel hR hG g1 g2 g3 hd0 hAx hSx hrun hr2W hR2 hG2 hown2
            go_wp2_with (at_builtin; refine wpList_append_run5 rfl (.tmp 104) (.tmp 106) 36 36 (.slice (some ⟨Bc, 0, none⟩) x.b.length c2) rfl rfl _ _ rfl rfl HRun.out ?_)
            refine HC.out.mono ?_
            rintro e w9 ⟨⟨p, E, rfl, hgp⟩, hu⟩
            obtain ⟨O3, hr9, hb9, hO9, hF9⟩ := HrW.out.upd hu
            have hbx9 := Hb4.out.upd hF9 hO9
            have hp := put8 hbx9.blk (.int .i64 p.kind) (.bool p.exec) (.int .i64 p.acc) (.int .i64 p.n) (.string p.name) (.int .i64 p.ref) (.int .i64 p.frm) (.int .i64 p.len)
            have hpos := pos_put hr9 hbx9 hz8 (Hbel.out.trans hb9) hgp hp
            obtain ⟨d0, d1, d2, d3, d4, d5, d6, d7, df⟩ := box_cells hbx9.blk
            unfold Ob.val
            clear hu hr9 hb9 hO9 hF9 hbx9 hp hgp
            go_upto_region 33 with (fail)
            generalize (World.setCell _ _ _) = W9 at hpos ⊢
            obtain ⟨⟨O4, pp, hr4, hbx, hgp⟩, hbl⟩ := hpos
            clear d0 d1 d2 d3 d4 d5 d6 d7 df
            have HR4 := Lib.hid hr4
            have HBl := Lib.hid hbl
            have HGp := Lib.hid hgp
            have hbb := hbx.blk
            unfold obC at hbb
            obtain ⟨u0, u1, u2, u3, u4, u5, u6, u7⟩ := cellsOb hbb
            clear hr4 hbl hgp hbx hbb
            by_cases hE : E = 0
            · subst hE
              obtain ⟨i0, hi0, hz0, hz1, hz2⟩ := info_parts obj_info5
              have HI := Lib.hid (And.intro hi0 (And.intro hz0 (And.intro hz1 hz2)))
              clear hi0 hz0 hz1 hz2
              go_wp2_with (at_builtin; refine wpList_append_lies _ rfl (.tmp 162) (.tmp 164) 34 rfl 0 40 i0 _ 8 72 Try.underlying34 HI.out.1 HI.out.2.1 HI.out.2.2.1 HI.out.2.2.2 rfl (by omega) (.slice ma l'.length mc) l'.length (l'.flatMap Ob.cells) rfl (HR4.out.row.alloc _) ⟨W9.heap.size, 0, none⟩ 1 1 [.int .i64 pp.kind, .bool pp.exec, .int .i64 pp.acc, .int .i64 pp.n, .string pp.name, .int .i64 pp.ref, .int .i64 pp.frm, .int .i64 pp.len] rfl rfl (World.news_of_block (cs := #[.int .i64 pp.kind, .bool pp.exec, .int .i64 pp.acc, .int .i64 pp.n, .string pp.name, .int .i64 pp.ref, .int .i64 pp.frm, .int .i64 pp.len]) (t := 40) (fr := (0, 0)) (alloc_at rfl)) (by simp [Value.oneCell']) (by omega) (by unfold maxLen; omega) (by omega) (by simp) (W9.heap.size + 1) (by simp) ?_; intro gg cap2 w10 hown10 hgrow10 hat10 hlt10; have HApp := Lib.hid (run_app (p := pp) HR4.out HBl.out HGp.out hown10 hgrow10 hat10); clear hown10 hgrow10 hat10)
              go_roundw
              case rel =>
                have := HApp.out
                rw [List.length_append, List.length_singleton] at this
                exact ⟨i + 1, O4, l' ++ [pp], by go_num, by omega, by omega, this.1, by simp; omega, this.2⟩
              case measure => simp [intOf]; omega
            · have hEe : (E == 0) = false := by simp [hE]
              clear hE
              go_wp2_with fail
              go_roundw
              case rel => exact ⟨i + 1, O4, l', by go_num, by omega, by omega, HR4.out, by omega, HBl.out⟩
              case measure => simp [intOf]; omega
          · -- 5
            obtain ⟨⟨O2, p1, p2, p3, hrW, hb0, hb1, hb2, hb3, hb4, g1, g2, g3⟩, hbel⟩ := HPre.out
            obtain ⟨fr, G, hR, hG⟩ := hrW.rep
            have z0 : W.cell? ⟨wr.heap.size, 0, none⟩ = some (.int .i64 x.d) := blk_cell hb0.blk 0
            have z4 : W.cell? ⟨wr.heap.size, 4, none⟩ = some (.int .i64 x.n) := blk_cell hb0.blk 4
            have z5 : W.cell? ⟨wr.heap.size, 5, none⟩ = some (.int .i64 x.m) := blk_cell hb0.blk 5
            have z6 : W.cell? ⟨wr.heap.size, 6, none⟩ = some (.slice x.ba x.b.length x.bc) := blk_cell hb0.blk 6
            have q00 : W.cell? ⟨w3.heap.size, 0, none⟩ = some (.int .i64 p1.kind) := blk_cell hb1.blk 0
            have q01 : W.cell? ⟨w3.heap.size, 1, none⟩ = some (.bool p1.exec) := blk_cell hb1.blk 1
            have q02 : W.cell? ⟨w3.heap.size, 2, none⟩ = some (.int .i64 p1.acc) := blk_cell hb1.blk 2
            have q03 : W.cell? ⟨w3.heap.size, 3, none⟩ = some (.int .i64 p1.n) := blk_cell hb1.blk 3
            have q04 : W.cell? ⟨w3.heap.size, 4, none⟩ = some (.string p1.name) := blk_cell hb1.blk 4
            have q05 : W.cell? ⟨w3.heap.size, 5, none⟩ = some (.int .i64 p1.ref) := blk_cell hb1.blk 5
            have q06 : W.cell? ⟨w3.heap.size, 6, none⟩ = some (.int .i64 p1.frm) := blk_cell hb1.blk 6
            have q07 : W.cell? ⟨w3.heap.size, 7, none⟩ = some (.int .i64 p1.len) := blk_cell hb1.blk 7
            have HrW := Lib.hid hrW
            have Hb4 := Lib.hid hb4
            have Hbel := Lib.hid hbel
            have hSx := (HA.out W hbel).src x HXm.out
            have HC := Lib.hid (write_up (c0 := x.bc) hR hG hSx p1 x.n)
            unfold Ob.val at HC
            rw [hd0] at z0
            clear hb0 hb1 hb2 hb3 hb4 hrW hbel hR hG g1 g2 g3 hd0
            go_wp2_with fail
            refine HC.out.mono ?_
            rintro e w9 ⟨⟨E, rfl⟩, hu⟩
            obtain ⟨O3, hr9, hb9, hO9, hF9⟩ := HrW.out.upd hu
            have HR9 := Lib.hid hr9
            have HB9 := Lib.hid (Hbel.out.trans hb9)
            clear hu hr9 hb9 hO9 hF9
            go_wp2_with fail
            go_roundw
            case rel => exact ⟨i + 1, O3, l', by go_num, by omega, by omega, HR9.out, by omega, HB9.out⟩
            case measure => simp [intOf]; omega
          · -- 6
            obtain ⟨⟨O2, p1, p2, p3, hrW, hb0, hb1, hb2, hb3, hb4, g1, g2, g3⟩, hbel⟩ := HPre.out
            obtain ⟨fr, G, hR, hG⟩ := hrW.rep
            have z0 : W.cell? ⟨wr.heap.size, 0, none⟩ = some (.int .i64 x.d) := blk_cell hb0.blk 0
            have z4 : W.cell? ⟨wr.heap.size, 4, none⟩ = some (.int .i64 x.n) := blk_cell hb0.blk 4
            have z5 : W.cell? ⟨wr.heap.size, 5, none⟩ = some (.int .i64 x.m) := blk_cell hb0.blk 5
            have z6 : W.cell? ⟨wr.heap.size, 6, none⟩ = some (.slice x.ba x.b.length x.bc) := blk_cell hb0.blk 6
            have q00 : W.cell? ⟨w3.heap.size, 0, none⟩ = some (.int .i64 p1.kind) := blk_cell hb1.blk 0
            have q01 : W.cell? ⟨w3.heap.size, 1, none⟩ = some (.bool p1.exec) := blk_cell hb1.blk 1
            have q02 : W.cell? ⟨w3.heap.size, 2, none⟩ = some (.int .i64 p1.acc) := blk_cell hb1.blk 2
            have q03 : W.cell? ⟨w3.heap.size, 3, none⟩ = some (.int .i64 p1.n) := blk_cell hb1.blk 3
            have q04 : W.cell? ⟨w3.heap.size, 4, none⟩ = some (.string p1.name) := blk_cell hb1.blk 4
            have q05 : W.cell? ⟨w3.heap.size, 5, none⟩ = some (.int .i64 p1.ref) := blk_cell hb1.blk 5
            have q06 : W.cell? ⟨w3.heap.size, 6, none⟩ = some (.int .i64 p1.frm) := blk_cell hb1.blk 6
            have q07 : W.cell? ⟨w3.heap.size, 7, none⟩ = some (.int .i64 p1.len) := blk_cell hb1.blk 7
            have q10 : W.cell? ⟨w5.heap.size, 0, none⟩ = some (.int .i64 p2.kind) := blk_cell hb2.blk 0
            have q11 : W.cell? ⟨w5.heap.size, 1, none⟩ = some (.bool p2.exec) := blk_cell hb2.blk 1
            have q12 : W.cell? ⟨w5.heap.size, 2, none⟩ = some (.int .i64 p2.acc) := blk_cell hb2.blk 2
            have q13 : W.cell? ⟨w5.heap.size, 3, none⟩ = some (.int .i64 p2.n) := blk_cell hb2.blk 3
            have q14 : W.cell? ⟨w5.heap.size, 4, none⟩ = some (.string p2.name) := blk_cell hb2.blk 4
            have q15 : W.cell? ⟨w5.heap.size, 5, none⟩ = some (.int .i64 p2.ref) := blk_cell hb2.blk 5
            have q16 : W.cell? ⟨w5.heap.size, 6, none⟩ = some (.int .i64 p2.frm) := blk_cell hb2.blk 6
            have q17 : W.cell? ⟨w5.heap.size, 7, none⟩ = some (.int .i64 p2.len) := blk_cell hb2.blk 7
            have HrW := Lib.hid hrW
            have Hb4 := Lib.hid hb4
            have Hbel := Lib.hid hbel
            have HC := Lib.hid (put_up hR hG p1 x.n p2 g2)
            unfold Ob.val at HC
            rw [hd0] at z0
            clear hb0 hb1 hb2 hb3 hb4 hrW hbel hR hG g1 g2 g3 hd0
            go_wp2_with fail
            refine HC.out.mono ?_
            rintro e w9 ⟨⟨E, rfl⟩, hu⟩
            obtain ⟨O3, hr9, hb9, hO9, hF9⟩ := HrW.out.upd hu
            have HR9 := Lib.hid hr9
            have HB9 := Lib.hid (Hbel.out.trans hb9)
            clear hu hr9 hb9 hO9 hF9
            go_wp2_with fail
            go_roundw
            case rel => exact ⟨i + 1, O3, l', by go_num, by omega, by omega, HR9.out, by omega, HB9.out⟩
            case measure => simp [intOf]; omega
          · -- 7
            obtain ⟨⟨O2, p1, p2, p3, hrW, hb0, hb1, hb2, hb3, hb4, g1, g2, g3⟩, hbel⟩ := HPre.out
            obtain ⟨fr, G, hR, hG⟩ := hrW.rep
            have z0 : W.cell? ⟨wr.heap.size, 0, none⟩ = some (.int .i64 x.d) := blk_cell hb0.blk 0
            have z4 : W.cell? ⟨wr.heap.size, 4, none⟩ = some (.int .i64 x.n) := blk_cell hb0.blk 4
            have z5 : W.cell? ⟨wr.heap.size, 5, none⟩ = some (.int .i64 x.m) := blk_cell hb0.blk 5
            have z6 : W.cell? ⟨wr.heap.size, 6, none⟩ = some (.slice x.ba x.b.length x.bc) := blk_cell hb0.blk 6
            have q00 : W.cell? ⟨w3.heap.size, 0, none⟩ = some (.int .i64 p1.kind) := blk_cell hb1.blk 0
            have q01 : W.cell? ⟨w3.heap.size, 1, none⟩ = some (.bool p1.exec) := blk_cell hb1.blk 1
            have q02 : W.cell? ⟨w3.heap.size, 2, none⟩ = some (.int .i64 p1.acc) := blk_cell hb1.blk 2
            have q03 : W.cell? ⟨w3.heap.size, 3, none⟩ = some (.int .i64 p1.n) := blk_cell hb1.blk 3
            have q04 : W.cell? ⟨w3.heap.size, 4, none⟩ = some (.string p1.name) := blk_cell hb1.blk 4
            have q05 : W.cell? ⟨w3.heap.size, 5, none⟩ = some (.int .i64 p1.ref) := blk_cell hb1.blk 5
            have q06 : W.cell? ⟨w3.heap.size, 6, none⟩ = some (.int .i64 p1.frm) := blk_cell hb1.blk 6
            have q07 : W.cell? ⟨w3.heap.size, 7, none⟩ = some (.int .i64 p1.len) := blk_cell hb1.blk 7
            have HrW := Lib.hid hrW
            have Hb4 := Lib.hid hb4
            have Hbel := Lib.hid hbel
            have HC := Lib.hid (part_up hR hG p1 g1 x.n x.m)
            unfold Ob.val at HC
            rw [hd0] at z0
            clear hb0 hb1 hb2 hb3 hb4 hrW hbel hR hG g1 g2 g3 hd0
            go_wp2_with fail
            refine HC.out.mono ?_
            rintro e w9 ⟨⟨p, E, rfl, hgp⟩, hu⟩
            obtain ⟨O3, hr9, hb9, hO9, hF9⟩ := HrW.out.upd hu
            have hbx9 := Hb4.out.upd hF9 hO9
            have hp := put8 hbx9.blk (.int .i64 p.kind) (.bool p.exec) (.int .i64 p.acc) (.int .i64 p.n) (.string p.name) (.int .i64 p.ref) (.int .i64 p.frm) (.int .i64 p.len)
            have hpos := pos_put hr9 hbx9 hz8 (Hbel.out.trans hb9) hgp hp
            obtain ⟨d0, d1, d2, d3, d4, d5, d6, d7, df⟩ := box_cells hbx9.blk
            unfold Ob.val
            clear hu hr9 hb9 hO9 hF9 hbx9 hp hgp
            go_upto_region 33 with (fail)
            generalize (World.setCell _ _ _) = W9 at hpos ⊢
            obtain ⟨⟨O4, pp, hr4, hbx, hgp⟩, hbl⟩ := hpos
            clear d0 d1 d2 d3 d4 d5 d6 d7 df
            have HR4 := Lib.hid hr4
            have HBl := Lib.hid hbl
            have HGp := Lib.hid hgp
            have hbb := hbx.blk
            unfold obC at hbb
            obtain ⟨u0, u1, u2, u3, u4, u5, u6, u7⟩ := cellsOb hbb
            clear hr4 hbl hgp hbx hbb
            by_cases hE : E = 0
            · subst hE
              obtain ⟨i0, hi0, hz0, hz1, hz2⟩ := info_parts obj_info5
              have HI := Lib.hid (And.intro hi0 (And.intro hz0 (And.intro hz1 hz2)))
              clear hi0 hz0 hz1 hz2
              go_wp2_with (at_builtin; refine wpList_append_lies _ rfl (.tmp 162) (.tmp 164) 34 rfl 0 40 i0 _ 8 72 Try.underlying34 HI.out.1 HI.out.2.1 HI.out.2.2.1 HI.out.2.2.2 rfl (by omega) (.slice ma l'.length mc) l'.length (l'.flatMap Ob.cells) rfl (HR4.out.row.alloc _) ⟨W9.heap.size, 0, none⟩ 1 1 [.int .i64 pp.kind, .bool pp.exec, .int .i64 pp.acc, .int .i64 pp.n, .string pp.name, .int .i64 pp.ref, .int .i64 pp.frm, .int .i64 pp.len] rfl rfl (World.news_of_block (cs := #[.int .i64 pp.kind, .bool pp.exec, .int .i64 pp.acc, .int .i64 pp.n, .string pp.name, .int .i64 pp.ref, .int .i64 pp.frm, .int .i64 pp.len]) (t := 40) (fr := (0, 0)) (alloc_at rfl)) (by simp [Value.oneCell']) (by omega) (by unfold maxLen; omega) (by omega) (by simp) (W9.heap.size + 1) (by simp) ?_; intro gg cap2 w10 hown10 hgrow10 hat10 hlt10; have HApp := Lib.hid (run_app (p := pp) HR4.out HBl.out HGp.out hown10 hgrow10 hat10); clear hown10 hgrow10 hat10)
              go_roundw
              case rel =>
                have := HApp.out
                rw [List.length_append, List.length_singleton] at this
                exact ⟨i + 1, O4, l' ++ [pp], by go_num, by omega, by omega, this.1, by simp; omega, this.2⟩
              case measure => simp [intOf]; omega
            · have hEe : (E == 0) = false := by simp [hE]
              clear hE
              go_wp2_with fail
              go_roundw
              case rel => exact ⟨i + 1, O4, l', by go_num, by omega, by omega, HR4.out, by omega, HBl.out⟩
              case measure => simp [intOf]; omega
          · -- 8
            obtain ⟨⟨O2, p1, p2, p3, hrW, hb0, hb1, hb2, hb3, hb4, g1, g2, g3⟩, hbel⟩ := HPre.out
            obtain ⟨fr, G, hR, hG⟩ := hrW.rep
            have z0 : W.cell? ⟨wr.heap.size, 0, none⟩ = some (.int .i64 x.d) := blk_cell hb0.blk 0
            have z4 : W.cell? ⟨wr.heap.size, 4, none⟩ = some (.int .i64 x.n) := blk_cell hb0.blk 4
            have z5 : W.cell? ⟨wr.heap.size, 5, none⟩ = some (.int .i64 x.m) := blk_cell hb0.blk 5
            have z6 : W.cell? ⟨wr.heap.size, 6, none⟩ = some (.slice x.ba x.b.length x.bc) := blk_cell hb0.blk 6
            have q00 : W.cell? ⟨w3.heap.size, 0, none⟩ = some (.int .i64 p1.kind) := blk_cell hb1.blk 0
            have q01 : W.cell? ⟨w3.heap.size, 1, none⟩ = some (.bool p1.exec) := blk_cell hb1.blk 1
            have q02 : W.cell? ⟨w3.heap.size, 2, none⟩ = some (.int .i64 p1.acc) := blk_cell hb1.blk 2
            have q03 : W.cell? ⟨w3.heap.size, 3, none⟩ = some (.int .i64 p1.n) := blk_cell hb1.blk 3
            have q04 : W.cell? ⟨w3.heap.size, 4, none⟩ = some (.string p1.name) := blk_cell hb1.blk 4
            have q05 : W.cell? ⟨w3.heap.size, 5, none⟩ = some (.int .i64 p1.ref) := blk_cell hb1.blk 5
            have q06 : W.cell? ⟨w3.heap.size, 6, none⟩ = some (.int .i64 p1.frm) := blk_cell hb1.blk 6
            have q07 : W.cell? ⟨w3.heap.size, 7, none⟩ = some (.int .i64 p1.len) := blk_cell hb1.blk 7
            have q10 : W.cell? ⟨w5.heap.size, 0, none⟩ = some (.int .i64 p2.kind) := blk_cell hb2.blk 0
            have q11 : W.cell? ⟨w5.heap.size, 1, none⟩ = some (.bool p2.exec) := blk_cell hb2.blk 1
            have q12 : W.cell? ⟨w5.heap.size, 2, none⟩ = some (.int .i64 p2.acc) := blk_cell hb2.blk 2
            have q13 : W.cell? ⟨w5.heap.size, 3, none⟩ = some (.int .i64 p2.n) := blk_cell hb2.blk 3
            have q14 : W.cell? ⟨w5.heap.size, 4, none⟩ = some (.string p2.name) := blk_cell hb2.blk 4
            have q15 : W.cell? ⟨w5.heap.size, 5, none⟩ = some (.int .i64 p2.ref) := blk_cell hb2.blk 5
            have q16 : W.cell? ⟨w5.heap.size, 6, none⟩ = some (.int .i64 p2.frm) := blk_cell hb2.blk 6
            have q17 : W.cell? ⟨w5.heap.size, 7, none⟩ = some (.int .i64 p2.len) := blk_cell hb2.blk 7
            have q20 : W.cell? ⟨w7.heap.size, 0, none⟩ = some (.int .i64 p3.kind) := blk_cell hb3.blk 0
            have q21 : W.cell? ⟨w7.heap.size, 1, none⟩ = some (.bool p3.exec) := blk_cell hb3.blk 1
            have q22 : W.cell? ⟨w7.heap.size, 2, none⟩ = some (.int .i64 p3.acc) := blk_cell hb3.blk 2
            have q23 : W.cell? ⟨w7.heap.size, 3, none⟩ = some (.int .i64 p3.n) := blk_cell hb3.blk 3
            have q24 : W.cell? ⟨w7.heap.size, 4, none⟩ = some (.string p3.name) := blk_cell hb3.blk 4
            have q25 : W.cell? ⟨w7.heap.size, 5, none⟩ = some (.int .i64 p3.ref) := blk_cell hb3.blk 5
            have q26 : W.cell? ⟨w7.heap.size, 6, none⟩ = some (.int .i64 p3.frm) := blk_cell hb3.blk 6
            have q27 : W.cell? ⟨w7.heap.size, 7, none⟩ = some (.int .i64 p3.len) := blk_cell hb3.blk 7
            have HrW := Lib.hid hrW
            have Hb4 := Lib.hid hb4
            have Hbel := Lib.hid hbel
            have HC := Lib.hid (set_up hR hG p1 p3 p2 g3 g2)
            unfold Ob.val at HC
            rw [hd0] at z0
            clear hb0 hb1 hb2 hb3 hb4 hrW hbel hR hG g1 g2 g3 hd0
            go_wp2_with fail
            refine HC.out.mono ?_
            rintro e w9 ⟨⟨E, rfl⟩, hu⟩
            obtain ⟨O3, hr9, hb9, hO9, hF9⟩ := HrW.out.upd hu
            have HR9 := Lib.hid hr9
            have HB9 := Lib.hid (Hbel.out.trans hb9)
            clear hu hr9 hb9 hO9 hF9
            go_wp2_with fail
            go_roundw
            case rel => exact ⟨i + 1, O3, l', by go_num, by omega, by omega, HR9.out, by omega, HB9.out⟩
            case measure => simp [intOf]; omega
          · -- 9
            obtain ⟨⟨O2, p1, p2, p3, hrW, hb0, hb1, hb2, hb3, hb4, g1, g2, g3⟩, hbel⟩ := HPre.out
            obtain ⟨fr, G, hR, hG⟩ := hrW.rep
            have z0 : W.cell? ⟨wr.heap.size, 0, none⟩ = some (.int .i64 x.d) := blk_cell hb0.blk 0
            have z4 : W.cell? ⟨wr.heap.size, 4, none⟩ = some (.int .i64 x.n) := blk_cell hb0.blk 4
            have z5 : W.cell? ⟨wr.heap.size, 5, none⟩ = some (.int .i64 x.m) := blk_cell hb0.blk 5
            have z6 : W.cell? ⟨wr.heap.size, 6, none⟩ = some (.slice x.ba x.b.length x.bc) := blk_cell hb0.blk 6
            have q00 : W.cell? ⟨w3.heap.size, 0, none⟩ = some (.int .i64 p1.kind) := blk_cell hb1.blk 0
            have q01 : W.cell? ⟨w3.heap.size, 1, none⟩ = some (.bool p1.exec) := blk_cell hb1.blk 1
            have q02 : W.cell? ⟨w3.heap.size, 2, none⟩ = some (.int .i64 p1.acc) := blk_cell hb1.blk 2
            have q03 : W.cell? ⟨w3.heap.size, 3, none⟩ = some (.int .i64 p1.n) := blk_cell hb1.blk 3
            have q04 : W.cell? ⟨w3.heap.size, 4, none⟩ = some (.string p1.name) := blk_cell hb1.blk 4
            have q05 : W.cell? ⟨w3.heap.size, 5, none⟩ = some (.int .i64 p1.ref) := blk_cell hb1.blk 5
            have q06 : W.cell? ⟨w3.heap.size, 6, none⟩ = some (.int .i64 p1.frm) := blk_cell hb1.blk 6
            have q07 : W.cell? ⟨w3.heap.size, 7, none⟩ = some (.int .i64 p1.len) := blk_cell hb1.blk 7
            have q20 : W.cell? ⟨w7.heap.size, 0, none⟩ = some (.int .i64 p3.kind) := blk_cell hb3.blk 0
            have q21 : W.cell? ⟨w7.heap.size, 1, none⟩ = some (.bool p3.exec) := blk_cell hb3.blk 1
            have q22 : W.cell? ⟨w7.heap.size, 2, none⟩ = some (.int .i64 p3.acc) := blk_cell hb3.blk 2
            have q23 : W.cell? ⟨w7.heap.size, 3, none⟩ = some (.int .i64 p3.n) := blk_cell hb3.blk 3
            have q24 : W.cell? ⟨w7.heap.size, 4, none⟩ = some (.string p3.name) := blk_cell hb3.blk 4
            have q25 : W.cell? ⟨w7.heap.size, 5, none⟩ = some (.int .i64 p3.ref) := blk_cell hb3.blk 5
            have q26 : W.cell? ⟨w7.heap.size, 6, none⟩ = some (.int .i64 p3.frm) := blk_cell hb3.blk 6
            have q27 : W.cell? ⟨w7.heap.size, 7, none⟩ = some (.int .i64 p3.len) := blk_cell hb3.blk 7
            have HrW := Lib.hid hrW
            have Hb4 := Lib.hid hb4
            have Hbel := Lib.hid hbel
            have HC := Lib.hid (drop_up hR hG p1 p3)
            unfold Ob.val at HC
            rw [hd0] at z0
            clear hb0 hb1 hb2 hb3 hb4 hrW hbel hR hG g1 g2 g3 hd0
            go_wp2_with fail
            refine HC.out.mono ?_
            rintro e w9 ⟨⟨E, rfl⟩, hu⟩
            obtain ⟨O3, hr9, hb9, hO9, hF9⟩ := HrW.out.upd hu
            have HR9 := Lib.hid hr9
            have HB9 := Lib.hid (Hbel.out.trans hb9)
            clear hu hr9 hb9 hO9 hF9
            go_wp2_with fail
            go_roundw
            case rel => exact ⟨i + 1, O3, l', by go_num, by omega, by omega, HR9.out, by omega, HB9.out⟩
            case measure => simp [intOf]; omega
          · -- 10
            obtain ⟨⟨O2, p1, p2, p3, hrW, hb0, hb1, hb2, hb3, hb4, g1, g2, g3⟩, hbel⟩ := HPre.out
            obtain ⟨fr, G, hR, hG⟩ := hrW.rep
            have z0 : W.cell? ⟨wr.heap.size, 0, none⟩ = some (.int .i64 x.d) := blk_cell hb0.blk 0
            have z4 : W.cell? ⟨wr.heap.size, 4, none⟩ = some (.int .i64 x.n) := blk_cell hb0.blk 4
            have z5 : W.cell? ⟨wr.heap.size, 5, none⟩ = some (.int .i64 x.m) := blk_cell hb0.blk 5
            have z6 : W.cell? ⟨wr.heap.size, 6, none⟩ = some (.slice x.ba x.b.length x.bc) := blk_cell hb0.blk 6
            have q00 : W.cell? ⟨w3.heap.size, 0, none⟩ = some (.int .i64 p1.kind) := blk_cell hb1.blk 0
            have q01 : W.cell? ⟨w3.heap.size, 1, none⟩ = some (.bool p1.exec) := blk_cell hb1.blk 1
            have q02 : W.cell? ⟨w3.heap.size, 2, none⟩ = some (.int .i64 p1.acc) := blk_cell hb1.blk 2
            have q03 : W.cell? ⟨w3.heap.size, 3, none⟩ = some (.int .i64 p1.n) := blk_cell hb1.blk 3
            have q04 : W.cell? ⟨w3.heap.size, 4, none⟩ = some (.string p1.name) := blk_cell hb1.blk 4
            have q05 : W.cell? ⟨w3.heap.size, 5, none⟩ = some (.int .i64 p1.ref) := blk_cell hb1.blk 5
            have q06 : W.cell? ⟨w3.heap.size, 6, none⟩ = some (.int .i64 p1.frm) := blk_cell hb1.blk 6
            have q07 : W.cell? ⟨w3.heap.size, 7, none⟩ = some (.int .i64 p1.len) := blk_cell hb1.blk 7
            have HrW := Lib.hid hrW
            have Hb4 := Lib.hid hb4
            have Hbel := Lib.hid hbel
            have HC := Lib.hid (lock_up hR hG p1 x.n)
            unfold Ob.val at HC
            rw [hd0] at z0
            clear hb0 hb1 hb2 hb3 hb4 hrW hbel hR hG g1 g2 g3 hd0
            go_wp2_with fail
            refine HC.out.mono ?_
            rintro e w9 ⟨⟨E, rfl⟩, hu⟩
            obtain ⟨O3, hr9, hb9, hO9, hF9⟩ := HrW.out.upd hu
            have HR9 := Lib.hid hr9
            have HB9 := Lib.hid (Hbel.out.trans hb9)
            clear hu hr9 hb9 hO9 hF9
            go_wp2_with fail
            go_roundw
            case rel => exact ⟨i + 1, O3, l', by go_num, by omega, by omega, HR9.out, by omega, HB9.out⟩
            case measure => simp [intOf]; omega
        · obtain ⟨⟨O2, p1, p2, p3, hrW, hb0, hb1, hb2, hb3, hb4, g1, g2, g3⟩, hbel⟩ := HPre.out
          have z0 : W.cell? ⟨wr.heap.size, 0, none⟩ = some (.int .i64 x.d) := blk_cell hb0.blk 0
          have HrW := Lib.hid hrW
          have Hbel := Lib.hid hbel
          have hn1 : (x.d == 1) = false := by simp; omega
          have hn2 : (x.d == 2) = false := by simp; omega
          have hn3 : (x.d == 3) = false := by simp; omega
          have hn4 : (x.d == 4) = false := by simp; omega
          have hn5 : (x.d == 5) = false := by simp; omega
          have hn6 : (x.d == 6) = false := by simp; omega
          have hn7 : (x.d == 7) = false := by simp; omega
          have hn8 : (x.d == 8) = false := by simp; omega
          have hn9 : (x.d == 9) = false := by simp; omega
          have hn10 : (x.d == 10) = false := by simp; omega
          clear hb0 hb1 hb2 hb3 hb4 hrW hbel g1 g2 g3 hsw
          go_wp2_with fail
          go_roundw
          case rel => exact ⟨i + 1, O2, l', by go_num, by omega, by omega, HrW.out, by omega, Hbel.out⟩
          case measure => simp [intOf]; omega
    · have HBe := Lib.hid hbw
      clear hr hbw
      by_cases h1 : i < L.length
      · have h2 : i = 30 := by omega
        subst h2
        have hli : (30 : Int) < (L.length : Int) := by omega
        go_wp2_with fail
        go_ret
        exact ⟨⟨O', l', _, rfl, HR.out, by omega⟩, HBe.out⟩
      · have h2 : i = L.length := by omega
        subst h2
        go_wp2_with fail
        go_ret
        exact ⟨⟨O', l', _, rfl, HR.out, by omega⟩, HBe.out⟩
end Go.Proofs.Ytlflkdmbbomjeaa
