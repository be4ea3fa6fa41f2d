/-
  The law SaveNested, walked.
-/
import Derived.Test.YtlflkdmbbomjeaaSavNestM
namespace Go.Proofs.Ytlflkdmbbomjeaa
open Go.RowKit
open St
set_option maxRecDepth 100000 in
set_option maxHeartbeats 2000000 in
theorem nested_nat (n a : Nat) (hn : n ≤ 255) (ha : a ≤ 255) (w : World) :
    Calls Try.prog 6 #[.int .u8 n, .int .u8 a] w fun e w' => e = .returned (.bool true) ∧ Below w.heap.size w w' := by
  have HN := Lib.hid (new_mk 100 w (by decide) (by decide))
  have hV := saves_new (w.alloc (.cells #[.slice none 0 0, .int .i64 0, .int .i64 100, .slice none 0 0, .int .i64 0, .slice none 0 0] 110)) (some ⟨w.heap.size, 0, none⟩)
  rw [show (w.alloc (.cells #[.slice none 0 0, .int .i64 0, .int .i64 100, .slice none 0 0, .int .i64 0, .slice none 0 0] 110)).heap.size = w.heap.size + 1 by simp] at hV
  have HV := Lib.hid hV
  have h0 : NS w ((w.alloc (.cells #[.slice none 0 0, .int .i64 0, .int .i64 100, .slice none 0 0, .int .i64 0, .slice none 0 0] 110)).alloc (.cells #[.pointer (some ⟨w.heap.size, 0, none⟩), .slice none 0 0] 158)) (mks 0) (nums 0) 0 0 (.slice none 0 0) :=
    ⟨ss_new w 100, World.ownsRow_nil _ _ _ _, below2 w _ _⟩
  have H0 := Lib.hid h0
  clear hV h0
  obtain ⟨k, hk⟩ : ∃ k : Nat, (n : Int) % 20 + 1 = k := ⟨n % 20 + 1, by omega⟩
  have hk1 : 1 ≤ k ∧ k ≤ 20 := by omega
  go_enter Try.func6, Try.ntmps6
  go_wp2_with fail
  refine HN.out.mono ?_; rintro e w1 ⟨rfl, rfl⟩
  go_wp2_with fail
  refine HV.out.mono ?_; rintro e w1 ⟨rfl, rfl⟩
  go_wp2_with fail
  clear hk HN HV
  go_loopw [9, 10] (fun s9 s10 wr => ∃ i : Nat, s10 = .int .i64 i ∧ i ≤ k ∧ NS w wr (mks (min i 15)) (nums (min i 15)) (min i 15) (min i 15) s9 ∧ ∀ q, isB s9 q → w.heap.size ≤ q) (fun _ s10 _ => k - (intOf s10).toNat)
  case atStart => exact ⟨0, rfl, Nat.zero_le _, H0.out, fun q hq => by cases hq⟩
  case round =>
    obtain ⟨i, rfl, hik, hns, hlo⟩ := hrel
    obtain ⟨la, lc, rfl⟩ := own_slice hns.row
    have HNS := Lib.hid hns
    have HLo := Lib.hid hlo
    by_cases hlt : i < k
    · by_cases hi15 : i < 15
      · have em : min i 15 = i := by omega
        have em2 : min (i + 1) 15 = i + 1 := by omega
        simp only [em] at hns HNS HLo ⊢
        have hsv := ss_save hns.ss hns.bel.size (by rw [nums_len]; omega) (by omega) (by rw [mks_len]; omega)
        rw [mks_succ, nums_succ] at hsv
        have HSv := Lib.hid hsv
        unfold sob Ob.val at HSv
        have hd15 : decide ((i : Int) < 15) = true := decide_eq_true (by omega)
        have HEm := Lib.hid em2
        clear hns hlo hsv em em2
        go_wp2_with fail
        refine HSv.out.mono ?_; rintro e w2 ⟨rfl, hss, hbl, hot⟩
        have hns2 := (HNS.out.turn hss hbl hot).step (below1 w2 (obC (sob ((i : Int) + 1))))
        unfold obC sob at hns2
        have HNS2 := Lib.hid hns2
        obtain ⟨i0, hi0, hz0, hz1, hz2⟩ := info_parts obj_info
        have HI := Lib.hid (And.intro hi0 (And.intro hz0 (And.intro hz1 hz2)))
        clear hss hbl hot hns2 hi0 hz0 hz1 hz2
        go_wp2_with (at_builtin; refine wpList_append_lies _ rfl (.tmp 53) (.tmp 55) 34 rfl 0 40 i0 _ 8 72 Try.underlying34 HI.out.1 HI.out.2.1 HI.out.2.2.1 HI.out.2.2.2 rfl (by omega) (.slice la i lc) i (obR i) rfl (HNS2.out.row.alloc _) ⟨w2.heap.size + 1, 0, none⟩ 1 1 [.int .i64 10, .bool false, .int .i64 0, .int .i64 ((i : Int) + 1), .string ⟨#[]⟩, .int .i64 0, .int .i64 0, .int .i64 0] rfl rfl (World.news_of_block (cs := #[.int .i64 10, .bool false, .int .i64 0, .int .i64 ((i : Int) + 1), .string ⟨#[]⟩, .int .i64 0, .int .i64 0, .int .i64 0]) (t := 40) (fr := (0, 0)) (alloc_at (by simp))) (by simp [Value.oneCell']) (by omega) (by unfold maxLen; omega) (by omega) (by simp) (w2.heap.size + 2) (by simp) ?_; intro gg cap w5 hown5 hgrow5 hat5 hlt5; have HA5 := Lib.hid (And.intro hown5 (And.intro hgrow5 hat5)); clear hown5 hgrow5 hat5)
        go_roundw
        case rel =>
          refine ⟨i + 1, by go_num, by omega, ?_, fun q hq => ?_⟩
          · rw [HEm.out]
            exact HNS2.out.app HLo.out HA5.out.1 HA5.out.2.1
          · have e : gg = q := by simpa [isB, Value.ownBlock] using hq
            subst e
            rcases HA5.out.2.2 with e | e
            · exact HLo.out _ e
            · have := HNS2.out.bel.size; simp at this; omega
        case measure => simp [intOf]; omega
      · have em : min i 15 = 15 := by omega
        have em2 : min (i + 1) 15 = 15 := by omega
        simp only [em] at hns HNS HLo ⊢
        have HSv := Lib.hid (ss_save_full hns.ss (nums_len 15))
        unfold nul Ob.val at HSv
        have hd15 : decide ((i : Int) < 15) = false := decide_eq_false (by omega)
        have HEm := Lib.hid em2
        clear hns hlo em em2
        go_wp2_with fail
        refine HSv.out.mono ?_; rintro e w2 ⟨rfl, hb⟩
        have HNS2 := Lib.hid ((HNS.out.step hb).step (below1 w2 (obC nul)))
        unfold obC nul at HNS2
        clear hb
        go_wp2_with fail
        go_roundw
        case rel =>
          refine ⟨i + 1, by go_num, by omega, ?_, HLo.out⟩
          rw [HEm.out]
          exact HNS2.out
        case measure => simp [intOf]; omega
    · have hki : i = k := by omega
      subst hki
      obtain ⟨L, hL⟩ : ∃ L, min i 15 = L := ⟨_, rfl⟩
      simp only [hL] at hns HNS HLo ⊢
      have hL1 : 1 ≤ L ∧ L ≤ 15 := by omega
      obtain ⟨lg, rfl⟩ : ∃ lg, la = some ⟨lg, 0, none⟩ := by
        rcases hns.row.2 with ⟨e, _⟩ | ⟨g, c, cur, e, _⟩
        · cases e; omega
        · cases e; exact ⟨g, rfl⟩
      obtain ⟨j, hj⟩ : ∃ j : Nat, (a : Int) % (L : Int) = j := ⟨a % L, by simp⟩
      have hjL : j < L := by
        have h1 : (a : Int) % (L : Int) < L := Int.emod_lt_of_pos _ (by omega)
        omega
      clear hns hlo hL
      go_wp2_with fail
      rw [hj]
      clear hj
      refine (answers06 _).mono ?_; rintro e w2 ⟨rfl, hb⟩
      have HNS2 := Lib.hid (HNS.out.step hb)
      have hji : (j : Int) < (L : Int) := by omega
      obtain ⟨x0, x1, x2, x3, x4, x5, x6, x7⟩ := HNS2.out.cells hjL
      have hre := ss_restore HNS2.out.ss (mks_at L j hjL) (nums_at L j hjL) (fnd_in L j hjL) (all_in L j hjL)
      rw [mks_take L (j + 1) (by omega), nums_take L j (by omega)] at hre
      unfold sob Ob.val at hre
      simp only [show ((j + 1 : Nat) : Int) = (j : Int) + 1 by omega] at hre
      have HRe := Lib.hid hre
      clear hb hre
      go_wp2_with fail
      refine HRe.out.mono ?_; rintro e w3 ⟨rfl, hss, hbl, hot⟩
      have HNS3 := Lib.hid (HNS2.out.turn hss hbl hot)
      have hde := ss_depth HNS3.out.ss
      rw [nums_len] at hde
      have HDe := Lib.hid hde
      clear hss hbl hot hde HRe x0 x1 x2 x3 x4 x5 x6 x7
      go_wp2_with fail
      refine HDe.out.mono ?_; rintro e w4 ⟨rfl, hb⟩
      have HNS4 := Lib.hid (HNS3.out.step hb)
      clear hb HDe
      go_wp2_with fail
      go_loopw [14] (fun s14 wq => ∃ p : Nat, s14 = .int .i64 p ∧ p ≤ L ∧ NS w wq (mks (j + 1)) (nums j) L L (.slice (some ⟨lg, 0, none⟩) L lc)) (fun s14 _ => L - (intOf s14).toNat)
      case atStart => exact ⟨0, rfl, Nat.zero_le _, HNS4.out⟩
      case round =>
        obtain ⟨p, rfl, hpL, hns⟩ := hrel
        have HNp := Lib.hid hns
        by_cases hlp : p < L
        · have hpi : (p : Int) < (L : Int) := by omega
          obtain ⟨x0, x1, x2, x3, x4, x5, x6, x7⟩ := hns.cells hlp
          have hal := ss_alive hns.ss (sob ((p + 1 : Nat) : Int))
          by_cases hpj : p < j
          · rw [fnd_in j p hpj, decide_eq_true (show (0 : Int) ≤ (p : Int) by omega)] at hal
            unfold sob Ob.val at hal
            simp only [show ((p + 1 : Nat) : Int) = (p : Int) + 1 by omega] at hal
            have HAl := Lib.hid hal
            have hdj : decide ((p : Int) < (j : Int)) = true := decide_eq_true (by omega)
            have hdj2 : decide ((j : Int) ≤ (p : Int)) = false := decide_eq_false (by omega)
            clear hal hns
            go_wp2_with fail
            refine HAl.out.mono ?_; rintro e w5 ⟨rfl, hb⟩
            have HN5 := Lib.hid (HNp.out.step hb)
            clear hb x0 x1 x2 x3 x4 x5 x6 x7
            go_wp2_with fail
            go_roundw
            case rel => exact ⟨p + 1, by go_num, by omega, HN5.out⟩
            case measure => simp [intOf]; omega
          · rw [fnd_out j p (by omega), decide_eq_false (show ¬ (0 : Int) ≤ -1 by omega)] at hal
            unfold sob Ob.val at hal
            simp only [show ((p + 1 : Nat) : Int) = (p : Int) + 1 by omega] at hal
            have HAl := Lib.hid hal
            have hdj : decide ((p : Int) < (j : Int)) = false := decide_eq_false (by omega)
            have hdj2 : decide ((j : Int) ≤ (p : Int)) = true := decide_eq_true (by omega)
            have HPj := Lib.hid hpj
            have hpj2 : (j : Int) ≤ (p : Int) := by omega
            have hpj3 : ¬ (p : Int) < (j : Int) := by omega
            clear hal hns hpj
            go_wp2_with fail
            refine HAl.out.mono ?_; rintro e w5 ⟨rfl, hb⟩
            have HN5 := Lib.hid (HNp.out.step hb)
            have hno := ss_restore_no HN5.out.ss (sob ((p + 1 : Nat) : Int)) (by rw [fnd_out j p (by have := HPj.out; omega)]; decide)
            rw [if_pos (show (sob ((p + 1 : Nat) : Int)).kind = 10 from rfl)] at hno
            unfold sob Ob.val at hno
            simp only [show ((p + 1 : Nat) : Int) = (p : Int) + 1 by omega] at hno
            have HNo := Lib.hid hno
            clear hb x0 x1 x2 x3 x4 x5 x6 x7 hno
            obtain ⟨x0, x1, x2, x3, x4, x5, x6, x7⟩ := HN5.out.cells hlp
            go_wp2_with fail
            refine HNo.out.mono ?_; rintro e w6 ⟨rfl, hb⟩
            have HN6 := Lib.hid (HN5.out.step hb)
            clear hb x0 x1 x2 x3 x4 x5 x6 x7
            go_wp2_with fail
            go_roundw
            case rel => exact ⟨p + 1, by go_num, by omega, HN6.out⟩
            case measure => simp [intOf]; omega
        · have hpe : p = L := by omega
          subst hpe
          have hsv := ss_save hns.ss hns.bel.size (by rw [nums_len]; omega) (by omega) (by rw [mks_len]; omega)
          unfold sob Ob.val at hsv
          have HSv := Lib.hid hsv
          clear hsv hns
          go_wp2_with fail
          refine HSv.out.mono ?_; rintro e w5 ⟨rfl, hss, hbl, hot⟩
          have hN5 := (HNp.out.turn hss hbl hot).step (below1 w5 (obC (sob ((p : Int) + 1))))
          have hbx := heap_alloc_new w5 (obC (sob ((p : Int) + 1)))
          unfold obC sob at hN5 hbx
          have HN5 := Lib.hid hN5
          have HBx := Lib.hid hbx
          clear hss hbl hot hN5 hbx HSv HNp
          go_wp2_with fail
          go_loopw [17] (fun s17 wq => ∃ q : Nat, s17 = .int .i64 q ∧ q ≤ p ∧ NS w wq (mks (j + 1) ++ [⟨p + 1, 0, 100, 0⟩]) (nums j ++ [p + 1]) (p + 1) p (.slice (some ⟨lg, 0, none⟩) p lc) ∧ wq.heap[w5.heap.size]? = some (obC (sob ((p : Int) + 1)))) (fun s17 _ => p - (intOf s17).toNat)
          case atStart => exact ⟨0, rfl, Nat.zero_le _, HN5.out, HBx.out⟩
          case round =>
            obtain ⟨q, rfl, hqL, hns, hbx⟩ := hrel
            have HNq := Lib.hid hns
            have HBq := Lib.hid hbx
            by_cases hlq : q < p
            · have hqi : (q : Int) < (p : Int) := by omega
              obtain ⟨_, _, _, x3, _⟩ := hns.cells hlq
              unfold obC sob at hbx
              have y3 : wr.cell? ⟨w5.heap.size, 3, none⟩ = some (.int .i64 ((p : Int) + 1)) := blk_cell hbx 3
              have hne : (((q : Int) + 1) == ((p : Int) + 1)) = false := by simp; omega
              clear hns hbx
              go_wp2_with fail
              go_quiet (fail)
              go_wp2_with fail
              go_roundw
              case rel => exact ⟨q + 1, by go_num, by omega, HNq.out.step (below_draw (Below.refl _ _) _), HBq.out⟩
              case measure => simp [intOf]; omega
            · have hde := ss_depth hns.ss
              rw [List.length_append, nums_len] at hde
              have HDe := Lib.hid hde
              clear hde hns hbx
              go_wp2_with fail
              refine HDe.out.mono ?_; rintro e w7 ⟨rfl, hb⟩
              have HB := Lib.hid (HNq.out.step hb).bel
              clear hb
              go_wp2_with fail
              go_ret
              exact ⟨rfl, HB.out⟩
theorem lawSaveNested (a b : Int) (ha : (Lit.int .u8 a).wf = true) (hb : (Lit.int .u8 b).wf = true) (w : World) :
    Calls Try.prog 6 #[.int .u8 a, .int .u8 b] w fun e w' => e = .returned (.bool true) ∧ Below w.heap.size w w' := by
  have ua : 0 ≤ a ∧ a ≤ 255 := by simpa [Lit.wf, IntKind.min, IntKind.max, IntKind.signed, IntKind.bits] using ha
  have ub : 0 ≤ b ∧ b ≤ 255 := by simpa [Lit.wf, IntKind.min, IntKind.max, IntKind.signed, IntKind.bits] using hb
  obtain ⟨a, rfl⟩ : ∃ n : Nat, a = n := ⟨a.toNat, by omega⟩
  obtain ⟨b, rfl⟩ : ∃ n : Nat, b = n := ⟨b.toNat, by omega⟩
  exact nested_nat a b (by omega) (by omega) w
end Go.Proofs.Ytlflkdmbbomjeaa
