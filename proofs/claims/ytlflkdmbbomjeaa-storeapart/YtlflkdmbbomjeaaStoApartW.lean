/-
  The law StoreApart, walked.
-/
import Derived.Test.YtlflkdmbbomjeaaStoApartM
namespace Go.Proofs.Ytlflkdmbbomjeaa
open Go.RowKit
open St
set_option maxRecDepth 100000 in
set_option maxHeartbeats 2000000 in
theorem apart_walk (w : World) {v1 v2 : Value} {L1 L2 : List Ac} {a : Option Addr} {c : Nat} {b : List UInt8} (h1 : ActsR w v1 L1) (h2 : ActsR w v2 L2) (hs : Src w a b) (hc : a = none → c = 0) (hbm : b.length ≤ 9223372036854775807) :
    Calls Try.prog 4 #[v1, v2, .slice a b.length c] w fun e w' => e = .returned (.bool true) ∧ Below w.heap.size w w' := by
  have HN := Lib.hid (new_at 5000 w (by decide) (by decide))
  have HA1 := Lib.hid (fun W (hb : Below w.heap.size w W) => h1.below hb)
  have HA2 := Lib.hid (fun W (hb : Below w.heap.size w W) => h2.below hb)
  have HSr := Lib.hid (fun W (hb : Below w.heap.size w W) => hs.below hb)
  have HCn := Lib.hid hc
  obtain ⟨va1, vc1, rfl⟩ : ∃ va vc, v1 = .slice va L1.length vc := by
    rcases h1.row with ⟨rfl, rfl⟩ | ⟨ad, cap, rfl, _⟩
    · exact ⟨none, 0, rfl⟩
    · exact ⟨_, _, rfl⟩
  obtain ⟨va2, vc2, rfl⟩ : ∃ va vc, v2 = .slice va L2.length vc := by
    rcases h2.row with ⟨rfl, rfl⟩ | ⟨ad, cap, rfl, _⟩
    · exact ⟨none, 0, rfl⟩
    · exact ⟨_, _, rfl⟩
  clear h1 h2 hs hc
  go_enter Try.func4, Try.ntmps4
  go_wp2_with fail
  refine HN.out.mono ?_; rintro e w1 ⟨rfl, hr1, hb1⟩
  have HR1 := Lib.hid hr1
  have HB1 := Lib.hid hb1
  clear hr1 hb1
  go_wp2_with fail
  refine (answers_any _).mono ?_; rintro e w2 ⟨rfl, hb2⟩
  have hr2 := HR1.out.below hb2
  have HB2 := Lib.hid (bthen HB1.out hb2)
  have hrun : RunO (fun k => k < w.heap.size) (fun k => k = w.heap.size) w2 w.heap.size [] (.slice none 0 0) :=
    ⟨⟨5000, [], hr2, fun i x hx => by simp at hx⟩, fun k e h => (by omega : False), World.ownsRow_nil _ _ _ _, fun k hk => (by cases hk), fun k hk => (by cases hk), fun o ho => (by cases ho), fun k hk => Nat.lt_of_lt_of_le hk HB2.out.size⟩
  clear hb2 hr2
  by_cases hlen : 1000 < b.length
  · have hleni : (1000 : Int) < (b.length : Int) := by omega
    clear hrun
    go_wp2_with fail
    refine (answers_any _).mono ?_; rintro e w3 ⟨rfl, hb3⟩
    have HB3 := Lib.hid (bthen HB2.out hb3)
    clear hb3
    go_wp2_with fail
    go_ret
    exact ⟨rfl, HB3.out⟩
  · have hleni : ¬ (1000 : Int) < (b.length : Int) := by omega
    have HRn := Lib.hid (run_at (l := []) (a := none) (c := 0) hrun (by simp) (fun W hk => HA1.out W (HB2.out.trans hk.below)))
    simp only [List.length_nil, Nat.zero_add] at HRn
    clear hrun
    go_wp2_with fail
    refine HRn.out.mono ?_; rintro e w3 ⟨⟨O3, l3, mv3, rfl, hr3, hl3⟩, hk3⟩
    have hb3 : Below w.heap.size w w3 := HB2.out.trans hk3.below
    obtain ⟨ma, mc, rfl⟩ := own_slice hr3.row
    obtain ⟨Bi, c2, w4, hrun4, hb4, hBi, hown4⟩ := copied5 (c := c) (HSr.out w3 hb3) HCn.out (by omega) 36
    have hr4 := hr3.below hb4
    obtain ⟨fr4, G4, hR4, hG4⟩ := hr4.rep
    have HT := Lib.hid (text_at (c := c2) hR4 (src_own hown4 rfl))
    have HRun4 := Lib.hid hrun4
    have HR4 := Lib.hid hr4
    have HR3 := Lib.hid hr3
    have HGl := Lib.hid hr3.good
    have HG4 := Lib.hid (And.intro hR4 hG4)
    have HB4 := Lib.hid (bthen hb3 hb4)
    have HOw4 := Lib.hid hown4
    have hz34 := hb4.size
    have hz3 := hb3.size
    clear hr3 hk3 hb3 hrun4 hb4 hown4 hr4 hR4 hG4 HRn
    go_wp2_with (at_builtin; refine wpList_append_run5 rfl (.tmp 46) (.tmp 47) 36 36 (.slice (some ⟨Bi, 0, none⟩) b.length c2) rfl rfl _ _ rfl rfl HRun4.out ?_)
    refine HT.out.mono ?_; rintro e w5 hM
    rcases hM with ⟨hne, rfl, hb5⟩ | ⟨hcl, rfl, ly, hR5, hF5⟩
    · have hne2 : (clm 6 (b.length : Int) fr4 != 0) = true := by simp [hne]
      have HB5 := Lib.hid (bthen (bthen HB4.out hb5) (below1 w5 (obC nul)))
      unfold obC nul at HB5
      unfold nul Ob.val
      clear hb5 hne
      go_wp2_with fail
      go_ret
      exact ⟨rfl, HB5.out⟩
    · have hgd5 := gd_snoc (l := ly) HG4.out.2 (t := ⟨6, b, [], [], 0, 0⟩) ⟨fun o ho => (by cases ho), fun o ho => (by cases ho), by simp, by simp, by show b.length ≤ 1000; omega, by simp, by simp, by simp⟩
      have hbx : (w5.alloc (obC (newOb ⟨6, b, [], [], 0, 0⟩ G4.length))).heap[w5.heap.size]? = some (obC (newOb ⟨6, b, [], [], 0, 0⟩ G4.length)) := heap_alloc_new w5 _
      have hoB : ∀ k, O3 k → k < w3.heap.size := HR3.out.olt
      have hz5 := hF5.size
      have hmv4 := HR4.out.row
      have hap : AP w (w5.alloc (obC (newOb ⟨6, b, [], [], 0, 0⟩ G4.length))) w.heap.size (fr4 - cellsI 6 b.length) (G4 ++ [(⟨6, b, [], [], 0, 0⟩, ly)]) (Up O3 w4 w5) l3 (.slice ma l3.length mc) w5.heap.size (newOb ⟨6, b, [], [], 0, 0⟩ G4.length) (w5.heap.size + 1) := by
        have hfar : ∀ k, k < w4.heap.size → ¬ O3 k → w5.heap[k]? = w4.heap[k]? := fun k hk hO => hF5.block k hk hO
        refine ⟨hR5.below (below1 _ _), owns_same hmv4 (fun k hk => (heap_alloc_old _ _ (by have := owns_lt hmv4 hk; omega)).trans (hfar k (owns_lt hmv4 hk) (HR4.out.far k hk))), hbx, ?_, fun k hk => ?_, fun k hk => by have := owns_lt hmv4 hk; omega, by omega, by omega, by simp⟩
        · have h5 : Below w.heap.size w4 w5 := hF5.below (by omega) (fun k hk hO => HR3.out.lo k hO hk)
          exact (HB4.out.trans h5).trans ((below1 w5 _).mono (by omega))
        · have := hR5.olt k hk; omega
      have hBiO : ¬ Up O3 w4 w5 Bi := by
        have hBlt : Bi < w4.heap.size := owns_lt HOw4.out rfl
        rintro (e | e)
        · have := hoB Bi e; omega
        · omega
      have hBm : ¬ isB (.slice ma l3.length mc) Bi := fun e => by
        rcases HOw4.out.2 with ⟨e0, _⟩ | ⟨g0, cap0, cur0, e0, _, hg0, _⟩
        · cases e0
        · cases e0
          exact own_ne hg0 hmv4 (by decide) e.symm
      have hBlt : Bi < w4.heap.size := owns_lt HOw4.out rfl
      have hown6 : (w5.alloc (obC (newOb ⟨6, b, [], [], 0, 0⟩ G4.length))).ownsRow 0 5 1 (.slice (some ⟨Bi, 0, none⟩) b.length c2) b.length (b.map bv) := owns_same HOw4.out (fun k hk => by
        have e : Bi = k := by simpa [isB, Value.ownBlock] using hk
        subst e
        exact (heap_alloc_old _ _ (by omega)).trans (hF5.block _ hBlt (fun hO => by have := hoB _ hO; omega)))
      have HAP := Lib.hid hap
      have HBy := Lib.hid (Byt.start rfl hown6)
      have HGd := Lib.hid hgd5
      have HBq := Lib.hid (And.intro hBiO hBm)
      unfold obC newOb at HAP HBy
      unfold newOb Ob.val
      simp only [Th.length, if_true] at HAP HBy ⊢
      clear hR5 hF5 hgd5 hbx hoB hmv4 hap hBiO hBm hown6 HR4 HR3 HG4 HOw4 HT hcl
      go_wp2_with fail
      have htl := tld_last G4 b ly
      have hbl := bytes_last G4 b ly
      unfold newOb at htl hbl
      simp only [Th.length, if_true] at htl hbl
      generalize (w5.alloc _ : World) = W6 at HAP HBy ⊢
      generalize (G4 ++ [((⟨6, b, [], [], 0, 0⟩ : Th), ly)] : List (Th × Lay)) = G5 at HAP HGd htl hbl
      generalize Up O3 w4 w5 = O5 at HAP HBq
      generalize (fr4 - cellsI 6 (b.length : Int)) = fr5 at HAP
      generalize (G4.length : Int) = gl at *
      have HTl := Lib.hid (And.intro htl hbl)
      have hBiW : w.heap.size ≤ Bi := by omega
      have hBib : w5.heap.size ≠ Bi := by omega
      clear htl hbl
      go_loopw [13] (fun sv wr => ∃ i : Nat, sv = .int .i64 i ∧ i ≤ b.length ∧ Byt W6 wr Bi b.length c2) (fun sv _ => b.length - (intOf sv).toNat)
      case atStart => exact ⟨0, rfl, Nat.zero_le _, HBy.out⟩
      case round =>
      obtain ⟨i, rfl, hi, hby⟩ := hrel
      have HBb := Lib.hid hby
      by_cases hlt : i < b.length
      · obtain ⟨z, hz, hzf, hset⟩ := hby.set hlt
        have hii : (i : Int) < (b.length : Int) := by omega
        have hz8 := z.toNat_lt
        have HSet := Lib.hid hset
        clear hby hset
        go_wp2_with fail
        go_roundw
        case rel => exact ⟨i + 1, by go_num, by omega, HSet.out _ (by omega) (by omega)⟩
        case measure => simp [intOf]; omega
      have hil : i = b.length := by omega
      subst hil
      have hap7 := HAP.out.byt hby HBq.out.1 HBq.out.2 hBib hBiW
      have HAP7 := Lib.hid hap7
      have hbx7 := hap7.box
      unfold obC at hbx7
      obtain ⟨x0, x1, x2, x3, x4, x5, x6, x7⟩ := cellsOb hbx7
      have hY := bytes_at hap7.rep ⟨6, false, 0, 0, ⟨#[]⟩, gl + 1, 0, b.length⟩
      unfold BytesP at hY
      rw [HTl.out.1, HTl.out.2] at hY
      unfold Ob.val at hY
      have HY := Lib.hid hY
      clear hby hap7 hbx7 hY HAP HBy HBb
      go_wp2_with fail
      refine HY.out.mono ?_; rintro e w8 ⟨hb8, hor⟩
      rcases hor with ⟨hno, _⟩ | ⟨Bo, hBo, _, rfl, hBoB⟩
      · cases hno
      have hap8 := HAP7.out.on hb8
      have hown8 := own_of_block (n := b.length) (size := 1) hBoB (by omega) (by simp)
      have HAP8 := Lib.hid hap8
      have hNBo : w5.heap.size + 1 ≤ Bo := Nat.le_trans HAP7.out.le hBo
      have HBy8 := Lib.hid (Byt.start (bs := b) rfl (by simpa using hown8))
      clear x0 x1 x2 x3 x4 x5 x6 x7 hb8 hBoB hap8 hown8 HY
      go_wp2_with fail
      go_loopw [16] (fun sv wr => ∃ i : Nat, sv = .int .i64 i ∧ i ≤ b.length ∧ Byt w8 wr Bo b.length b.length) (fun sv _ => b.length - (intOf sv).toNat)
      case atStart => exact ⟨0, rfl, Nat.zero_le _, HBy8.out⟩
      case round =>
      obtain ⟨i, rfl, hi, hby⟩ := hrel
      have HBb := Lib.hid hby
      by_cases hlt : i < b.length
      · obtain ⟨z, hz, hzf, hset⟩ := hby.set hlt
        have hii : (i : Int) < (b.length : Int) := by omega
        have hz8 := z.toNat_lt
        have HSet := Lib.hid hset
        clear hby hset
        go_wp2_with fail
        go_roundw
        case rel => exact ⟨i + 1, by go_num, by omega, HSet.out _ (by omega) (by omega)⟩
        case measure => simp [intOf]; omega
      have hil : i = b.length := by omega
      subst hil
      have hap9 := HAP8.out.step (hby.below hNBo)
      have HAP9 := Lib.hid hap9
      have HCp := Lib.hid (copy_at hap9.rep)
      clear hby hap9 HAP8 HBy8 HBb HAP7
      go_wp2_with fail
      refine HCp.out.mono ?_; rintro e w9 ⟨rfl, hb9, D, hRD, hDm⟩
      have HAP9' := Lib.hid (HAP9.out.on hb9)
      have HD := Lib.hid (And.intro hRD (gd_map hDm HGd.out))
      have hz9 := hb9.size
      have hzN := HAP9.out.le
      clear hb9 hRD hDm HCp
      obtain ⟨C, hC⟩ : ∃ C, wr.heap.size = C := ⟨_, rfl⟩
      rw [hC] at HD hz9 hzN ⊢
      clear hC
      go_wp2_with fail
      obtain ⟨i0, hi0, hz0, hz1, hz2⟩ := info_parts str_info
      have HI := Lib.hid (And.intro hi0 (And.intro hz0 (And.intro hz1 hz2)))
      clear hi0 hz0 hz1 hz2
      go_loopw [18, 19] (fun s18 s19 wr => ∃ i : Nat, s19 = .int .i64 i ∧ i ≤ l3.length ∧ wr.ownsRow 0 9 1 s18 i (txs G5 (l3.take i)) ∧ (∀ k, isB s18 k → w9.heap.size ≤ k) ∧ Below w9.heap.size w9 wr) (fun _ s19 _ => l3.length - (intOf s19).toNat)
      case atStart => exact ⟨0, rfl, Nat.zero_le _, World.ownsRow_nil _ _ _ _, fun k hk => (by cases hk), Below.refl _ _⟩
      case round =>
      obtain ⟨i, rfl, hi, hrow, hlo, hbr⟩ := hrel
      have HRow := Lib.hid hrow
      have HLo := Lib.hid hlo
      have HBr := Lib.hid hbr
      have hapr := HAP9'.out.on hbr
      have HAPr := Lib.hid hapr
      by_cases hlt : i < l3.length
      · obtain ⟨x, hx⟩ : ∃ x, l3[i]? = some x := ⟨_, List.getElem?_eq_getElem hlt⟩
        have hgx := HGl.out x (List.mem_of_getElem? hx)
        obtain ⟨g, rfl⟩ : ∃ g, ma = some ⟨g, 0, none⟩ := by
          rcases hapr.row.2 with ⟨e, hn⟩ | ⟨g, cap, cur, e, _⟩
          · omega
          · cases e; exact ⟨g, rfl⟩
        have hcf : ∀ f, f < 8 → wr.cell? ⟨g, i * 8 + f, none⟩ = x.cells[f]? := fun f hf => by rw [hapr.row.cellAt (i * 8 + f) (by omega)]; exact obs_at l3 i f x hx hf
        have q0 : wr.cell? ⟨g, i * 8, none⟩ = some (.int .i64 x.kind) := hcf 0 (by omega)
        have q1 : wr.cell? ⟨g, i * 8 + 1, none⟩ = some (.bool x.exec) := hcf 1 (by omega)
        have q2 : wr.cell? ⟨g, i * 8 + 2, none⟩ = some (.int .i64 x.acc) := hcf 2 (by omega)
        have q3 : wr.cell? ⟨g, i * 8 + 3, none⟩ = some (.int .i64 x.n) := hcf 3 (by omega)
        have q4 : wr.cell? ⟨g, i * 8 + 4, none⟩ = some (.string x.name) := hcf 4 (by omega)
        have q5 : wr.cell? ⟨g, i * 8 + 5, none⟩ = some (.int .i64 x.ref) := hcf 5 (by omega)
        have q6 : wr.cell? ⟨g, i * 8 + 6, none⟩ = some (.int .i64 x.frm) := hcf 6 (by omega)
        have q7 : wr.cell? ⟨g, i * 8 + 7, none⟩ = some (.int .i64 x.len) := hcf 7 (by omega)
        have hii : (i : Int) < (l3.length : Int) := by omega
        have HRd := Lib.hid (render_at HGd.out 3 (Nat.le_refl _) x wr hgx hapr.rep)
        unfold Ob.val at HRd
        have HSn := Lib.hid (txs_snoc G5 l3 i x hx)
        obtain ⟨ta, tc, rfl⟩ := own_slice hrow
        clear hcf hgx hx hrow hlo hbr hapr
        go_wp2_with fail
        refine HRd.out.mono ?_; rintro e w10 ⟨rfl, hb10⟩
        have hrow10 := owns_same HRow.out (fun k hk => hb10.block k (owns_lt HRow.out hk))
        have HRow10 := Lib.hid hrow10
        have HBr10 := Lib.hid (bthen HBr.out hb10)
        have hz10 := Nat.le_trans HBr.out.size hb10.size
        clear hb10 hrow10 q0 q1 q2 q3 q4 q5 q6 q7
        go_wp2_with (at_builtin; refine wpList_append_lies _ rfl (.tmp 99) (.tmp 106) 76 rfl 0 9 i0 _ 1 16 Try.underlying76 HI.out.1 HI.out.2.1 HI.out.2.2.1 HI.out.2.2.2 rfl (by omega) (.slice ta i tc) i (txs G5 (l3.take i)) rfl (HRow10.out.alloc _) ⟨w10.heap.size, 0, none⟩ 1 1 [.string (rend G5 3 x)] rfl rfl (World.news_of_block (cs := #[.string (rend G5 3 x)]) (t := 9) (fr := (0, 0)) (alloc_at rfl)) (by simp [Value.oneCell']) (by omega) (by unfold maxLen; omega) (by omega) (by simp) (w10.heap.size + 1) (by simp) ?_; intro gg cap2 w11 hown11 hgrow11 hat11 hlt11; have HA11 := Lib.hid (And.intro hown11 (And.intro hgrow11 hat11)); clear hown11 hgrow11 hat11)
        go_roundw
        case rel =>
          obtain ⟨g1, g2, g3⟩ := HA11.out
          refine ⟨i + 1, by go_num, by omega, by rw [HSn.out]; exact g1, fun k hk => ?_, ?_⟩
          · have e : gg = k := by simpa [isB, Value.ownBlock] using hk
            subst e
            rcases g3 with e | e
            · exact HLo.out _ e
            · omega
          · have hzg := g2.size
            simp at hzg
            refine HBr10.out.trans ⟨g2.os, g2.tape, g2.output, by omega, fun k hk => ?_⟩
            rw [g2.block k (by simp; omega) (fun e => by have := HLo.out k e.symm; omega), heap_alloc_old _ _ (by omega)]
        case measure => simp [intOf]; omega
      have hil : i = l3.length := by omega
      subst hil
      rw [List.take_of_length_le (Nat.le_refl _)] at HRow hrow
      obtain ⟨Bm, c8, w11, hrun8, hb11, hBm8, hown8⟩ := copied8 hapr.row (by omega) 34
      obtain ⟨ta, tc, rfl⟩ := own_slice hrow
      have hrunC : RunO (fun k => k < wr.heap.size ∧ ¬ (C ≤ k ∧ k < w9.heap.size)) (fun k => C ≤ k ∧ k < w9.heap.size) w11 C l3 (.slice (some ⟨Bm, 0, none⟩) l3.length c8) := by
        have hz := hbr.size
        refine ⟨⟨fr5, D, (HD.out.1.below hbr).below hb11, HD.out.2⟩, fun k hk hq => hq.2 hk, hown8, fun k hk hq => ?_, fun k hk hq => ?_, HGl.out, fun k hq => by have := hb11.size; omega⟩
        · have e : Bm = k := by simpa [isB, Value.ownBlock] using hk
          have := hq.1
          omega
        · have e : Bm = k := by simpa [isB, Value.ownBlock] using hk
          omega
      have hap11 := hapr.on hb11
      have hrow11 := owns_same hrow (fun k hk => hb11.block k (owns_lt hrow hk))
      have HRnC := Lib.hid (run_at hrunC (by omega) (fun W hk => HA2.out W (hap11.bel.trans ⟨hk.os, hk.tape, hk.output, hk.size, fun k hk2 => hk.block k ⟨by have := hapr.wN; have := hapr.le; omega, by have := hapr.wN; omega⟩⟩)))
      have HRun8 := Lib.hid hrun8
      have HAP11 := Lib.hid hap11
      have HRow11 := Lib.hid hrow11
      have hzr := hbr.size
      have hrlt : ∀ k, isB (.slice ta l3.length tc) k → w9.heap.size ≤ k ∧ k < wr.heap.size := fun k hk => ⟨hlo k hk, owns_lt hrow hk⟩
      have HRlt := Lib.hid hrlt
      clear hrow hlo hbr hapr hrun8 hb11 hown8 hrunC hap11 hrow11 hrlt HRow HLo HBr HAPr HAP9' HAP9 HD HA1 HI
      go_wp2_with (at_builtin; refine wpList_append_run5 rfl (.tmp 109) (.tmp 110) 34 34 (.slice (some ⟨Bm, 0, none⟩) l3.length c8) rfl rfl _ _ rfl rfl HRun8.out ?_)
      refine HRnC.out.mono ?_; rintro e w12 ⟨⟨O12, l12, mv12, rfl, hr12, _⟩, hk12⟩
      have hap12 := HAP11.out.keep hk12 (fun k hk => ⟨by omega, by omega⟩)
      have hrow12 := owns_same HRow11.out (fun k hk => hk12.block k ⟨(HRlt.out k hk).2, by have := HRlt.out k hk; omega⟩)
      obtain ⟨fr12, G12, hR12, hG12⟩ := hr12.rep
      have hbz := below1 w12 (.cells (zeros b.length) 5)
      have hmk := make_bytes b.length (by omega)
      have hwu := write_up (c0 := b.length) (w := (w12.alloc (.cells (zeros b.length) 5)).drew) (hR12.below (below_draw hbz 1)) hG12 (src_zeros (heap_alloc_new w12 _)) ⟨6, false, 0, 0, ⟨#[]⟩, gl + 1, 0, b.length⟩ 0
      rw [List.length_replicate] at hwu
      unfold Ob.val at hwu
      have HWu := Lib.hid hwu
      have hzz := hk12.size
      have HNO := Lib.hid (And.intro (fun k (hk : k < w5.heap.size + 1) (hO : O12 k) => hr12.lo k hO ⟨by omega, by omega⟩) (fun k (hk : isB (.slice ta l3.length tc) k) (hO : O12 k) => hr12.lo k hO ⟨(HRlt.out k hk).2, by have := HRlt.out k hk; omega⟩))
      have HAPz := Lib.hid (hap12.on (below_draw hbz 1))
      have HRowz := Lib.hid (show (w12.alloc (.cells (zeros b.length) 5)).drew.ownsRow 0 9 1 (.slice ta l3.length tc) l3.length (txs G5 l3) from owns_same hrow12 (fun k hk => hbz.block k (owns_lt hrow12 hk)))
      have hbx12 := hap12.box
      have hbxz := HAPz.out.box
      unfold obC at hbx12 hbxz
      have sb := cellsOb (w := w12.drew) hbx12
      have sz := cellsOb hbxz
      clear hr12 hk12 hap12 hrow12 hR12 hG12 hbz hwu hbx12 hbxz HRnC HAP11 HRow11
      go_wp2_with fail
      go_cut [119] (fun _ wx => AP w wx w.heap.size fr5 G5 O5 l3 (.slice ma l3.length mc) w5.heap.size ⟨6, false, 0, 0, ⟨#[]⟩, gl + 1, 0, b.length⟩ (w5.heap.size + 1) ∧ wx.ownsRow 0 9 1 (.slice ta l3.length tc) l3.length (txs G5 l3))
      case first =>
        go_region_held3 (fun w' => w'.cell? ⟨w5.heap.size, 0, none⟩ = some (.int .i64 6) ∧ w'.cell? ⟨w5.heap.size, 1, none⟩ = some (.bool false) ∧ w'.cell? ⟨w5.heap.size, 2, none⟩ = some (.int .i64 0) ∧ w'.cell? ⟨w5.heap.size, 3, none⟩ = some (.int .i64 0) ∧ w'.cell? ⟨w5.heap.size, 4, none⟩ = some (.string ⟨#[]⟩) ∧ w'.cell? ⟨w5.heap.size, 5, none⟩ = some (.int .i64 (gl + 1)) ∧ w'.cell? ⟨w5.heap.size, 6, none⟩ = some (.int .i64 0) ∧ w'.cell? ⟨w5.heap.size, 7, none⟩ = some (.int .i64 (b.length : Nat))) (first | with_reducible exact sb | with_reducible exact s13 | exact sz | fail) (first | (go_at_call 13; refine HWu.out.mono ?_; rintro e w13 ⟨⟨E, rfl⟩, hu⟩; have hap13 := HAPz.out.step (hu.1.below (B := w5.heap.size + 1) HAPz.out.le HNO.out.1); have hrow13 := owns_same HRowz.out (fun k hk => hu.1.block k (owns_lt HRowz.out hk) (HNO.out.2 k hk)); have hb13 := hap13.box; unfold obC at hb13; have s13 := cellsOb hb13; clear hu))
        all_goals go_wp2_with fail
        all_goals go_meet
        all_goals exact ⟨hap13, hrow13⟩
      case rest =>
      obtain ⟨hap14, hrow14⟩ := hcut
      have HAP14 := Lib.hid hap14
      have HRow14 := Lib.hid hrow14
      clear hap14 hrow14 sb sz HAPz HRowz HWu hmk HNO
      go_wp2_with fail
      go_loopw [20] (fun s20 wr => ∃ i : Nat, s20 = .int .i64 i ∧ i ≤ l3.length ∧ AP w wr w.heap.size fr5 G5 O5 l3 (.slice ma l3.length mc) w5.heap.size ⟨6, false, 0, 0, ⟨#[]⟩, gl + 1, 0, b.length⟩ (w5.heap.size + 1) ∧ wr.ownsRow 0 9 1 (.slice ta l3.length tc) l3.length (txs G5 l3)) (fun s20 _ => l3.length - (intOf s20).toNat)
      case atStart => exact ⟨0, rfl, Nat.zero_le _, HAP14.out, HRow14.out⟩
      case round =>
      obtain ⟨i, rfl, hi, hapr, hrow⟩ := hrel
      have HAPr := Lib.hid hapr
      have HRow := Lib.hid hrow
      by_cases hlt : i < l3.length
      · obtain ⟨x, hx⟩ : ∃ x, l3[i]? = some x := ⟨_, List.getElem?_eq_getElem hlt⟩
        have hgx := HGl.out x (List.mem_of_getElem? hx)
        obtain ⟨g, rfl⟩ : ∃ g, ma = some ⟨g, 0, none⟩ := by
          rcases hapr.row.2 with ⟨e, hn⟩ | ⟨g, cap, cur, e, _⟩
          · omega
          · cases e; exact ⟨g, rfl⟩
        obtain ⟨tg, rfl⟩ : ∃ g, ta = some ⟨g, 0, none⟩ := by
          rcases hrow.2 with ⟨e, hn⟩ | ⟨g, cap, cur, e, _⟩
          · omega
          · cases e; exact ⟨g, rfl⟩
        have hcf : ∀ (W : World), W.ownsRow 0 40 8 (.slice (some ⟨g, 0, none⟩) l3.length mc) l3.length (l3.flatMap Ob.cells) → ∀ f, f < 8 → W.cell? ⟨g, i * 8 + f, none⟩ = x.cells[f]? := fun W hW f hf => by rw [hW.cellAt (i * 8 + f) (by omega)]; exact obs_at l3 i f x hx hf
        have htx : ∀ (W : World), W.ownsRow 0 9 1 (.slice (some ⟨tg, 0, none⟩) l3.length tc) l3.length (txs G5 l3) → W.cell? ⟨tg, i, none⟩ = some (.string (rend G5 3 x)) := fun W hW => by rw [hW.cellAt i (by omega)]; simp [txs, hx]
        have hS : ∀ (W : World), W.ownsRow 0 40 8 (.slice (some ⟨g, 0, none⟩) l3.length mc) l3.length (l3.flatMap Ob.cells) → W.ownsRow 0 9 1 (.slice (some ⟨tg, 0, none⟩) l3.length tc) l3.length (txs G5 l3) → W.cell? ⟨g, i * 8, none⟩ = some (.int .i64 x.kind) ∧ W.cell? ⟨g, i * 8 + 1, none⟩ = some (.bool x.exec) ∧ W.cell? ⟨g, i * 8 + 2, none⟩ = some (.int .i64 x.acc) ∧ W.cell? ⟨g, i * 8 + 3, none⟩ = some (.int .i64 x.n) ∧ W.cell? ⟨g, i * 8 + 4, none⟩ = some (.string x.name) ∧ W.cell? ⟨g, i * 8 + 5, none⟩ = some (.int .i64 x.ref) ∧ W.cell? ⟨g, i * 8 + 6, none⟩ = some (.int .i64 x.frm) ∧ W.cell? ⟨g, i * 8 + 7, none⟩ = some (.int .i64 x.len) ∧ W.cell? ⟨tg, i, none⟩ = some (.string (rend G5 3 x)) := fun W h1 h2 => ⟨hcf W h1 0 (by omega), hcf W h1 1 (by omega), hcf W h1 2 (by omega), hcf W h1 3 (by omega), hcf W h1 4 (by omega), hcf W h1 5 (by omega), hcf W h1 6 (by omega), hcf W h1 7 (by omega), htx W h2⟩
        have sA := hS wr.drew hapr.row hrow
        have HS := Lib.hid hS
        have hii : (i : Int) < (l3.length : Int) := by omega
        have hi0 : (0 : Int) ≤ (i : Int) := by omega
        have HRd := Lib.hid (render_at HGd.out 3 (Nat.le_refl _) x wr.drew hgx (hapr.rep.below (below_draw (Below.refl _ _) 1)))
        unfold Ob.val at HRd
        clear hcf htx hgx hx hapr hrow hS
        generalize rend G5 3 x = Rx at *
        go_wp2_with fail
        go_region_held3 (fun w' => w'.cell? ⟨g, i * 8, none⟩ = some (.int .i64 x.kind) ∧ w'.cell? ⟨g, i * 8 + 1, none⟩ = some (.bool x.exec) ∧ w'.cell? ⟨g, i * 8 + 2, none⟩ = some (.int .i64 x.acc) ∧ w'.cell? ⟨g, i * 8 + 3, none⟩ = some (.int .i64 x.n) ∧ w'.cell? ⟨g, i * 8 + 4, none⟩ = some (.string x.name) ∧ w'.cell? ⟨g, i * 8 + 5, none⟩ = some (.int .i64 x.ref) ∧ w'.cell? ⟨g, i * 8 + 6, none⟩ = some (.int .i64 x.frm) ∧ w'.cell? ⟨g, i * 8 + 7, none⟩ = some (.int .i64 x.len) ∧ w'.cell? ⟨tg, i, none⟩ = some (.string (Rx))) (first | with_reducible exact sA | with_reducible exact sB) (first | (go_at_call 32; refine HRd.out.mono ?_; rintro e w15 ⟨rfl, hb15⟩; have hap15 := (HAPr.out.on (below_draw (Below.refl _ _) 1)).on hb15; have hrow15 := owns_same HRow.out (fun k hk => hb15.block k (owns_lt HRow.out hk)); have sB := HS.out w15 hap15.row hrow15))
        all_goals go_wp2_with fail
        all_goals go_roundw
        case rel => exact ⟨i + 1, by go_num, by omega, hap15, hrow15⟩
        case measure => simp [intOf]; omega
      have hbx7 := hapr.box
      unfold obC at hbx7
      obtain ⟨x0, x1, x2, x3, x4, x5, x6, x7⟩ := cellsOb hbx7
      have hY := bytes_at hapr.rep ⟨6, false, 0, 0, ⟨#[]⟩, gl + 1, 0, b.length⟩
      unfold BytesP at hY
      rw [HTl.out.1, HTl.out.2] at hY
      unfold Ob.val at hY
      have HY := Lib.hid hY
      clear hapr hrow hbx7 hY
      go_wp2_with fail
      refine HY.out.mono ?_; rintro e w16 ⟨hb16, hor⟩
      rcases hor with ⟨hno, _⟩ | ⟨Bo2, hBo2, _, rfl, hBoB⟩
      · cases hno
      have hap16 := HAPr.out.on hb16
      have hs1 : Src w16 (some ⟨Bo2, 0, none⟩) b := src_own (by simpa using own_of_block (n := b.length) (size := 1) hBoB (by omega) (by simp)) rfl
      have HSm := Lib.hid (same_src (c1 := b.length) (c2 := c) w16 hs1 (HSr.out w16 hap16.bel) (by omega))
      have HB16 := Lib.hid hap16.bel
      clear x0 x1 x2 x3 x4 x5 x6 x7 hb16 hBoB hap16 hs1 HY
      go_wp2_with fail
      refine HSm.out.mono ?_; rintro e w17 ⟨rfl, hb17⟩
      have HB17 := Lib.hid (bthen HB16.out hb17)
      clear hb17
      go_wp2_with fail
      go_ret
      exact ⟨rfl, HB17.out⟩
end Go.Proofs.Ytlflkdmbbomjeaa
