/-
  The walk of the law ScanBlanks.
-/
import Derived.Test.YtaebpjcigajolaaScanBlankM
import Derived.Deep.QuietTactic
import Derived.BigQuiet
namespace Go.Proofs.Ytaebpjcigajolaa
open Go.RowKit
open Sc
/-- the table of words; and that of what stands between them -/
def Tab1 (w wx : World) : Prop := Below w.heap.size w wx ∧ wx.heap.size = w.heap.size + 1 ∧ ∀ m, m < 15 → wx.cell? ⟨w.heap.size, m, none⟩ = some (.string ⟨(wd m).toArray⟩)
def Tabs (w wx : World) : Prop :=
  Below w.heap.size w wx ∧ (∀ m, m < 15 → wx.cell? ⟨w.heap.size, m, none⟩ = some (.string ⟨(wd m).toArray⟩)) ∧ ∀ m, m < 7 → wx.cell? ⟨w.heap.size + 1, m, none⟩ = some (.string ⟨(fl m).toArray⟩)
theorem row_at (W : World) (C : Array Value) (t : TypeId) (m : Nat) : (W.alloc (.cells C t)).cell? ⟨W.heap.size, m, none⟩ = C[m]? := cell_of_row _ W.heap.size m _ _ _ (heap_alloc_new W (.cells C t))
theorem tab1_made (w : World) : Tab1 w (w.alloc (.cells #[.string ⟨#[97]⟩, .string ⟨#[47, 98]⟩, .string ⟨#[47, 47, 99]⟩, .string ⟨#[40, 100, 32, 101, 41]⟩, .string ⟨#[60, 48, 102, 62]⟩, .string ⟨#[123]⟩, .string ⟨#[125]⟩, .string ⟨#[91]⟩, .string ⟨#[93]⟩, .string ⟨#[49, 50]⟩, .string ⟨#[45, 49, 46, 53]⟩, .string ⟨#[49, 54, 35, 97]⟩, .string ⟨#[60, 60]⟩, .string ⟨#[62, 62]⟩, .string ⟨#[47]⟩, .string ⟨#[120, 37]⟩] 9)) := by
  refine ⟨(Below.refl _ _).alloc (Nat.le_refl _) _, by simp, fun m hm => ?_⟩
  rw [row_at]
  match m, hm with
  | 0, _ | 1, _ | 2, _ | 3, _ | 4, _ | 5, _ | 6, _ | 7, _ | 8, _ | 9, _ | 10, _ | 11, _ | 12, _ | 13, _ | 14, _ => rfl
  | n + 15, h => omega
theorem tabs_made {w wx : World} (h : Tab1 w wx) : Tabs w (wx.alloc (.cells #[.string ⟨#[32]⟩, .string ⟨#[10]⟩, .string ⟨#[9, 13, 10]⟩, .string ⟨#[37, 99, 10]⟩, .string ⟨#[32, 37, 40, 32, 13, 32]⟩, .string ⟨#[0]⟩, .string ⟨#[12, 37, 37, 100, 12]⟩] 9)) := by
  obtain ⟨hb, hs, hc⟩ := h
  refine ⟨hb.alloc hb.size _, fun m hm => ?_, fun m hm => ?_⟩
  · rw [World.cell?_alloc_lt _ _ _ (by simp; omega)]; exact hc m hm
  · rw [← hs, row_at]
    match m, hm with
    | 0, _ | 1, _ | 2, _ | 3, _ | 4, _ | 5, _ | 6, _ => rfl
    | n + 7, h => omega
def prs (l m : List UInt8) : List (Nat × Nat) := (List.range l.length).map fun i => ((l.getD i 0).toNat, (m.getD i 0).toNat)
theorem prs_len (l m : List UInt8) : (prs l m).length = l.length := by simp [prs]
theorem prs_take {l m : List UInt8} {i : Nat} (h : i < l.length) : (prs l m).take (i + 1) = (prs l m).take i ++ [((l.getD i 0).toNat, (m.getD i 0).toNat)] := by
  rw [List.take_add_one]
  congr 1
  simp [prs, h]
theorem prs_drop {l m : List UInt8} {i : Nat} (h : i < l.length) : ∃ x, (prs l m).drop i = x :: (prs l m).drop (i + 1) := by
  have h1 : i < (prs l m).length := by rw [prs_len]; exact h
  exact ⟨_, List.drop_eq_getElem_cons h1⟩
def BuildRel (l m : List UInt8) (wx : World) (s7 s8 s9 : Value) (wr : World) : Prop :=
  ∃ i j : Nat, i ≤ l.length ∧ s7 = .string ⟨(pln ((prs l m).take i)).toArray⟩ ∧ s8 = .string ⟨(gpd ((prs l m).take i)).toArray⟩ ∧ s9 = .int .i64 i ∧ wr = wx.drewN j
theorem str3 (a b c : List UInt8) : ((⟨a.toArray⟩ : ByteArray) ++ ⟨b.toArray⟩) ++ ⟨c.toArray⟩ = ⟨(a ++ (b ++ c)).toArray⟩ := by
  apply mk_listS; rw [data_appS, data_appS]; simp
theorem str4 (a b c d : List UInt8) : (((⟨a.toArray⟩ : ByteArray) ++ ⟨b.toArray⟩) ++ ⟨c.toArray⟩) ++ ⟨d.toArray⟩ = ⟨(a ++ (b ++ c ++ d)).toArray⟩ := by
  apply mk_listS; rw [data_appS, data_appS, data_appS]; simp
/-- where the law stands ahead of its i-th word, in both texts -/
def GapRel (P G : List UInt8) (L : List (Nat × Nat)) (w : World) (s12 s13 s14 : Value) (wr : World) : Prop :=
  ∃ p q i : Nat, s12 = .int .i64 p ∧ s13 = .int .i64 q ∧ s14 = .int .i64 i ∧ i ≤ L.length + 1 ∧ (i ≤ L.length → Ahead P p (pln (L.drop i)) ∧ Ahead G q (gpd (L.drop i))) ∧ Below w.heap.size w wr ∧ Mx wr
theorem tokY_rel {w w' : World} (hb : Below w.heap.size w w') (k n : Int) (t : ByteArray) : Below w.heap.size w (w'.alloc (tokB k n t)) := hb.alloc hb.size _
/-- Next at a place of a string's bytes -/
theorem next_at_str {w : World} (l : List UInt8) (hl : l.length ≤ 65535) {p : Nat} (hp : p ≤ l.length) (hm : Mx w) :
    ∃ (cap : Nat) (W2 : World), (convert 9 22 (.string ⟨l.toArray⟩)).run Try.prog w = .ok (.slice (some ⟨w.heap.size, 0, none⟩) l.length cap) W2 ∧
      Calls Try.prog 10 #[.slice (some ⟨w.heap.size, 0, none⟩) l.length cap, .int .i64 p] W2 fun e w' => e = .returned (nextV l (nxt tokR (l.drop p))) ∧ Below w.heap.size w w' := by
  obtain ⟨cap, W2, hcv, hb, hs, hcap, hrd⟩ := bytes_madeS w l
  refine ⟨cap, W2, hcv, ?_⟩
  have hn := next_at (w := W2) (cap := cap) (p := p) (l := l) (tk := tokR) (hrd _ (by omega)) hcap hl hp (fun _ _ _ _ => dec_tk (hm.below hb))
  exact hn.mono fun e w' ⟨h1, h2⟩ => ⟨h1, hb.trans (h2.mono (by omega))⟩
set_option maxRecDepth 100000 in
set_option maxHeartbeats 4000000 in
theorem lawScanBlanks (ad : Option Addr) (c : Nat) (l : List UInt8) (ad2 : Option Addr) (c2 : Nat) (m : List UInt8) (w : World) (hin : InRow w ad l c) (hin2 : InRow w ad2 m c2) (hm1 : l.length ≤ maxLen) (hm2 : m.length ≤ maxLen) (hmx : Mx w) :
    Calls Try.prog 8 #[.slice ad l.length c, .slice ad2 m.length c2] w fun e w' => e = .returned (.bool true) ∧ Below w.heap.size w w' := by
  have hm2' := hm2
  unfold maxLen at hm1 hm2'
  have HIN := Lib.hid hin
  have HIN2 := Lib.hid hin2
  have HMX := Lib.hid hmx
  clear hin hin2 hmx
  go_enter Try.func8, Try.ntmps8
  go_upto_region 1 with fail
  go_cut [5] (fun s5 wx => s5 = .slice (some ⟨w.heap.size, 0, none⟩) 16 16 ∧ Tab1 w wx)
  case first =>
    go_wp2_with fail
    go_meet
    exact ⟨rfl, tab1_made w⟩
  case rest =>
  obtain ⟨rfl, hT⟩ := hcut
  go_upto_region 2 with fail
  go_cut [6] (fun s6 wx => s6 = .slice (some ⟨w.heap.size + 1, 0, none⟩) 7 7 ∧ Tabs w wx)
  case first =>
    go_wp2_with fail
    go_meet
    exact ⟨by rw [hT.2.1], tabs_made hT⟩
  case rest =>
  obtain ⟨rfl, hT⟩ := hcut
  have HT := Lib.hid hT
  have hsz := hT.1.size
  clear hT
  by_cases hl : l.length ≤ 200
  · have hd : decide ((200 : Int) < (l.length : Int)) = false := decide_eq_false (by omega)
    go_wp2_with fail
    go_loopw [7, 8, 9] (fun s7 s8 s9 wr => BuildRel l m wc s7 s8 s9 wr) (fun _ _ s9 _ => l.length - (intOf s9).toNat)
    case atStart => exact ⟨0, 0, Nat.zero_le _, rfl, rfl, rfl, rfl⟩
    case round =>
      obtain ⟨i, j, hi, rfl, rfl, rfl, rfl⟩ := hrel
      have hpl := pln_len ((prs l m).take i)
      have hgl := gpd_len ((prs l m).take i)
      have htl : ((prs l m).take i).length = i := by rw [List.length_take, prs_len]; omega
      rw [htl] at hpl hgl
      by_cases hlt : i < l.length
      · have hdi : decide ((i : Int) < (l.length : Int)) = true := decide_eq_true (by omega)
        have hx0 : l[i]? = some (l.getD i 0) := by simp [List.getD_eq_getElem?_getD, hlt]
        obtain ⟨b, off, rfl, hbN, hcell0⟩ := (HIN.out.below HT.out.1).rd i _ hx0
        obtain ⟨x, hx⟩ : ∃ x, l.getD i 0 = x := ⟨_, rfl⟩
        rw [hx] at hcell0
        have hxl : x.toNat < 256 := UInt8.toNat_lt x
        obtain ⟨n1, hn1⟩ : ∃ n, n = x.toNat % 15 := ⟨_, rfl⟩
        have w1 : ((x.toNat : Int)).tmod 15 = (n1 : Int) := by rw [Int.tmod_eq_emod_of_nonneg (by omega)]; omega
        have i1 : (n1 : Int) < 16 := by omega
        have i0 : (0 : Int) ≤ (n1 : Int) := by omega
        have hcw := HT.out.2.1 n1 (by omega)
        have hwl := wd_len n1 (by omega)
        obtain ⟨Wd, hWd⟩ : ∃ W : ByteArray, W = ⟨(wd n1).toArray⟩ := ⟨_, rfl⟩
        have hWs : Wd.size ≤ 5 := by rw [hWd, size_mkS]; exact hwl
        rw [← hWd] at hcw
        obtain ⟨Pb, hPb⟩ : ∃ P : ByteArray, P = ⟨(pln ((prs l m).take i)).toArray⟩ := ⟨_, rfl⟩
        obtain ⟨Gb, hGb⟩ : ∃ G : ByteArray, G = ⟨(gpd ((prs l m).take i)).toArray⟩ := ⟨_, rfl⟩
        have hPs : Pb.size ≤ 6 * i := by rw [hPb, size_mkS]; exact hpl
        have hGs : Gb.size ≤ 17 * i := by rw [hGb, size_mkS]; exact hgl
        rw [← hPb, ← hGb]
        have hP1 : (Pb ++ Wd) ++ ⟨#[32]⟩ = ⟨(pln ((prs l m).take (i + 1))).toArray⟩ := by
          rw [prs_take hlt, pln_app, hPb, hWd, hn1, hx]; exact str3 _ _ [32]
        have HP1 := Lib.hid hP1
        have HWd := Lib.hid hWd
        have HGb := Lib.hid hGb
        have HX := Lib.hid hx
        have HN1 := Lib.hid hn1
        -- whichever gap
        have gap : ∀ g : Nat, g < 256 → (m.getD i 0).toNat = g → ∃ n2 n3 : Nat, ((g : Int)).tmod 7 = (n2 : Int) ∧ (((g : Int) / 7)).tmod 7 = (n3 : Int) ∧ n2 < 7 ∧ n3 < 7 ∧ n2 = g % 7 ∧ n3 = g / 7 % 7 := by
          intro g hg _
          exact ⟨g % 7, g / 7 % 7, by rw [Int.tmod_eq_emod_of_nonneg (by omega)]; omega, by rw [Int.tmod_eq_emod_of_nonneg (by omega)]; omega, Nat.mod_lt _ (by decide), Nat.mod_lt _ (by decide), rfl, rfl⟩
        have HG := Lib.hid gap
        have HP := Lib.hid hPb
        clear hP1 hWd hGb hx hn1 gap hx0 hPb hpl hgl htl hwl
        by_cases hg : i < m.length
        · have hdg : decide ((i : Int) < (m.length : Int)) = true := decide_eq_true (by omega)
          have hy0 : m[i]? = some (m.getD i 0) := by simp [List.getD_eq_getElem?_getD, hg]
          obtain ⟨b2, off2, rfl, hbN2, hcell2⟩ := (HIN2.out.below HT.out.1).rd i _ hy0
          obtain ⟨y, hy⟩ : ∃ y, m.getD i 0 = y := ⟨_, rfl⟩
          rw [hy] at hcell2
          have hyl : y.toNat < 256 := UInt8.toNat_lt y
          obtain ⟨n2, n3, v2, v3, k2, k3, m2, m3⟩ := HG.out y.toNat hyl (by rw [hy])
          have hc2 := HT.out.2.2 n2 k2
          have hc3 := HT.out.2.2 n3 k3
          obtain ⟨F2, hF2⟩ : ∃ F : ByteArray, F = ⟨(fl n2).toArray⟩ := ⟨_, rfl⟩
          obtain ⟨F3, hF3⟩ : ∃ F : ByteArray, F = ⟨(fl n3).toArray⟩ := ⟨_, rfl⟩
          have hs2 : F2.size ≤ 6 := by rw [hF2, size_mkS]; exact fl_len n2 k2
          have hs3 : F3.size ≤ 6 := by rw [hF3, size_mkS]; exact fl_len n3 k3
          rw [← hF2] at hc2
          rw [← hF3] at hc3
          have hG1 : ((Gb ++ F2) ++ Wd) ++ F3 = ⟨(gpd ((prs l m).take (i + 1))).toArray⟩ := by
            rw [prs_take hlt, gpd_app, HGb.out, HWd.out, hF2, hF3, HX.out, hy, HN1.out, m2, m3]; exact str4 _ _ _ _
          have HG1 := Lib.hid hG1
          have j2 : (n2 : Int) < 7 := by omega
          have j3 : (n3 : Int) < 7 := by omega
          have j20 : (0 : Int) ≤ (n2 : Int) := by omega
          have j30 : (0 : Int) ≤ (n3 : Int) := by omega
          clear hG1 hF2 hF3 hy hy0 m2 m3
          as_aux_lemma =>
            go_wp2_with fail
            go_quiet (fail)
            go_wp2_with fail
            go_roundw
            case rel => exact ⟨i + 1, _, by omega, by rw [HP1.out], by rw [HG1.out], by go_num, rfl⟩
            case measure => simp [intOf]; omega
        · have hdg : decide ((i : Int) < (m.length : Int)) = false := decide_eq_false (by omega)
          have hy : m.getD i 0 = 0 := by simp [List.getD_eq_getElem?_getD, List.getElem?_eq_none (Nat.le_of_not_lt hg)]
          have hc2 := HT.out.2.2 0 (by decide)
          have hG1 : ((Gb ++ ⟨#[32]⟩) ++ Wd) ++ ⟨#[32]⟩ = ⟨(gpd ((prs l m).take (i + 1))).toArray⟩ := by
            rw [prs_take hlt, gpd_app, HGb.out, HWd.out, HX.out, hy, HN1.out]; exact str4 (gpd ((prs l m).take i)) (fl (0 % 7)) (wd (x.toNat % 15)) (fl (0 / 7 % 7))
          have HG1 := Lib.hid hG1
          have hc2' : wc.cell? ⟨w.heap.size + 1, 0, none⟩ = some (.string ⟨#[32]⟩) := hc2
          clear hG1 hy hc2
          as_aux_lemma =>
            go_wp2_with fail
            go_quiet (fail)
            go_wp2_with fail
            go_roundw
            case rel => exact ⟨i + 1, _, by omega, by rw [HP1.out], by rw [HG1.out], by go_num, rfl⟩
            case measure => simp [intOf]; omega
      · have hdi : decide ((i : Int) < (l.length : Int)) = false := decide_eq_false (by omega)
        have hil : i = l.length := by omega
        subst hil
        have hall : (prs l m).take l.length = prs l m := List.take_of_length_le (by rw [prs_len]; exact Nat.le_refl _)
        rw [hall] at hpl hgl ⊢
        obtain ⟨L, hL⟩ : ∃ L, prs l m = L := ⟨_, rfl⟩
        have hLl : L.length = l.length := by rw [← hL, prs_len]
        rw [hL] at hpl hgl ⊢
        obtain ⟨P, hP⟩ : ∃ P, pln L = P := ⟨_, rfl⟩
        obtain ⟨G, hG⟩ : ∃ G, gpd L = G := ⟨_, rfl⟩
        have hA0 : Ahead P 0 (pln (L.drop 0)) ∧ Ahead G 0 (gpd (L.drop 0)) := by
          rw [List.drop_zero, hP, hG]; exact ⟨⟨Nat.zero_le _, .inl rfl⟩, ⟨Nat.zero_le _, .inl rfl⟩⟩
        have HA0 := Lib.hid hA0
        rw [hP] at hpl ⊢
        rw [hG] at hgl ⊢
        have HB0 := Lib.hid (show Below w.heap.size w (wc.drewN j) from HT.out.1.trans (belowDrewN _ _ _))
        have HM0 := Lib.hid (HMX.out.below HB0.out)
        clear hall hL hP hG hA0 htl
        go_wp2_with fail
        go_loopw [12, 13, 14] (fun s12 s13 s14 wr => GapRel P G L w s12 s13 s14 wr) (fun _ _ s14 _ => L.length + 1 - (intOf s14).toNat)
        case atStart => exact ⟨0, 0, 0, rfl, rfl, rfl, by omega, fun _ => HA0.out, HB0.out, HM0.out⟩
        case round =>
          obtain ⟨p, q, i, rfl, rfl, rfl, hi, hah, hb, hmx⟩ := hrel
          have HB := Lib.hid hb
          have HM := Lib.hid hmx
          have hsz := hb.size
          clear hb hmx
          by_cases hend : i ≤ L.length
          · have hdi : decide ((i : Int) ≤ (l.length : Int)) = true := decide_eq_true (by omega)
            obtain ⟨hA, hG⟩ := hah hend
            have HA := Lib.hid hA
            have HG := Lib.hid hG
            clear hah hA hG
            obtain ⟨cap, W2, hcv, hcall⟩ := next_at_str (w := wr) P (by omega) HA.out.1 HM.out
            have HC := Lib.hid hcall
            clear hcall
            by_cases hil : i < L.length
            · obtain ⟨x, hx⟩ : ∃ x, L.drop i = x :: L.drop (i + 1) := ⟨_, List.drop_eq_getElem_cons hil⟩
              have hA := HA.out
              have hG := HG.out
              rw [hx] at hA hG
              rcases both tokR_kind hA hG with ⟨er, he, h1, h2⟩ | ⟨k, n, t, r1, r2, hk, h1, h2, hn⟩
              · have he0 : (er != 0) = true := by simp [he]
                clear hA hG hx he
                rw [h1] at HC
                have HH2 := Lib.hid h2
                clear h1 h2
                as_aux_lemma =>
                  unfold nextV tkV at HC
                  go_wp2_with fail
                  refine HC.out.mono ?_; rintro e w3 ⟨rfl, hb3⟩
                  have hbA := tokY_rel hb3 0 0 ⟨#[]⟩
                  have HBA := Lib.hid hbA
                  have HB3 := Lib.hid hb3
                  obtain ⟨cap2, W4, hcv2, hcall2⟩ := next_at_str (w := w3.alloc (tokB 0 0 ⟨#[]⟩)) G (by omega) HG.out.1 (HM.out.below hbA)
                  have hs4 : (w3.alloc (tokB 0 0 ⟨#[]⟩)).heap.size = w3.heap.size + 1 := by simp
                  rw [hs4] at hcv2 hcall2
                  clear hs4
                  rw [HH2.out] at hcall2
                  unfold nextV tkV at hcall2
                  unfold tokB at hcv2 hcall2
                  have HC2 := Lib.hid hcall2
                  clear hcall2 hb3 hbA
                  go_wp2_with fail
                  refine HC2.out.mono ?_; rintro e w5 ⟨rfl, hb5⟩
                  have hT : w5.heap[w3.heap.size]? = some (tokB 0 0 ⟨#[]⟩) := (hb5.block w3.heap.size (by simp)).trans (tok_new w3 _ _ _)
                  have hTa := tok_alloc hT (tokB 0 0 ⟨#[]⟩)
                  obtain ⟨t0, t1, t2, g0, g1, g2⟩ := tok_c hTa
                  unfold tokB at t0 t1 t2 g0 g1 g2
                  have HB6 := Lib.hid (show Below wr.heap.size wr (w5.alloc (tokB 0 0 ⟨#[]⟩)) from tokY_rel (HBA.out.trans (hb5.mono (by have := HB3.out.size; omega))) _ _ _)
                  clear hb5 hT hTa
                  go_wp2_with fail
                  go_ret
                  exact ⟨rfl, HB.out.trans (HB6.out.mono HB.out.size)⟩
              · have HNext := Lib.hid hn
                clear hA hG hx hk hn
                rw [h1] at HC
                have HH2 := Lib.hid h2
                clear h1 h2
                as_aux_lemma =>
                  unfold nextV tkV at HC
                  go_wp2_with fail
                  refine HC.out.mono ?_; rintro e w3 ⟨rfl, hb3⟩
                  have hbA := tokY_rel hb3 k n ⟨t.toArray⟩
                  have HBA := Lib.hid hbA
                  have HB3 := Lib.hid hb3
                  obtain ⟨cap2, W4, hcv2, hcall2⟩ := next_at_str (w := w3.alloc (tokB k n ⟨t.toArray⟩)) G (by omega) HG.out.1 (HM.out.below hbA)
                  have hs4 : (w3.alloc (tokB k n ⟨t.toArray⟩)).heap.size = w3.heap.size + 1 := by simp
                  rw [hs4] at hcv2 hcall2
                  clear hs4
                  rw [HH2.out] at hcall2
                  unfold nextV tkV at hcall2
                  unfold tokB at hcv2 hcall2
                  have HC2 := Lib.hid hcall2
                  clear hcall2 hb3 hbA
                  go_wp2_with fail
                  refine HC2.out.mono ?_; rintro e w5 ⟨rfl, hb5⟩
                  have hT : w5.heap[w3.heap.size]? = some (tokB k n ⟨t.toArray⟩) := (hb5.block w3.heap.size (by simp)).trans (tok_new w3 _ _ _)
                  have hTa := tok_alloc hT (tokB k n ⟨t.toArray⟩)
                  obtain ⟨t0, t1, t2, g0, g1, g2⟩ := tok_c hTa
                  unfold tokB at t0 t1 t2 g0 g1 g2
                  have HB6 := Lib.hid (show Below wr.heap.size wr (w5.alloc (tokB k n ⟨t.toArray⟩)) from tokY_rel (HBA.out.trans (hb5.mono (by have := HB3.out.size; omega))) _ _ _)
                  clear hb5 hT hTa
                  go_wp2_with fail
                  go_roundw
                  case rel => exact ⟨_, _, i + 1, rfl, rfl, by go_num, by omega, fun _ => HNext.out, HB.out.trans (HB6.out.mono HB.out.size), HM.out.below HB6.out⟩
                  case measure => simp [intOf]; omega
            · have hie : i = L.length := by omega
              have hA := HA.out
              have hG := HG.out
              rw [hie, List.drop_of_length_le (Nat.le_refl _)] at hA hG
              obtain ⟨h1, h2⟩ := both_end (tk := tokR) hA hG
              clear hA hG hie
              rw [h1] at HC
              have HH2 := Lib.hid h2
              clear h1 h2
              as_aux_lemma =>
                unfold nextV tkV at HC
                go_wp2_with fail
                refine HC.out.mono ?_; rintro e w3 ⟨rfl, hb3⟩
                have hbA := tokY_rel hb3 0 0 ⟨#[]⟩
                have HBA := Lib.hid hbA
                have HB3 := Lib.hid hb3
                obtain ⟨cap2, W4, hcv2, hcall2⟩ := next_at_str (w := w3.alloc (tokB 0 0 ⟨#[]⟩)) G (by omega) HG.out.1 (HM.out.below hbA)
                have hs4 : (w3.alloc (tokB 0 0 ⟨#[]⟩)).heap.size = w3.heap.size + 1 := by simp
                rw [hs4] at hcv2 hcall2
                clear hs4
                rw [HH2.out] at hcall2
                unfold nextV tkV at hcall2
                unfold tokB at hcv2 hcall2
                have HC2 := Lib.hid hcall2
                clear hcall2 hb3 hbA
                go_wp2_with fail
                refine HC2.out.mono ?_; rintro e w5 ⟨rfl, hb5⟩
                have hT : w5.heap[w3.heap.size]? = some (tokB 0 0 ⟨#[]⟩) := (hb5.block w3.heap.size (by simp)).trans (tok_new w3 _ _ _)
                have hTa := tok_alloc hT (tokB 0 0 ⟨#[]⟩)
                obtain ⟨t0, t1, t2, g0, g1, g2⟩ := tok_c hTa
                unfold tokB at t0 t1 t2 g0 g1 g2
                have HB6 := Lib.hid (show Below wr.heap.size wr (w5.alloc (tokB 0 0 ⟨#[]⟩)) from tokY_rel (HBA.out.trans (hb5.mono (by have := HB3.out.size; omega))) _ _ _)
                clear hb5 hT hTa
                go_wp2_with fail
                go_roundw
                case rel => exact ⟨_, _, i + 1, rfl, rfl, by go_num, by omega, fun h => by omega, HB.out.trans (HB6.out.mono HB.out.size), HM.out.below HB6.out⟩
                case measure => simp [intOf]; omega
          · have hdi : decide ((i : Int) ≤ (l.length : Int)) = false := decide_eq_false (by omega)
            clear hah
            as_aux_lemma =>
              go_wp2_with fail
              refine (answers_any _).mono ?_; rintro e w3 ⟨rfl, hb3⟩
              have HB3 := Lib.hid (HB.out.trans (hb3.mono HB.out.size))
              clear hb3
              go_wp2_with fail
              go_ret
              exact ⟨rfl, HB3.out⟩
  · have hd : decide ((200 : Int) < (l.length : Int)) = true := decide_eq_true (by omega)
    go_wp2_with fail
    refine (answers_any _).mono ?_; rintro e w1 ⟨rfl, hb1⟩
    have HB1 := Lib.hid (HT.out.1.trans (hb1.mono hsz))
    clear hb1
    go_wp2_with fail
    go_ret
    exact ⟨rfl, HB1.out⟩
end Go.Proofs.Ytaebpjcigajolaa
