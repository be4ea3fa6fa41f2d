/-
  strconv.FormatUint in any base but 10, and its capital letters.
A whole number's digits in any base but 10, laid into a string: asDigits.
-/
import Derived.Test.YtfilbfenpdaahaaGreatDoorCnvFmtP
import Derived.Test.YtfilbfenpdaahaaGreatDoorShelfU
import Derived.Test.YtfilbfenpdaahaaGreatDoorCnvAsT
import Derived.Test.YtfilbfenpdaahaaGreatDoorCnvRead
namespace Go.Proofs.YtfilbfenpdaahaaGreatDoor
open Go.RowKit
open Fx Dc
namespace Cv
theorem fmt_at (b n : Nat) (hb0 : 2 ≤ b) (hb1 : b ≤ 36) (hb10 : b ≠ 10) (hn : n < 4294967296) (w : World) (ht : TzT w) :
    Calls Tryz.prog 101 #[.slice none 0 0, .int .u64 n, .int .i64 b, .bool false, .bool false] w fun e w' => ∃ s : ByteArray, e = .returned (.tuple #[.slice none 0 0, .string s]) ∧ s.data.toList = digB true b 33 n ∧ Below w.heap.size w w' := by
  cases hp : powB b
  · exact fmt_gen b n hb0 hb1 hb10 hn hp w
  · exact fmt_pow b n hb0 hb1 hb10 hn hp w ht
theorem fmtI_at (b n : Nat) (hb0 : 2 ≤ b) (hb1 : b ≤ 36) (hb10 : b ≠ 10) (hn : n < 4294967296) (w : World) (ht : TzT w) :
    Calls Tryz.prog 79 #[.int .u64 n, .int .i64 b] w fun e w' => ∃ s : ByteArray, e = .returned (.string s) ∧ s.data.toList = digB true b 33 n ∧ Below w.heap.size w w' := by
  have HF := Lib.hid (fmt_at b n hb0 hb1 hb10 hn w ht)
  have g1 : ((b : Int) == 10) = false := by simp; omega
  clear ht
  go_enter Tryz.func79, Tryz.ntmps79
  go_wp2_with fail
  refine HF.out.mono ?_; rintro e w1 ⟨s, rfl, hs, hb⟩
  have HS := Lib.hid (And.intro hs hb)
  clear hs hb
  go_wp2_with fail
  go_ret
  exact ⟨s, rfl, HS.out.1, HS.out.2⟩
theorem fmtU_at (b n : Nat) (hb0 : 2 ≤ b) (hb1 : b ≤ 36) (hb10 : b ≠ 10) (hn : n < 4294967296) (w : World) (ht : TzT w) :
    Calls Tryz.prog 59 #[.int .u64 n, .int .i64 b] w fun e w' => ∃ s : ByteArray, e = .returned (.string s) ∧ s.data.toList = digB true b 33 n ∧ Below w.heap.size w w' := by
  have HF := Lib.hid (fmtI_at b n hb0 hb1 hb10 hn w ht)
  clear ht
  go_enter Tryz.func59, Tryz.ntmps59
  go_wp2_with fail
  refine HF.out.mono ?_; rintro e w1 ⟨s, rfl, hs, hb⟩
  have HS := Lib.hid (And.intro hs hb)
  clear hs hb
  go_wp2_with fail
  go_ret
  exact ⟨s, rfl, HS.out.1, HS.out.2⟩
theorem up_chr : ∀ d : Fin 36, Lib.upperB (UInt8.ofNat (chrB true d.1)) = UInt8.ofNat (chrB false d.1) := by decide +kernel
theorem up_digB (b : Nat) (hb0 : 2 ≤ b) (hb1 : b ≤ 36) : ∀ (f u : Nat), Lib.toUpperA (digB true b f u) = digB false b f u
  | 0, u => by simp [digB, Lib.toUpperA]
  | f + 1, u => by
    by_cases hu : u < b
    · rw [digB_small _ _ _ _ hu, digB_small _ _ _ _ hu]
      simp only [Lib.toUpperA, List.map_cons, List.map_nil]
      rw [up_chr ⟨u, by omega⟩]
    · have hm : u % b < b := Nat.mod_lt _ (by omega)
      rw [digB_big _ _ _ _ hu, digB_big _ _ _ _ hu, ← up_digB b hb0 hb1 f (u / b)]
      simp only [Lib.toUpperA, List.map_append, List.map_cons, List.map_nil]
      rw [up_chr ⟨u % b, by omega⟩]
theorem asc_chr : ∀ d : Fin 36, (UInt8.ofNat (chrB true d.1)).toNat < 128 := by decide +kernel
theorem asc_digB (b : Nat) (hb0 : 2 ≤ b) (hb1 : b ≤ 36) : ∀ (f u : Nat), ∀ x ∈ digB true b f u, x.toNat < 128
  | 0, u => by simp [digB]
  | f + 1, u => by
    intro x hx
    by_cases hu : u < b
    · rw [digB_small _ _ _ _ hu, List.mem_singleton] at hx
      rw [hx]; exact asc_chr ⟨u, by omega⟩
    · have hm : u % b < b := Nat.mod_lt _ (by omega)
      rw [digB_big _ _ _ _ hu, List.mem_append, List.mem_singleton] at hx
      rcases hx with hx | hx
      · exact asc_digB b hb0 hb1 f _ x hx
      · rw [hx]; exact asc_chr ⟨u % b, by omega⟩
theorem upper_at (b n : Nat) (hb0 : 2 ≤ b) (hb1 : b ≤ 36) (s : ByteArray) (hs : s.data.toList = digB true b 33 n) (w : World) :
    Calls Tryz.prog 58 #[.string s] w fun e w' => e = .returned (.string ⟨(digB false b 33 n).toArray⟩) ∧ Below w.heap.size w w' := by
  have h := Tryz.strings_ToUpper_ascii s w (by rw [size_list, hs]; have := digB_len true b 33 n; omega) (fun j x hx => asc_digB b hb0 hb1 33 n x (by rw [← hs]; exact List.mem_of_getElem? hx))
  rw [hs, up_digB b hb0 hb1] at h
  exact h
end Cv
end Go.Proofs.YtfilbfenpdaahaaGreatDoor
namespace Go.Proofs.YtfilbfenpdaahaaGreatDoor
open Go.RowKit
open St
open Stk
open Col
open Fx Dc
namespace Cv
theorem bx5 {O : Nat → Prop} (w : World) (a b c d e : Obj) (hO : ∀ k, O k → k < w.heap.size) : Bx O w [(w.heap.size + 1 + 1 + 1 + 1, e), (w.heap.size + 1 + 1 + 1, d), (w.heap.size + 1 + 1, c), (w.heap.size + 1, b), (w.heap.size, a)] (((((w.alloc a).alloc b).alloc c).alloc d).alloc e) := by
  have h := (bx4 w a b c d hO).alloc e (fun k hk => by have := hO k hk; simp; omega)
  rw [show ((((w.alloc a).alloc b).alloc c).alloc d).heap.size = w.heap.size + 1 + 1 + 1 + 1 from by simp] at h
  exact h
/-- the number's bits -/
def u32N (n : Int) : Nat := (n % 4294967296).toNat
theorem u32N_lt (n : Int) : u32N n < 4294967296 := by unfold u32N; omega
theorem u32N_wrap (n : Int) : IntKind.u32.wrap n = (u32N n : Int) := by unfold u32N; rw [IntKind.wrap_u32]; omega
theorem asInt_num {s : Nat} {n : Int} (hn : -2147483648 ≤ n ∧ n ≤ 2147483647) (w : World) : Calls Tryz.prog 36 #[cw s, (numO 1 n).val] w (NumP (numO 1 n) w) :=
  asInt_of (fun _ _ => number_num (o := numO 1 n) (numB_num (.inl rfl) hn))
set_option maxRecDepth 100000 in
set_option maxHeartbeats 1000000 in
theorem asDig_at {O : Nat → Prop} {w : World} {s : Nat} {fr n : Int} {b : Nat} {G G' : List (Th × Lay)} {rm q : Ob} (h : Rep O w s fr G) (h6 : rm.kind = 6) (hac : acs G rm = 0) (ht : TzT w) (hn : -2147483648 ≤ n ∧ n ≤ 2147483647) (hb0 : 2 ≤ b) (hb1 : b ≤ 36) (hb10 : b ≠ 10)
    (hp : partR G rm 0 (digB false b 33 (u32N n)).length = (q, 0)) (hw : writeE G q 0 (digB false b 33 (u32N n)).length = 0) (hg : writeR G q 0 (digB false b 33 (u32N n)) = G') :
    Calls Tryz.prog 40 #[cw s, (numO 1 n).val, (numO 1 b).val, rm.val] w (LayP O w s fr G' q) := by
  have HBX := Lib.hid (bx5 (O := O) w (cwC s) (obC (numO 1 n)) (obC (numO 1 b)) (obC rm) (obC nul) h.olt)
  have H5 : Hid (Below w.heap.size w (((((w.alloc (cwC s)).alloc (obC (numO 1 n))).alloc (obC (numO 1 b))).alloc (obC rm)).alloc (obC nul))) := Lib.hid (bthen (bthen (bthen (below2 w _ _) (below1 _ _)) (below1 _ _)) (below1 _ _))
  have HNum := Lib.hid (fun w2 => isNumC_at (numO 1 b) w2)
  rw [numB_num (.inl rfl) (show -2147483648 ≤ (b : Int) ∧ (b : Int) ≤ 2147483647 from by omega)] at HNum
  have HMay := Lib.hid (fun w2 (hb : Below w.heap.size w w2) => mayWrite_at (h.below hb) rm)
  rw [hac] at HMay
  have HInt := Lib.hid (fun w2 => asInt_num (s := s) hn w2)
  have HFmt := Lib.hid (fun w2 (hb : Below w.heap.size w w2) => fmtU_at b (u32N n) hb0 hb1 hb10 (u32N_lt n) w2 (ht.below hb))
  have HUp := Lib.hid (fun (t : ByteArray) (ht : t.data.toList = digB true b 33 (u32N n)) (w2 : World) => upper_at b (u32N n) hb0 hb1 t ht w2)
  have HL := Lib.hid (fun w2 (hb : Below w.heap.size w w2) (a : Option Addr) (c : Nat) (hS : Src w2 a (digB false b 33 (u32N n))) => lay_at (c0 := c) (h.below hb) hS hac hp hw hg)
  have HO := Lib.hid h.olt
  have HL33 := Lib.hid (digB_len false b 33 (u32N n))
  have w1 := u32N_wrap n
  have w2 : IntKind.u64.wrap (u32N n : Int) = (u32N n : Int) := by have := u32N_lt n; rw [IntKind.wrap_u64]; omega
  have g1 : ¬ ((b : Int) < 2) := by omega
  have g2 : ¬ ((36 : Int) < (b : Int)) := by omega
  have g3 : ((b : Int) == 10) = false := by simp; omega
  have g4 : ¬ b < 2 := by omega
  have g5 : ¬ 36 < b := by omega
  have g6 : ¬ b = 10 := hb10
  generalize u32N n = N at *
  generalize digB false b 33 N = L at *
  unfold cwC obC nul numO at HBX H5
  unfold LayP at HL
  unfold NumP at HInt
  unfold Ob.val at HNum HInt
  unfold numO at HNum HInt
  unfold Ob.val at HMay HL
  unfold cw at HMay HInt HL
  unfold cw Ob.val numO
  rw [h6] at HBX H5 HMay HL ⊢
  clear h hac ht hp hw hg
  go_enter Tryz.func40, Tryz.ntmps40
  go_wp2_with fail
  refine (HNum.out _).mono ?_; rintro e v1 ⟨rfl, hb1'⟩
  have K1 := HBX.out.below hb1'
  have HB1 := Lib.hid (bthen H5.out hb1')
  have HK1 := Lib.hid K1
  obtain ⟨x0, x1, x2, x3, x4, x5, x6, x7⟩ := cellsOb K1.b1
  have y := cellCv K1.b4
  clear hb1' K1
  go_wp2_with fail
  refine (HMay.out _ HB1.out).mono ?_; rintro e v2 ⟨rfl, hb2'⟩
  have K2 := HK1.out.below hb2'
  have HB2 := Lib.hid (bthen HB1.out hb2')
  have HK2 := Lib.hid K2
  clear x0 x1 x2 x3 x4 x5 x6 x7 y
  obtain ⟨x0, x1, x2, x3, x4, x5, x6, x7⟩ := cellsOb K2.b2
  obtain ⟨y0, y1, y2, y3, y4, y5, y6, y7⟩ := cellsOb K2.b3
  have y := cellCv K2.b4
  clear hb2' K2 HK1 HB1
  go_wp2_with fail
  refine (HInt.out _).mono ?_; rintro e v3 ⟨rfl, hb3'⟩
  have K3 := HK2.out.below hb3'
  have K4 := K3.below (below1 v3 (obC (numO 1 n)))
  have hb4 := bthen (bthen HB2.out hb3') (below1 v3 (obC (numO 1 n)))
  unfold obC numO at K4 hb4
  clear x0 x1 x2 x3 x4 x5 x6 x7 y0 y1 y2 y3 y4 y5 y6 y7 y K3 hb3'
  go_upto_region 15 with fail
  have hex : ∃ W, W = v3.alloc (.cells #[.int .i64 1, .bool false, .int .i64 0, .int .i64 n, .string ⟨#[]⟩, .int .i64 0, .int .i64 0, .int .i64 0] 27) := ⟨_, rfl⟩
  obtain ⟨W, hW⟩ := hex
  rw [← hW]
  rw [← hW] at K4 hb4
  clear hW
  have HKW := Lib.hid K4
  have HBW := Lib.hid hb4
  have HKD := Lib.hid (K4.below (w' := W.drew) ⟨rfl, rfl, rfl, Nat.le_refl _, fun _ _ => rfl⟩)
  have HBD : Hid (Below w.heap.size w W.drew) := Lib.hid (below_draw hb4 1)
  have s1 := And.intro (cellCv HKW.out.b4) (And.intro (cellsOb HKW.out.b2) (cellsOb HKW.out.b1))
  have s3 := And.intro (cellCv HKD.out.b4) (And.intro (cellsOb HKD.out.b2) (cellsOb HKD.out.b1))
  have HFt := Lib.hid (HFmt.out W.drew HBD.out)
  have n0 : w.heap.size ≠ w.heap.size + 1 + 1 + 1 + 1 := by omega
  have n1 : w.heap.size + 1 + 1 ≠ w.heap.size + 1 + 1 + 1 + 1 := by omega
  have n2 : w.heap.size + 1 + 1 + 1 ≠ w.heap.size + 1 + 1 + 1 + 1 := by omega
  clear K4 hb4 HFmt HNum HMay HInt HK2 HB2 HBX H5
  go_cut [9] (fun v wx => v = .int .i64 0 ∧ ∃ w6 w7, Below W.heap.size W w6 ∧ Frm O w6 w7 ∧ Rep O w7 s fr G' ∧ Put8 w7 (w.heap.size + 1 + 1 + 1 + 1) 27 (.int .i64 q.kind) (.bool q.exec) (.int .i64 q.acc) (.int .i64 q.n) (.string q.name) (.int .i64 q.ref) (.int .i64 q.frm) (.int .i64 q.len) wx)
  case first =>
    go_region_held (fun w' => w'.cell? ⟨w.heap.size, 0, none⟩ = some (.pointer (some ⟨s, 0, none⟩)) ∧ (w'.cell? ⟨w.heap.size + 1 + 1, 0, none⟩ = some (.int .i64 1) ∧ w'.cell? ⟨w.heap.size + 1 + 1, 1, none⟩ = some (.bool false) ∧ w'.cell? ⟨w.heap.size + 1 + 1, 2, none⟩ = some (.int .i64 0) ∧ w'.cell? ⟨w.heap.size + 1 + 1, 3, none⟩ = some (.int .i64 b) ∧ w'.cell? ⟨w.heap.size + 1 + 1, 4, none⟩ = some (.string ⟨#[]⟩) ∧ w'.cell? ⟨w.heap.size + 1 + 1, 5, none⟩ = some (.int .i64 0) ∧ w'.cell? ⟨w.heap.size + 1 + 1, 6, none⟩ = some (.int .i64 0) ∧ w'.cell? ⟨w.heap.size + 1 + 1, 7, none⟩ = some (.int .i64 0)) ∧ (w'.cell? ⟨w.heap.size + 1 + 1 + 1, 0, none⟩ = some (.int .i64 6) ∧ w'.cell? ⟨w.heap.size + 1 + 1 + 1, 1, none⟩ = some (.bool rm.exec) ∧ w'.cell? ⟨w.heap.size + 1 + 1 + 1, 2, none⟩ = some (.int .i64 rm.acc) ∧ w'.cell? ⟨w.heap.size + 1 + 1 + 1, 3, none⟩ = some (.int .i64 rm.n) ∧ w'.cell? ⟨w.heap.size + 1 + 1 + 1, 4, none⟩ = some (.string rm.name) ∧ w'.cell? ⟨w.heap.size + 1 + 1 + 1, 5, none⟩ = some (.int .i64 rm.ref) ∧ w'.cell? ⟨w.heap.size + 1 + 1 + 1, 6, none⟩ = some (.int .i64 rm.frm) ∧ w'.cell? ⟨w.heap.size + 1 + 1 + 1, 7, none⟩ = some (.int .i64 rm.len)))
      (first | with_reducible exact s3 | with_reducible exact s1 | with_reducible exact s4 | with_reducible exact s5 | with_reducible exact s6 | with_reducible exact s7 | with_reducible exact keepS2 n0 n1 n2 s7 | fail)
      (first | (go_at_call 59; (with_reducible refine HFt.out.mono ?_); rintro e w4 ⟨t, rfl, ht4, hb4⟩; have HK4 := Lib.hid (HKD.out.below hb4); have HB4 := Lib.hid (bthen HBD.out hb4); have HUt := Lib.hid (HUp.out t ht4 w4); have s4 := And.intro (cellCv HK4.out.b4) (And.intro (cellsOb HK4.out.b2) (cellsOb HK4.out.b1))) | (go_at_call 58; (with_reducible refine HUt.out.mono ?_); rintro e w5 ⟨rfl, hb5⟩; have HK5 := Lib.hid (HK4.out.below hb5); have HB5 := Lib.hid (bthen HB4.out hb5); have s5 := And.intro (cellCv HK5.out.b4) (And.intro (cellsOb HK5.out.b2) (cellsOb HK5.out.b1)); obtain ⟨c6, w6, hcv, hS6, hb6, hlt6⟩ := Cn.s2b w5 ⟨L.toArray⟩; rw [Cn.u8_size] at hcv; rw [Cn.u8_len] at hS6; have HK6 := Lib.hid (HK5.out.below hb6); have HB6 := Lib.hid (bthen HB5.out hb6); have s6 := And.intro (cellCv HK6.out.b4) (And.intro (cellsOb HK6.out.b2) (cellsOb HK6.out.b1)); have HLy := Lib.hid (HL.out w6 HB6.out _ c6 hS6); clear hS6 hlt6) | (go_at_call 56; (with_reducible refine HLy.out.mono ?_); rintro e w7 ⟨rfl, hF, hRp⟩; have HK7 := Lib.hid (HK6.out.frm hF); have s7 := And.intro (cellCv HK7.out.b4) (And.intro (cellsOb HK7.out.b2) (cellsOb HK7.out.b1)); have hz := HK7.out.b0; obtain ⟨r0, r1, r2, r3, r4, r5, r6, r7⟩ := cellsOb hz; have rf := blk_free hz) | fail)
    all_goals go_wp2_with fail
    all_goals go_meet
    have hc := bthen (bthen hb4 hb5) hb6
    exact ⟨rfl, w6, w7, ⟨hc.os, hc.tape, hc.output, hc.size, hc.block⟩, hF, hRp, put8 hz _ _ _ _ _ _ _ _⟩
  case rest =>
    obtain ⟨rfl, w6, w7, hb6, hF, hR, hp⟩ := hcut
    have HE := Lib.hid (And.intro hb6 (And.intro hF (And.intro hR hp)))
    clear hb6 hF hR hp s1 s3
    go_wp2_with fail
    exact bodyPost_ret (results_ob2 Tryz.results40 _ _ (w.heap.size + 1 + 1 + 1 + 1) rfl rfl HE.out.2.2.2.blk) rfl (lay_put (bthen HBW.out HE.out.1) HE.out.2.1 HE.out.2.2.1 HO.out (by omega) HE.out.2.2.2)
end Cv
end Go.Proofs.YtfilbfenpdaahaaGreatDoor
