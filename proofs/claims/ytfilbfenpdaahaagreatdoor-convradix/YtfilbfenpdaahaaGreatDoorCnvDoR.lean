/-
  Digits in a base, plainly: the token that they are, their first one; a text as the store's second thing.
asDigits in base 10: the number's text.
Do of cvs, cvrs, cvi and cvr, by the contracts of what they ask for.
Do of cvrs, by the contract of asDigits; asDigits in base 10.
-/
import Derived.Test.YtfilbfenpdaahaaGreatDoorCnvBkM
import Derived.Test.YtfilbfenpdaahaaGreatDoorCnvDig
import Derived.Test.YtfilbfenpdaahaaGreatDoorCnvAsT
import Derived.Test.YtfilbfenpdaahaaGreatDoorCnvRead
namespace Go.Proofs.YtfilbfenpdaahaaGreatDoor
open Go.RowKit
open St
open Stk
open Col
open Fx Dc
namespace Cv
theorem tok_rx (B N : Nat) (hB : 2 ≤ B) (hB2 : B ≤ 36) (hN : N < 4294967296) : tokR (Lib.decDigits B ++ 35 :: digB false B 33 N) = (1, IntKind.i32.wrap N, true, 0) := by
  have hcl : (Lib.decDigits B).length ≤ 2 := decDigits_len 1 B (by omega)
  have hdl := digB_len false B 33 N
  have hv : rdV 10 (Lib.decDigits B) = (B : Int) := by unfold rdV; rw [rdD_dig B (by omega)]; rfl
  have hk : rdOk 10 (Lib.decDigits B) = true := by
    unfold rdOk; rw [rdD_dig B (by omega)]
    have := decDigits_pos B
    cases h : Lib.decDigits B with
    | nil => rw [h] at this; simp at this
    | cons x l => rfl
  have hv2 : rdV (B : Int) (digB false B 33 N) = (N : Int) := by unfold rdV; rw [rdD_digB false B hB hB2 33 N (by omega) hN (by omega)]; rfl
  have hk2 : rdOk (B : Int) (digB false B 33 N) = true := by
    unfold rdOk; rw [rdD_digB false B hB hB2 33 N (by omega) hN (by omega)]
    have := digB_pos false B 32 N
    cases h : digB false B 33 N with
    | nil => exact absurd h this
    | cons x l => rfl
  have hx : rxN (Lib.decDigits B) (digB false B 33 N) = (N : Int) := by unfold rxN; rw [hv, hv2]
  have hok : rxOk (Lib.decDigits B) (digB false B 33 N) = true := by
    unfold rxOk; rw [hk, hv, hk2]; simp; omega
  have hT : rxT (Lib.decDigits B) (digB false B 33 N) = IntKind.i32.wrap N := by unfold rxT; rw [hx, i32_wrap N hN]
  have hcut : Lib.cut (Lib.decDigits B ++ 35 :: digB false B 33 N) [35] = (Lib.decDigits B, digB false B 33 N, true) := by
    apply cut_app
    intro x hx e
    have := decDigits_dig B x hx
    subst e; unfold isDig at this; simp at this
  unfold tokR
  rw [if_neg (by simp; omega), hcut]
  simp only [if_true]
  rw [hok, if_pos rfl, hx, if_neg (by omega), hT]
theorem u32N_back (n : Int) (h : -2147483648 ≤ n ∧ n ≤ 2147483647) : IntKind.i32.wrap (u32N n : Int) = n := by
  rw [i32_wrap _ (u32N_lt n)]
  unfold u32N
  split <;> omega
theorem chr_48 : ∀ d : Fin 36, 0 < d.1 → UInt8.ofNat (chrB false d.1) ≠ 48 := by decide +kernel
/-- one digit, or the first is no 0 -/
theorem digB_first (b : Nat) (hb0 : 2 ≤ b) (hb1 : b ≤ 36) : ∀ (f u : Nat), u < 2 ^ f → 0 < u → ∃ c t, digB false b f u = c :: t ∧ c ≠ 48
  | 0, u, h, h0 => by simp at h; omega
  | f + 1, u, h, h0 => by
    by_cases hu : u < b
    · rw [digB_small _ _ _ _ hu]
      exact ⟨_, [], rfl, chr_48 ⟨u, by omega⟩ h0⟩
    · have hd : u / b ≤ u / 2 := Nat.div_le_div_left hb0 (by omega)
      rw [Nat.pow_succ] at h
      obtain ⟨c, t, e, hc⟩ := digB_first b hb0 hb1 f (u / b) (by omega) (Nat.div_pos (by omega) (by omega))
      rw [digB_big _ _ _ _ hu, e]
      exact ⟨c, _, rfl, hc⟩
theorem digB_head (b N : Nat) (hb0 : 2 ≤ b) (hb1 : b ≤ 36) (hN : N < 4294967296) : ∃ c t, digB false b 33 N = c :: t ∧ (t = [] ∨ c ≠ 48) := by
  rcases Nat.eq_zero_or_pos N with rfl | h0
  · exact ⟨_, [], digB_small _ _ 32 0 (by omega), .inl rfl⟩
  · obtain ⟨c, t, e, hc⟩ := digB_first b hb0 hb1 33 N (by omega) h0
    exact ⟨c, t, e, .inr hc⟩
/-- the store with a text as its second thing -/
def gT (L T : List UInt8) (l l2 : Lay) : List (Th × Lay) := gL L l ++ [(⟨6, T, [], [], 0, 0⟩, l2)]
def txO (T : List UInt8) : Ob := ⟨6, false, 0, 0, ⟨#[]⟩, 2, 0, T.length⟩
theorem tld_gT {L T : List UInt8} {l l2 : Lay} : tld (gT L T l l2) (txO T) 6 = some 1 := by
  have hl : liesB 0 (T.length : Int) (T.length : Int) = true := liesB_iff.2 (by omega)
  unfold tld txO gT gL gB
  simp [Th.length, hl]
theorem bytes_gT {L T : List UInt8} {l l2 : Lay} : bytesR (gT L T l l2) (txO T) = T := by
  unfold bytesR
  rw [tld_gT]
  simp [gT, gL, gB, txO]
theorem valid_gT {L T : List UInt8} {l l2 : Lay} : valid (gT L T l l2) (txO T) = true := by
  unfold valid
  rw [if_pos (.inl rfl), show (txO T).kind = 6 from rfl, tld_gT]; rfl
end Cv
end Go.Proofs.YtfilbfenpdaahaaGreatDoor
namespace Go.Proofs.YtfilbfenpdaahaaGreatDoor
open Go.RowKit
open St
open Stk
open Col
open Fx Dc
namespace Cv
set_option maxRecDepth 100000 in
set_option maxHeartbeats 1000000 in
theorem asDig10_at {O : Nat → Prop} {w : World} {s : Nat} {fr n : Int} {G G' : List (Th × Lay)} {rm q : Ob} (h : Rep O w s fr G) (h6 : rm.kind = 6) (hac : acs G rm = 0) (ht : Tab w) (hn : -2147483648 ≤ n ∧ n ≤ 2147483647)
    (hp : partR G rm 0 (Cn.txtL G (numO 1 n)).length = (q, 0)) (hw : writeE G q 0 (Cn.txtL G (numO 1 n)).length = 0) (hg : writeR G q 0 (Cn.txtL G (numO 1 n)) = G') :
    Calls Tryz.prog 40 #[cw s, (numO 1 n).val, (numO 1 10).val, rm.val] w (LayP O w s fr G' q) := by
  have HBX := Lib.hid (bx5 (O := O) w (cwC s) (obC (numO 1 n)) (obC (numO 1 10)) (obC rm) (obC nul) h.olt)
  have H5 : Hid (Below w.heap.size w (((((w.alloc (cwC s)).alloc (obC (numO 1 n))).alloc (obC (numO 1 10))).alloc (obC rm)).alloc (obC nul))) := Lib.hid (bthen (bthen (bthen (below2 w _ _) (below1 _ _)) (below1 _ _)) (below1 _ _))
  have HNum := Lib.hid (fun w2 => isNumC_at (numO 1 10) w2)
  rw [numB_num (.inl rfl) (show -2147483648 ≤ (10 : Int) ∧ (10 : Int) ≤ 2147483647 from by omega)] at HNum
  have HMay := Lib.hid (fun w2 (hb : Below w.heap.size w w2) => mayWrite_at (h.below hb) rm)
  rw [hac] at HMay
  have HTx := Lib.hid (fun w2 (hb : Below w.heap.size w w2) => asText_at (h.below hb) h6 hac (Tab.below ht hb) (show -9223372036854775808 ≤ (numO 1 n).n ∧ (numO 1 n).n ≤ 9223372036854775807 from ⟨by show _ ≤ n; omega, by show n ≤ _; omega⟩) hp hw hg)
  have HO := Lib.hid h.olt
  unfold cwC obC nul numO at HBX H5
  unfold LayP at HTx
  unfold Ob.val at HNum HMay HTx
  unfold numO at HNum HTx
  unfold cw at HMay HTx
  unfold cw Ob.val numO
  rw [h6] at HBX H5 HMay HTx ⊢
  clear h hac ht hp hw hg
  go_enter Tryz.func40, Tryz.ntmps40
  go_wp2_with fail
  refine (HNum.out _).mono ?_; rintro e v1 ⟨rfl, hb1'⟩
  have K1 := HBX.out.below hb1'
  have HB1 := Lib.hid (bthen H5.out hb1')
  have HK1 := Lib.hid K1
  obtain ⟨x0, x1, x2, x3, x4, x5, x6, x7⟩ := cellsOb K1.b1
  have y := cellCv K1.b4
  clear hb1' K1
  go_wp2_with fail
  refine (HMay.out _ HB1.out).mono ?_; rintro e v2 ⟨rfl, hb2'⟩
  have K2 := HK1.out.below hb2'
  have HB2 := Lib.hid (bthen HB1.out hb2')
  have HK2 := Lib.hid K2
  clear x0 x1 x2 x3 x4 x5 x6 x7 y
  obtain ⟨x0, x1, x2, x3, x4, x5, x6, x7⟩ := cellsOb K2.b2
  obtain ⟨y0, y1, y2, y3, y4, y5, y6, y7⟩ := cellsOb K2.b3
  obtain ⟨z0, z1, z2, z3, z4, z5, z6, z7⟩ := cellsOb K2.b1
  have y := cellCv K2.b4
  clear hb2' K2 HK1 HB1
  go_wp2_with fail
  refine (HTx.out v2 HB2.out).mono ?_; rintro e w5 ⟨rfl, hF, hRp⟩
  have HK5 := Lib.hid (HK2.out.frm hF)
  have hz := HK5.out.b0
  have HZ := Lib.hid hz
  have HF := Lib.hid hF
  have HR := Lib.hid hRp
  clear x0 x1 x2 x3 x4 x5 x6 x7 y0 y1 y2 y3 y4 y5 y6 y7 z0 z1 z2 z3 z4 z5 z6 z7 y hF hRp HTx HMay HNum HK2
  obtain ⟨r0, r1, r2, r3, r4, r5, r6, r7⟩ := cellsOb hz
  have rf := blk_free hz
  clear hz
  go_wp2_with fail
  have hp := put8 HZ.out (.int .i64 q.kind) (.bool q.exec) (.int .i64 q.acc) (.int .i64 q.n) (.string q.name) (.int .i64 q.ref) (.int .i64 q.frm) (.int .i64 q.len)
  exact bodyPost_ret (results_ob2 Tryz.results40 _ _ (w.heap.size + 1 + 1 + 1 + 1) rfl rfl hp.blk) rfl (lay_put HB2.out HF.out HR.out HO.out (by omega) hp)
end Cv
end Go.Proofs.YtfilbfenpdaahaaGreatDoor
namespace Go.Proofs.YtfilbfenpdaahaaGreatDoor
open Go.RowKit
open St
open Stk
open Col
namespace Cv
theorem keepF2 {O : Nat → Prop} {W W' : World} {bp op ba oa0 oa1 oa2 oa3 oa4 oa5 oa6 oa7 bb ob0 ob1 ob2 ob3 ob4 ob5 ob6 ob7 : Nat} {p ua0 ua1 ua2 ua3 ua4 ua5 ua6 ua7 ub0 ub1 ub2 ub3 ub4 ub5 ub6 ub7 : Value} (hp : ¬ O bp) (ha : ¬ O ba) (hb : ¬ O bb) (hF : Frm O W W')
    (h : W.cell? ⟨bp, op, none⟩ = some p ∧ (W.cell? ⟨ba, oa0, none⟩ = some ua0 ∧ W.cell? ⟨ba, oa1, none⟩ = some ua1 ∧ W.cell? ⟨ba, oa2, none⟩ = some ua2 ∧ W.cell? ⟨ba, oa3, none⟩ = some ua3 ∧ W.cell? ⟨ba, oa4, none⟩ = some ua4 ∧ W.cell? ⟨ba, oa5, none⟩ = some ua5 ∧ W.cell? ⟨ba, oa6, none⟩ = some ua6 ∧ W.cell? ⟨ba, oa7, none⟩ = some ua7) ∧ (W.cell? ⟨bb, ob0, none⟩ = some ub0 ∧ W.cell? ⟨bb, ob1, none⟩ = some ub1 ∧ W.cell? ⟨bb, ob2, none⟩ = some ub2 ∧ W.cell? ⟨bb, ob3, none⟩ = some ub3 ∧ W.cell? ⟨bb, ob4, none⟩ = some ub4 ∧ W.cell? ⟨bb, ob5, none⟩ = some ub5 ∧ W.cell? ⟨bb, ob6, none⟩ = some ub6 ∧ W.cell? ⟨bb, ob7, none⟩ = some ub7)) :
    W'.cell? ⟨bp, op, none⟩ = some p ∧ (W'.cell? ⟨ba, oa0, none⟩ = some ua0 ∧ W'.cell? ⟨ba, oa1, none⟩ = some ua1 ∧ W'.cell? ⟨ba, oa2, none⟩ = some ua2 ∧ W'.cell? ⟨ba, oa3, none⟩ = some ua3 ∧ W'.cell? ⟨ba, oa4, none⟩ = some ua4 ∧ W'.cell? ⟨ba, oa5, none⟩ = some ua5 ∧ W'.cell? ⟨ba, oa6, none⟩ = some ua6 ∧ W'.cell? ⟨ba, oa7, none⟩ = some ua7) ∧ (W'.cell? ⟨bb, ob0, none⟩ = some ub0 ∧ W'.cell? ⟨bb, ob1, none⟩ = some ub1 ∧ W'.cell? ⟨bb, ob2, none⟩ = some ub2 ∧ W'.cell? ⟨bb, ob3, none⟩ = some ub3 ∧ W'.cell? ⟨bb, ob4, none⟩ = some ub4 ∧ W'.cell? ⟨bb, ob5, none⟩ = some ub5 ∧ W'.cell? ⟨bb, ob6, none⟩ = some ub6 ∧ W'.cell? ⟨bb, ob7, none⟩ = some ub7) := by
  obtain ⟨q, ⟨ma0, ma1, ma2, ma3, ma4, ma5, ma6, ma7⟩, ⟨mb0, mb1, mb2, mb3, mb4, mb5, mb6, mb7⟩⟩ := h
  have hk : ∀ {q j : Nat} {u : Value}, ¬ O q → W.cell? ⟨q, j, none⟩ = some u → W'.cell? ⟨q, j, none⟩ = some u := fun hq hu => (World.cell?_of_block (hF.block _ (World.block_lt_of_cell? W _ hu) hq)).trans hu
  exact ⟨hk hp q, ⟨hk ha ma0, hk ha ma1, hk ha ma2, hk ha ma3, hk ha ma4, hk ha ma5, hk ha ma6, hk ha ma7⟩, ⟨hk hb mb0, hk hb mb1, hk hb mb2, hk hb mb3, hk hb mb4, hk hb mb5, hk hb mb6, hk hb mb7⟩⟩
def s_cvs : ByteArray := ⟨#[99, 118, 115]⟩
theorem known_cvs (w : World) : Calls Tryz.prog 17 #[.string s_cvs] w fun e w' => e = .returned (.tuple #[.int .i64 2, .bool true]) ∧ w' = w := by
  unfold s_cvs
  go_enter Tryz.func17, Tryz.ntmps17
  go_wp2_with fail
  go_ret2
  exact ⟨rfl, rfl⟩
set_option maxRecDepth 100000 in
set_option maxHeartbeats 1000000 in
theorem do_cvs {O : Nat → Prop} {s c : Nat} {fr : Int} {G G' : List (Th × Lay)} {o rm q : Ob} {w : World} {p : Option Addr} (h : Rep O w s fr G) (hNp : ∀ ad, p = some ad → ¬ O ad.block) (hl : SrcO w p [o, rm])
    (hA : ∀ w2, Below w.heap.size w w2 → Calls Tryz.prog 39 #[cw s, o.val, rm.val] w2 (LayP O w2 s fr G' q)) :
    Calls Tryz.prog 19 #[cw s, .string s_cvs, .slice p 2 c] w (LayP O w s fr G' q) := by
  obtain ⟨b, f, rfl, hblt, hcl⟩ := Col.SrcO.plain hl (by simp)
  have HBX := Lib.hid (bx3 (O := O) w (cwC s) (obC nul) (obC o) h.olt)
  have H3 : Hid (Below w.heap.size w (((w.alloc (cwC s)).alloc (obC nul)).alloc (obC o))) := Lib.hid (bthen (below2 w _ _) (below1 _ _))
  have HCl : Hid (∀ w2, Below w.heap.size w w2 → (w2.cell? ⟨b, f, none⟩ = some (.int .i64 o.kind) ∧ w2.cell? ⟨b, f + 1, none⟩ = some (.bool o.exec) ∧ w2.cell? ⟨b, f + 2, none⟩ = some (.int .i64 o.acc) ∧ w2.cell? ⟨b, f + 3, none⟩ = some (.int .i64 o.n) ∧ w2.cell? ⟨b, f + 4, none⟩ = some (.string o.name) ∧ w2.cell? ⟨b, f + 5, none⟩ = some (.int .i64 o.ref) ∧ w2.cell? ⟨b, f + 6, none⟩ = some (.int .i64 o.frm) ∧ w2.cell? ⟨b, f + 7, none⟩ = some (.int .i64 o.len)) ∧ (w2.cell? ⟨b, f + 8, none⟩ = some (.int .i64 rm.kind) ∧ w2.cell? ⟨b, f + 8 + 1, none⟩ = some (.bool rm.exec) ∧ w2.cell? ⟨b, f + 8 + 2, none⟩ = some (.int .i64 rm.acc) ∧ w2.cell? ⟨b, f + 8 + 3, none⟩ = some (.int .i64 rm.n) ∧ w2.cell? ⟨b, f + 8 + 4, none⟩ = some (.string rm.name) ∧ w2.cell? ⟨b, f + 8 + 5, none⟩ = some (.int .i64 rm.ref) ∧ w2.cell? ⟨b, f + 8 + 6, none⟩ = some (.int .i64 rm.frm) ∧ w2.cell? ⟨b, f + 8 + 7, none⟩ = some (.int .i64 rm.len))) := Lib.hid (fun w2 hb => ⟨ob_cells (i := 0) (fun j z hz => (hb.cell (p := ⟨b, f + j, none⟩) hblt).trans (hcl j z hz)) rfl, ob_cells (i := 1) (fun j z hz => (hb.cell (p := ⟨b, f + j, none⟩) hblt).trans (hcl j z hz)) rfl⟩)
  obtain ⟨y0, y1, y2, y3, y4, y5, y6, y7⟩ := (HCl.out _ (below2 w (cwC s) (obC nul))).1
  have HO := Lib.hid h.olt
  have HA := Lib.hid hA
  have nb : b ≠ w.heap.size + 1 := by omega
  have HNb := Lib.hid (show ¬ O b from hNp _ rfl)
  unfold cwC obC nul at HBX H3 y0 y1 y2 y3 y4 y5 y6 y7
  unfold LayP Ob.val at HA
  unfold cw at HA
  unfold LayP cw Ob.val s_cvs
  clear h hl hcl hA hNp
  go_enter Tryz.func19, Tryz.ntmps19
  go_upto_region 18 with fail
  have hex : ∃ W, W = ((w.alloc (.cells #[.pointer (some ⟨s, 0, none⟩)] 73)).alloc (.cells #[.int .i64 0, .bool false, .int .i64 0, .int .i64 0, .string ⟨#[]⟩, .int .i64 0, .int .i64 0, .int .i64 0] 27)).alloc (.cells #[.int .i64 o.kind, .bool o.exec, .int .i64 o.acc, .int .i64 o.n, .string o.name, .int .i64 o.ref, .int .i64 o.frm, .int .i64 o.len] 27) := ⟨_, rfl⟩
  obtain ⟨W, hW⟩ := hex
  rw [← hW]
  rw [← hW] at HBX H3
  clear hW y0 y1 y2 y3 y4 y5 y6 y7 hblt
  have HK3 := Lib.hid (HBX.out.below (w' := W.drew) ⟨rfl, rfl, rfl, Nat.le_refl _, fun _ _ => rfl⟩)
  have HB3 : Hid (Below w.heap.size w W.drew) := Lib.hid (below_draw H3.out 1)
  have s1 := And.intro (cellCv HBX.out.b2) (And.intro (cellsOb HBX.out.b0) ((HCl.out _ H3.out).2))
  have s3 := And.intro (cellCv HK3.out.b2) (And.intro (cellsOb HK3.out.b0) ((HCl.out _ HB3.out).2))
  have HC := Lib.hid (HA.out W.drew HB3.out)
  have n0 : w.heap.size ≠ w.heap.size + 1 := by omega
  have n1 : w.heap.size + 1 + 1 ≠ w.heap.size + 1 := by omega
  clear HA
  go_cut [7] (fun v wx => v = .int .i64 0 ∧ ∃ w6, Frm O W w6 ∧ Rep O w6 s fr G' ∧ Put8 w6 (w.heap.size + 1) 27 (.int .i64 q.kind) (.bool q.exec) (.int .i64 q.acc) (.int .i64 q.n) (.string q.name) (.int .i64 q.ref) (.int .i64 q.frm) (.int .i64 q.len) wx)
  case first =>
    go_region_held3 (fun w' => w'.cell? ⟨w.heap.size, 0, none⟩ = some (.pointer (some ⟨s, 0, none⟩)) ∧ (w'.cell? ⟨w.heap.size + 1 + 1, 0, none⟩ = some (.int .i64 o.kind) ∧ w'.cell? ⟨w.heap.size + 1 + 1, 1, none⟩ = some (.bool o.exec) ∧ w'.cell? ⟨w.heap.size + 1 + 1, 2, none⟩ = some (.int .i64 o.acc) ∧ w'.cell? ⟨w.heap.size + 1 + 1, 3, none⟩ = some (.int .i64 o.n) ∧ w'.cell? ⟨w.heap.size + 1 + 1, 4, none⟩ = some (.string o.name) ∧ w'.cell? ⟨w.heap.size + 1 + 1, 5, none⟩ = some (.int .i64 o.ref) ∧ w'.cell? ⟨w.heap.size + 1 + 1, 6, none⟩ = some (.int .i64 o.frm) ∧ w'.cell? ⟨w.heap.size + 1 + 1, 7, none⟩ = some (.int .i64 o.len)) ∧ (w'.cell? ⟨b, f + 8, none⟩ = some (.int .i64 rm.kind) ∧ w'.cell? ⟨b, f + 8 + 1, none⟩ = some (.bool rm.exec) ∧ w'.cell? ⟨b, f + 8 + 2, none⟩ = some (.int .i64 rm.acc) ∧ w'.cell? ⟨b, f + 8 + 3, none⟩ = some (.int .i64 rm.n) ∧ w'.cell? ⟨b, f + 8 + 4, none⟩ = some (.string rm.name) ∧ w'.cell? ⟨b, f + 8 + 5, none⟩ = some (.int .i64 rm.ref) ∧ w'.cell? ⟨b, f + 8 + 6, none⟩ = some (.int .i64 rm.frm) ∧ w'.cell? ⟨b, f + 8 + 7, none⟩ = some (.int .i64 rm.len)))
      (first | with_reducible exact s3 | with_reducible exact s1 | with_reducible exact s5 | with_reducible exact keepS2 n0 n1 nb s5 | fail)
      (first | (go_at_call 39; (with_reducible refine HC.out.mono ?_); rintro e w5 ⟨rfl, hF, hRp⟩; have HK5 := Lib.hid (HK3.out.frm hF); have s5 := keepF2 (fun e => by have := HO.out _ e; omega) (fun e => by have := HO.out _ e; omega) HNb.out hF s3; have hz := HK5.out.b1; obtain ⟨r0, r1, r2, r3, r4, r5, r6, r7⟩ := cellsOb hz; have rf := blk_free hz) | fail)
    all_goals go_wp2_with fail
    all_goals go_meet
    exact ⟨rfl, w5, ⟨hF.os, hF.tape, hF.output, hF.size, hF.block⟩, hRp, put8 hz _ _ _ _ _ _ _ _⟩
  case rest =>
    obtain ⟨rfl, w6, hF, hR, hp⟩ := hcut
    have HE := Lib.hid (And.intro hF (And.intro hR hp))
    clear hF hR hp s1 s3
    go_wp2_with fail
    exact bodyPost_ret (results_ob2 Tryz.results19 _ _ (w.heap.size + 1) rfl rfl HE.out.2.2.blk) rfl (lay_put H3.out HE.out.1 HE.out.2.1 HO.out (by omega) HE.out.2.2)
def s_cvi : ByteArray := ⟨#[99, 118, 105]⟩
theorem known_cvi (w : World) : Calls Tryz.prog 17 #[.string s_cvi] w fun e w' => e = .returned (.tuple #[.int .i64 1, .bool true]) ∧ w' = w := by
  unfold s_cvi
  go_enter Tryz.func17, Tryz.ntmps17
  go_wp2_with fail
  go_ret2
  exact ⟨rfl, rfl⟩
set_option maxRecDepth 100000 in
set_option maxHeartbeats 1000000 in
theorem do_cvi {s c : Nat} {o : Ob} {v : Int} {w : World} {p : Option Addr} (hl : SrcO w p [o])
    (hA : ∀ w2, Below w.heap.size w w2 → Calls Tryz.prog 36 #[cw s, o.val] w2 (NumP (numO 1 v) w2)) :
    Calls Tryz.prog 19 #[cw s, .string s_cvi, .slice p 1 c] w (NumP (numO 1 v) w) := by
  obtain ⟨b, f, rfl, hblt, hcl⟩ := Col.SrcO.plain ((hl.below (below1 w (cwC s))).below (below1 _ (obC nul))) (by simp)
  obtain ⟨y0, y1, y2, y3, y4, y5, y6, y7⟩ := ob_cells (i := 0) hcl (x := o) rfl
  rw [Nat.zero_mul, Nat.add_zero] at y0 y1 y2 y3 y4 y5 y6 y7
  have hb3 : Below w.heap.size w (((w.alloc (cwC s)).alloc (obC nul)).alloc (obC o)) := bthen (below2 w _ _) (below1 _ _)
  have HBx := Lib.hid (bx3 (O := fun _ => False) w (cwC s) (obC nul) (obC o) (fun _ h => h.elim))
  have H3 := Lib.hid hb3
  have HC := Lib.hid (hA _ hb3)
  unfold cwC obC nul at HBx HC H3 y0 y1 y2 y3 y4 y5 y6 y7
  unfold NumP numO Ob.val at HC
  unfold cw at HC
  unfold NumP numO cw Ob.val s_cvi
  clear hl hcl hb3 hA
  go_enter Tryz.func19, Tryz.ntmps19
  go_wp2_with fail
  refine HC.out.mono ?_; rintro e w4 ⟨rfl, hb4⟩
  have hz := (HBx.out.below hb4).b1
  have HZ := Lib.hid hz
  have HB4 := Lib.hid (bthen H3.out hb4)
  have zf := blk_free hz
  obtain ⟨z0, z1, z2, z3, z4, z5, z6, z7⟩ := cellsOb hz
  clear hz hb4 y0 y1 y2 y3 y4 y5 y6 y7
  go_wp2_with fail
  have hp := put8 HZ.out (.int .i64 1) (.bool false) (.int .i64 0) (.int .i64 v) (.string ⟨#[]⟩) (.int .i64 0) (.int .i64 0) (.int .i64 0)
  exact bodyPost_ret (results_ob2 Tryz.results19 _ _ (w.heap.size + 1) rfl rfl hp.blk) rfl ⟨rfl, below_put8 HB4.out (by omega) hp⟩
def s_cvr : ByteArray := ⟨#[99, 118, 114]⟩
theorem known_cvr (w : World) : Calls Tryz.prog 17 #[.string s_cvr] w fun e w' => e = .returned (.tuple #[.int .i64 1, .bool true]) ∧ w' = w := by
  unfold s_cvr
  go_enter Tryz.func17, Tryz.ntmps17
  go_wp2_with fail
  go_ret2
  exact ⟨rfl, rfl⟩
set_option maxRecDepth 100000 in
set_option maxHeartbeats 1000000 in
theorem do_cvr {s c : Nat} {o : Ob} {v : Int} {w : World} {p : Option Addr} (hl : SrcO w p [o])
    (hA : ∀ w2, Below w.heap.size w w2 → Calls Tryz.prog 37 #[cw s, o.val] w2 (NumP (numO 2 v) w2)) :
    Calls Tryz.prog 19 #[cw s, .string s_cvr, .slice p 1 c] w (NumP (numO 2 v) w) := by
  obtain ⟨b, f, rfl, hblt, hcl⟩ := Col.SrcO.plain ((hl.below (below1 w (cwC s))).below (below1 _ (obC nul))) (by simp)
  obtain ⟨y0, y1, y2, y3, y4, y5, y6, y7⟩ := ob_cells (i := 0) hcl (x := o) rfl
  rw [Nat.zero_mul, Nat.add_zero] at y0 y1 y2 y3 y4 y5 y6 y7
  have hb3 : Below w.heap.size w (((w.alloc (cwC s)).alloc (obC nul)).alloc (obC o)) := bthen (below2 w _ _) (below1 _ _)
  have HBx := Lib.hid (bx3 (O := fun _ => False) w (cwC s) (obC nul) (obC o) (fun _ h => h.elim))
  have H3 := Lib.hid hb3
  have HC := Lib.hid (hA _ hb3)
  unfold cwC obC nul at HBx HC H3 y0 y1 y2 y3 y4 y5 y6 y7
  unfold NumP numO Ob.val at HC
  unfold cw at HC
  unfold NumP numO cw Ob.val s_cvr
  clear hl hcl hb3 hA
  go_enter Tryz.func19, Tryz.ntmps19
  go_wp2_with fail
  refine HC.out.mono ?_; rintro e w4 ⟨rfl, hb4⟩
  have hz := (HBx.out.below hb4).b1
  have HZ := Lib.hid hz
  have HB4 := Lib.hid (bthen H3.out hb4)
  have zf := blk_free hz
  obtain ⟨z0, z1, z2, z3, z4, z5, z6, z7⟩ := cellsOb hz
  clear hz hb4 y0 y1 y2 y3 y4 y5 y6 y7
  go_wp2_with fail
  have hp := put8 HZ.out (.int .i64 2) (.bool false) (.int .i64 0) (.int .i64 v) (.string ⟨#[]⟩) (.int .i64 0) (.int .i64 0) (.int .i64 0)
  exact bodyPost_ret (results_ob2 Tryz.results19 _ _ (w.heap.size + 1) rfl rfl hp.blk) rfl ⟨rfl, below_put8 HB4.out (by omega) hp⟩
end Cv
end Go.Proofs.YtfilbfenpdaahaaGreatDoor
namespace Go.Proofs.YtfilbfenpdaahaaGreatDoor
open Go.RowKit
open St
open Stk
open Col
namespace Cv
theorem keepS3 {W : World} {bp op B ba oa0 oa1 oa2 oa3 oa4 oa5 oa6 oa7 bb ob0 ob1 ob2 ob3 ob4 ob5 ob6 ob7 bc oc0 oc1 oc2 oc3 oc4 oc5 oc6 oc7 : Nat} {p e0 e1 e2 e3 e4 e5 e6 e7 ua0 ua1 ua2 ua3 ua4 ua5 ua6 ua7 ub0 ub1 ub2 ub3 ub4 ub5 ub6 ub7 uc0 uc1 uc2 uc3 uc4 uc5 uc6 uc7 : Value} (hp : bp ≠ B) (ha : ba ≠ B) (hb : bb ≠ B) (hc : bc ≠ B)
    (h : W.cell? ⟨bp, op, none⟩ = some p ∧ (W.cell? ⟨ba, oa0, none⟩ = some ua0 ∧ W.cell? ⟨ba, oa1, none⟩ = some ua1 ∧ W.cell? ⟨ba, oa2, none⟩ = some ua2 ∧ W.cell? ⟨ba, oa3, none⟩ = some ua3 ∧ W.cell? ⟨ba, oa4, none⟩ = some ua4 ∧ W.cell? ⟨ba, oa5, none⟩ = some ua5 ∧ W.cell? ⟨ba, oa6, none⟩ = some ua6 ∧ W.cell? ⟨ba, oa7, none⟩ = some ua7) ∧ (W.cell? ⟨bb, ob0, none⟩ = some ub0 ∧ W.cell? ⟨bb, ob1, none⟩ = some ub1 ∧ W.cell? ⟨bb, ob2, none⟩ = some ub2 ∧ W.cell? ⟨bb, ob3, none⟩ = some ub3 ∧ W.cell? ⟨bb, ob4, none⟩ = some ub4 ∧ W.cell? ⟨bb, ob5, none⟩ = some ub5 ∧ W.cell? ⟨bb, ob6, none⟩ = some ub6 ∧ W.cell? ⟨bb, ob7, none⟩ = some ub7) ∧ (W.cell? ⟨bc, oc0, none⟩ = some uc0 ∧ W.cell? ⟨bc, oc1, none⟩ = some uc1 ∧ W.cell? ⟨bc, oc2, none⟩ = some uc2 ∧ W.cell? ⟨bc, oc3, none⟩ = some uc3 ∧ W.cell? ⟨bc, oc4, none⟩ = some uc4 ∧ W.cell? ⟨bc, oc5, none⟩ = some uc5 ∧ W.cell? ⟨bc, oc6, none⟩ = some uc6 ∧ W.cell? ⟨bc, oc7, none⟩ = some uc7)) :
    ((((((((W.setCell ⟨B, 0, none⟩ e0).setCell ⟨B, 1, none⟩ e1).setCell ⟨B, 2, none⟩ e2).setCell ⟨B, 3, none⟩ e3).setCell ⟨B, 4, none⟩ e4).setCell ⟨B, 5, none⟩ e5).setCell ⟨B, 6, none⟩ e6).setCell ⟨B, 7, none⟩ e7).cell? ⟨bp, op, none⟩ = some p ∧ (((((((((W.setCell ⟨B, 0, none⟩ e0).setCell ⟨B, 1, none⟩ e1).setCell ⟨B, 2, none⟩ e2).setCell ⟨B, 3, none⟩ e3).setCell ⟨B, 4, none⟩ e4).setCell ⟨B, 5, none⟩ e5).setCell ⟨B, 6, none⟩ e6).setCell ⟨B, 7, none⟩ e7).cell? ⟨ba, oa0, none⟩ = some ua0 ∧ ((((((((W.setCell ⟨B, 0, none⟩ e0).setCell ⟨B, 1, none⟩ e1).setCell ⟨B, 2, none⟩ e2).setCell ⟨B, 3, none⟩ e3).setCell ⟨B, 4, none⟩ e4).setCell ⟨B, 5, none⟩ e5).setCell ⟨B, 6, none⟩ e6).setCell ⟨B, 7, none⟩ e7).cell? ⟨ba, oa1, none⟩ = some ua1 ∧ ((((((((W.setCell ⟨B, 0, none⟩ e0).setCell ⟨B, 1, none⟩ e1).setCell ⟨B, 2, none⟩ e2).setCell ⟨B, 3, none⟩ e3).setCell ⟨B, 4, none⟩ e4).setCell ⟨B, 5, none⟩ e5).setCell ⟨B, 6, none⟩ e6).setCell ⟨B, 7, none⟩ e7).cell? ⟨ba, oa2, none⟩ = some ua2 ∧ ((((((((W.setCell ⟨B, 0, none⟩ e0).setCell ⟨B, 1, none⟩ e1).setCell ⟨B, 2, none⟩ e2).setCell ⟨B, 3, none⟩ e3).setCell ⟨B, 4, none⟩ e4).setCell ⟨B, 5, none⟩ e5).setCell ⟨B, 6, none⟩ e6).setCell ⟨B, 7, none⟩ e7).cell? ⟨ba, oa3, none⟩ = some ua3 ∧ ((((((((W.setCell ⟨B, 0, none⟩ e0).setCell ⟨B, 1, none⟩ e1).setCell ⟨B, 2, none⟩ e2).setCell ⟨B, 3, none⟩ e3).setCell ⟨B, 4, none⟩ e4).setCell ⟨B, 5, none⟩ e5).setCell ⟨B, 6, none⟩ e6).setCell ⟨B, 7, none⟩ e7).cell? ⟨ba, oa4, none⟩ = some ua4 ∧ ((((((((W.setCell ⟨B, 0, none⟩ e0).setCell ⟨B, 1, none⟩ e1).setCell ⟨B, 2, none⟩ e2).setCell ⟨B, 3, none⟩ e3).setCell ⟨B, 4, none⟩ e4).setCell ⟨B, 5, none⟩ e5).setCell ⟨B, 6, none⟩ e6).setCell ⟨B, 7, none⟩ e7).cell? ⟨ba, oa5, none⟩ = some ua5 ∧ ((((((((W.setCell ⟨B, 0, none⟩ e0).setCell ⟨B, 1, none⟩ e1).setCell ⟨B, 2, none⟩ e2).setCell ⟨B, 3, none⟩ e3).setCell ⟨B, 4, none⟩ e4).setCell ⟨B, 5, none⟩ e5).setCell ⟨B, 6, none⟩ e6).setCell ⟨B, 7, none⟩ e7).cell? ⟨ba, oa6, none⟩ = some ua6 ∧ ((((((((W.setCell ⟨B, 0, none⟩ e0).setCell ⟨B, 1, none⟩ e1).setCell ⟨B, 2, none⟩ e2).setCell ⟨B, 3, none⟩ e3).setCell ⟨B, 4, none⟩ e4).setCell ⟨B, 5, none⟩ e5).setCell ⟨B, 6, none⟩ e6).setCell ⟨B, 7, none⟩ e7).cell? ⟨ba, oa7, none⟩ = some ua7) ∧ (((((((((W.setCell ⟨B, 0, none⟩ e0).setCell ⟨B, 1, none⟩ e1).setCell ⟨B, 2, none⟩ e2).setCell ⟨B, 3, none⟩ e3).setCell ⟨B, 4, none⟩ e4).setCell ⟨B, 5, none⟩ e5).setCell ⟨B, 6, none⟩ e6).setCell ⟨B, 7, none⟩ e7).cell? ⟨bb, ob0, none⟩ = some ub0 ∧ ((((((((W.setCell ⟨B, 0, none⟩ e0).setCell ⟨B, 1, none⟩ e1).setCell ⟨B, 2, none⟩ e2).setCell ⟨B, 3, none⟩ e3).setCell ⟨B, 4, none⟩ e4).setCell ⟨B, 5, none⟩ e5).setCell ⟨B, 6, none⟩ e6).setCell ⟨B, 7, none⟩ e7).cell? ⟨bb, ob1, none⟩ = some ub1 ∧ ((((((((W.setCell ⟨B, 0, none⟩ e0).setCell ⟨B, 1, none⟩ e1).setCell ⟨B, 2, none⟩ e2).setCell ⟨B, 3, none⟩ e3).setCell ⟨B, 4, none⟩ e4).setCell ⟨B, 5, none⟩ e5).setCell ⟨B, 6, none⟩ e6).setCell ⟨B, 7, none⟩ e7).cell? ⟨bb, ob2, none⟩ = some ub2 ∧ ((((((((W.setCell ⟨B, 0, none⟩ e0).setCell ⟨B, 1, none⟩ e1).setCell ⟨B, 2, none⟩ e2).setCell ⟨B, 3, none⟩ e3).setCell ⟨B, 4, none⟩ e4).setCell ⟨B, 5, none⟩ e5).setCell ⟨B, 6, none⟩ e6).setCell ⟨B, 7, none⟩ e7).cell? ⟨bb, ob3, none⟩ = some ub3 ∧ ((((((((W.setCell ⟨B, 0, none⟩ e0).setCell ⟨B, 1, none⟩ e1).setCell ⟨B, 2, none⟩ e2).setCell ⟨B, 3, none⟩ e3).setCell ⟨B, 4, none⟩ e4).setCell ⟨B, 5, none⟩ e5).setCell ⟨B, 6, none⟩ e6).setCell ⟨B, 7, none⟩ e7).cell? ⟨bb, ob4, none⟩ = some ub4 ∧ ((((((((W.setCell ⟨B, 0, none⟩ e0).setCell ⟨B, 1, none⟩ e1).setCell ⟨B, 2, none⟩ e2).setCell ⟨B, 3, none⟩ e3).setCell ⟨B, 4, none⟩ e4).setCell ⟨B, 5, none⟩ e5).setCell ⟨B, 6, none⟩ e6).setCell ⟨B, 7, none⟩ e7).cell? ⟨bb, ob5, none⟩ = some ub5 ∧ ((((((((W.setCell ⟨B, 0, none⟩ e0).setCell ⟨B, 1, none⟩ e1).setCell ⟨B, 2, none⟩ e2).setCell ⟨B, 3, none⟩ e3).setCell ⟨B, 4, none⟩ e4).setCell ⟨B, 5, none⟩ e5).setCell ⟨B, 6, none⟩ e6).setCell ⟨B, 7, none⟩ e7).cell? ⟨bb, ob6, none⟩ = some ub6 ∧ ((((((((W.setCell ⟨B, 0, none⟩ e0).setCell ⟨B, 1, none⟩ e1).setCell ⟨B, 2, none⟩ e2).setCell ⟨B, 3, none⟩ e3).setCell ⟨B, 4, none⟩ e4).setCell ⟨B, 5, none⟩ e5).setCell ⟨B, 6, none⟩ e6).setCell ⟨B, 7, none⟩ e7).cell? ⟨bb, ob7, none⟩ = some ub7) ∧ (((((((((W.setCell ⟨B, 0, none⟩ e0).setCell ⟨B, 1, none⟩ e1).setCell ⟨B, 2, none⟩ e2).setCell ⟨B, 3, none⟩ e3).setCell ⟨B, 4, none⟩ e4).setCell ⟨B, 5, none⟩ e5).setCell ⟨B, 6, none⟩ e6).setCell ⟨B, 7, none⟩ e7).cell? ⟨bc, oc0, none⟩ = some uc0 ∧ ((((((((W.setCell ⟨B, 0, none⟩ e0).setCell ⟨B, 1, none⟩ e1).setCell ⟨B, 2, none⟩ e2).setCell ⟨B, 3, none⟩ e3).setCell ⟨B, 4, none⟩ e4).setCell ⟨B, 5, none⟩ e5).setCell ⟨B, 6, none⟩ e6).setCell ⟨B, 7, none⟩ e7).cell? ⟨bc, oc1, none⟩ = some uc1 ∧ ((((((((W.setCell ⟨B, 0, none⟩ e0).setCell ⟨B, 1, none⟩ e1).setCell ⟨B, 2, none⟩ e2).setCell ⟨B, 3, none⟩ e3).setCell ⟨B, 4, none⟩ e4).setCell ⟨B, 5, none⟩ e5).setCell ⟨B, 6, none⟩ e6).setCell ⟨B, 7, none⟩ e7).cell? ⟨bc, oc2, none⟩ = some uc2 ∧ ((((((((W.setCell ⟨B, 0, none⟩ e0).setCell ⟨B, 1, none⟩ e1).setCell ⟨B, 2, none⟩ e2).setCell ⟨B, 3, none⟩ e3).setCell ⟨B, 4, none⟩ e4).setCell ⟨B, 5, none⟩ e5).setCell ⟨B, 6, none⟩ e6).setCell ⟨B, 7, none⟩ e7).cell? ⟨bc, oc3, none⟩ = some uc3 ∧ ((((((((W.setCell ⟨B, 0, none⟩ e0).setCell ⟨B, 1, none⟩ e1).setCell ⟨B, 2, none⟩ e2).setCell ⟨B, 3, none⟩ e3).setCell ⟨B, 4, none⟩ e4).setCell ⟨B, 5, none⟩ e5).setCell ⟨B, 6, none⟩ e6).setCell ⟨B, 7, none⟩ e7).cell? ⟨bc, oc4, none⟩ = some uc4 ∧ ((((((((W.setCell ⟨B, 0, none⟩ e0).setCell ⟨B, 1, none⟩ e1).setCell ⟨B, 2, none⟩ e2).setCell ⟨B, 3, none⟩ e3).setCell ⟨B, 4, none⟩ e4).setCell ⟨B, 5, none⟩ e5).setCell ⟨B, 6, none⟩ e6).setCell ⟨B, 7, none⟩ e7).cell? ⟨bc, oc5, none⟩ = some uc5 ∧ ((((((((W.setCell ⟨B, 0, none⟩ e0).setCell ⟨B, 1, none⟩ e1).setCell ⟨B, 2, none⟩ e2).setCell ⟨B, 3, none⟩ e3).setCell ⟨B, 4, none⟩ e4).setCell ⟨B, 5, none⟩ e5).setCell ⟨B, 6, none⟩ e6).setCell ⟨B, 7, none⟩ e7).cell? ⟨bc, oc6, none⟩ = some uc6 ∧ ((((((((W.setCell ⟨B, 0, none⟩ e0).setCell ⟨B, 1, none⟩ e1).setCell ⟨B, 2, none⟩ e2).setCell ⟨B, 3, none⟩ e3).setCell ⟨B, 4, none⟩ e4).setCell ⟨B, 5, none⟩ e5).setCell ⟨B, 6, none⟩ e6).setCell ⟨B, 7, none⟩ e7).cell? ⟨bc, oc7, none⟩ = some uc7) := by
  obtain ⟨q, ⟨ma0, ma1, ma2, ma3, ma4, ma5, ma6, ma7⟩, ⟨mb0, mb1, mb2, mb3, mb4, mb5, mb6, mb7⟩, ⟨mc0, mc1, mc2, mc3, mc4, mc5, mc6, mc7⟩⟩ := h
  have hk : ∀ {q j : Nat} {u : Value}, q ≠ B → W.cell? ⟨q, j, none⟩ = some u → ((((((((W.setCell ⟨B, 0, none⟩ e0).setCell ⟨B, 1, none⟩ e1).setCell ⟨B, 2, none⟩ e2).setCell ⟨B, 3, none⟩ e3).setCell ⟨B, 4, none⟩ e4).setCell ⟨B, 5, none⟩ e5).setCell ⟨B, 6, none⟩ e6).setCell ⟨B, 7, none⟩ e7).cell? ⟨q, j, none⟩ = some u := fun hq hu => (World.cell?_of_block (by rw [blk_far hq, blk_far hq, blk_far hq, blk_far hq, blk_far hq, blk_far hq, blk_far hq, blk_far hq])).trans hu
  exact ⟨hk hp q, ⟨hk ha ma0, hk ha ma1, hk ha ma2, hk ha ma3, hk ha ma4, hk ha ma5, hk ha ma6, hk ha ma7⟩, ⟨hk hb mb0, hk hb mb1, hk hb mb2, hk hb mb3, hk hb mb4, hk hb mb5, hk hb mb6, hk hb mb7⟩, ⟨hk hc mc0, hk hc mc1, hk hc mc2, hk hc mc3, hk hc mc4, hk hc mc5, hk hc mc6, hk hc mc7⟩⟩
theorem keepF3 {O : Nat → Prop} {W W' : World} {bp op ba oa0 oa1 oa2 oa3 oa4 oa5 oa6 oa7 bb ob0 ob1 ob2 ob3 ob4 ob5 ob6 ob7 bc oc0 oc1 oc2 oc3 oc4 oc5 oc6 oc7 : Nat} {p ua0 ua1 ua2 ua3 ua4 ua5 ua6 ua7 ub0 ub1 ub2 ub3 ub4 ub5 ub6 ub7 uc0 uc1 uc2 uc3 uc4 uc5 uc6 uc7 : Value} (hp : ¬ O bp) (ha : ¬ O ba) (hb : ¬ O bb) (hc : ¬ O bc) (hF : Frm O W W')
    (h : W.cell? ⟨bp, op, none⟩ = some p ∧ (W.cell? ⟨ba, oa0, none⟩ = some ua0 ∧ W.cell? ⟨ba, oa1, none⟩ = some ua1 ∧ W.cell? ⟨ba, oa2, none⟩ = some ua2 ∧ W.cell? ⟨ba, oa3, none⟩ = some ua3 ∧ W.cell? ⟨ba, oa4, none⟩ = some ua4 ∧ W.cell? ⟨ba, oa5, none⟩ = some ua5 ∧ W.cell? ⟨ba, oa6, none⟩ = some ua6 ∧ W.cell? ⟨ba, oa7, none⟩ = some ua7) ∧ (W.cell? ⟨bb, ob0, none⟩ = some ub0 ∧ W.cell? ⟨bb, ob1, none⟩ = some ub1 ∧ W.cell? ⟨bb, ob2, none⟩ = some ub2 ∧ W.cell? ⟨bb, ob3, none⟩ = some ub3 ∧ W.cell? ⟨bb, ob4, none⟩ = some ub4 ∧ W.cell? ⟨bb, ob5, none⟩ = some ub5 ∧ W.cell? ⟨bb, ob6, none⟩ = some ub6 ∧ W.cell? ⟨bb, ob7, none⟩ = some ub7) ∧ (W.cell? ⟨bc, oc0, none⟩ = some uc0 ∧ W.cell? ⟨bc, oc1, none⟩ = some uc1 ∧ W.cell? ⟨bc, oc2, none⟩ = some uc2 ∧ W.cell? ⟨bc, oc3, none⟩ = some uc3 ∧ W.cell? ⟨bc, oc4, none⟩ = some uc4 ∧ W.cell? ⟨bc, oc5, none⟩ = some uc5 ∧ W.cell? ⟨bc, oc6, none⟩ = some uc6 ∧ W.cell? ⟨bc, oc7, none⟩ = some uc7)) :
    W'.cell? ⟨bp, op, none⟩ = some p ∧ (W'.cell? ⟨ba, oa0, none⟩ = some ua0 ∧ W'.cell? ⟨ba, oa1, none⟩ = some ua1 ∧ W'.cell? ⟨ba, oa2, none⟩ = some ua2 ∧ W'.cell? ⟨ba, oa3, none⟩ = some ua3 ∧ W'.cell? ⟨ba, oa4, none⟩ = some ua4 ∧ W'.cell? ⟨ba, oa5, none⟩ = some ua5 ∧ W'.cell? ⟨ba, oa6, none⟩ = some ua6 ∧ W'.cell? ⟨ba, oa7, none⟩ = some ua7) ∧ (W'.cell? ⟨bb, ob0, none⟩ = some ub0 ∧ W'.cell? ⟨bb, ob1, none⟩ = some ub1 ∧ W'.cell? ⟨bb, ob2, none⟩ = some ub2 ∧ W'.cell? ⟨bb, ob3, none⟩ = some ub3 ∧ W'.cell? ⟨bb, ob4, none⟩ = some ub4 ∧ W'.cell? ⟨bb, ob5, none⟩ = some ub5 ∧ W'.cell? ⟨bb, ob6, none⟩ = some ub6 ∧ W'.cell? ⟨bb, ob7, none⟩ = some ub7) ∧ (W'.cell? ⟨bc, oc0, none⟩ = some uc0 ∧ W'.cell? ⟨bc, oc1, none⟩ = some uc1 ∧ W'.cell? ⟨bc, oc2, none⟩ = some uc2 ∧ W'.cell? ⟨bc, oc3, none⟩ = some uc3 ∧ W'.cell? ⟨bc, oc4, none⟩ = some uc4 ∧ W'.cell? ⟨bc, oc5, none⟩ = some uc5 ∧ W'.cell? ⟨bc, oc6, none⟩ = some uc6 ∧ W'.cell? ⟨bc, oc7, none⟩ = some uc7) := by
  obtain ⟨q, ⟨ma0, ma1, ma2, ma3, ma4, ma5, ma6, ma7⟩, ⟨mb0, mb1, mb2, mb3, mb4, mb5, mb6, mb7⟩, ⟨mc0, mc1, mc2, mc3, mc4, mc5, mc6, mc7⟩⟩ := h
  have hk : ∀ {q j : Nat} {u : Value}, ¬ O q → W.cell? ⟨q, j, none⟩ = some u → W'.cell? ⟨q, j, none⟩ = some u := fun hq hu => (World.cell?_of_block (hF.block _ (World.block_lt_of_cell? W _ hu) hq)).trans hu
  exact ⟨hk hp q, ⟨hk ha ma0, hk ha ma1, hk ha ma2, hk ha ma3, hk ha ma4, hk ha ma5, hk ha ma6, hk ha ma7⟩, ⟨hk hb mb0, hk hb mb1, hk hb mb2, hk hb mb3, hk hb mb4, hk hb mb5, hk hb mb6, hk hb mb7⟩, ⟨hk hc mc0, hk hc mc1, hk hc mc2, hk hc mc3, hk hc mc4, hk hc mc5, hk hc mc6, hk hc mc7⟩⟩
def s_cvrs : ByteArray := ⟨#[99, 118, 114, 115]⟩
theorem known_cvrs (w : World) : Calls Tryz.prog 17 #[.string s_cvrs] w fun e w' => e = .returned (.tuple #[.int .i64 3, .bool true]) ∧ w' = w := by
  unfold s_cvrs
  go_enter Tryz.func17, Tryz.ntmps17
  go_wp2_with fail
  go_ret2
  exact ⟨rfl, rfl⟩
set_option maxRecDepth 100000 in
set_option maxHeartbeats 1000000 in
theorem do_cvrs {O : Nat → Prop} {s c : Nat} {fr : Int} {G G' : List (Th × Lay)} {o bs rm q : Ob} {w : World} {p : Option Addr} (h : Rep O w s fr G) (hNp : ∀ ad, p = some ad → ¬ O ad.block) (hl : SrcO w p [o, bs, rm])
    (hA : ∀ w2, Below w.heap.size w w2 → Calls Tryz.prog 40 #[cw s, o.val, bs.val, rm.val] w2 (LayP O w2 s fr G' q)) :
    Calls Tryz.prog 19 #[cw s, .string s_cvrs, .slice p 3 c] w (LayP O w s fr G' q) := by
  obtain ⟨b, f, rfl, hblt, hcl⟩ := Col.SrcO.plain hl (by simp)
  have HBX := Lib.hid (bx3 (O := O) w (cwC s) (obC nul) (obC o) h.olt)
  have H3 : Hid (Below w.heap.size w (((w.alloc (cwC s)).alloc (obC nul)).alloc (obC o))) := Lib.hid (bthen (below2 w _ _) (below1 _ _))
  have HCl : Hid (∀ w2, Below w.heap.size w w2 → (w2.cell? ⟨b, f, none⟩ = some (.int .i64 o.kind) ∧ w2.cell? ⟨b, f + 1, none⟩ = some (.bool o.exec) ∧ w2.cell? ⟨b, f + 2, none⟩ = some (.int .i64 o.acc) ∧ w2.cell? ⟨b, f + 3, none⟩ = some (.int .i64 o.n) ∧ w2.cell? ⟨b, f + 4, none⟩ = some (.string o.name) ∧ w2.cell? ⟨b, f + 5, none⟩ = some (.int .i64 o.ref) ∧ w2.cell? ⟨b, f + 6, none⟩ = some (.int .i64 o.frm) ∧ w2.cell? ⟨b, f + 7, none⟩ = some (.int .i64 o.len)) ∧ (w2.cell? ⟨b, f + 8, none⟩ = some (.int .i64 bs.kind) ∧ w2.cell? ⟨b, f + 8 + 1, none⟩ = some (.bool bs.exec) ∧ w2.cell? ⟨b, f + 8 + 2, none⟩ = some (.int .i64 bs.acc) ∧ w2.cell? ⟨b, f + 8 + 3, none⟩ = some (.int .i64 bs.n) ∧ w2.cell? ⟨b, f + 8 + 4, none⟩ = some (.string bs.name) ∧ w2.cell? ⟨b, f + 8 + 5, none⟩ = some (.int .i64 bs.ref) ∧ w2.cell? ⟨b, f + 8 + 6, none⟩ = some (.int .i64 bs.frm) ∧ w2.cell? ⟨b, f + 8 + 7, none⟩ = some (.int .i64 bs.len)) ∧ (w2.cell? ⟨b, f + 16, none⟩ = some (.int .i64 rm.kind) ∧ w2.cell? ⟨b, f + 16 + 1, none⟩ = some (.bool rm.exec) ∧ w2.cell? ⟨b, f + 16 + 2, none⟩ = some (.int .i64 rm.acc) ∧ w2.cell? ⟨b, f + 16 + 3, none⟩ = some (.int .i64 rm.n) ∧ w2.cell? ⟨b, f + 16 + 4, none⟩ = some (.string rm.name) ∧ w2.cell? ⟨b, f + 16 + 5, none⟩ = some (.int .i64 rm.ref) ∧ w2.cell? ⟨b, f + 16 + 6, none⟩ = some (.int .i64 rm.frm) ∧ w2.cell? ⟨b, f + 16 + 7, none⟩ = some (.int .i64 rm.len))) := Lib.hid (fun w2 hb => ⟨ob_cells (i := 0) (fun j z hz => (hb.cell (p := ⟨b, f + j, none⟩) hblt).trans (hcl j z hz)) rfl, ob_cells (i := 1) (fun j z hz => (hb.cell (p := ⟨b, f + j, none⟩) hblt).trans (hcl j z hz)) rfl, ob_cells (i := 2) (fun j z hz => (hb.cell (p := ⟨b, f + j, none⟩) hblt).trans (hcl j z hz)) rfl⟩)
  obtain ⟨y0, y1, y2, y3, y4, y5, y6, y7⟩ := (HCl.out _ (below2 w (cwC s) (obC nul))).1
  have HO := Lib.hid h.olt
  have HA := Lib.hid hA
  have nb : b ≠ w.heap.size + 1 := by omega
  have HNb := Lib.hid (show ¬ O b from hNp _ rfl)
  unfold cwC obC nul at HBX H3 y0 y1 y2 y3 y4 y5 y6 y7
  unfold LayP Ob.val at HA
  unfold cw at HA
  unfold LayP cw Ob.val s_cvrs
  clear h hl hcl hA hNp
  go_enter Tryz.func19, Tryz.ntmps19
  go_upto_region 20 with fail
  have hex : ∃ W, W = ((w.alloc (.cells #[.pointer (some ⟨s, 0, none⟩)] 73)).alloc (.cells #[.int .i64 0, .bool false, .int .i64 0, .int .i64 0, .string ⟨#[]⟩, .int .i64 0, .int .i64 0, .int .i64 0] 27)).alloc (.cells #[.int .i64 o.kind, .bool o.exec, .int .i64 o.acc, .int .i64 o.n, .string o.name, .int .i64 o.ref, .int .i64 o.frm, .int .i64 o.len] 27) := ⟨_, rfl⟩
  obtain ⟨W, hW⟩ := hex
  rw [← hW]
  rw [← hW] at HBX H3
  clear hW y0 y1 y2 y3 y4 y5 y6 y7 hblt
  have HK3 := Lib.hid (HBX.out.below (w' := W.drew) ⟨rfl, rfl, rfl, Nat.le_refl _, fun _ _ => rfl⟩)
  have HB3 : Hid (Below w.heap.size w W.drew) := Lib.hid (below_draw H3.out 1)
  have s1 := And.intro (cellCv HBX.out.b2) (And.intro (cellsOb HBX.out.b0) ((HCl.out _ H3.out).2))
  have s3 := And.intro (cellCv HK3.out.b2) (And.intro (cellsOb HK3.out.b0) ((HCl.out _ HB3.out).2))
  have HC := Lib.hid (HA.out W.drew HB3.out)
  have n0 : w.heap.size ≠ w.heap.size + 1 := by omega
  have n1 : w.heap.size + 1 + 1 ≠ w.heap.size + 1 := by omega
  clear HA
  go_cut [7] (fun v wx => v = .int .i64 0 ∧ ∃ w6, Frm O W w6 ∧ Rep O w6 s fr G' ∧ Put8 w6 (w.heap.size + 1) 27 (.int .i64 q.kind) (.bool q.exec) (.int .i64 q.acc) (.int .i64 q.n) (.string q.name) (.int .i64 q.ref) (.int .i64 q.frm) (.int .i64 q.len) wx)
  case first =>
    go_region_held3 (fun w' => w'.cell? ⟨w.heap.size, 0, none⟩ = some (.pointer (some ⟨s, 0, none⟩)) ∧ (w'.cell? ⟨w.heap.size + 1 + 1, 0, none⟩ = some (.int .i64 o.kind) ∧ w'.cell? ⟨w.heap.size + 1 + 1, 1, none⟩ = some (.bool o.exec) ∧ w'.cell? ⟨w.heap.size + 1 + 1, 2, none⟩ = some (.int .i64 o.acc) ∧ w'.cell? ⟨w.heap.size + 1 + 1, 3, none⟩ = some (.int .i64 o.n) ∧ w'.cell? ⟨w.heap.size + 1 + 1, 4, none⟩ = some (.string o.name) ∧ w'.cell? ⟨w.heap.size + 1 + 1, 5, none⟩ = some (.int .i64 o.ref) ∧ w'.cell? ⟨w.heap.size + 1 + 1, 6, none⟩ = some (.int .i64 o.frm) ∧ w'.cell? ⟨w.heap.size + 1 + 1, 7, none⟩ = some (.int .i64 o.len)) ∧ (w'.cell? ⟨b, f + 8, none⟩ = some (.int .i64 bs.kind) ∧ w'.cell? ⟨b, f + 8 + 1, none⟩ = some (.bool bs.exec) ∧ w'.cell? ⟨b, f + 8 + 2, none⟩ = some (.int .i64 bs.acc) ∧ w'.cell? ⟨b, f + 8 + 3, none⟩ = some (.int .i64 bs.n) ∧ w'.cell? ⟨b, f + 8 + 4, none⟩ = some (.string bs.name) ∧ w'.cell? ⟨b, f + 8 + 5, none⟩ = some (.int .i64 bs.ref) ∧ w'.cell? ⟨b, f + 8 + 6, none⟩ = some (.int .i64 bs.frm) ∧ w'.cell? ⟨b, f + 8 + 7, none⟩ = some (.int .i64 bs.len)) ∧ (w'.cell? ⟨b, f + 16, none⟩ = some (.int .i64 rm.kind) ∧ w'.cell? ⟨b, f + 16 + 1, none⟩ = some (.bool rm.exec) ∧ w'.cell? ⟨b, f + 16 + 2, none⟩ = some (.int .i64 rm.acc) ∧ w'.cell? ⟨b, f + 16 + 3, none⟩ = some (.int .i64 rm.n) ∧ w'.cell? ⟨b, f + 16 + 4, none⟩ = some (.string rm.name) ∧ w'.cell? ⟨b, f + 16 + 5, none⟩ = some (.int .i64 rm.ref) ∧ w'.cell? ⟨b, f + 16 + 6, none⟩ = some (.int .i64 rm.frm) ∧ w'.cell? ⟨b, f + 16 + 7, none⟩ = some (.int .i64 rm.len)))
      (first | with_reducible exact s3 | with_reducible exact s1 | with_reducible exact s5 | with_reducible exact keepS3 n0 n1 nb nb s5 | fail)
      (first | (go_at_call 40; (with_reducible refine HC.out.mono ?_); rintro e w5 ⟨rfl, hF, hRp⟩; have HK5 := Lib.hid (HK3.out.frm hF); have s5 := keepF3 (fun e => by have := HO.out _ e; omega) (fun e => by have := HO.out _ e; omega) HNb.out HNb.out hF s3; have hz := HK5.out.b1; obtain ⟨r0, r1, r2, r3, r4, r5, r6, r7⟩ := cellsOb hz; have rf := blk_free hz) | fail)
    all_goals go_wp2_with fail
    all_goals go_meet
    exact ⟨rfl, w5, ⟨hF.os, hF.tape, hF.output, hF.size, hF.block⟩, hRp, put8 hz _ _ _ _ _ _ _ _⟩
  case rest =>
    obtain ⟨rfl, w6, hF, hR, hp⟩ := hcut
    have HE := Lib.hid (And.intro hF (And.intro hR hp))
    clear hF hR hp s1 s3
    go_wp2_with fail
    exact bodyPost_ret (results_ob2 Tryz.results19 _ _ (w.heap.size + 1) rfl rfl HE.out.2.2.blk) rfl (lay_put H3.out HE.out.1 HE.out.2.1 HO.out (by omega) HE.out.2.2)
end Cv
end Go.Proofs.YtfilbfenpdaahaaGreatDoor
