/-
  conv's operators on access, and conv.Do, by contracts.
-/
import Derived.Test.YtfilbfenpdaahaaGreatDoorCnvBarD
namespace Go.Proofs.YtfilbfenpdaahaaGreatDoor
open Go.RowKit
open St
open Stk
open Col
namespace Cv
set_option maxRecDepth 100000 in
theorem check_Read {O : Nat → Prop} {s : Nat} {k a : Int} {o : Ob} {w : World} (h : Lk O s k a o w) :
    Calls Tryz.prog 42 #[cw s, o.val, .func (.func 43) #[cw s] #[]] w fun e w' => e = .returned (.tuple #[(boolC (a == 0 || a == 1)).val, .int .i64 0]) ∧ Below w.heap.size w w' := by
  obtain ⟨fr, G, hr, hv, hac, hk, hhl⟩ := h.out
  have HB := Lib.hid (bx3 (O := fun _ => False) w (cwC s) (obC o) (obC nul) (fun _ h => h.elim))
  have HH := Lib.hid (fun w2 => isHeld_at o w2)
  have HA := Lib.hid (fun w2 (hb : Below w.heap.size w w2) => mayRead_at (hr.below hb) o)
  have H3 : Hid (Below w.heap.size w (((w.alloc (cwC s)).alloc (obC o)).alloc (obC nul))) := Lib.hid (bthen (below2 w _ _) (below1 _ _))
  rw [hac] at HA
  rw [hhl] at HH
  generalize (a == 0 || a == 1) = d at HA ⊢
  have HT := Lib.hid (fun w => truth_at d w)
  have HI := Lib.hid (show ∀ c : Int, (if d = true then (1 : Int) else 0) = c → (boolC d).val = .agg #[.int .i64 3, .bool false, .int .i64 0, .int .i64 c, .string ⟨#[]⟩, .int .i64 0, .int .i64 0, .int .i64 0] from fun c hc => by rw [← hc]; rfl)
  unfold cwC obC nul at HB H3
  unfold Ob.val at HH HA
  unfold cw at HA
  unfold boolC Ob.val at HT
  unfold cw boolC Ob.val
  generalize (if d = true then (1 : Int) else 0) = c at HT ⊢
  clear h hr hv hac hk hhl HI
  go_enter Tryz.func42, Tryz.ntmps42
  go_wp2_with fail
  refine (HH.out _).mono ?_; rintro e w2 ⟨rfl, hb2⟩
  have K2 := HB.out.below hb2
  obtain ⟨x0, x1, x2, x3, x4, x5, x6, x7⟩ := cellsOb K2.b1
  have HB2 := Lib.hid (bthen H3.out hb2)
  have HK2 := Lib.hid K2
  clear hb2 K2
  go_wp2_with fail
  refine (HA.out _ HB2.out).mono ?_; rintro e w3 ⟨rfl, hb3⟩
  have K3 := HK2.out.below hb3
  have HB3 := Lib.hid (bthen HB2.out hb3)
  have HK3 := Lib.hid K3
  clear hb3 K3 x0 x1 x2 x3 x4 x5 x6 x7
  go_wp2_with fail
  refine (HT.out _).mono ?_; rintro e w4 ⟨rfl, hb4⟩
  have K4 := HK3.out.below hb4
  have HB4 := Lib.hid (bthen HB3.out hb4)
  have HZ := Lib.hid K4.b0
  have zf := blk_free K4.b0
  obtain ⟨z0, z1, z2, z3, z4, z5, z6, z7⟩ := cellsOb K4.b0
  clear hb4 K4
  go_wp2_with fail
  have hp := put8 HZ.out (.int .i64 3) (.bool false) (.int .i64 0) (.int .i64 c) (.string ⟨#[]⟩) (.int .i64 0) (.int .i64 0) (.int .i64 0)
  exact bodyPost_ret (results_ob2 Tryz.results42 _ _ (w.heap.size + 1 + 1) rfl rfl hp.blk) rfl ⟨rfl, below_put8 HB4.out (by omega) hp⟩
set_option maxRecDepth 100000 in
theorem check_Write {O : Nat → Prop} {s : Nat} {k a : Int} {o : Ob} {w : World} (h : Lk O s k a o w) :
    Calls Tryz.prog 42 #[cw s, o.val, .func (.func 44) #[cw s] #[]] w fun e w' => e = .returned (.tuple #[(boolC (a == 0)).val, .int .i64 0]) ∧ Below w.heap.size w w' := by
  obtain ⟨fr, G, hr, hv, hac, hk, hhl⟩ := h.out
  have HB := Lib.hid (bx3 (O := fun _ => False) w (cwC s) (obC o) (obC nul) (fun _ h => h.elim))
  have HH := Lib.hid (fun w2 => isHeld_at o w2)
  have HA := Lib.hid (fun w2 (hb : Below w.heap.size w w2) => mayWrite_at (hr.below hb) o)
  have H3 : Hid (Below w.heap.size w (((w.alloc (cwC s)).alloc (obC o)).alloc (obC nul))) := Lib.hid (bthen (below2 w _ _) (below1 _ _))
  rw [hac] at HA
  rw [hhl] at HH
  generalize (a == 0) = d at HA ⊢
  have HT := Lib.hid (fun w => truth_at d w)
  have HI := Lib.hid (show ∀ c : Int, (if d = true then (1 : Int) else 0) = c → (boolC d).val = .agg #[.int .i64 3, .bool false, .int .i64 0, .int .i64 c, .string ⟨#[]⟩, .int .i64 0, .int .i64 0, .int .i64 0] from fun c hc => by rw [← hc]; rfl)
  unfold cwC obC nul at HB H3
  unfold Ob.val at HH HA
  unfold cw at HA
  unfold boolC Ob.val at HT
  unfold cw boolC Ob.val
  generalize (if d = true then (1 : Int) else 0) = c at HT ⊢
  clear h hr hv hac hk hhl HI
  go_enter Tryz.func42, Tryz.ntmps42
  go_wp2_with fail
  refine (HH.out _).mono ?_; rintro e w2 ⟨rfl, hb2⟩
  have K2 := HB.out.below hb2
  obtain ⟨x0, x1, x2, x3, x4, x5, x6, x7⟩ := cellsOb K2.b1
  have HB2 := Lib.hid (bthen H3.out hb2)
  have HK2 := Lib.hid K2
  clear hb2 K2
  go_wp2_with fail
  refine (HA.out _ HB2.out).mono ?_; rintro e w3 ⟨rfl, hb3⟩
  have K3 := HK2.out.below hb3
  have HB3 := Lib.hid (bthen HB2.out hb3)
  have HK3 := Lib.hid K3
  clear hb3 K3 x0 x1 x2 x3 x4 x5 x6 x7
  go_wp2_with fail
  refine (HT.out _).mono ?_; rintro e w4 ⟨rfl, hb4⟩
  have K4 := HK3.out.below hb4
  have HB4 := Lib.hid (bthen HB3.out hb4)
  have HZ := Lib.hid K4.b0
  have zf := blk_free K4.b0
  obtain ⟨z0, z1, z2, z3, z4, z5, z6, z7⟩ := cellsOb K4.b0
  clear hb4 K4
  go_wp2_with fail
  have hp := put8 HZ.out (.int .i64 3) (.bool false) (.int .i64 0) (.int .i64 c) (.string ⟨#[]⟩) (.int .i64 0) (.int .i64 0) (.int .i64 0)
  exact bodyPost_ret (results_ob2 Tryz.results42 _ _ (w.heap.size + 1 + 1) rfl rfl hp.blk) rfl ⟨rfl, below_put8 HB4.out (by omega) hp⟩
def s_readonly : ByteArray := ⟨#[114, 101, 97, 100, 111, 110, 108, 121]⟩
theorem known_readonly (w : World) : Calls Tryz.prog 17 #[.string s_readonly] w fun e w' => e = .returned (.tuple #[.int .i64 1, .bool true]) ∧ w' = w := by
  unfold s_readonly
  go_enter Tryz.func17, Tryz.ntmps17
  go_wp2_with fail
  go_ret2
  exact ⟨rfl, rfl⟩
def s_executeonly : ByteArray := ⟨#[101, 120, 101, 99, 117, 116, 101, 111, 110, 108, 121]⟩
theorem known_executeonly (w : World) : Calls Tryz.prog 17 #[.string s_executeonly] w fun e w' => e = .returned (.tuple #[.int .i64 1, .bool true]) ∧ w' = w := by
  unfold s_executeonly
  go_enter Tryz.func17, Tryz.ntmps17
  go_wp2_with fail
  go_ret2
  exact ⟨rfl, rfl⟩
def s_noaccess : ByteArray := ⟨#[110, 111, 97, 99, 99, 101, 115, 115]⟩
theorem known_noaccess (w : World) : Calls Tryz.prog 17 #[.string s_noaccess] w fun e w' => e = .returned (.tuple #[.int .i64 1, .bool true]) ∧ w' = w := by
  unfold s_noaccess
  go_enter Tryz.func17, Tryz.ntmps17
  go_wp2_with fail
  go_ret2
  exact ⟨rfl, rfl⟩
def s_rcheck : ByteArray := ⟨#[114, 99, 104, 101, 99, 107]⟩
theorem known_rcheck (w : World) : Calls Tryz.prog 17 #[.string s_rcheck] w fun e w' => e = .returned (.tuple #[.int .i64 1, .bool true]) ∧ w' = w := by
  unfold s_rcheck
  go_enter Tryz.func17, Tryz.ntmps17
  go_wp2_with fail
  go_ret2
  exact ⟨rfl, rfl⟩
def s_wcheck : ByteArray := ⟨#[119, 99, 104, 101, 99, 107]⟩
theorem known_wcheck (w : World) : Calls Tryz.prog 17 #[.string s_wcheck] w fun e w' => e = .returned (.tuple #[.int .i64 1, .bool true]) ∧ w' = w := by
  unfold s_wcheck
  go_enter Tryz.func17, Tryz.ntmps17
  go_wp2_with fail
  go_ret2
  exact ⟨rfl, rfl⟩
/-- a call's outcome: access is taken away, or not -/
theorem BarP.put {O : Nat → Prop} {s : Nat} {k a b : Int} {o o2 : Ob} {er : Int} {w w3 w4 w5 : World} {B : Nat} {t : TypeId} (hb : Below w.heap.size w w3) (h : BarP O s k a b o w3 (.returned (.tuple #[o2.val, .int .i64 er])) w4) (hO : ∀ q, O q → q < w.heap.size) (hB : w.heap.size ≤ B)
    (hp : Put8 w4 B t (.int .i64 o2.kind) (.bool o2.exec) (.int .i64 o2.acc) (.int .i64 o2.n) (.string o2.name) (.int .i64 o2.ref) (.int .i64 o2.frm) (.int .i64 o2.len) w5) : BarP O s k a b o w (.returned (.tuple #[o2.val, .int .i64 er])) w5 := by
  have hF : Frm O w w5 := ⟨hp.os.trans (h.1.os.trans hb.os), hp.tape.trans (h.1.tape.trans hb.tape), hp.output.trans (h.1.output.trans hb.output), by rw [hp.size]; exact Nat.le_trans hb.size h.1.size, fun q hq hn => (hp.far q (by omega)).trans ((h.1.block q (Nat.lt_of_lt_of_le hq hb.size) hn).trans (hb.block q hq))⟩
  have hLk : ∀ {a' : Int} {o' : Ob}, Lk O s k a' o' w4 → Lk O s k a' o' w5 := fun {a'} {o'} hl => by
    refine ⟨hl.1, ?_⟩
    rcases hl.2 with h1 | h1
    · obtain ⟨fr, G, hr, hv⟩ := h1.rep
      exact .inl ⟨h1.kd, h1.ok, h1.oa, fr, G, hr.same (by rw [hp.size]; exact Nat.le_refl _) (fun q _ hq => hp.far q (by have := hO q hq; omega)), hv⟩
    · obtain ⟨fr, n, l, ex, hr, ho⟩ := h1.rep
      exact .inr ⟨h1.kd, fr, n, l, ex, hr.same (by rw [hp.size]; exact Nat.le_refl _) (fun q _ hq => hp.far q (by have := hO q hq; omega)), ho⟩
  refine ⟨hF, ?_⟩
  rcases h.2 with ⟨h1, h2, h3⟩ | ⟨h1, o', h2, h3⟩
  · exact .inl ⟨h1, h2, hLk h3⟩
  · exact .inr ⟨h1, o', h2, hLk h3⟩
set_option maxRecDepth 100000 in
set_option maxHeartbeats 1000000 in
theorem do_readonly {O : Nat → Prop} {s c : Nat} {k a : Int} {o : Ob} {w : World} {p : Option Addr} (h : Lk O s k a o w) (hO : ∀ q, O q → q < w.heap.size) (hl : SrcO w p [o]) :
    Calls Tryz.prog 19 #[cw s, .string s_readonly, .slice p 1 c] w (BarP O s k a 1 o w) := by
  obtain ⟨b, f, rfl, hblt, hcl⟩ := Col.SrcO.plain ((hl.below (below1 w (cwC s))).below (below1 _ (obC nul))) (by simp)
  obtain ⟨y0, y1, y2, y3, y4, y5, y6, y7⟩ := ob_cells (i := 0) hcl (x := o) rfl
  rw [Nat.zero_mul, Nat.add_zero] at y0 y1 y2 y3 y4 y5 y6 y7
  have hb3 : Below w.heap.size w (((w.alloc (cwC s)).alloc (obC nul)).alloc (obC o)) := bthen (below2 w _ _) (below1 _ _)
  have HBx := Lib.hid (bx3 (O := O) w (cwC s) (obC nul) (obC o) hO)
  have HO := Lib.hid hO
  have H3 := Lib.hid hb3
  have HC := Lib.hid (bar_at (b := 1) (h.below hb3) (by decide))
  unfold cwC obC nul at HBx HC H3 y0 y1 y2 y3 y4 y5 y6 y7
  unfold Ob.val at HC
  unfold cw at HC
  unfold cw s_readonly
  clear h hO hl hcl hb3
  go_enter Tryz.func19, Tryz.ntmps19
  go_wp2_with fail
  refine HC.out.mono ?_; rintro e w4 hP
  have hK := HBx.out.frm (w' := w4) ⟨hP.1.os.trans rfl, hP.1.tape, hP.1.output, hP.1.size, hP.1.block⟩
  have hz := hK.b1
  have HZ := Lib.hid hz
  have zf := blk_free hz
  obtain ⟨z0, z1, z2, z3, z4, z5, z6, z7⟩ := cellsOb hz
  have hP0 := hP
  rcases hP.2 with ⟨hne, rfl, hl4⟩ | ⟨hz0, o', rfl, hl4⟩
  · have HP := Lib.hid hP0
    unfold nul Ob.val
    clear hP hP0 hK hz hl4 y0 y1 y2 y3 y4 y5 y6 y7
    generalize okE k a 1 = E at *
    go_wp2_with fail
    have hp := put8 HZ.out (.int .i64 0) (.bool false) (.int .i64 0) (.int .i64 0) (.string ⟨#[]⟩) (.int .i64 0) (.int .i64 0) (.int .i64 0)
    exact bodyPost_ret (results_ob2 Tryz.results19 _ _ (w.heap.size + 1) rfl rfl hp.blk) rfl (BarP.put (o2 := nul) H3.out HP.out HO.out (by omega) hp)
  · have HP := Lib.hid hP0
    unfold Ob.val
    clear hP hP0 hK hz hl4 y0 y1 y2 y3 y4 y5 y6 y7
    go_wp2_with fail
    have hp := put8 HZ.out (.int .i64 o'.kind) (.bool o'.exec) (.int .i64 o'.acc) (.int .i64 o'.n) (.string o'.name) (.int .i64 o'.ref) (.int .i64 o'.frm) (.int .i64 o'.len)
    exact bodyPost_ret (results_ob2 Tryz.results19 _ _ (w.heap.size + 1) rfl rfl hp.blk) rfl (BarP.put (o2 := o') H3.out HP.out HO.out (by omega) hp)
set_option maxRecDepth 100000 in
set_option maxHeartbeats 1000000 in
theorem do_executeonly {O : Nat → Prop} {s c : Nat} {k a : Int} {o : Ob} {w : World} {p : Option Addr} (h : Lk O s k a o w) (hO : ∀ q, O q → q < w.heap.size) (hl : SrcO w p [o]) :
    Calls Tryz.prog 19 #[cw s, .string s_executeonly, .slice p 1 c] w (BarP O s k a 2 o w) := by
  obtain ⟨b, f, rfl, hblt, hcl⟩ := Col.SrcO.plain ((hl.below (below1 w (cwC s))).below (below1 _ (obC nul))) (by simp)
  obtain ⟨y0, y1, y2, y3, y4, y5, y6, y7⟩ := ob_cells (i := 0) hcl (x := o) rfl
  rw [Nat.zero_mul, Nat.add_zero] at y0 y1 y2 y3 y4 y5 y6 y7
  have hb3 : Below w.heap.size w (((w.alloc (cwC s)).alloc (obC nul)).alloc (obC o)) := bthen (below2 w _ _) (below1 _ _)
  have HBx := Lib.hid (bx3 (O := O) w (cwC s) (obC nul) (obC o) hO)
  have HO := Lib.hid hO
  have H3 := Lib.hid hb3
  have HC := Lib.hid (bar_at (b := 2) (h.below hb3) (by decide))
  unfold cwC obC nul at HBx HC H3 y0 y1 y2 y3 y4 y5 y6 y7
  unfold Ob.val at HC
  unfold cw at HC
  unfold cw s_executeonly
  clear h hO hl hcl hb3
  go_enter Tryz.func19, Tryz.ntmps19
  go_wp2_with fail
  refine HC.out.mono ?_; rintro e w4 hP
  have hK := HBx.out.frm (w' := w4) ⟨hP.1.os.trans rfl, hP.1.tape, hP.1.output, hP.1.size, hP.1.block⟩
  have hz := hK.b1
  have HZ := Lib.hid hz
  have zf := blk_free hz
  obtain ⟨z0, z1, z2, z3, z4, z5, z6, z7⟩ := cellsOb hz
  have hP0 := hP
  rcases hP.2 with ⟨hne, rfl, hl4⟩ | ⟨hz0, o', rfl, hl4⟩
  · have HP := Lib.hid hP0
    unfold nul Ob.val
    clear hP hP0 hK hz hl4 y0 y1 y2 y3 y4 y5 y6 y7
    generalize okE k a 2 = E at *
    go_wp2_with fail
    have hp := put8 HZ.out (.int .i64 0) (.bool false) (.int .i64 0) (.int .i64 0) (.string ⟨#[]⟩) (.int .i64 0) (.int .i64 0) (.int .i64 0)
    exact bodyPost_ret (results_ob2 Tryz.results19 _ _ (w.heap.size + 1) rfl rfl hp.blk) rfl (BarP.put (o2 := nul) H3.out HP.out HO.out (by omega) hp)
  · have HP := Lib.hid hP0
    unfold Ob.val
    clear hP hP0 hK hz hl4 y0 y1 y2 y3 y4 y5 y6 y7
    go_wp2_with fail
    have hp := put8 HZ.out (.int .i64 o'.kind) (.bool o'.exec) (.int .i64 o'.acc) (.int .i64 o'.n) (.string o'.name) (.int .i64 o'.ref) (.int .i64 o'.frm) (.int .i64 o'.len)
    exact bodyPost_ret (results_ob2 Tryz.results19 _ _ (w.heap.size + 1) rfl rfl hp.blk) rfl (BarP.put (o2 := o') H3.out HP.out HO.out (by omega) hp)
set_option maxRecDepth 100000 in
set_option maxHeartbeats 1000000 in
theorem do_noaccess {O : Nat → Prop} {s c : Nat} {k a : Int} {o : Ob} {w : World} {p : Option Addr} (h : Lk O s k a o w) (hO : ∀ q, O q → q < w.heap.size) (hl : SrcO w p [o]) :
    Calls Tryz.prog 19 #[cw s, .string s_noaccess, .slice p 1 c] w (BarP O s k a 3 o w) := by
  obtain ⟨b, f, rfl, hblt, hcl⟩ := Col.SrcO.plain ((hl.below (below1 w (cwC s))).below (below1 _ (obC nul))) (by simp)
  obtain ⟨y0, y1, y2, y3, y4, y5, y6, y7⟩ := ob_cells (i := 0) hcl (x := o) rfl
  rw [Nat.zero_mul, Nat.add_zero] at y0 y1 y2 y3 y4 y5 y6 y7
  have hb3 : Below w.heap.size w (((w.alloc (cwC s)).alloc (obC nul)).alloc (obC o)) := bthen (below2 w _ _) (below1 _ _)
  have HBx := Lib.hid (bx3 (O := O) w (cwC s) (obC nul) (obC o) hO)
  have HO := Lib.hid hO
  have H3 := Lib.hid hb3
  have HC := Lib.hid (bar_at (b := 3) (h.below hb3) (by decide))
  unfold cwC obC nul at HBx HC H3 y0 y1 y2 y3 y4 y5 y6 y7
  unfold Ob.val at HC
  unfold cw at HC
  unfold cw s_noaccess
  clear h hO hl hcl hb3
  go_enter Tryz.func19, Tryz.ntmps19
  go_wp2_with fail
  refine HC.out.mono ?_; rintro e w4 hP
  have hK := HBx.out.frm (w' := w4) ⟨hP.1.os.trans rfl, hP.1.tape, hP.1.output, hP.1.size, hP.1.block⟩
  have hz := hK.b1
  have HZ := Lib.hid hz
  have zf := blk_free hz
  obtain ⟨z0, z1, z2, z3, z4, z5, z6, z7⟩ := cellsOb hz
  have hP0 := hP
  rcases hP.2 with ⟨hne, rfl, hl4⟩ | ⟨hz0, o', rfl, hl4⟩
  · have HP := Lib.hid hP0
    unfold nul Ob.val
    clear hP hP0 hK hz hl4 y0 y1 y2 y3 y4 y5 y6 y7
    generalize okE k a 3 = E at *
    go_wp2_with fail
    have hp := put8 HZ.out (.int .i64 0) (.bool false) (.int .i64 0) (.int .i64 0) (.string ⟨#[]⟩) (.int .i64 0) (.int .i64 0) (.int .i64 0)
    exact bodyPost_ret (results_ob2 Tryz.results19 _ _ (w.heap.size + 1) rfl rfl hp.blk) rfl (BarP.put (o2 := nul) H3.out HP.out HO.out (by omega) hp)
  · have HP := Lib.hid hP0
    unfold Ob.val
    clear hP hP0 hK hz hl4 y0 y1 y2 y3 y4 y5 y6 y7
    go_wp2_with fail
    have hp := put8 HZ.out (.int .i64 o'.kind) (.bool o'.exec) (.int .i64 o'.acc) (.int .i64 o'.n) (.string o'.name) (.int .i64 o'.ref) (.int .i64 o'.frm) (.int .i64 o'.len)
    exact bodyPost_ret (results_ob2 Tryz.results19 _ _ (w.heap.size + 1) rfl rfl hp.blk) rfl (BarP.put (o2 := o') H3.out HP.out HO.out (by omega) hp)
set_option maxRecDepth 100000 in
set_option maxHeartbeats 1000000 in
theorem do_rcheck {O : Nat → Prop} {s c : Nat} {k a : Int} {o : Ob} {w : World} {p : Option Addr} (h : Lk O s k a o w) (hO : ∀ q, O q → q < w.heap.size) (hl : SrcO w p [o]) :
    Calls Tryz.prog 19 #[cw s, .string s_rcheck, .slice p 1 c] w (fun e w' => e = .returned (.tuple #[(boolC (a == 0 || a == 1)).val, .int .i64 0]) ∧ Below w.heap.size w w') := by
  obtain ⟨b, f, rfl, hblt, hcl⟩ := Col.SrcO.plain ((hl.below (below1 w (cwC s))).below (below1 _ (obC nul))) (by simp)
  obtain ⟨y0, y1, y2, y3, y4, y5, y6, y7⟩ := ob_cells (i := 0) hcl (x := o) rfl
  rw [Nat.zero_mul, Nat.add_zero] at y0 y1 y2 y3 y4 y5 y6 y7
  have hb3 : Below w.heap.size w (((w.alloc (cwC s)).alloc (obC nul)).alloc (obC o)) := bthen (below2 w _ _) (below1 _ _)
  have HBx := Lib.hid (bx3 (O := O) w (cwC s) (obC nul) (obC o) hO)
  have H3 := Lib.hid hb3
  have HC := Lib.hid (check_Read (h.below hb3))
  generalize (a == 0 || a == 1) = d at HC ⊢
  have hbc : ∃ c : Int, (if d = true then (1 : Int) else 0) = c := ⟨_, rfl⟩
  obtain ⟨cc, hcc⟩ := hbc
  unfold boolC at HC ⊢
  rw [hcc] at HC ⊢
  clear hcc
  unfold cwC obC nul at HBx HC H3 y0 y1 y2 y3 y4 y5 y6 y7
  unfold Ob.val at HC
  unfold Ob.val
  unfold cw at HC
  unfold cw s_rcheck
  clear h hO hl hcl hb3
  go_enter Tryz.func19, Tryz.ntmps19
  go_wp2_with fail
  refine HC.out.mono ?_; rintro e w4 ⟨rfl, hb4⟩
  have hK := HBx.out.below hb4
  have hz := hK.b1
  have HZ := Lib.hid hz
  have HB4 := Lib.hid (bthen H3.out hb4)
  have zf := blk_free hz
  obtain ⟨z0, z1, z2, z3, z4, z5, z6, z7⟩ := cellsOb hz
  clear hK hz hb4 y0 y1 y2 y3 y4 y5 y6 y7
  go_wp2_with fail
  have hp := put8 HZ.out (.int .i64 3) (.bool false) (.int .i64 0) (.int .i64 cc) (.string ⟨#[]⟩) (.int .i64 0) (.int .i64 0) (.int .i64 0)
  exact bodyPost_ret (results_ob2 Tryz.results19 _ _ (w.heap.size + 1) rfl rfl hp.blk) rfl ⟨rfl, below_put8 HB4.out (by omega) hp⟩
set_option maxRecDepth 100000 in
set_option maxHeartbeats 1000000 in
theorem do_wcheck {O : Nat → Prop} {s c : Nat} {k a : Int} {o : Ob} {w : World} {p : Option Addr} (h : Lk O s k a o w) (hO : ∀ q, O q → q < w.heap.size) (hl : SrcO w p [o]) :
    Calls Tryz.prog 19 #[cw s, .string s_wcheck, .slice p 1 c] w (fun e w' => e = .returned (.tuple #[(boolC (a == 0)).val, .int .i64 0]) ∧ Below w.heap.size w w') := by
  obtain ⟨b, f, rfl, hblt, hcl⟩ := Col.SrcO.plain ((hl.below (below1 w (cwC s))).below (below1 _ (obC nul))) (by simp)
  obtain ⟨y0, y1, y2, y3, y4, y5, y6, y7⟩ := ob_cells (i := 0) hcl (x := o) rfl
  rw [Nat.zero_mul, Nat.add_zero] at y0 y1 y2 y3 y4 y5 y6 y7
  have hb3 : Below w.heap.size w (((w.alloc (cwC s)).alloc (obC nul)).alloc (obC o)) := bthen (below2 w _ _) (below1 _ _)
  have HBx := Lib.hid (bx3 (O := O) w (cwC s) (obC nul) (obC o) hO)
  have H3 := Lib.hid hb3
  have HC := Lib.hid (check_Write (h.below hb3))
  generalize (a == 0) = d at HC ⊢
  have hbc : ∃ c : Int, (if d = true then (1 : Int) else 0) = c := ⟨_, rfl⟩
  obtain ⟨cc, hcc⟩ := hbc
  unfold boolC at HC ⊢
  rw [hcc] at HC ⊢
  clear hcc
  unfold cwC obC nul at HBx HC H3 y0 y1 y2 y3 y4 y5 y6 y7
  unfold Ob.val at HC
  unfold Ob.val
  unfold cw at HC
  unfold cw s_wcheck
  clear h hO hl hcl hb3
  go_enter Tryz.func19, Tryz.ntmps19
  go_wp2_with fail
  refine HC.out.mono ?_; rintro e w4 ⟨rfl, hb4⟩
  have hK := HBx.out.below hb4
  have hz := hK.b1
  have HZ := Lib.hid hz
  have HB4 := Lib.hid (bthen H3.out hb4)
  have zf := blk_free hz
  obtain ⟨z0, z1, z2, z3, z4, z5, z6, z7⟩ := cellsOb hz
  clear hK hz hb4 y0 y1 y2 y3 y4 y5 y6 y7
  go_wp2_with fail
  have hp := put8 HZ.out (.int .i64 3) (.bool false) (.int .i64 0) (.int .i64 cc) (.string ⟨#[]⟩) (.int .i64 0) (.int .i64 0) (.int .i64 0)
  exact bodyPost_ret (results_ob2 Tryz.results19 _ _ (w.heap.size + 1) rfl rfl hp.blk) rfl ⟨rfl, below_put8 HB4.out (by omega) hp⟩
end Cv
end Go.Proofs.YtfilbfenpdaahaaGreatDoor
