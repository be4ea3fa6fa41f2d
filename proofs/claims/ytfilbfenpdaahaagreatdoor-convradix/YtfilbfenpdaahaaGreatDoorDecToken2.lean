/-
  The contracts of readReal and Token of package dec.
-/
import Derived.Test.YtfilbfenpdaahaaGreatDoorDecReal
namespace Go.Proofs.YtfilbfenpdaahaaGreatDoor
open Go.RowKit
open Fx Dc
/-- a new token, empty -/
def tok0 (w : World) : World := w.alloc (Obj.cells #[.int .i64 0, .int .i64 0, .string ⟨#[]⟩] 129)
theorem tok0_size (w : World) : (tok0 w).heap.size = w.heap.size + 1 := by simp [tok0]
theorem tok0_below (w : World) : Below w.heap.size w (tok0 w) := (Below.refl _ _).alloc (Nat.le_refl _) _
theorem tok_cells {w w1 : World} (hb : Below (tok0 w).heap.size (tok0 w) w1) :
    w1.cell? ⟨w.heap.size, 0, none⟩ = some (.int .i64 0) ∧ w1.cell? ⟨w.heap.size, 1, none⟩ = some (.int .i64 0) ∧ w1.cell? ⟨w.heap.size, 2, none⟩ = some (.string ⟨#[]⟩) ∧ (∀ o, w1.frozen? ⟨w.heap.size, o, none⟩ = false) := by
  have hs := tok0_size w
  refine ⟨?_, ?_, ?_, fun o => ?_⟩
  · rw [(bcell hb).1 _ _ (by omega)]; unfold tok0; simp [go_sem]
  · rw [(bcell hb).1 _ _ (by omega)]; unfold tok0; simp [go_sem]
  · rw [(bcell hb).1 _ _ (by omega)]; unfold tok0; simp [go_sem]
  · rw [(bcell hb).2 _ _ (by omega)]; unfold tok0; simp [go_sem]
theorem tok_back {w w1 : World} (hb : Below (tok0 w).heap.size (tok0 w) w1) (a b c : Value) : Below w.heap.size w (((w1.setCell ⟨w.heap.size, 0, none⟩ a).setCell ⟨w.heap.size, 1, none⟩ b).setCell ⟨w.heap.size, 2, none⟩ c) :=
  ((((tok0_below w).trans (hb.mono (by rw [tok0_size]; omega))).setCell (Nat.le_refl _) _).setCell (Nat.le_refl _) _).setCell (Nat.le_refl _) _
/-- an empty token that was stored again, behind a new block -/
def tokS (w w1 : World) : World := ((w1.setCell ⟨w.heap.size, 0, none⟩ (.int .i64 0)).setCell ⟨w.heap.size, 1, none⟩ (.int .i64 0)).setCell ⟨w.heap.size, 2, none⟩ (.string ⟨#[]⟩)
theorem tok_after {w w1 : World} (hb : Below (tok0 w).heap.size (tok0 w) w1) (X : Obj) :
    ((tokS w w1).alloc X).cell? ⟨w.heap.size, 0, none⟩ = some (.int .i64 0) ∧ ((tokS w w1).alloc X).cell? ⟨w.heap.size, 1, none⟩ = some (.int .i64 0) ∧ ((tokS w w1).alloc X).cell? ⟨w.heap.size, 2, none⟩ = some (.string ⟨#[]⟩) := by
  obtain ⟨t0, t1, t2, _⟩ := tok_cells hb
  have hlt : w.heap.size < (tokS w w1).heap.size := by
    have := hb.size; rw [tok0_size] at this; unfold tokS; simp; omega
  refine ⟨?_, ?_, ?_⟩
  · rw [World.cell?_alloc_lt _ _ _ hlt]; unfold tokS
    rw [World.cell?_setCell_other _ _ _ _ (addr_ne _ _ _ (by omega)), World.cell?_setCell_other _ _ _ _ (addr_ne _ _ _ (by omega)), World.cell?_setCell_same _ _ _ t0]
  · rw [World.cell?_alloc_lt _ _ _ hlt]; unfold tokS
    rw [World.cell?_setCell_other _ _ _ _ (addr_ne _ _ _ (by omega)), World.cell?_setCell_same _ _ _ (u := .int .i64 0)]
    rw [World.cell?_setCell_other _ _ _ _ (addr_ne _ _ _ (by omega))]; exact t1
  · rw [World.cell?_alloc_lt _ _ _ hlt]; unfold tokS
    rw [World.cell?_setCell_same _ _ _ (u := .string ⟨#[]⟩)]
    rw [World.cell?_setCell_other _ _ _ _ (addr_ne _ _ _ (by omega)), World.cell?_setCell_other _ _ _ _ (addr_ne _ _ _ (by omega))]; exact t2
theorem tokS_below {w w1 : World} (hb : Below (tok0 w).heap.size (tok0 w) w1) (X : Obj) : Below w.heap.size w ((tokS w w1).alloc X) :=
  (tok_back hb _ _ _).alloc (by have := hb.size; rw [tok0_size] at this; simp; omega) X
/-- what a real is, as a program's token -/
def reaK (l : List UInt8) : Int := if (reaOk l && fits (reaN l)) = true then 2 else 0
def reaV (l : List UInt8) : Int := if (reaOk l && fits (reaN l)) = true then reaN l else 0
def reaE (l : List UInt8) : Int := if (reaOk l && !fits (reaN l)) = true then 9 else 0
/-- what readReal answers -/
def ReaPost (l : List UInt8) (w : World) (e : Ending) (w' : World) : Prop :=
  e = .returned (.tuple #[.agg #[.int .i64 (reaK l), .int .i64 (reaV l), .string ⟨#[]⟩], .bool (reaOk l), .int .i64 (reaE l)]) ∧ Below w.heap.size w w'
theorem rea_fail {l : List UInt8} {w w' : World} (h : reaOk l = false) (hb : Below w.heap.size w w') : ReaPost l w (.returned (.tuple #[.agg #[.int .i64 0, .int .i64 0, .string ⟨#[]⟩], .bool false, .int .i64 0])) w' := by
  refine ⟨?_, hb⟩
  unfold reaK reaV reaE; rw [h]; rfl
theorem rea_far {l : List UInt8} {w w' : World} (h : reaOk l = true) (h2 : fits (reaN l) = false) (hb : Below w.heap.size w w') : ReaPost l w (.returned (.tuple #[.agg #[.int .i64 0, .int .i64 0, .string ⟨#[]⟩], .bool true, .int .i64 9])) w' := by
  refine ⟨?_, hb⟩
  unfold reaK reaV reaE; rw [h, h2]; rfl
theorem rea_good {l : List UInt8} {w w' : World} {V : Int} (h : reaOk l = true) (h2 : fits V = true) (h3 : reaN l = V) (hb : Below w.heap.size w w') : ReaPost l w (.returned (.tuple #[.agg #[.int .i64 2, .int .i64 V, .string ⟨#[]⟩], .bool true, .int .i64 0])) w' := by
  refine ⟨?_, hb⟩
  unfold reaK reaV reaE; rw [h, h3, h2]; rfl
theorem readReal_any (s : ByteArray) (hs : s.size ≤ 64) (w : World) (hm : Mx w) :
    Calls Tryz.prog 88 #[.string s] w (ReaPost s.data.toList w) := by
  have hCS := fun w => cutSign_any s w
  have hDlen := csL_len s.data.toList
  rw [← size_list] at hDlen
  obtain ⟨l, hl⟩ : ∃ l, s.data.toList = l := ⟨_, rfl⟩
  rw [hl] at hDlen hCS ⊢
  obtain ⟨r, hr⟩ : ∃ r, csL l = r := ⟨_, rfl⟩
  obtain ⟨b, hb⟩ : ∃ b, csB l = b := ⟨_, rfl⟩
  have hRO : reaOk l = (pwOk r && manOk (pwM r)) := by unfold reaOk; rw [hr]
  have hRN : reaN l = sgn b (manN (pwM r) (pwN r)) := by unfold reaN; rw [hr, hb]
  have HRO := Lib.hid (And.intro hRO hRN)
  rw [hr] at hDlen
  rw [hr, hb] at hCS
  have HCS := Lib.hid hCS
  have HM := Lib.hid (hm.below (tok0_below w))
  clear hCS hr hb hm hRO hRN hl
  go_enter Tryz.func88, Tryz.ntmps88
  go_wp2_with fail
  refine (HCS.out _).mono ?_
  rintro e w2 ⟨q, rfl, hq, hw⟩
  subst hw
  have hqs : q.size ≤ 64 := len_le hq (by omega)
  have hCP := cutPower_any q hqs (tok0 w)
  rw [hq] at hCP
  have HCP := Lib.hid hCP
  clear hq hCP
  go_wp2_with fail
  refine HCP.out.mono ?_
  rintro e w1 (⟨hok, m, rfl, hml, hb1⟩ | ⟨hok, rfl, hb1⟩)
  · have hMlen := pwM_len r
    have hpw := pwN_bd r hok
    obtain ⟨L, hL⟩ : ∃ L, pwM r = L := ⟨_, rfl⟩
    obtain ⟨pw, hpw2⟩ : ∃ pw, pwN r = pw := ⟨_, rfl⟩
    rw [hL] at hMlen hml
    rw [hpw2] at hpw ⊢
    obtain ⟨hp1, hp2⟩ := hpw
    have hms : m.size ≤ 64 := len_le hml (by omega)
    have hRD := readDec_at m hms w1 (HM.out.below hb1)
    rw [hml] at hRD
    have HRD := Lib.hid hRD
    have HB1 := Lib.hid hb1
    have HK := Lib.hid (And.intro hok (And.intro hL hpw2))
    clear hRD hb1 hok hL hpw2 hml
    go_wp2_with fail
    refine HRD.out.mono ?_
    rintro e w2 (⟨g, cap, rfl, hdg, hall, hb2⟩ | ⟨rfl, hno, hb2⟩)
    · have hbT := HB1.out.trans (hb2.mono HB1.out.size)
      by_cases h0 : 0 < (man L).length
      · have hz : decide (0 < (man L).length) = true := by simpa using h0
        rw [hz]
        obtain ⟨n, hn⟩ : ∃ n, (man L).length = n := ⟨_, rfl⟩
        have hn64 : n ≤ 64 := by rw [← hn]; have := man_len2 L; omega
        obtain ⟨p, hp⟩ : ∃ p : Nat, (manA L).length = p := ⟨_, rfl⟩
        have hp64 : p ≤ 64 := by rw [← hp]; have := (man_len L).1; omega
        have hok : manOk L = true := by
          unfold manOk; rw [(allD_iff _).2 hall]
          cases hm : man L with
          | nil => rw [hm] at h0; simp at h0
          | cons x y => rfl
        have hR := fun w2 (hd : DgAt w2 g (digits (man L))) => rounded_dec g cap ((p : Int) + pw) (digits (man L)) (digits_digs hall) w2 hd (by rw [digits_len]; omega) (by omega) (by omega)
        have hRb := rndD_bd (digits_digs hall) ((p : Int) + pw)
        have hmn : manN L pw = ((rndD (digits (man L)) ((p : Int) + pw) : Nat) : Int) := by unfold manN; rw [hp]
        rw [digits_len, hn] at hR
        rw [hn, hp]
        obtain ⟨N, hN⟩ : ∃ N : Nat, rndD (digits (man L)) ((p : Int) + pw) = N := ⟨_, rfl⟩
        rw [hN] at hR hRb hmn
        have HR := Lib.hid hR
        have HN := Lib.hid (And.intro hok hmn)
        have HDG := Lib.hid hdg
        have HBT := Lib.hid hbT
        obtain ⟨t0, t1, t2, tf⟩ := tok_cells hbT
        have htw : w.heap.size < w2.heap.size := by have := hbT.size; rw [tok0_size] at this; omega
        clear hR hok hmn hdg hb2 hbT hall h0 hz hn hp hN HRD
        go_wp2_with fail
        refine (HR.out _ (by exact (HDG.out.below ((Below.refl _ _).alloc (Nat.le_refl _) _)))).mono ?_
        rintro e w3 ⟨rfl, hb3⟩
        have hbT3 : Below (tok0 w).heap.size (tok0 w) w3 := (HBT.out.alloc HBT.out.size _).trans (hb3.mono (by have := HBT.out.size; simp; omega))
        have HBT3 := Lib.hid hbT3
        clear t0 t1 t2 tf
        obtain ⟨t0, t1, t2, tf⟩ := tok_cells hbT3
        clear hb3 hbT3
        go_wp2_with fail
        refine (decSigned_any _ b _ (by omega) (by omega)).mono ?_
        rintro e w4 ⟨rfl, rfl⟩
        obtain ⟨V, hV⟩ : ∃ V, sgn b (N : Int) = V := ⟨_, rfl⟩
        rw [hV]
        have HV := Lib.hid hV
        cases hf : fits V
        · have HF := Lib.hid (fun w => fixFits_no V w hf)
          have HFF := Lib.hid hf
          clear hf hV
          go_wp2_with fail
          refine (HF.out _).mono ?_
          rintro e w4 ⟨rfl, rfl⟩
          go_wp2_with fail
          exact bodyPost_ret (v := .tuple #[.agg #[.int .i64 0, .int .i64 0, .string ⟨#[]⟩], .bool true, .int .i64 9]) (by simp [results, Tryz.results88, go_sem, t0, t1, t2]) rfl (rea_far (by rw [HRO.out.1, HK.out.1, HK.out.2.1, HN.out.1]; rfl) (by rw [HRO.out.2, HK.out.2.1, HK.out.2.2, HN.out.2, HV.out]; exact HFF.out) (tok_back HBT3.out _ _ _))
        · have HF := Lib.hid (fun w => fixFits_yes V w hf)
          have HFF := Lib.hid hf
          clear hf hV
          go_wp2_with fail
          refine (HF.out _).mono ?_
          rintro e w4 ⟨rfl, rfl⟩
          go_wp2_with fail
          exact bodyPost_ret (v := .tuple #[.agg #[.int .i64 2, .int .i64 V, .string ⟨#[]⟩], .bool true, .int .i64 0]) (by simp [results, Tryz.results88, go_sem, t0, t1, t2]) rfl (rea_good (by rw [HRO.out.1, HK.out.1, HK.out.2.1, HN.out.1]; rfl) HFF.out (by rw [HRO.out.2, HK.out.2.1, HK.out.2.2, HN.out.2, HV.out]) (tok_back HBT3.out _ _ _))
      · have hz : decide (0 < (man L).length) = false := by simpa using h0
        rw [hz]
        have hok : manOk L = false := by
          unfold manOk
          cases hm : man L with
          | nil => simp
          | cons x y => rw [hm] at h0; simp at h0
        obtain ⟨n, hn⟩ : ∃ n, (man L).length = n := ⟨_, rfl⟩
        rw [hn]
        have HO := Lib.hid hok
        have HBT := Lib.hid hbT
        obtain ⟨t0, t1, t2, tf⟩ := tok_cells hbT
        have htw : w.heap.size < w2.heap.size := by have := hbT.size; rw [tok0_size] at this; omega
        clear hok hdg hb2 hbT hall h0 hz hn HRD
        go_wp2_with fail
        have ha := tok_after HBT.out (Obj.cells #[.slice (some ⟨g, 0, none⟩) n cap, .int .i64 ((manA L).length : Int)] 178)
        unfold tokS at ha
        obtain ⟨a0, a1, a2⟩ := ha
        exact bodyPost_ret (v := .tuple #[.agg #[.int .i64 0, .int .i64 0, .string ⟨#[]⟩], .bool false, .int .i64 0]) (by simp only [results, Tryz.results88]; simp [go_sem, a0, a1, a2]) rfl (rea_fail (by rw [HRO.out.1, HK.out.1, HK.out.2.1, HO.out]; rfl) (tokS_below HBT.out _))
    · have hbT := HB1.out.trans (hb2.mono HB1.out.size)
      have hok : manOk L = false := by
        unfold manOk
        cases h : allD (man L)
        · rfl
        · exact absurd ((allD_iff _).1 h) hno
      have HO := Lib.hid hok
      have HBT := Lib.hid hbT
      obtain ⟨t0, t1, t2, tf⟩ := tok_cells hbT
      have htw : w.heap.size < w2.heap.size := by have := hbT.size; rw [tok0_size] at this; omega
      clear hok hb2 hbT hno HRD
      go_wp2_with fail
      have ha := tok_after HBT.out (Obj.cells #[.slice none 0 0, .int .i64 0] 178)
      unfold tokS at ha
      obtain ⟨a0, a1, a2⟩ := ha
      exact bodyPost_ret (v := .tuple #[.agg #[.int .i64 0, .int .i64 0, .string ⟨#[]⟩], .bool false, .int .i64 0]) (by simp only [results, Tryz.results88]; simp [go_sem, a0, a1, a2]) rfl (rea_fail (by rw [HRO.out.1, HK.out.1, HK.out.2.1, HO.out]; rfl) (tokS_below HBT.out _))
  · have HB1 := Lib.hid hb1
    obtain ⟨t0, t1, t2, tf⟩ := tok_cells hb1
    have HO := Lib.hid hok
    clear hb1 hok
    go_wp2_with fail
    exact bodyPost_ret (v := .tuple #[.agg #[.int .i64 0, .int .i64 0, .string ⟨#[]⟩], .bool false, .int .i64 0]) (by simp [results, Tryz.results88, go_sem, t0, t1, t2]) rfl (rea_fail (by rw [HRO.out.1, HO.out]; rfl) (tok_back HB1.out _ _ _))
/-- what Token answers: kind, number, is it one, error -/
def tokR (l : List UInt8) : Int × Int × Bool × Int :=
  if 64 < l.length then (0, 0, false, 0)
  else if (Lib.cut l [35]).2.2 = true then
    (if rxOk (Lib.cut l [35]).1 (Lib.cut l [35]).2.1 = true then
      (if 4294967296 ≤ rxN (Lib.cut l [35]).1 (Lib.cut l [35]).2.1 then (0, 0, true, 9) else (1, rxT (Lib.cut l [35]).1 (Lib.cut l [35]).2.1, true, 0))
     else (0, 0, false, 0))
  else if (whoO l).isSome = true then (1, (whoO l).getD 0, true, 0)
  else (reaK l, reaV l, reaOk l, reaE l)
def tokOf (t : Int × Int × Bool × Int) : Value := .tuple #[.agg #[.int .i64 t.1, .int .i64 t.2.1, .string ⟨#[]⟩], .bool t.2.2.1, .int .i64 t.2.2.2]
def TokPost (t : Int × Int × Bool × Int) (w : World) (e : Ending) (w' : World) : Prop := e = .returned (tokOf t) ∧ Below w.heap.size w w'
theorem cut35_len (l : List UInt8) : (Lib.cut l [35]).1.length ≤ l.length ∧ (Lib.cut l [35]).2.1.length ≤ l.length := by
  unfold Lib.cut; split
  · exact ⟨by simp; omega, by simp⟩
  · exact ⟨by simp, by simp⟩
theorem tok_put {B : Nat} {W : World} {u0 u1 u2 : Value} (h0 : W.cell? ⟨B, 0, none⟩ = some u0) (h1 : W.cell? ⟨B, 1, none⟩ = some u1) (h2 : W.cell? ⟨B, 2, none⟩ = some u2) (v0 v1 v2 : Value) :
    (((W.setCell ⟨B, 0, none⟩ v0).setCell ⟨B, 1, none⟩ v1).setCell ⟨B, 2, none⟩ v2).cell? ⟨B, 0, none⟩ = some v0 ∧ (((W.setCell ⟨B, 0, none⟩ v0).setCell ⟨B, 1, none⟩ v1).setCell ⟨B, 2, none⟩ v2).cell? ⟨B, 1, none⟩ = some v1 ∧ (((W.setCell ⟨B, 0, none⟩ v0).setCell ⟨B, 1, none⟩ v1).setCell ⟨B, 2, none⟩ v2).cell? ⟨B, 2, none⟩ = some v2 := by
  refine ⟨?_, ?_, ?_⟩
  · rw [World.cell?_setCell_other _ _ _ _ (addr_ne _ _ _ (by omega)), World.cell?_setCell_other _ _ _ _ (addr_ne _ _ _ (by omega)), World.cell?_setCell_same _ _ _ h0]
  · rw [World.cell?_setCell_other _ _ _ _ (addr_ne _ _ _ (by omega)), World.cell?_setCell_same _ _ _ (u := u1)]
    rw [World.cell?_setCell_other _ _ _ _ (addr_ne _ _ _ (by omega))]; exact h1
  · rw [World.cell?_setCell_same _ _ _ (u := u2)]
    rw [World.cell?_setCell_other _ _ _ _ (addr_ne _ _ _ (by omega)), World.cell?_setCell_other _ _ _ _ (addr_ne _ _ _ (by omega))]; exact h2
theorem results_tok3 {fn : Func} (hfn : fn.results = #[.cell 2 129, .tmp 3, .tmp 4]) (tmps : Array Value) (W : World) (B : Nat) (k n : Int) (t : ByteArray) (hp : tmps.getD 2 undef = .pointer (some ⟨B, 0, none⟩))
    (h0 : W.cell? ⟨B, 0, none⟩ = some (.int .i64 k)) (h1 : W.cell? ⟨B, 1, none⟩ = some (.int .i64 n)) (h2 : W.cell? ⟨B, 2, none⟩ = some (.string t)) :
    (results fn tmps).run Tryz.prog W = .ok (.tuple #[.agg #[.int .i64 k, .int .i64 n, .string t], tmps.getD 3 undef, tmps.getD 4 undef]) W := by
  have hp2 : tmps[2]?.getD undef = .pointer (some ⟨B, 0, none⟩) := by rw [← hp]; simp
  simp [results, hfn, go_sem, hp2, h0, h1, h2]
theorem token_long (s : ByteArray) (hs : 64 < s.size) (hs2 : s.size ≤ 3000) (w : World) : Calls Tryz.prog 68 #[.string s] w (TokPost (0, 0, false, 0) w) := by
  go_enter Tryz.func68, Tryz.ntmps68
  go_wp2_with fail
  exact bodyPost_ret (v := .tuple #[.agg #[.int .i64 0, .int .i64 0, .string ⟨#[]⟩], .bool false, .int .i64 0]) (by simp [results, Tryz.results68, go_sem]) rfl ⟨rfl, (Below.refl _ _).alloc (Nat.le_refl _) _⟩
theorem token_plain (s : ByteArray) (hs : s.size ≤ 64) (w : World) (hm : Mx w) (hc : (Lib.cut s.data.toList [35]).2.2 = false) :
    Calls Tryz.prog 68 #[.string s] w (TokPost (if (whoO s.data.toList).isSome = true then (1, (whoO s.data.toList).getD 0, true, 0) else (reaK s.data.toList, reaV s.data.toList, reaOk s.data.toList, reaE s.data.toList)) w) := by
  have hC := fun w (hm : Mx w) => cut_any s 35 (by omega) w hm
  obtain ⟨b, hb⟩ : ∃ b : ByteArray, (⟨(Lib.cut s.data.toList [35]).1.toArray⟩ : ByteArray) = b := ⟨_, rfl⟩
  obtain ⟨d, hd⟩ : ∃ d : ByteArray, (⟨(Lib.cut s.data.toList [35]).2.1.toArray⟩ : ByteArray) = d := ⟨_, rfl⟩
  rw [hc, hb, hd] at hC
  have hW := fun w => readWhole_any s hs w
  have hR := fun w (hm : Mx w) => readReal_any s hs w hm
  unfold ReaPost at hR
  obtain ⟨l, hl⟩ : ∃ l, s.data.toList = l := ⟨_, rfl⟩
  rw [hl] at hW hR ⊢
  have HC := Lib.hid hC
  have HR := Lib.hid hR
  have HM := Lib.hid hm
  have HM0 := Lib.hid (hm.below (tok0_below w))
  clear hC hR hm hc hb hd hl
  cases ho : whoO l with
  | some n =>
    rw [ho] at hW
    simp only [Option.isSome_some, Option.getD_some, if_true] at hW ⊢
    have HW := Lib.hid hW
    clear hW ho
    go_enter Tryz.func68, Tryz.ntmps68
    go_wp2_with fail
    refine (HC.out _ HM0.out).mono ?_
    rintro e w' ⟨rfl, j, rfl⟩
    go_wp2_with fail
    refine (HW.out _).mono ?_
    rintro e w1 ⟨rfl, hb⟩
    have hbT : Below (tok0 w).heap.size (tok0 w) w1 := (below_draws (tok0 w) j).trans (hb.mono (by exact Nat.le_refl _))
    obtain ⟨t0, t1, t2, tf⟩ := tok_cells hbT
    have HBT := Lib.hid hbT
    clear hb hbT
    go_wp2_with fail
    obtain ⟨p0, p1, p2⟩ := tok_put t0 t1 t2 (.int .i64 1) (.int .i64 n) (.string ⟨#[]⟩)
    obtain ⟨q0, q1, q2⟩ := tok_put p0 p1 p2 (.int .i64 1) (.int .i64 n) (.string ⟨#[]⟩)
    refine bodyPost_ret (results_tok3 Tryz.results68 _ _ w.heap.size _ _ _ rfl q0 q1 q2) rfl ⟨rfl, ?_⟩
    exact (((tok_back HBT.out _ _ _).setCell (Nat.le_refl _) _).setCell (Nat.le_refl _) _).setCell (Nat.le_refl _) _
  | none =>
    rw [ho] at hW
    simp only [Option.isSome_none, Option.getD_none, Bool.false_eq_true, if_false] at hW ⊢
    obtain ⟨K, hK⟩ : ∃ K, reaK l = K := ⟨_, rfl⟩
    obtain ⟨V, hV⟩ : ∃ V, reaV l = V := ⟨_, rfl⟩
    obtain ⟨O, hO⟩ : ∃ O, reaOk l = O := ⟨_, rfl⟩
    obtain ⟨E, hE⟩ : ∃ E, reaE l = E := ⟨_, rfl⟩
    rw [hK, hV, hO, hE] at HR
    rw [hK, hV, hO, hE]
    have HW := Lib.hid hW
    clear hW ho hK hV hO hE
    go_enter Tryz.func68, Tryz.ntmps68
    go_wp2_with fail
    refine (HC.out _ HM0.out).mono ?_
    rintro e w' ⟨rfl, j, rfl⟩
    go_wp2_with fail
    refine (HW.out _).mono ?_
    rintro e w1 ⟨rfl, hb⟩
    have hbT : Below (tok0 w).heap.size (tok0 w) w1 := (below_draws (tok0 w) j).trans (hb.mono (by exact Nat.le_refl _))
    obtain ⟨t0, t1, t2, tf⟩ := tok_cells hbT
    have HBT := Lib.hid hbT
    clear hb hbT
    go_wp2_with fail
    obtain ⟨p0, p1, p2⟩ := tok_put t0 t1 t2 (.int .i64 0) (.int .i64 0) (.string ⟨#[]⟩)
    obtain ⟨W, hW⟩ : ∃ W, W = ((w1.setCell ⟨w.heap.size, 0, none⟩ (.int .i64 0)).setCell ⟨w.heap.size, 1, none⟩ (.int .i64 0)).setCell ⟨w.heap.size, 2, none⟩ (.string ⟨#[]⟩) := ⟨_, rfl⟩
    have hWb : Below w.heap.size w W := by rw [hW]; exact tok_back HBT.out _ _ _
    have hWs : w.heap.size < W.heap.size := by rw [hW]; simp; have := HBT.out.size; rw [tok0_size] at this; omega
    have hWf : ∀ o, W.frozen? ⟨w.heap.size, o, none⟩ = false := fun o => by rw [hW]; simp [tf]
    rw [← hW] at p0 p1 p2 ⊢
    clear t0 t1 t2 tf hW
    have HWB := Lib.hid hWb
    refine (HR.out W (HM.out.below hWb)).mono ?_
    rintro e w3 ⟨rfl, hb3⟩
    have HB3 := Lib.hid (bthen HWB.out hb3)
    have r0 : w3.cell? ⟨w.heap.size, 0, none⟩ = some (.int .i64 0) := by rw [(bcell hb3).1 _ _ hWs]; exact p0
    have r1 : w3.cell? ⟨w.heap.size, 1, none⟩ = some (.int .i64 0) := by rw [(bcell hb3).1 _ _ hWs]; exact p1
    have r2 : w3.cell? ⟨w.heap.size, 2, none⟩ = some (.string ⟨#[]⟩) := by rw [(bcell hb3).1 _ _ hWs]; exact p2
    have rf : ∀ o, w3.frozen? ⟨w.heap.size, o, none⟩ = false := fun o => by rw [(bcell hb3).2 _ _ hWs]; exact hWf o
    clear hb3 p0 p1 p2 hWf hWb hWs
    go_wp2_with fail
    obtain ⟨q0, q1, q2⟩ := tok_put r0 r1 r2 (.int .i64 K) (.int .i64 V) (.string ⟨#[]⟩)
    refine bodyPost_ret (results_tok3 Tryz.results68 _ _ w.heap.size _ _ _ rfl q0 q1 q2) rfl ⟨rfl, ?_⟩
    exact ((HB3.out.setCell (Nat.le_refl _) _).setCell (Nat.le_refl _) _).setCell (Nat.le_refl _) _
theorem decToken_any (s : ByteArray) (hs : s.size ≤ 3000) (w : World) (hm : Mx w) : Calls Tryz.prog 68 #[.string s] w (TokPost (tokR s.data.toList) w) := by
  by_cases h64 : s.size ≤ 64
  · have hlen := cut35_len s.data.toList
    rw [← size_list] at hlen
    unfold tokR
    rw [if_neg (by rw [← size_list]; omega)]
    cases hf : (Lib.cut s.data.toList [35]).2.2
    · rw [if_neg (by simp)]
      exact token_plain s h64 w hm hf
    · rw [if_pos rfl]
      have hcut : Lib.cut s.data.toList [35] = ((⟨(Lib.cut s.data.toList [35]).1.toArray⟩ : ByteArray).data.toList, (⟨(Lib.cut s.data.toList [35]).2.1.toArray⟩ : ByteArray).data.toList, true) := by rw [← hf]
      have hb1 : (⟨(Lib.cut s.data.toList [35]).1.toArray⟩ : ByteArray).size ≤ 3000 := by rw [size_mk]; omega
      have hd1 : (⟨(Lib.cut s.data.toList [35]).2.1.toArray⟩ : ByteArray).size ≤ 3000 := by rw [size_mk]; omega
      cases hk : rxOk (Lib.cut s.data.toList [35]).1 (Lib.cut s.data.toList [35]).2.1
      · rw [if_neg (by simp)]
        exact token_radix s _ _ h64 w hm hcut 0 0 0 false (fun w => readRadix_no _ _ hb1 hd1 w hk)
      · rw [if_pos rfl]
        have hR := fun w => readRadix_yes ⟨(Lib.cut s.data.toList [35]).1.toArray⟩ ⟨(Lib.cut s.data.toList [35]).2.1.toArray⟩ hb1 hd1 w hk
        by_cases hbig : 4294967296 ≤ rxN (Lib.cut s.data.toList [35]).1 (Lib.cut s.data.toList [35]).2.1
        · rw [if_pos hbig]
          refine token_radix s _ _ h64 w hm hcut 0 0 9 true (fun w => ?_)
          have := hR w; rw [if_pos hbig] at this; exact this
        · rw [if_neg hbig]
          refine token_radix s _ _ h64 w hm hcut 1 _ 0 true (fun w => ?_)
          have := hR w; rw [if_neg hbig] at this; exact this
  · unfold tokR
    rw [if_pos (by rw [← size_list]; omega)]
    exact token_long s (by omega) hs w
end Go.Proofs.YtfilbfenpdaahaaGreatDoor
