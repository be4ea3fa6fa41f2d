/-
  The contract of the document's plain.
-/
import Derived.Test.YtaebpjcigajolaaDecPlain
namespace Go.Proofs.Ytaebpjcigajolaa
open Go.RowKit
open Fx Dc
theorem ext_list (s : ByteArray) (a b : Nat) : (s.extract a b).data.toList = (s.data.toList.drop a).take (b - a) := by
  rw [ByteArray.data_extract, Array.toList_extract]
theorem ext_from (s : ByteArray) (a : Nat) : (s.extract a s.size).data.toList = s.data.toList.drop a := by
  rw [ext_list, List.take_of_length_le]; rw [List.length_drop, ← size_list]; omega
theorem ext_to (s : ByteArray) (a : Nat) : (s.extract 0 a).data.toList = s.data.toList.take a := by
  rw [ext_list, List.drop_zero, Nat.sub_zero]
namespace Dc
/-- behind the first digits: what is left -/
def plR (l : List UInt8) : List UInt8 := l.drop (nDg l)
def plHas (l : List UInt8) : Bool := (plR l).head? == some 46
def plY (l : List UInt8) : List UInt8 := (plR l).drop 1
def plD (l : List UInt8) : List UInt8 := if plHas l = true then l.take (nDg l) ++ (plY l).take (nDg (plY l)) else l.take (nDg l)
def plZ (l : List UInt8) : List UInt8 := if plHas l = true then (plY l).drop (nDg (plY l)) else plR l
def plOk (l : List UInt8) : Bool := (plZ l).isEmpty && !(plD l).isEmpty
end Dc
theorem eq0_no {n : Nat} (h : n ≠ 0) : ((n : Int) == 0) = false := by
  rw [beq_eq_false_iff_ne]; omega
theorem eq0_yes {n : Nat} (h : n = 0) : ((n : Int) == 0) = true := by
  rw [beq_iff_eq]; omega
theorem pos_yes {n : Nat} (h : 0 < n) : decide (0 < (n : Int)) = true := decide_eq_true (by omega)
theorem pos_no {n : Nat} (h : ¬ 0 < n) : decide (0 < (n : Int)) = false := decide_eq_false (by omega)
theorem empty_size (s : ByteArray) : s.data.toList.isEmpty = decide (s.size = 0) := by
  rw [size_list]; cases s.data.toList <;> simp
theorem results_tmp5 {fn : Func} {t u v x y : Tmp} (h : fn.results = #[.tmp t, .tmp u, .tmp v, .tmp x, .tmp y]) (tmps : Array Value) (P : Program) (w : World) :
    (results fn tmps).run P w = .ok (.tuple #[tmps.getD t undef, tmps.getD u undef, tmps.getD v undef, tmps.getD x undef, tmps.getD y undef]) w := by simp [results, h]
theorem ret_five {m h o h2 o2 : Bool} {d : ByteArray} {n : Int} (e1 : h = h2) (e2 : o = o2) : Ending.returned (.tuple #[.bool m, .string d, .int .i64 n, .bool h, .bool o]) = .returned (.tuple #[.bool m, .string d, .int .i64 n, .bool h2, .bool o2]) := by rw [e1, e2]
/-- what plain answers of a text without its sign -/
def PlPost (m : Bool) (l : List UInt8) (w : World) (e : Ending) (w' : World) : Prop :=
  ∃ d : ByteArray, e = .returned (.tuple #[.bool m, .string d, .int .i64 ((nDg l : Nat) : Int), .bool (plHas l), .bool (plOk l)]) ∧ d.data.toList = plD l ∧ w = w'
theorem head_byte (x : ByteArray) (h : 0 < x.size) : x.data.toList.head? = some x[0] := by
  rw [List.head?_eq_getElem?, getElem_of x 0 h]
theorem plain_minus (s : ByteArray) (hs : s.size ≤ 64) (h0 : 0 < s.size) (h1 : s[0].toNat = 45) (w : World) : Calls Try.prog 44 #[.string s] w (PlPost true (s.data.toList.drop 1) w) := by
  obtain ⟨l, hl⟩ : ∃ l, s.data.toList.drop 1 = l := ⟨_, rfl⟩
  rw [hl]
  have g1 : decide (0 < (s.size : Int)) = true := pos_yes h0
  have g2 : ((s[0].toNat : Int) == 45) = true := by simp; omega
  clear h1
  go_enter Try.func44, Try.ntmps44
  go_wp2_with fail
  obtain ⟨r, hr⟩ : ∃ r, r = s.extract 1 s.size := ⟨_, rfl⟩
  have hrl : r.data.toList = l := by rw [hr, ext_from, hl]
  have hrs : r.size ≤ 64 := by rw [size_list, hrl, ← hl, List.length_drop, ← size_list]; omega
  rw [← hr]
  clear hr hl
  have HL := Lib.hid hrl
  clear hrl
  refine (refDigits_any r (by omega) _).mono ?_
  rintro e w' ⟨rfl, rfl⟩
  have ha1 := nDg_le r.data.toList
  rw [← size_list] at ha1
  obtain ⟨a, ha⟩ : ∃ a, nDg r.data.toList = a := ⟨_, rfl⟩
  rw [ha] at ha1 ⊢
  obtain ⟨x, hx⟩ : ∃ x : ByteArray, r.extract a r.size = x := ⟨_, rfl⟩
  obtain ⟨d1, hd1⟩ : ∃ d1 : ByteArray, r.extract 0 a = d1 := ⟨_, rfl⟩
  have hxl : x.data.toList = plR l := by rw [← hx, ext_from]; unfold plR; rw [← HL.out, ha]
  have hd1l : d1.data.toList = l.take (nDg l) := by rw [← hd1, ext_to, ← HL.out, ha]
  have hxs1 : x.size ≤ 64 := by rw [size_list, hxl]; unfold plR; rw [List.length_drop, ← HL.out, ← size_list]; omega
  have hd1s : d1.size ≤ 64 := by rw [size_list, hd1l, List.length_take, ← HL.out, ← size_list]; omega
  have HX := Lib.hid hxl
  have HD1 := Lib.hid hd1l
  have HA : Hid (nDg l = a) := by rw [← HL.out]; exact ha
  clear hxl hd1l ha
  by_cases he : 0 < x.size
  · have e1 : decide (0 < (x.size : Int)) = true := pos_yes he
    have e2 : ((x.size : Int) == 0) = false := eq0_no (by omega)
    have hhd := head_byte x he
    by_cases hp : x[0].toNat = 46
    · have e3 : ((x[0].toNat : Int) == 46) = true := by simp; omega
      obtain ⟨y, hy⟩ : ∃ y : ByteArray, x.extract 1 x.size = y := ⟨_, rfl⟩
      have hyl : y.data.toList = plY l := by rw [← hy, ext_from]; unfold plY; rw [HX.out]
      have hys : y.size ≤ 64 := by rw [size_list, hyl]; unfold plY; rw [List.length_drop, ← HX.out, ← size_list]; omega
      have hhas : plHas l = true := by
        unfold plHas; rw [← HX.out, hhd]
        have : x[0] = 46 := UInt8.toNat_inj.1 hp
        rw [this]; rfl
      have HY := Lib.hid hyl
      have HH := Lib.hid hhas
      clear hyl hhas hp hhd
      go_wp2_with fail
      refine (refDigits_any y (by omega) _).mono ?_
      rintro e w' ⟨rfl, rfl⟩
      have hb1 := nDg_le y.data.toList
      rw [← size_list] at hb1
      obtain ⟨b, hb⟩ : ∃ b, nDg y.data.toList = b := ⟨_, rfl⟩
      rw [hb] at hb1 ⊢
      obtain ⟨z, hz⟩ : ∃ z : ByteArray, y.extract b y.size = z := ⟨_, rfl⟩
      obtain ⟨d2, hd2⟩ : ∃ d2 : ByteArray, y.extract 0 b = d2 := ⟨_, rfl⟩
      have hzl : z.data.toList = plZ l := by rw [← hz, ext_from]; unfold plZ; rw [HH.out, if_pos rfl, ← HY.out, hb]
      have hd2l : d2.data.toList = (plY l).take (nDg (plY l)) := by rw [← hd2, ext_to, ← HY.out, hb]
      have hDl : (d1 ++ d2).data.toList = plD l := by rw [data_app, HD1.out, hd2l]; unfold plD; rw [HH.out, if_pos rfl]
      have hd2s : d2.size ≤ 64 := by rw [size_list, hd2l, List.length_take, ← HY.out, ← size_list]; omega
      have hok : plOk l = (decide (z.size = 0) && decide (0 < d1.size + d2.size)) := by
        unfold plOk; rw [← hzl, ← hDl, empty_size, nonempty_size, size_app]
      have HD := Lib.hid hDl
      clear hzl hd2l hDl hb
      by_cases hz0 : z.size = 0
      · have k1 : ((z.size : Int) == 0) = true := eq0_yes hz0
        by_cases hD0 : 0 < d1.size + d2.size
        · have k2 : decide (0 < ((d1.size : Int) + (d2.size : Int))) = true := decide_eq_true (by omega)
          have HO : Hid (plOk l = true) := by unfold Hid; rw [hok, decide_eq_true hz0, decide_eq_true hD0]; rfl
          clear hok hz0
          go_wp2_with fail
          refine bodyPost_ret (results_tmp5 rfl _ _ _) rfl ?_
          exact ⟨_, by rw [HA.out]; exact ret_five HH.out.symm HO.out.symm, HD.out, rfl⟩
        · have k2 : decide (0 < ((d1.size : Int) + (d2.size : Int))) = false := decide_eq_false (by omega)
          have HO : Hid (plOk l = false) := by unfold Hid; rw [hok, decide_eq_false hD0, Bool.and_false]
          clear hok hz0
          go_wp2_with fail
          refine bodyPost_ret (results_tmp5 rfl _ _ _) rfl ?_
          exact ⟨_, by rw [HA.out]; exact ret_five HH.out.symm HO.out.symm, HD.out, rfl⟩
      · have k1 : ((z.size : Int) == 0) = false := eq0_no hz0
        have HO : Hid (plOk l = false) := by unfold Hid; rw [hok, decide_eq_false hz0, Bool.false_and]
        clear hok hz0
        go_wp2_with fail
        refine bodyPost_ret (results_tmp5 rfl _ _ _) rfl ?_
        exact ⟨_, by rw [HA.out]; exact ret_five HH.out.symm HO.out.symm, HD.out, rfl⟩
    · have e3 : ((x[0].toNat : Int) == 46) = false := by simp; omega
      have hhas : plHas l = false := by
        unfold plHas; rw [← HX.out, hhd]
        have : x[0] ≠ 46 := fun h => hp (by rw [h]; rfl)
        simp [this]
      have hok : plOk l = false := by
        unfold plOk plZ; rw [hhas, if_neg (by simp), ← HX.out, empty_size, decide_eq_false (by omega), Bool.false_and]
      have hDl : d1.data.toList = plD l := by rw [HD1.out]; unfold plD; rw [hhas, if_neg (by simp)]
      have HH := Lib.hid hhas
      have HO := Lib.hid hok
      have HD := Lib.hid hDl
      clear hhas hok hDl hp hhd
      go_wp2_with fail
      refine bodyPost_ret (results_tmp5 rfl _ _ _) rfl ?_
      exact ⟨_, by rw [HA.out]; exact ret_five HH.out.symm HO.out.symm, HD.out, rfl⟩
  · have e1 : decide (0 < (x.size : Int)) = false := pos_no he
    have e2 : ((x.size : Int) == 0) = true := eq0_yes (by omega)
    have hnil : plR l = [] := by rw [← HX.out]; exact List.eq_nil_of_length_eq_zero (by rw [← size_list]; omega)
    have hhas : plHas l = false := by unfold plHas; rw [hnil]; rfl
    have hDl : d1.data.toList = plD l := by rw [HD1.out]; unfold plD; rw [hhas, if_neg (by simp)]
    have hok : plOk l = decide (0 < d1.size) := by
      unfold plOk; rw [← hDl, nonempty_size]; unfold plZ; rw [hhas, if_neg (by simp), hnil]; rfl
    have HH := Lib.hid hhas
    have HD := Lib.hid hDl
    clear hhas hDl hnil
    by_cases hD0 : 0 < d1.size
    · have k2 : decide (0 < (d1.size : Int)) = true := pos_yes hD0
      have HO : Hid (plOk l = true) := by unfold Hid; rw [hok, decide_eq_true hD0]
      clear hok
      go_wp2_with fail
      refine bodyPost_ret (results_tmp5 rfl _ _ _) rfl ?_
      exact ⟨_, by rw [HA.out]; exact ret_five HH.out.symm HO.out.symm, HD.out, rfl⟩
    · have k2 : decide (0 < (d1.size : Int)) = false := pos_no hD0
      have HO : Hid (plOk l = false) := by unfold Hid; rw [hok, decide_eq_false hD0]
      clear hok
      go_wp2_with fail
      refine bodyPost_ret (results_tmp5 rfl _ _ _) rfl ?_
      exact ⟨_, by rw [HA.out]; exact ret_five HH.out.symm HO.out.symm, HD.out, rfl⟩
theorem plain_plus (s : ByteArray) (hs : s.size ≤ 64) (h0 : 0 < s.size) (h1 : s[0].toNat = 43) (w : World) : Calls Try.prog 44 #[.string s] w (PlPost false (s.data.toList.drop 1) w) := by
  obtain ⟨l, hl⟩ : ∃ l, s.data.toList.drop 1 = l := ⟨_, rfl⟩
  rw [hl]
  have g1 : decide (0 < (s.size : Int)) = true := pos_yes h0
  have g2 : ((s[0].toNat : Int) == 45) = false := by simp; omega
  have g3 : ((s[0].toNat : Int) == 43) = true := by simp; omega
  clear h1
  go_enter Try.func44, Try.ntmps44
  go_wp2_with fail
  obtain ⟨r, hr⟩ : ∃ r, r = s.extract 1 s.size := ⟨_, rfl⟩
  have hrl : r.data.toList = l := by rw [hr, ext_from, hl]
  have hrs : r.size ≤ 64 := by rw [size_list, hrl, ← hl, List.length_drop, ← size_list]; omega
  rw [← hr]
  clear hr hl
  have HL := Lib.hid hrl
  clear hrl
  refine (refDigits_any r (by omega) _).mono ?_
  rintro e w' ⟨rfl, rfl⟩
  have ha1 := nDg_le r.data.toList
  rw [← size_list] at ha1
  obtain ⟨a, ha⟩ : ∃ a, nDg r.data.toList = a := ⟨_, rfl⟩
  rw [ha] at ha1 ⊢
  obtain ⟨x, hx⟩ : ∃ x : ByteArray, r.extract a r.size = x := ⟨_, rfl⟩
  obtain ⟨d1, hd1⟩ : ∃ d1 : ByteArray, r.extract 0 a = d1 := ⟨_, rfl⟩
  have hxl : x.data.toList = plR l := by rw [← hx, ext_from]; unfold plR; rw [← HL.out, ha]
  have hd1l : d1.data.toList = l.take (nDg l) := by rw [← hd1, ext_to, ← HL.out, ha]
  have hxs1 : x.size ≤ 64 := by rw [size_list, hxl]; unfold plR; rw [List.length_drop, ← HL.out, ← size_list]; omega
  have hd1s : d1.size ≤ 64 := by rw [size_list, hd1l, List.length_take, ← HL.out, ← size_list]; omega
  have HX := Lib.hid hxl
  have HD1 := Lib.hid hd1l
  have HA : Hid (nDg l = a) := by rw [← HL.out]; exact ha
  clear hxl hd1l ha
  by_cases he : 0 < x.size
  · have e1 : decide (0 < (x.size : Int)) = true := pos_yes he
    have e2 : ((x.size : Int) == 0) = false := eq0_no (by omega)
    have hhd := head_byte x he
    by_cases hp : x[0].toNat = 46
    · have e3 : ((x[0].toNat : Int) == 46) = true := by simp; omega
      obtain ⟨y, hy⟩ : ∃ y : ByteArray, x.extract 1 x.size = y := ⟨_, rfl⟩
      have hyl : y.data.toList = plY l := by rw [← hy, ext_from]; unfold plY; rw [HX.out]
      have hys : y.size ≤ 64 := by rw [size_list, hyl]; unfold plY; rw [List.length_drop, ← HX.out, ← size_list]; omega
      have hhas : plHas l = true := by
        unfold plHas; rw [← HX.out, hhd]
        have : x[0] = 46 := UInt8.toNat_inj.1 hp
        rw [this]; rfl
      have HY := Lib.hid hyl
      have HH := Lib.hid hhas
      clear hyl hhas hp hhd
      go_wp2_with fail
      refine (refDigits_any y (by omega) _).mono ?_
      rintro e w' ⟨rfl, rfl⟩
      have hb1 := nDg_le y.data.toList
      rw [← size_list] at hb1
      obtain ⟨b, hb⟩ : ∃ b, nDg y.data.toList = b := ⟨_, rfl⟩
      rw [hb] at hb1 ⊢
      obtain ⟨z, hz⟩ : ∃ z : ByteArray, y.extract b y.size = z := ⟨_, rfl⟩
      obtain ⟨d2, hd2⟩ : ∃ d2 : ByteArray, y.extract 0 b = d2 := ⟨_, rfl⟩
      have hzl : z.data.toList = plZ l := by rw [← hz, ext_from]; unfold plZ; rw [HH.out, if_pos rfl, ← HY.out, hb]
      have hd2l : d2.data.toList = (plY l).take (nDg (plY l)) := by rw [← hd2, ext_to, ← HY.out, hb]
      have hDl : (d1 ++ d2).data.toList = plD l := by rw [data_app, HD1.out, hd2l]; unfold plD; rw [HH.out, if_pos rfl]
      have hd2s : d2.size ≤ 64 := by rw [size_list, hd2l, List.length_take, ← HY.out, ← size_list]; omega
      have hok : plOk l = (decide (z.size = 0) && decide (0 < d1.size + d2.size)) := by
        unfold plOk; rw [← hzl, ← hDl, empty_size, nonempty_size, size_app]
      have HD := Lib.hid hDl
      clear hzl hd2l hDl hb
      by_cases hz0 : z.size = 0
      · have k1 : ((z.size : Int) == 0) = true := eq0_yes hz0
        by_cases hD0 : 0 < d1.size + d2.size
        · have k2 : decide (0 < ((d1.size : Int) + (d2.size : Int))) = true := decide_eq_true (by omega)
          have HO : Hid (plOk l = true) := by unfold Hid; rw [hok, decide_eq_true hz0, decide_eq_true hD0]; rfl
          clear hok hz0
          go_wp2_with fail
          refine bodyPost_ret (results_tmp5 rfl _ _ _) rfl ?_
          exact ⟨_, by rw [HA.out]; exact ret_five HH.out.symm HO.out.symm, HD.out, rfl⟩
        · have k2 : decide (0 < ((d1.size : Int) + (d2.size : Int))) = false := decide_eq_false (by omega)
          have HO : Hid (plOk l = false) := by unfold Hid; rw [hok, decide_eq_false hD0, Bool.and_false]
          clear hok hz0
          go_wp2_with fail
          refine bodyPost_ret (results_tmp5 rfl _ _ _) rfl ?_
          exact ⟨_, by rw [HA.out]; exact ret_five HH.out.symm HO.out.symm, HD.out, rfl⟩
      · have k1 : ((z.size : Int) == 0) = false := eq0_no hz0
        have HO : Hid (plOk l = false) := by unfold Hid; rw [hok, decide_eq_false hz0, Bool.false_and]
        clear hok hz0
        go_wp2_with fail
        refine bodyPost_ret (results_tmp5 rfl _ _ _) rfl ?_
        exact ⟨_, by rw [HA.out]; exact ret_five HH.out.symm HO.out.symm, HD.out, rfl⟩
    · have e3 : ((x[0].toNat : Int) == 46) = false := by simp; omega
      have hhas : plHas l = false := by
        unfold plHas; rw [← HX.out, hhd]
        have : x[0] ≠ 46 := fun h => hp (by rw [h]; rfl)
        simp [this]
      have hok : plOk l = false := by
        unfold plOk plZ; rw [hhas, if_neg (by simp), ← HX.out, empty_size, decide_eq_false (by omega), Bool.false_and]
      have hDl : d1.data.toList = plD l := by rw [HD1.out]; unfold plD; rw [hhas, if_neg (by simp)]
      have HH := Lib.hid hhas
      have HO := Lib.hid hok
      have HD := Lib.hid hDl
      clear hhas hok hDl hp hhd
      go_wp2_with fail
      refine bodyPost_ret (results_tmp5 rfl _ _ _) rfl ?_
      exact ⟨_, by rw [HA.out]; exact ret_five HH.out.symm HO.out.symm, HD.out, rfl⟩
  · have e1 : decide (0 < (x.size : Int)) = false := pos_no he
    have e2 : ((x.size : Int) == 0) = true := eq0_yes (by omega)
    have hnil : plR l = [] := by rw [← HX.out]; exact List.eq_nil_of_length_eq_zero (by rw [← size_list]; omega)
    have hhas : plHas l = false := by unfold plHas; rw [hnil]; rfl
    have hDl : d1.data.toList = plD l := by rw [HD1.out]; unfold plD; rw [hhas, if_neg (by simp)]
    have hok : plOk l = decide (0 < d1.size) := by
      unfold plOk; rw [← hDl, nonempty_size]; unfold plZ; rw [hhas, if_neg (by simp), hnil]; rfl
    have HH := Lib.hid hhas
    have HD := Lib.hid hDl
    clear hhas hDl hnil
    by_cases hD0 : 0 < d1.size
    · have k2 : decide (0 < (d1.size : Int)) = true := pos_yes hD0
      have HO : Hid (plOk l = true) := by unfold Hid; rw [hok, decide_eq_true hD0]
      clear hok
      go_wp2_with fail
      refine bodyPost_ret (results_tmp5 rfl _ _ _) rfl ?_
      exact ⟨_, by rw [HA.out]; exact ret_five HH.out.symm HO.out.symm, HD.out, rfl⟩
    · have k2 : decide (0 < (d1.size : Int)) = false := pos_no hD0
      have HO : Hid (plOk l = false) := by unfold Hid; rw [hok, decide_eq_false hD0]
      clear hok
      go_wp2_with fail
      refine bodyPost_ret (results_tmp5 rfl _ _ _) rfl ?_
      exact ⟨_, by rw [HA.out]; exact ret_five HH.out.symm HO.out.symm, HD.out, rfl⟩
theorem plain_none (s : ByteArray) (hs : s.size ≤ 64) (h0 : 0 < s.size) (h1 : s[0].toNat ≠ 45) (h2 : s[0].toNat ≠ 43) (w : World) : Calls Try.prog 44 #[.string s] w (PlPost false (s.data.toList) w) := by
  obtain ⟨l, hl⟩ : ∃ l, s.data.toList = l := ⟨_, rfl⟩
  rw [hl]
  have g1 : decide (0 < (s.size : Int)) = true := pos_yes h0
  have g2 : ((s[0].toNat : Int) == 45) = false := by simp; omega
  have g3 : ((s[0].toNat : Int) == 43) = false := by simp; omega
  clear h1 h2
  go_enter Try.func44, Try.ntmps44
  go_wp2_with fail
  have hrl := hl
  clear hl
  have HL := Lib.hid hrl
  clear hrl
  refine (refDigits_any s (by omega) _).mono ?_
  rintro e w' ⟨rfl, rfl⟩
  have ha1 := nDg_le s.data.toList
  rw [← size_list] at ha1
  obtain ⟨a, ha⟩ : ∃ a, nDg s.data.toList = a := ⟨_, rfl⟩
  rw [ha] at ha1 ⊢
  obtain ⟨x, hx⟩ : ∃ x : ByteArray, s.extract a s.size = x := ⟨_, rfl⟩
  obtain ⟨d1, hd1⟩ : ∃ d1 : ByteArray, s.extract 0 a = d1 := ⟨_, rfl⟩
  have hxl : x.data.toList = plR l := by rw [← hx, ext_from]; unfold plR; rw [← HL.out, ha]
  have hd1l : d1.data.toList = l.take (nDg l) := by rw [← hd1, ext_to, ← HL.out, ha]
  have hxs1 : x.size ≤ 64 := by rw [size_list, hxl]; unfold plR; rw [List.length_drop, ← HL.out, ← size_list]; omega
  have hd1s : d1.size ≤ 64 := by rw [size_list, hd1l, List.length_take, ← HL.out, ← size_list]; omega
  have HX := Lib.hid hxl
  have HD1 := Lib.hid hd1l
  have HA : Hid (nDg l = a) := by rw [← HL.out]; exact ha
  clear hxl hd1l ha
  by_cases he : 0 < x.size
  · have e1 : decide (0 < (x.size : Int)) = true := pos_yes he
    have e2 : ((x.size : Int) == 0) = false := eq0_no (by omega)
    have hhd := head_byte x he
    by_cases hp : x[0].toNat = 46
    · have e3 : ((x[0].toNat : Int) == 46) = true := by simp; omega
      obtain ⟨y, hy⟩ : ∃ y : ByteArray, x.extract 1 x.size = y := ⟨_, rfl⟩
      have hyl : y.data.toList = plY l := by rw [← hy, ext_from]; unfold plY; rw [HX.out]
      have hys : y.size ≤ 64 := by rw [size_list, hyl]; unfold plY; rw [List.length_drop, ← HX.out, ← size_list]; omega
      have hhas : plHas l = true := by
        unfold plHas; rw [← HX.out, hhd]
        have : x[0] = 46 := UInt8.toNat_inj.1 hp
        rw [this]; rfl
      have HY := Lib.hid hyl
      have HH := Lib.hid hhas
      clear hyl hhas hp hhd
      go_wp2_with fail
      refine (refDigits_any y (by omega) _).mono ?_
      rintro e w' ⟨rfl, rfl⟩
      have hb1 := nDg_le y.data.toList
      rw [← size_list] at hb1
      obtain ⟨b, hb⟩ : ∃ b, nDg y.data.toList = b := ⟨_, rfl⟩
      rw [hb] at hb1 ⊢
      obtain ⟨z, hz⟩ : ∃ z : ByteArray, y.extract b y.size = z := ⟨_, rfl⟩
      obtain ⟨d2, hd2⟩ : ∃ d2 : ByteArray, y.extract 0 b = d2 := ⟨_, rfl⟩
      have hzl : z.data.toList = plZ l := by rw [← hz, ext_from]; unfold plZ; rw [HH.out, if_pos rfl, ← HY.out, hb]
      have hd2l : d2.data.toList = (plY l).take (nDg (plY l)) := by rw [← hd2, ext_to, ← HY.out, hb]
      have hDl : (d1 ++ d2).data.toList = plD l := by rw [data_app, HD1.out, hd2l]; unfold plD; rw [HH.out, if_pos rfl]
      have hd2s : d2.size ≤ 64 := by rw [size_list, hd2l, List.length_take, ← HY.out, ← size_list]; omega
      have hok : plOk l = (decide (z.size = 0) && decide (0 < d1.size + d2.size)) := by
        unfold plOk; rw [← hzl, ← hDl, empty_size, nonempty_size, size_app]
      have HD := Lib.hid hDl
      clear hzl hd2l hDl hb
      by_cases hz0 : z.size = 0
      · have k1 : ((z.size : Int) == 0) = true := eq0_yes hz0
        by_cases hD0 : 0 < d1.size + d2.size
        · have k2 : decide (0 < ((d1.size : Int) + (d2.size : Int))) = true := decide_eq_true (by omega)
          have HO : Hid (plOk l = true) := by unfold Hid; rw [hok, decide_eq_true hz0, decide_eq_true hD0]; rfl
          clear hok hz0
          go_wp2_with fail
          refine bodyPost_ret (results_tmp5 rfl _ _ _) rfl ?_
          exact ⟨_, by rw [HA.out]; exact ret_five HH.out.symm HO.out.symm, HD.out, rfl⟩
        · have k2 : decide (0 < ((d1.size : Int) + (d2.size : Int))) = false := decide_eq_false (by omega)
          have HO : Hid (plOk l = false) := by unfold Hid; rw [hok, decide_eq_false hD0, Bool.and_false]
          clear hok hz0
          go_wp2_with fail
          refine bodyPost_ret (results_tmp5 rfl _ _ _) rfl ?_
          exact ⟨_, by rw [HA.out]; exact ret_five HH.out.symm HO.out.symm, HD.out, rfl⟩
      · have k1 : ((z.size : Int) == 0) = false := eq0_no hz0
        have HO : Hid (plOk l = false) := by unfold Hid; rw [hok, decide_eq_false hz0, Bool.false_and]
        clear hok hz0
        go_wp2_with fail
        refine bodyPost_ret (results_tmp5 rfl _ _ _) rfl ?_
        exact ⟨_, by rw [HA.out]; exact ret_five HH.out.symm HO.out.symm, HD.out, rfl⟩
    · have e3 : ((x[0].toNat : Int) == 46) = false := by simp; omega
      have hhas : plHas l = false := by
        unfold plHas; rw [← HX.out, hhd]
        have : x[0] ≠ 46 := fun h => hp (by rw [h]; rfl)
        simp [this]
      have hok : plOk l = false := by
        unfold plOk plZ; rw [hhas, if_neg (by simp), ← HX.out, empty_size, decide_eq_false (by omega), Bool.false_and]
      have hDl : d1.data.toList = plD l := by rw [HD1.out]; unfold plD; rw [hhas, if_neg (by simp)]
      have HH := Lib.hid hhas
      have HO := Lib.hid hok
      have HD := Lib.hid hDl
      clear hhas hok hDl hp hhd
      go_wp2_with fail
      refine bodyPost_ret (results_tmp5 rfl _ _ _) rfl ?_
      exact ⟨_, by rw [HA.out]; exact ret_five HH.out.symm HO.out.symm, HD.out, rfl⟩
  · have e1 : decide (0 < (x.size : Int)) = false := pos_no he
    have e2 : ((x.size : Int) == 0) = true := eq0_yes (by omega)
    have hnil : plR l = [] := by rw [← HX.out]; exact List.eq_nil_of_length_eq_zero (by rw [← size_list]; omega)
    have hhas : plHas l = false := by unfold plHas; rw [hnil]; rfl
    have hDl : d1.data.toList = plD l := by rw [HD1.out]; unfold plD; rw [hhas, if_neg (by simp)]
    have hok : plOk l = decide (0 < d1.size) := by
      unfold plOk; rw [← hDl, nonempty_size]; unfold plZ; rw [hhas, if_neg (by simp), hnil]; rfl
    have HH := Lib.hid hhas
    have HD := Lib.hid hDl
    clear hhas hDl hnil
    by_cases hD0 : 0 < d1.size
    · have k2 : decide (0 < (d1.size : Int)) = true := pos_yes hD0
      have HO : Hid (plOk l = true) := by unfold Hid; rw [hok, decide_eq_true hD0]
      clear hok
      go_wp2_with fail
      refine bodyPost_ret (results_tmp5 rfl _ _ _) rfl ?_
      exact ⟨_, by rw [HA.out]; exact ret_five HH.out.symm HO.out.symm, HD.out, rfl⟩
    · have k2 : decide (0 < (d1.size : Int)) = false := pos_no hD0
      have HO : Hid (plOk l = false) := by unfold Hid; rw [hok, decide_eq_false hD0]
      clear hok
      go_wp2_with fail
      refine bodyPost_ret (results_tmp5 rfl _ _ _) rfl ?_
      exact ⟨_, by rw [HA.out]; exact ret_five HH.out.symm HO.out.symm, HD.out, rfl⟩
theorem plain_empty (s : ByteArray) (hs : s.size ≤ 64) (h0 : ¬ 0 < s.size) (w : World) : Calls Try.prog 44 #[.string s] w (PlPost false (s.data.toList) w) := by
  obtain ⟨l, hl⟩ : ∃ l, s.data.toList = l := ⟨_, rfl⟩
  rw [hl]
  have g1 : decide (0 < (s.size : Int)) = false := pos_no h0
  go_enter Try.func44, Try.ntmps44
  go_wp2_with fail
  have hrl := hl
  clear hl
  have HL := Lib.hid hrl
  clear hrl
  refine (refDigits_any s (by omega) _).mono ?_
  rintro e w' ⟨rfl, rfl⟩
  have ha1 := nDg_le s.data.toList
  rw [← size_list] at ha1
  obtain ⟨a, ha⟩ : ∃ a, nDg s.data.toList = a := ⟨_, rfl⟩
  rw [ha] at ha1 ⊢
  obtain ⟨x, hx⟩ : ∃ x : ByteArray, s.extract a s.size = x := ⟨_, rfl⟩
  obtain ⟨d1, hd1⟩ : ∃ d1 : ByteArray, s.extract 0 a = d1 := ⟨_, rfl⟩
  have hxl : x.data.toList = plR l := by rw [← hx, ext_from]; unfold plR; rw [← HL.out, ha]
  have hd1l : d1.data.toList = l.take (nDg l) := by rw [← hd1, ext_to, ← HL.out, ha]
  have hxs1 : x.size ≤ 64 := by rw [size_list, hxl]; unfold plR; rw [List.length_drop, ← HL.out, ← size_list]; omega
  have hd1s : d1.size ≤ 64 := by rw [size_list, hd1l, List.length_take, ← HL.out, ← size_list]; omega
  have HX := Lib.hid hxl
  have HD1 := Lib.hid hd1l
  have HA : Hid (nDg l = a) := by rw [← HL.out]; exact ha
  clear hxl hd1l ha
  by_cases he : 0 < x.size
  · have e1 : decide (0 < (x.size : Int)) = true := pos_yes he
    have e2 : ((x.size : Int) == 0) = false := eq0_no (by omega)
    have hhd := head_byte x he
    by_cases hp : x[0].toNat = 46
    · have e3 : ((x[0].toNat : Int) == 46) = true := by simp; omega
      obtain ⟨y, hy⟩ : ∃ y : ByteArray, x.extract 1 x.size = y := ⟨_, rfl⟩
      have hyl : y.data.toList = plY l := by rw [← hy, ext_from]; unfold plY; rw [HX.out]
      have hys : y.size ≤ 64 := by rw [size_list, hyl]; unfold plY; rw [List.length_drop, ← HX.out, ← size_list]; omega
      have hhas : plHas l = true := by
        unfold plHas; rw [← HX.out, hhd]
        have : x[0] = 46 := UInt8.toNat_inj.1 hp
        rw [this]; rfl
      have HY := Lib.hid hyl
      have HH := Lib.hid hhas
      clear hyl hhas hp hhd
      go_wp2_with fail
      refine (refDigits_any y (by omega) _).mono ?_
      rintro e w' ⟨rfl, rfl⟩
      have hb1 := nDg_le y.data.toList
      rw [← size_list] at hb1
      obtain ⟨b, hb⟩ : ∃ b, nDg y.data.toList = b := ⟨_, rfl⟩
      rw [hb] at hb1 ⊢
      obtain ⟨z, hz⟩ : ∃ z : ByteArray, y.extract b y.size = z := ⟨_, rfl⟩
      obtain ⟨d2, hd2⟩ : ∃ d2 : ByteArray, y.extract 0 b = d2 := ⟨_, rfl⟩
      have hzl : z.data.toList = plZ l := by rw [← hz, ext_from]; unfold plZ; rw [HH.out, if_pos rfl, ← HY.out, hb]
      have hd2l : d2.data.toList = (plY l).take (nDg (plY l)) := by rw [← hd2, ext_to, ← HY.out, hb]
      have hDl : (d1 ++ d2).data.toList = plD l := by rw [data_app, HD1.out, hd2l]; unfold plD; rw [HH.out, if_pos rfl]
      have hd2s : d2.size ≤ 64 := by rw [size_list, hd2l, List.length_take, ← HY.out, ← size_list]; omega
      have hok : plOk l = (decide (z.size = 0) && decide (0 < d1.size + d2.size)) := by
        unfold plOk; rw [← hzl, ← hDl, empty_size, nonempty_size, size_app]
      have HD := Lib.hid hDl
      clear hzl hd2l hDl hb
      by_cases hz0 : z.size = 0
      · have k1 : ((z.size : Int) == 0) = true := eq0_yes hz0
        by_cases hD0 : 0 < d1.size + d2.size
        · have k2 : decide (0 < ((d1.size : Int) + (d2.size : Int))) = true := decide_eq_true (by omega)
          have HO : Hid (plOk l = true) := by unfold Hid; rw [hok, decide_eq_true hz0, decide_eq_true hD0]; rfl
          clear hok hz0
          go_wp2_with fail
          refine bodyPost_ret (results_tmp5 rfl _ _ _) rfl ?_
          exact ⟨_, by rw [HA.out]; exact ret_five HH.out.symm HO.out.symm, HD.out, rfl⟩
        · have k2 : decide (0 < ((d1.size : Int) + (d2.size : Int))) = false := decide_eq_false (by omega)
          have HO : Hid (plOk l = false) := by unfold Hid; rw [hok, decide_eq_false hD0, Bool.and_false]
          clear hok hz0
          go_wp2_with fail
          refine bodyPost_ret (results_tmp5 rfl _ _ _) rfl ?_
          exact ⟨_, by rw [HA.out]; exact ret_five HH.out.symm HO.out.symm, HD.out, rfl⟩
      · have k1 : ((z.size : Int) == 0) = false := eq0_no hz0
        have HO : Hid (plOk l = false) := by unfold Hid; rw [hok, decide_eq_false hz0, Bool.false_and]
        clear hok hz0
        go_wp2_with fail
        refine bodyPost_ret (results_tmp5 rfl _ _ _) rfl ?_
        exact ⟨_, by rw [HA.out]; exact ret_five HH.out.symm HO.out.symm, HD.out, rfl⟩
    · have e3 : ((x[0].toNat : Int) == 46) = false := by simp; omega
      have hhas : plHas l = false := by
        unfold plHas; rw [← HX.out, hhd]
        have : x[0] ≠ 46 := fun h => hp (by rw [h]; rfl)
        simp [this]
      have hok : plOk l = false := by
        unfold plOk plZ; rw [hhas, if_neg (by simp), ← HX.out, empty_size, decide_eq_false (by omega), Bool.false_and]
      have hDl : d1.data.toList = plD l := by rw [HD1.out]; unfold plD; rw [hhas, if_neg (by simp)]
      have HH := Lib.hid hhas
      have HO := Lib.hid hok
      have HD := Lib.hid hDl
      clear hhas hok hDl hp hhd
      go_wp2_with fail
      refine bodyPost_ret (results_tmp5 rfl _ _ _) rfl ?_
      exact ⟨_, by rw [HA.out]; exact ret_five HH.out.symm HO.out.symm, HD.out, rfl⟩
  · have e1 : decide (0 < (x.size : Int)) = false := pos_no he
    have e2 : ((x.size : Int) == 0) = true := eq0_yes (by omega)
    have hnil : plR l = [] := by rw [← HX.out]; exact List.eq_nil_of_length_eq_zero (by rw [← size_list]; omega)
    have hhas : plHas l = false := by unfold plHas; rw [hnil]; rfl
    have hDl : d1.data.toList = plD l := by rw [HD1.out]; unfold plD; rw [hhas, if_neg (by simp)]
    have hok : plOk l = decide (0 < d1.size) := by
      unfold plOk; rw [← hDl, nonempty_size]; unfold plZ; rw [hhas, if_neg (by simp), hnil]; rfl
    have HH := Lib.hid hhas
    have HD := Lib.hid hDl
    clear hhas hDl hnil
    by_cases hD0 : 0 < d1.size
    · have k2 : decide (0 < (d1.size : Int)) = true := pos_yes hD0
      have HO : Hid (plOk l = true) := by unfold Hid; rw [hok, decide_eq_true hD0]
      clear hok
      go_wp2_with fail
      refine bodyPost_ret (results_tmp5 rfl _ _ _) rfl ?_
      exact ⟨_, by rw [HA.out]; exact ret_five HH.out.symm HO.out.symm, HD.out, rfl⟩
    · have k2 : decide (0 < (d1.size : Int)) = false := pos_no hD0
      have HO : Hid (plOk l = false) := by unfold Hid; rw [hok, decide_eq_false hD0]
      clear hok
      go_wp2_with fail
      refine bodyPost_ret (results_tmp5 rfl _ _ _) rfl ?_
      exact ⟨_, by rw [HA.out]; exact ret_five HH.out.symm HO.out.symm, HD.out, rfl⟩
theorem refPlain_any (s : ByteArray) (hs : s.size ≤ 64) (w : World) : Calls Try.prog 44 #[.string s] w (PlPost (csB s.data.toList) (csL s.data.toList) w) := by
  by_cases h0 : 0 < s.size
  · have hhd := head_byte s h0
    obtain ⟨t, ht⟩ : ∃ t, s.data.toList = s[0] :: t := by
      cases hl : s.data.toList with
      | nil => rw [hl] at hhd; simp at hhd
      | cons x t => rw [hl] at hhd; simp at hhd; exact ⟨t, by rw [hhd]⟩
    by_cases h1 : s[0].toNat = 45
    · have e : s[0] = 45 := UInt8.toNat_inj.1 h1
      have hb : csB s.data.toList = true := by unfold csB Lib.hasPrefix; rw [ht, e]; rfl
      have hl : csL s.data.toList = s.data.toList.drop 1 := by unfold csL; rw [hb, if_pos rfl]; unfold Lib.trimPrefix; rw [show Lib.hasPrefix s.data.toList [45] = true from hb]; rfl
      rw [hb, hl]; exact plain_minus s hs h0 h1 w
    · have hb : csB s.data.toList = false := by
        unfold csB Lib.hasPrefix; rw [ht]
        have : (45 : UInt8) ≠ s[0] := fun h => h1 (by rw [← h]; rfl)
        simp [List.isPrefixOf, this]
      by_cases h2 : s[0].toNat = 43
      · have e : s[0] = 43 := UInt8.toNat_inj.1 h2
        have hp : Lib.hasPrefix s.data.toList [43] = true := by unfold Lib.hasPrefix; rw [ht, e]; rfl
        have hl : csL s.data.toList = s.data.toList.drop 1 := by unfold csL; rw [hb, if_neg (by simp)]; unfold Lib.trimPrefix; rw [hp]; rfl
        rw [hb, hl]; exact plain_plus s hs h0 h2 w
      · have hp : Lib.hasPrefix s.data.toList [43] = false := by
          unfold Lib.hasPrefix; rw [ht]
          have : (43 : UInt8) ≠ s[0] := fun h => h2 (by rw [← h]; rfl)
          simp [List.isPrefixOf, this]
        have hl : csL s.data.toList = s.data.toList := by unfold csL; rw [hb, if_neg (by simp)]; unfold Lib.trimPrefix; rw [hp]; rfl
        rw [hb, hl]; exact plain_none s hs h0 h1 h2 w
  · have hnil : s.data.toList = [] := List.eq_nil_of_length_eq_zero (by rw [← size_list]; omega)
    have hb : csB s.data.toList = false := by rw [hnil]; rfl
    have hl : csL s.data.toList = s.data.toList := by rw [hnil]; rfl
    rw [hb, hl]; exact plain_empty s hs h0 w
end Go.Proofs.Ytaebpjcigajolaa
