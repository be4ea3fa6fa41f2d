/-
  The contract of the document's scaled.
-/
import Derived.Test.YtaebpjcigajolaaDecPlain2
namespace Go.Proofs.Ytaebpjcigajolaa
open Go.RowKit
open Fx Dc
namespace Dc
/-- the first k digits as a whole number -/
def whU (xs : List Nat) : Nat → Nat
  | 0 => 0
  | k + 1 => whU xs k * 10 + digAt xs k
theorem whU_mono (xs : List Nat) (k j : Nat) (h : k ≤ j) : whU xs k ≤ whU xs j := by
  induction j with
  | zero => obtain rfl : k = 0 := by omega
            exact Nat.le_refl _
  | succ j ih =>
    rcases Nat.lt_or_ge j k with h1 | h1
    · obtain rfl : k = j + 1 := by omega
      exact Nat.le_refl _
    · have := ih h1; simp only [whU]; omega
theorem whS_eq (xs : List Nat) (k : Nat) : whS xs k = min (whU xs k) 4294967296 := by
  induction k with
  | zero => simp [whS, whU]
  | succ k ih => simp only [whS, whU]; rw [ih]; omega
/-- what scaled answers -/
def scOk (xs : List Nat) (p : Int) : Bool := decide (whU xs p.toNat ≤ 99999)
def scN (xs : List Nat) (p : Int) : Nat := if whU xs p.toNat ≤ 99999 then whU xs p.toNat * 65536 + ((dbls 17 (fracP xs p)).2 + 1) / 2 else 0
theorem digits_at (D : List UInt8) (k : Nat) (c : UInt8) (h : D[k]? = some c) : digAt (digits D) (k : Int) = c.toNat - 48 := by
  apply digAt_at; unfold digits; rw [List.getElem?_map, h]; rfl
end Dc
def S1 (xs : List Nat) (p : Int) (n i : Value) : Prop :=
  ∃ k : Nat, k ≤ p.toNat ∧ i = .int .i64 (k : Int) ∧ n = .int .i64 ((whU xs k : Nat) : Int) ∧ whU xs k ≤ 99999
def i64s (l : List Nat) : List Value := l.map fun (d : Nat) => Value.int .i64 (d : Int)
def S2 (xs : List Nat) (p : Int) (B : Nat) (w : World) (v i : Value) (w' : World) : Prop :=
  ∃ (j : Nat) (v' : Value), v' = v ∧ j ≤ (-p).toNat ∧ i = .int .i64 (p + (j : Int)) ∧ w'.ownsRow B 3 1 v' j (i64s (fromP xs p j)) ∧ Below w.heap.size w w'
def S3 (xs : List Nat) (p : Int) (B : Nat) (w : World) (v i : Value) (w' : World) : Prop :=
  ∃ (k : Nat) (v' : Value), v' = v ∧ k ≤ xs.length ∧ i = .int .i64 (k : Int) ∧ w'.ownsRow B 3 1 v' ((k : Int) - p).toNat (i64s (fromP xs p ((k : Int) - p).toNat)) ∧ Below w.heap.size w w'
def S4 (F : List Nat) (A : Option Addr) (nF cap B : Nat) (w : World) (b k' : Value) (w' : World) : Prop :=
  ∃ k : Nat, k ≤ 17 ∧ k' = .int .i64 (k : Int) ∧ b = .int .i64 (((dbls k F).2 : Nat) : Int) ∧ w'.ownsRow B 3 1 (.slice A nF cap) nF (i64s (dbls k F).1) ∧ Below w.heap.size w w'
def S5 (Y : List Nat) (A : Option Addr) (nF cap B : Nat) (w : World) (o i : Value) (w' : World) : Prop :=
  ∃ k : Nat, k ≤ nF ∧ i = .int .i64 ((k : Int) - 1) ∧ o = .int .i64 (((dbl (Y.drop k)).2 : Nat) : Int) ∧ w'.ownsRow B 3 1 (.slice A nF cap) nF (i64s (Y.take k ++ (dbl (Y.drop k)).1)) ∧ Below w.heap.size w w'
theorem i64s_at (l : List Nat) (k d : Nat) (h : l[k]? = some d) : (i64s l)[k]? = some (.int .i64 (d : Int)) := by
  unfold i64s; rw [List.getElem?_map, h]; rfl
theorem dbl_set (Y : List Nat) (j x c : Nat) (r : List Nat) (hx : Y[j]? = some x) : (i64s (Y.take (j + 1) ++ r)).set j (.int .i64 (((2 * x + c) % 10 : Nat) : Int)) = i64s (Y.take j ++ ((2 * x + c) % 10 :: r)) := by
  unfold i64s
  rw [← List.map_set (f := fun (d : Nat) => Value.int .i64 (d : Int)) (a := (2 * x + c) % 10)]
  congr 1
  have hj : j < Y.length := (List.getElem?_eq_some_iff.1 hx).1
  have e1 : Y.take (j + 1) = Y.take j ++ [x] := by rw [List.take_add_one, hx]; rfl
  rw [e1, List.append_assoc, List.set_append_right _ _ (by simp; omega)]
  have e2 : j - (Y.take j).length = 0 := by simp; omega
  rw [e2]; rfl
theorem int_info : (Try.prog.info? 3).map (fun i => (i.zero, i.size, i.bytes)) = some (some (.int .i64 0), 1, 8) := by kernel_rfl
theorem one_i64 (x : Int) : ∀ u ∈ [Value.int .i64 x], u.oneCell' = true := by
  intro u hu; rw [List.mem_singleton] at hu; subst hu; rfl
theorem fromP_pushI (xs : List Nat) (p : Int) (j : Nat) : i64s (fromP xs p j) ++ [Value.int .i64 ((digAt xs (p + (j : Int)) : Nat) : Int)] = i64s (fromP xs p (j + 1)) := by
  rw [fromP_succ]; simp [i64s]
theorem scaled_any (d : ByteArray) (p : Int) (hall : allDig d.data.toList) (hs : d.size ≤ 100) (hp : -2000 ≤ p) (hp2 : p ≤ 2000) (w : World) :
    Calls Try.prog 45 #[.string d, .int .i64 p] w fun e w' => e = .returned (.tuple #[.int .i64 (scN (digits d.data.toList) p : Nat), .bool (scOk (digits d.data.toList) p)]) ∧ Below w.heap.size w w' := by
  have hxd := digits_digs hall
  have hxl : (digits d.data.toList).length = d.size := by rw [digits_len, ← size_list]
  obtain ⟨xs, hxs⟩ : ∃ xs, xs = digits d.data.toList := ⟨_, rfl⟩
  rw [← hxs] at hxd hxl ⊢
  have HXL := Lib.hid hxl
  have HXS := Lib.hid hxs
  have HALL := Lib.hid hall
  clear hxl hxs hall
  go_enter Try.func45, Try.ntmps45
  go_wp2_with fail
  go_loop [6, 7] (S1 xs p) (fun _ i => p.toNat - (intOf i).toNat)
  case atStart => exact ⟨0, by omega, rfl, rfl, by simp [whU]⟩
  case round =>
    obtain ⟨k, hk, rfl, rfl, hwb⟩ := hrel
    obtain ⟨n, hn⟩ : ∃ n, whU xs k = n := ⟨_, rfl⟩
    rw [hn] at hwb ⊢
    by_cases hkp : (k : Int) < p
    · have hd9 := digAt_le hxd (k : Int)
      have hnext : whU xs (k + 1) = n * 10 + digAt xs (k : Int) := by simp only [whU]; rw [hn]
      obtain ⟨x, hx⟩ : ∃ x, digAt xs (k : Int) = x := ⟨_, rfl⟩
      rw [hx] at hd9 hnext
      have HN := Lib.hid hnext
      by_cases hkl : k < d.size
      · have hc := getElem_of d k hkl
        have hcd := HALL.out _ (List.mem_of_getElem? hc)
        have hxc : digAt xs (k : Int) = d[k].toNat - 48 := by rw [HXS.out]; exact digits_at _ k _ hc
        unfold isDig at hcd
        obtain ⟨hc1, hc2⟩ := hcd
        have hx2 : ((d[k].toNat : Int) - 48) = (x : Int) := by omega
        clear hnext hx hn hc hxc
        by_cases hbig : 99999 < n * 10 + x
        · have HB : Hid (¬ whU xs p.toNat ≤ 99999) := by
            have := whU_mono xs (k + 1) p.toNat (by omega); have := HN.out; unfold Hid; omega
          have HO : Hid (scOk xs p = false) := decide_eq_false HB.out
          have HV : Hid (scN xs p = 0) := if_neg HB.out
          go_wp2_with fail
          go_ret2
          exact ⟨by rw [HO.out, HV.out]; rfl, Below.refl _ _⟩
        · go_wp2_with fail
          go_round
          case rel => exact ⟨k + 1, by omega, by go_num, by rw [HN.out]; go_num, by rw [HN.out]; omega⟩
          case measure => simp [intOf]; omega
      · have hx0 : x = 0 := by rw [← hx]; exact digAt_big (by rw [HXL.out]; omega)
        subst hx0
        clear hnext hx hn
        by_cases hbig : 99999 < n * 10
        · have HB : Hid (¬ whU xs p.toNat ≤ 99999) := by
            have := whU_mono xs (k + 1) p.toNat (by omega); have := HN.out; unfold Hid; omega
          have HO : Hid (scOk xs p = false) := decide_eq_false HB.out
          have HV : Hid (scN xs p = 0) := if_neg HB.out
          go_wp2_with fail
          go_ret2
          exact ⟨by rw [HO.out, HV.out]; rfl, Below.refl _ _⟩
        · go_wp2_with fail
          go_round
          case rel => exact ⟨k + 1, by omega, by go_num, by rw [HN.out]; go_num, by rw [HN.out]; omega⟩
          case measure => simp [intOf]; omega
    · have HK := Lib.hid (show k = p.toNat by omega)
      have hkb : decide ((k : Int) < p) = false := by simp; omega
      have HN : Hid (whU xs p.toNat = n) := by have := HK.out; subst this; exact hn
      clear hk hn
      go_wp2_with fail
      go_loopw [9, 10] (S2 xs p w.heap.size w) (fun _ i _ => (0 - intOf i).toNat)
      case atStart => exact ⟨0, _, rfl, by omega, by simp, World.ownsRow_nil _ _ _ _, Below.refl _ _⟩
      case round =>
        obtain ⟨j, v, rfl, hj, rfl, ho, hb⟩ := hrel
        have hsz := hb.size
        by_cases hneg : p + (j : Int) < 0
        · have HX : Hid (digAt xs (p + (j : Int)) = 0) := digAt_neg hneg
          have HO := Lib.hid ho
          have HB := Lib.hid hb
          obtain ⟨i0, hi, hz0, hz1, hz2⟩ := info_parts int_info
          have HI := Lib.hid (And.intro hi (And.intro hz0 (And.intro hz1 hz2)))
          clear ho hb hi hz0 hz1 hz2
          go_wp2_with (at_builtin; refine wpList_append_own _ rfl (.tmp 42) (.tmp 43) 69 rfl w.heap.size 3 i0 (.int .i64 0) 1 8 Try.underlying69 HI.out.1 HI.out.2.1 HI.out.2.2.1 HI.out.2.2.2 rfl (by decide) v j (i64s (fromP xs p j)) rfl (HO.out.alloc _) ⟨wr.heap.size, 0, none⟩ 1 1 [.int .i64 0] rfl rfl (src_one _ _ _) (one_i64 _) (by unfold maxLen; omega) (by omega) (by simp; omega) ?_)
          intro v2 w3 hown hgr _
          have e0 : (Value.int .i64 0) = Value.int .i64 ((digAt xs (p + (j : Int)) : Nat) : Int) := by rw [HX.out]; rfl
          rw [e0, fromP_pushI] at hown
          have hbel : Below w.heap.size w w3 := (HB.out.alloc HB.out.size _).grown hgr (by simp; omega) (fun q hq => (HO.out.lt q hq).1)
          have HO3 := Lib.hid hown
          have HB3 := Lib.hid hbel
          clear hown hgr hbel e0
          go_wp2_with fail
          go_roundw
          case rel => exact ⟨j + 1, _, rfl, by omega, by go_num, HO3.out, HB3.out⟩
          case measure => simp [intOf]; omega
        · have HJ := Lib.hid (show j = (((0 : Nat) : Int) - p).toNat by omega)
          have HO := Lib.hid ho
          have HB := Lib.hid hb
          clear ho hb hj
          go_wp2_with fail
          go_loopw [9, 11] (S3 xs p w.heap.size w) (fun _ i _ => xs.length - (intOf i).toNat)
          case atStart => exact ⟨0, _, rfl, by omega, rfl, by have := HJ.out; rw [← this]; exact HO.out, HB.out⟩
          case round =>
            clear HO HB HJ hneg hsz
            obtain ⟨i, v, rfl, hi, rfl, ho, hb⟩ := hrel
            have hsz := hb.size
            obtain ⟨m, hm⟩ : ∃ m, ((i : Int) - p).toNat = m := ⟨_, rfl⟩
            rw [hm] at ho
            have hil : i ≤ d.size := by rw [← HXL.out]; exact hi
            by_cases hlt : i < d.size
            · have hc := getElem_of d i hlt
              have hcd := HALL.out _ (List.mem_of_getElem? hc)
              have hxc : digAt xs (i : Int) = d[i].toNat - 48 := by rw [HXS.out]; exact digits_at _ i _ hc
              unfold isDig at hcd
              obtain ⟨hc1, hc2⟩ := hcd
              obtain ⟨x, hx⟩ : ∃ x, digAt xs (i : Int) = x := ⟨_, rfl⟩
              have hx2 : ((d[i].toNat : Int) - 48) = (x : Int) := by omega
              have hxb : x ≤ 9 := by omega
              have HIX := Lib.hid hi
              have HO := Lib.hid ho
              have HB := Lib.hid hb
              have HX := Lib.hid hx
              have HM := Lib.hid hm
              have hmb : m ≤ 3000 := by omega
              clear ho hb hc hxc hx hi hm
              by_cases hip : p ≤ (i : Int)
              · obtain ⟨i0, hi, hz0, hz1, hz2⟩ := info_parts int_info
                have HI := Lib.hid (And.intro hi (And.intro hz0 (And.intro hz1 hz2)))
                clear hi hz0 hz1 hz2
                go_wp2_with (at_builtin; refine wpList_append_own _ rfl (.tmp 54) (.tmp 60) 69 rfl w.heap.size 3 i0 (.int .i64 0) 1 8 Try.underlying69 HI.out.1 HI.out.2.1 HI.out.2.2.1 HI.out.2.2.2 rfl (by decide) v m (i64s (fromP xs p m)) rfl (HO.out.alloc _) ⟨wr.heap.size, 0, none⟩ 1 1 [.int .i64 (x : Int)] rfl rfl (src_one _ _ _) (one_i64 _) (by unfold maxLen; omega) (by omega) (by simp; omega) ?_)
                intro v2 w3 hown hgr _
                have em : p + (m : Int) = (i : Int) := by have := HM.out; omega
                have e0 : (Value.int .i64 (x : Int)) = Value.int .i64 ((digAt xs (p + (m : Int)) : Nat) : Int) := by rw [em, HX.out]
                rw [e0, fromP_pushI] at hown
                have hbel : Below w.heap.size w w3 := (HB.out.alloc HB.out.size _).grown hgr (by simp; omega) (fun q hq => (HO.out.lt q hq).1)
                have HO3 := Lib.hid hown
                have HB3 := Lib.hid hbel
                have HM2 : Hid ((((i + 1 : Nat) : Int) - p).toNat = m + 1) := by have := HM.out; unfold Hid; omega
                clear hown hgr hbel e0 em
                go_wp2_with fail
                go_roundw
                case rel => exact ⟨i + 1, _, rfl, by rw [HXL.out]; omega, by go_num, by rw [HM2.out]; exact HO3.out, HB3.out⟩
                case measure => simp [intOf]; have := HXL.out; omega
              · have HM2 : Hid ((((i + 1 : Nat) : Int) - p).toNat = m) := by have := HM.out; unfold Hid; omega
                go_wp2_with fail
                go_roundw
                case rel => exact ⟨i + 1, _, rfl, by rw [HXL.out]; omega, by go_num, by rw [HM2.out]; exact HO.out, HB.out⟩
                case measure => simp [intOf]; have := HXL.out; omega
            · obtain ⟨F, hF⟩ : ∃ F, F = fracP xs p := ⟨_, rfl⟩
              have him : i = d.size := by omega
              have hFm : fromP xs p m = F := by rw [hF, ← hm, him, ← HXL.out]; rfl
              have hFd : digs F := by rw [hF]; exact fromP_digs hxd _ _
              have hFl : F.length = m := by rw [← hFm]; exact fromP_len _ _ _
              rw [hFm] at ho
              obtain ⟨A, cap, rfl⟩ : ∃ A cap, v = .slice A m cap := by
                rcases ho.2 with ⟨rfl, h0⟩ | ⟨g, cap, cur, rfl, _⟩
                · exact ⟨none, 0, by rw [h0]⟩
                · exact ⟨_, cap, rfl⟩
              have hmb : m ≤ 3000 := by omega
              have hidec : decide ((i : Int) < (d.size : Int)) = false := by simp; omega
              have HF := Lib.hid hF
              have HFL := Lib.hid hFl
              have HO := Lib.hid ho
              have HB := Lib.hid hb
              clear ho hb hF hFm hFl hi hm him
              go_wp2_with fail
              go_loopw [12, 13] (S4 F A m cap w.heap.size w) (fun _ k _ => 17 - (intOf k).toNat)
              case atStart => exact ⟨0, by omega, rfl, rfl, HO.out, HB.out⟩
              case round =>
                clear HO HB hsz
                obtain ⟨q, hq, rfl, rfl, ho, hb⟩ := hrel
                have hqb := dbls_bd q F hFd
                have hq2 : 2 ^ q ≤ 2 ^ 17 := Nat.pow_le_pow_right (by omega) hq
                obtain ⟨M, hM⟩ : ∃ M, (dbls q F).2 = M := ⟨_, rfl⟩
                obtain ⟨Y, hY⟩ : ∃ Y, (dbls q F).1 = Y := ⟨_, rfl⟩
                have hYd : digs Y := by rw [← hY]; exact dbls_digs q F hFd
                have hYl : Y.length = m := by rw [← hY, dbls_len]; exact HFL.out
                rw [hM] at hqb ⊢
                rw [hY] at ho
                have hMb : M < 131072 := by have : (2 : Nat) ^ 17 = 131072 := by decide
                                            omega
                have HM := Lib.hid hM
                have HY := Lib.hid hY
                have HYL := Lib.hid hYl
                have HO := Lib.hid ho
                have HB := Lib.hid hb
                clear hM hY hYl ho hb hqb hq2
                by_cases hq17 : q < 17
                · go_wp2_with fail
                  go_loopw [14, 15] (S5 Y A m cap w.heap.size w) (fun _ i _ => (intOf i + 1).toNat)
                  case atStart =>
                    refine ⟨m, Nat.le_refl _, rfl, ?_, ?_, HB.out⟩
                    · rw [List.drop_of_length_le (by rw [HYL.out]; exact Nat.le_refl _)]; rfl
                    · rw [List.drop_of_length_le (by rw [HYL.out]; exact Nat.le_refl _), List.take_of_length_le (by rw [HYL.out]; exact Nat.le_refl _)]; simpa [dbl] using HO.out
                  case round =>
                    clear HO HB
                    obtain ⟨t, ht, rfl, rfl, ho, hb⟩ := hrel
                    cases t with
                    | zero =>
                      simp only [List.drop_zero, List.take_zero, List.nil_append] at ho ⊢
                      have hc1 := dbl_carry Y hYd
                      obtain ⟨c, hc⟩ : ∃ c, (dbl Y).2 = c := ⟨_, rfl⟩
                      rw [hc] at hc1 ⊢
                      have HC := Lib.hid hc
                      have HO := Lib.hid ho
                      have HB := Lib.hid hb
                      clear ho hb hc
                      go_wp2_with fail
                      go_roundw
                      case rel =>
                        refine ⟨q + 1, by omega, by go_num, ?_, ?_, HB.out⟩
                        · have e1 : (dbls (q + 1) F).2 = M * 2 + c := by simp only [dbls]; rw [HY.out, HM.out, HC.out]; omega
                          rw [e1]; go_num
                        · have e2 : (dbls (q + 1) F).1 = (dbl Y).1 := by simp only [dbls]; rw [HY.out]
                          rw [e2]; exact HO.out
                      case measure => simp [intOf]; omega
                    | succ j =>
                      have hj : j < m := by omega
                      obtain ⟨x, hxj⟩ : ∃ x, Y[j]? = some x := ⟨_, List.getElem?_eq_getElem (by rw [HYL.out]; exact hj)⟩
                      have hx9 : x ≤ 9 := hYd x (List.mem_of_getElem? hxj)
                      have hdrop : Y.drop j = x :: Y.drop (j + 1) := by
                        obtain ⟨h1, rfl⟩ := List.getElem?_eq_some_iff.1 hxj
                        exact List.drop_eq_getElem_cons h1
                      have hc1 : (dbl (Y.drop (j + 1))).2 ≤ 1 := dbl_carry _ (fun d hd => hYd d (List.mem_of_mem_drop hd))
                      obtain ⟨c, hc⟩ : ∃ c, (dbl (Y.drop (j + 1))).2 = c := ⟨_, rfl⟩
                      obtain ⟨r, hr⟩ : ∃ r, (dbl (Y.drop (j + 1))).1 = r := ⟨_, rfl⟩
                      have hd : dbl (Y.drop j) = ((2 * x + c) % 10 :: r, (2 * x + c) / 10) := by rw [hdrop, dbl_cons, hc, hr]
                      rw [hr] at ho
                      rw [hc] at hc1 ⊢
                      obtain ⟨g, cap2, hv, hg1⟩ : ∃ g cap2, Value.slice A m cap = .slice (some ⟨g, 0, none⟩) m cap2 ∧ w.heap.size ≤ g := by
                        rcases ho.2 with ⟨_, h0⟩ | ⟨g, cap2, cur, hv, hg, _⟩
                        · omega
                        · exact ⟨g, cap2, hv, hg⟩
                      injection hv with hA _ hcap
                      subst hA hcap
                      have hcell : wr.cell? ⟨g, j, none⟩ = some (.int .i64 (x : Int)) := by
                        rw [ho.cellAt j (by omega)]
                        apply i64s_at
                        rw [List.getElem?_append_left (by simp; have := HYL.out; omega), List.getElem?_take, if_pos (by omega), hxj]
                      have hfz : wr.frozen? ⟨g, j, none⟩ = false := ho.frozenAt j
                      have hst := ho.stored j (.int .i64 (((2 * x + c) % 10 : Nat) : Int))
                      rw [dbl_set Y j x c r hxj] at hst
                      have HN2 : Hid (S5 Y (some ⟨g, 0, none⟩) m cap w.heap.size w (.int .i64 (((2 * x + c) / 10 : Nat) : Int)) (.int .i64 ((j : Int) - 1)) (wr.setCell ⟨g, j, none⟩ (.int .i64 (((2 * x + c) % 10 : Nat) : Int)))) :=
                        ⟨j, by omega, rfl, by rw [hd], by rw [hd]; exact hst.1, hb.setCell hg1 _⟩
                      have e : (((j + 1 : Nat) : Int) - 1) = (j : Int) := by omega
                      rw [e]
                      have e3 : ((((2 * x + c) % 10 : Nat)) : Int) = ((x : Int) * 2 + (c : Int)) % 10 := by omega
                      have e4 : ((((2 * x + c) / 10 : Nat)) : Int) = ((x : Int) * 2 + (c : Int)) / 10 := by omega
                      rw [e3, e4] at HN2
                      clear hst hd hdrop hxj hr hc e e3 e4 ho hb
                      go_wp2_with fail
                      exact ⟨HN2.out, by simp [intOf]⟩
                · obtain rfl : q = 17 := by omega
                  have HP : Hid (whU xs p.toNat ≤ 99999) := by unfold Hid; rw [HN.out]; exact hwb
                  have HOk : Hid (scOk xs p = true) := decide_eq_true HP.out
                  have HV : Hid (scN xs p = n * 65536 + (M + 1) / 2) := by
                    unfold Hid scN; rw [if_pos HP.out, HN.out, ← HF.out, HM.out]
                  go_wp2_with fail
                  go_ret2
                  exact ⟨by rw [HOk.out, HV.out]; go_num, HB.out⟩
end Go.Proofs.Ytaebpjcigajolaa
