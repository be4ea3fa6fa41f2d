/-
  The contracts of cutPower, readWhole and readReal of package dec.
-/
import Derived.Test.YtfilbfenpdaahaaGreatDoorDecParse
import Derived.Test.YtfilbfenpdaahaaGreatDoorDecAny
namespace Go.Proofs.YtfilbfenpdaahaaGreatDoor
open Go.RowKit
open Fx Dc
namespace Dc
def pwAt (r : List UInt8) : Int := Lib.indexAny r [101, 69]
def pwT (r : List UInt8) : List UInt8 := r.drop ((pwAt r).toNat + 1)
def pwD (r : List UInt8) : List UInt8 := csL (pwT r)
def pwOk (r : List UInt8) : Bool := decide (pwAt r < 0) || (rdOk 10 (pwD r) && decide ((pwD r).length ≤ 3))
def pwN (r : List UInt8) : Int := if pwAt r < 0 then 0 else sgn (csB (pwT r)) (rdV 10 (pwD r))
def pwM (r : List UInt8) : List UInt8 := if pwAt r < 0 then r else r.take (pwAt r).toNat
theorem pwAt_lt (r : List UInt8) : -1 ≤ pwAt r ∧ (pwAt r < 0 ∨ pwAt r < r.length) := by
  refine ⟨Lib.indexAny_ge _ _, ?_⟩
  unfold pwAt
  induction r with
  | nil => left; decide
  | cons b l ih =>
    unfold Lib.indexAny
    split
    · right; simp
    · split
      · left; decide
      · rcases ih with h | h
        · have := Lib.indexAny_ge [101, 69] l
          rename_i h2 h3
          have h4 : Lib.indexAny l [101, 69] = -1 := by omega
          rw [h4] at h3; simp at h3
        · right; simp; omega
theorem rdV_bd (base : Int) (hb : 0 ≤ base) (l : List UInt8) : 0 ≤ rdV base l ∧ rdV base l ≤ 4294967296 := by
  unfold rdV
  cases hr : rdD base l 0 with
  | none => simp
  | some m => exact rdD_bd hb (by omega) (by omega) hr
theorem rdV_small (l : List UInt8) (h : l.length ≤ 3) : rdV 10 l ≤ 999 := by
  have key : ∀ (l : List UInt8) (n m : Int), 0 ≤ n → rdD 10 l n = some m → m < (n + 1) * (10 ^ l.length : Nat) := by
    intro l
    induction l with
    | nil => intro n m _ h; simp [rdD] at h; subst h; simp; omega
    | cons c t ih =>
      intro n m hn h
      rw [rdD_cons] at h
      split at h
      · rename_i hd
        have hb := digU_bd (c.toNat : Int)
        have h1 := ih _ m (by omega) h
        rw [List.length_cons, Nat.pow_succ]
        have h2 : (min (n * 10 + digU (c.toNat : Int)) 4294967296 + 1) ≤ (n + 1) * 10 := by omega
        have h3 : (min (n * 10 + digU (c.toNat : Int)) 4294967296 + 1) * ((10 ^ t.length : Nat) : Int) ≤ (n + 1) * 10 * ((10 ^ t.length : Nat) : Int) := Int.mul_le_mul_of_nonneg_right h2 (Int.natCast_nonneg _)
        have h4 : (n + 1) * ((10 ^ t.length * 10 : Nat) : Int) = (n + 1) * 10 * ((10 ^ t.length : Nat) : Int) := by
          rw [Int.natCast_mul, Int.mul_assoc, Int.mul_comm 10]; rfl
        rw [h4]; omega
      · cases h
  unfold rdV
  cases hr : rdD 10 l 0 with
  | none => simp
  | some m =>
    have h1 := key l 0 m (by omega) hr
    have h2 : 10 ^ l.length ≤ 10 ^ 3 := Nat.pow_le_pow_right (by omega) h
    have h3 : (10 : Nat) ^ 3 = 1000 := by decide
    simp only [Option.getD_some]
    rw [h3] at h2
    rw [Int.zero_add, Int.one_mul] at h1
    omega
end Dc
def CpPost (r : List UInt8) (w : World) (e : Ending) (w' : World) : Prop :=
  (pwOk r = true ∧ ∃ m : ByteArray, e = .returned (.tuple #[.string m, .int .i64 (pwN r), .bool true]) ∧ m.data.toList = pwM r ∧ Below w.heap.size w w') ∨
  (pwOk r = false ∧ e = .returned (.tuple #[.string ⟨#[]⟩, .int .i64 0, .bool false]) ∧ Below w.heap.size w w')
theorem below_draws2 {B : Nat} {a w : World} (h : Below B a w) (n : Nat) : Below B a (w.drewN n) := ⟨h.os, h.tape, h.output, h.size, h.block⟩
theorem quiet_left {P : Program} {f : FuncId} {args : Array Value} {w : World} {n : Nat} {v : Value}
    (h : Calls P f args (w.drewN n) fun e w' => e = .returned v ∧ w.drewN n = w') : Calls P f args (w.drewN n) fun e w'' => e = .returned v ∧ ∃ m, w'' = w.drewN m :=
  h.mono fun _ _ ⟨he, hm⟩ => ⟨he, n, hm.symm⟩
theorem ext_list2 (s : ByteArray) (a b : Nat) : (s.extract a b).data.toList = (s.data.toList.drop a).take (b - a) := by
  rw [ByteArray.data_extract, Array.toList_extract]
theorem ext_from2 (s : ByteArray) (a : Nat) : (s.extract a s.size).data.toList = s.data.toList.drop a := by
  rw [ext_list2, List.take_of_length_le]; rw [List.length_drop, ← size_list]; omega
theorem ext_to2 (s : ByteArray) (a : Nat) : (s.extract 0 a).data.toList = s.data.toList.take a := by
  rw [ext_list2, List.drop_zero, Nat.sub_zero]
theorem cutPower_any (s : ByteArray) (hs : s.size ≤ 64) (w : World) : Calls Tryz.prog 107 #[.string s] w (CpPost s.data.toList w) := by
  have hI := indexEe_any s hs w
  obtain ⟨l, hl⟩ : ∃ l, s.data.toList = l := ⟨_, rfl⟩
  have hls : l.length = s.size := by rw [← hl, ← size_list]
  obtain ⟨hat1, hat2⟩ := pwAt_lt l
  rw [hl] at hI ⊢
  change Calls _ _ _ _ (fun e w' => e = .returned (.int .i64 (pwAt l)) ∧ Below w.heap.size w w') at hI
  by_cases hneg : pwAt l < 0
  · have hok : pwOk l = true := by unfold pwOk; rw [decide_eq_true hneg]; rfl
    have hN : pwN l = 0 := by unfold pwN; rw [if_pos hneg]
    have hM : pwM l = l := by unfold pwM; rw [if_pos hneg]
    have H := Lib.hid (And.intro hok (And.intro hN hM))
    have HL := Lib.hid hl
    have e1 : pwAt l = -1 := by omega
    rw [e1] at hI
    have HI := Lib.hid hI
    clear hI hok hN hM hl hls hneg hat1 hat2 e1
    go_enter Tryz.func107, Tryz.ntmps107
    go_wp2_with fail
    refine HI.out.mono ?_
    rintro e w1 ⟨rfl, hb⟩
    have HB := Lib.hid hb
    clear hb
    go_wp2_with fail
    go_ret3
    exact Or.inl ⟨H.out.1, _, by rw [H.out.2.1]; rfl, by rw [H.out.2.2]; exact HL.out, HB.out⟩
  · have hlt : pwAt l < l.length := by omega
    obtain ⟨k, hk⟩ : ∃ k : Nat, pwAt l = k := ⟨(pwAt l).toNat, by omega⟩
    have hkl : k < s.size := by omega
    rw [hk] at hI
    have hT : pwT l = l.drop (k + 1) := by unfold pwT; rw [hk]; rfl
    have hM : pwM l = l.take k := by unfold pwM; rw [if_neg hneg, hk]; rfl
    have hN : pwN l = sgn (csB (pwT l)) (rdV 10 (pwD l)) := by unfold pwN; rw [if_neg hneg]
    have hok : pwOk l = (rdOk 10 (pwD l) && decide ((pwD l).length ≤ 3)) := by unfold pwOk; rw [decide_eq_false hneg]; rfl
    obtain ⟨t, ht⟩ : ∃ t : ByteArray, s.extract (k + 1) s.size = t := ⟨_, rfl⟩
    have htl : t.data.toList = pwT l := by rw [← ht, ext_from2, hl, hT]
    obtain ⟨m, hm⟩ : ∃ m : ByteArray, s.extract 0 k = m := ⟨_, rfl⟩
    have hml : m.data.toList = pwM l := by rw [← hm, ext_to2, hl, hM]
    have hCS := fun w => cutSign_any t w
    rw [htl] at hCS
    change ∀ w, Calls _ _ _ _ (StrBool (pwD l) (csB (pwT l)) w) at hCS
    have hDlen : (pwD l).length ≤ 64 := by
      have h1 := csL_len (pwT l); unfold pwD; have h2 : (pwT l).length ≤ l.length := by rw [hT, List.length_drop]; omega
      omega
    have hRb := rdV_bd 10 (by omega) (pwD l)
    have hRs := rdV_small (pwD l)
    obtain ⟨V, hV⟩ : ∃ V, rdV 10 (pwD l) = V := ⟨_, rfl⟩
    obtain ⟨b, hb⟩ : ∃ b, csB (pwT l) = b := ⟨_, rfl⟩
    rw [hV] at hRb hRs
    rw [hb] at hCS
    rw [hV, hb] at hN
    obtain ⟨hV0, hV1⟩ := hRb
    have HI := Lib.hid hI
    have HCS := Lib.hid hCS
    have HML := Lib.hid hml
    have HN := Lib.hid hN
    have HV := Lib.hid hV
    have HRs := Lib.hid hRs
    clear hI hCS hml hN hV hb hT hM hk hneg hat1 hat2 hlt htl hRs
    cases hrok : rdOk 10 (pwD l)
    · have HO : Hid (pwOk l = false) := by unfold Hid; rw [hok, hrok]; rfl
      have HR := Lib.hid hrok
      clear hok hrok hl hls
      go_enter Tryz.func107, Tryz.ntmps107
      go_wp2_with fail
      refine HI.out.mono ?_
      rintro e w1 ⟨rfl, hb⟩
      have HB := Lib.hid hb
      clear hb
      go_wp2_with fail
      refine (HCS.out _).mono ?_
      rintro e w2 ⟨d, rfl, hd, rfl⟩
      have hds : d.size ≤ 64 := len_le hd hDlen
      have hRD := readDigits_any d 10 (by omega) (by omega) (by omega) w1
      rw [hd, HR.out, HV.out] at hRD
      have HRD := Lib.hid hRD
      clear hd hRD
      go_wp2_with fail
      refine HRD.out.mono ?_
      rintro e w2 ⟨rfl, rfl⟩
      go_wp2_with fail
      go_ret3
      exact Or.inr ⟨HO.out, rfl, HB.out⟩
    · by_cases h3 : (pwD l).length ≤ 3
      · have HO : Hid (pwOk l = true) := by unfold Hid; rw [hok, hrok, decide_eq_true h3]; rfl
        have HR := Lib.hid hrok
        have H3 := Lib.hid h3
        have hV9 := HRs.out h3
        clear hok hrok hl hls h3
        go_enter Tryz.func107, Tryz.ntmps107
        go_wp2_with fail
        refine HI.out.mono ?_
        rintro e w1 ⟨rfl, hb⟩
        have HB := Lib.hid hb
        clear hb
        go_wp2_with fail
        refine (HCS.out _).mono ?_
        rintro e w2 ⟨d, rfl, hd, rfl⟩
        have hds : d.size ≤ 3 := len_le hd H3.out
        have hRD := readDigits_any d 10 (by omega) (by omega) (by omega) w1
        rw [hd, HR.out, HV.out] at hRD
        have HRD := Lib.hid hRD
        have hd3 : decide (3 < (d.size : Int)) = false := decide_eq_false (by omega)
        clear hd hRD
        go_wp2_with fail
        refine HRD.out.mono ?_
        rintro e w2 ⟨rfl, rfl⟩
        go_wp2_with fail
        go_quiet ((go_at_call 106; exact quiet_left (decSigned_any _ _ _ (by omega) (by omega))))
        go_wp2_with fail
        go_ret3
        exact Or.inl ⟨HO.out, _, by rw [HN.out]; rfl, HML.out, below_draws2 HB.out _⟩
      · have HO : Hid (pwOk l = false) := by unfold Hid; rw [hok, decide_eq_false h3, Bool.and_false]
        have HR := Lib.hid hrok
        have H3 := Lib.hid h3
        clear hok hrok hl hls h3
        go_enter Tryz.func107, Tryz.ntmps107
        go_wp2_with fail
        refine HI.out.mono ?_
        rintro e w1 ⟨rfl, hb⟩
        have HB := Lib.hid hb
        clear hb
        go_wp2_with fail
        refine (HCS.out _).mono ?_
        rintro e w2 ⟨d, rfl, hd, rfl⟩
        have hds : d.size ≤ 64 := len_le hd hDlen
        have hds3 : 3 < d.size := by rw [size_list, hd]; have := H3.out; omega
        have hRD := readDigits_any d 10 (by omega) (by omega) (by omega) w1
        rw [hd, HR.out, HV.out] at hRD
        have HRD := Lib.hid hRD
        have hd3 : decide (3 < (d.size : Int)) = true := decide_eq_true (by omega)
        clear hd hRD
        go_wp2_with fail
        refine HRD.out.mono ?_
        rintro e w2 ⟨rfl, rfl⟩
        go_wp2_with fail
        go_ret3
        exact Or.inr ⟨HO.out, rfl, HB.out⟩
namespace Dc
/-- a whole number as a program's token -/
def whoO (l : List UInt8) : Option Int := if (rdOk 10 (csL l) && fits (sgn (csB l) (rdV 10 (csL l)))) = true then some (sgn (csB l) (rdV 10 (csL l))) else none
/-- a real as a program's token: is it one; its number -/
def reaOk (l : List UInt8) : Bool := pwOk (csL l) && manOk (pwM (csL l))
def reaN (l : List UInt8) : Int := sgn (csB l) (manN (pwM (csL l)) (pwN (csL l)))
theorem pwN_bd (l : List UInt8) (h : pwOk l = true) : -999 ≤ pwN l ∧ pwN l ≤ 999 := by
  unfold pwN
  split
  · omega
  · rename_i hn
    have h3 : (pwD l).length ≤ 3 := by
      unfold pwOk at h; rw [decide_eq_false hn] at h; simp at h; exact h.2
    have h1 := rdV_small (pwD l) h3
    have h2 := rdV_bd 10 (by omega) (pwD l)
    unfold sgn; split <;> omega
theorem pwM_len (l : List UInt8) : (pwM l).length ≤ l.length := by
  unfold pwM; split
  · exact Nat.le_refl _
  · rw [List.length_take]; omega
end Dc
theorem readWhole_any (s : ByteArray) (hs : s.size ≤ 64) (w : World) :
    Calls Tryz.prog 87 #[.string s] w fun e w' => e = .returned (.tuple #[.agg #[.int .i64 (if (whoO s.data.toList).isSome = true then 1 else 0), .int .i64 ((whoO s.data.toList).getD 0), .string ⟨#[]⟩], .bool (whoO s.data.toList).isSome]) ∧ Below w.heap.size w w' := by
  have hCS := fun w => cutSign_any s w
  have hDlen := csL_len s.data.toList
  rw [← size_list] at hDlen
  have hRb := rdV_bd 10 (by omega) (csL s.data.toList)
  unfold whoO
  obtain ⟨r, hr⟩ : ∃ r, csL s.data.toList = r := ⟨_, rfl⟩
  obtain ⟨b, hb⟩ : ∃ b, csB s.data.toList = b := ⟨_, rfl⟩
  rw [hr, hb]
  rw [hr] at hDlen hRb
  rw [hr, hb] at hCS
  obtain ⟨V, hV⟩ : ∃ V, rdV 10 r = V := ⟨_, rfl⟩
  obtain ⟨k, hk⟩ : ∃ k, rdOk 10 r = k := ⟨_, rfl⟩
  rw [hV] at hRb
  rw [hV, hk]
  obtain ⟨hV0, hV1⟩ := hRb
  obtain ⟨S, hS⟩ : ∃ S, sgn b V = S := ⟨_, rfl⟩
  rw [hS]
  have HCS := Lib.hid hCS
  have HV := Lib.hid (And.intro hV hk)
  have HS := Lib.hid hS
  clear hCS hr hb hV hk hS
  cases k
  · simp only [Bool.false_and, Bool.false_eq_true, if_false, Option.isSome_none, Option.getD_none]
    go_enter Tryz.func87, Tryz.ntmps87
    go_wp2_with fail
    refine (HCS.out _).mono ?_
    rintro e w2 ⟨d, rfl, hd, rfl⟩
    have hds : d.size ≤ 64 := len_le hd (by omega)
    have hRD := fun w => readDigits_any d 10 (by omega) (by omega) (by omega) w
    rw [hd, HV.out.1, HV.out.2] at hRD
    have HRD := Lib.hid hRD
    clear hd hRD
    go_wp2_with fail
    refine (HRD.out _).mono ?_
    rintro e w2 ⟨rfl, rfl⟩
    go_wp2_with fail
    refine (decSigned_any _ _ _ (by omega) (by omega)).mono ?_
    rintro e w2 ⟨rfl, rfl⟩
    go_wp2_with fail
    exact bodyPost_ret (v := .tuple #[.agg #[.int .i64 0, .int .i64 0, .string ⟨#[]⟩], .bool false]) (by simp [results, Tryz.results87, go_sem]) rfl ⟨rfl, (Below.refl _ _).alloc (Nat.le_refl _) _⟩
  · cases hf : fits S
    · simp only [Bool.and_false, Bool.false_eq_true, if_false, Option.isSome_none, Option.getD_none]
      have hn := (fits_no S).1 hf
      clear hf
      rcases hn with hn | hn
      · go_enter Tryz.func87, Tryz.ntmps87
        go_wp2_with fail
        refine (HCS.out _).mono ?_
        rintro e w2 ⟨d, rfl, hd, rfl⟩
        have hds : d.size ≤ 64 := len_le hd (by omega)
        have hRD := fun w => readDigits_any d 10 (by omega) (by omega) (by omega) w
        rw [hd, HV.out.1, HV.out.2] at hRD
        have HRD := Lib.hid hRD
        clear hd hRD
        go_wp2_with fail
        refine (HRD.out _).mono ?_
        rintro e w2 ⟨rfl, rfl⟩
        go_wp2_with fail
        refine (decSigned_any _ _ _ (by omega) (by omega)).mono ?_
        rintro e w2 ⟨rfl, rfl⟩
        rw [HS.out]
        go_wp2_with fail
        exact bodyPost_ret (v := .tuple #[.agg #[.int .i64 0, .int .i64 0, .string ⟨#[]⟩], .bool false]) (by simp [results, Tryz.results87, go_sem]) rfl ⟨rfl, (Below.refl _ _).alloc (Nat.le_refl _) _⟩
      · have hn2 : ¬ S < -2147483648 := by omega
        go_enter Tryz.func87, Tryz.ntmps87
        go_wp2_with fail
        refine (HCS.out _).mono ?_
        rintro e w2 ⟨d, rfl, hd, rfl⟩
        have hds : d.size ≤ 64 := len_le hd (by omega)
        have hRD := fun w => readDigits_any d 10 (by omega) (by omega) (by omega) w
        rw [hd, HV.out.1, HV.out.2] at hRD
        have HRD := Lib.hid hRD
        clear hd hRD
        go_wp2_with fail
        refine (HRD.out _).mono ?_
        rintro e w2 ⟨rfl, rfl⟩
        go_wp2_with fail
        refine (decSigned_any _ _ _ (by omega) (by omega)).mono ?_
        rintro e w2 ⟨rfl, rfl⟩
        rw [HS.out]
        go_wp2_with fail
        exact bodyPost_ret (v := .tuple #[.agg #[.int .i64 0, .int .i64 0, .string ⟨#[]⟩], .bool false]) (by simp [results, Tryz.results87, go_sem]) rfl ⟨rfl, (Below.refl _ _).alloc (Nat.le_refl _) _⟩
    · simp only [Bool.and_self, if_true, Option.isSome_some, Option.getD_some]
      obtain ⟨hn1, hn2⟩ := (fits_iff S).1 hf
      clear hf
      go_enter Tryz.func87, Tryz.ntmps87
      go_wp2_with fail
      refine (HCS.out _).mono ?_
      rintro e w2 ⟨d, rfl, hd, rfl⟩
      have hds : d.size ≤ 64 := len_le hd (by omega)
      have hRD := fun w => readDigits_any d 10 (by omega) (by omega) (by omega) w
      rw [hd, HV.out.1, HV.out.2] at hRD
      have HRD := Lib.hid hRD
      clear hd hRD
      go_wp2_with fail
      refine (HRD.out _).mono ?_
      rintro e w2 ⟨rfl, rfl⟩
      go_wp2_with fail
      refine (decSigned_any _ _ _ (by omega) (by omega)).mono ?_
      rintro e w2 ⟨rfl, rfl⟩
      rw [HS.out]
      go_wp2_with fail
      exact bodyPost_ret (v := .tuple #[.agg #[.int .i64 1, .int .i64 S, .string ⟨#[]⟩], .bool true]) (by simp [results, Tryz.results87, go_sem]) rfl ⟨rfl, (Below.refl _ _).alloc (Nat.le_refl _) _⟩
end Go.Proofs.YtfilbfenpdaahaaGreatDoor
