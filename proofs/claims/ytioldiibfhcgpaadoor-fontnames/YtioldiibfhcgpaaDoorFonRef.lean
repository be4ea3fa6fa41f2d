/-
  The contract of the document's Width.
-/
import Derived.Test.YtioldiibfhcgpaaDoorFonWid
namespace Go.Proofs.YtioldiibfhcgpaaDoor
open Go.RowKit
namespace Fo
theorem drop_bytes (s : ByteArray) (l : List UInt8) (h : s.data.toList = l) (k : Nat) (hk : k < s.size) : l.drop k = s[k] :: l.drop (k + 1) := by
  subst h; exact List.drop_eq_getElem_cons (by simpa using hk)
/-- which of the six tables -/
def tno : Nat → Nat
  | 4 | 6 => 0
  | 5 | 7 => 1
  | 8 => 2
  | 9 => 3
  | 10 => 4
  | 11 => 5
  | _ => 6
theorem tno_ok : ∀ k, k < 14 → (tno k < 6 ∧ tabL k = txt (tno k) ∧ wdL k = wds (tno k)) ∨ (tno k = 6 ∧ tabL k = [] ∧ wdL k = List.replicate 95 (if k = 13 then 788 else 600)) := by decide +kernel
def TblR (W : List Int) (L : List UInt8) (d : Nat) (t0 t4 i : Value) : Prop := ∃ k s n : Nat, k ≤ L.length ∧ s ≤ d ∧ t0 = .int .i64 ((d : Int) - (s : Int)) ∧ t4 = .int .i64 (n : Int) ∧ i = .int .i64 (k : Int) ∧ chk W (L.drop k) s n = true
theorem refWidth_out (i c : Int) (h : i < 0 ∨ 13 < i ∨ c < 32 ∨ 126 < c) (w : World) : Calls Tryd.prog 9 #[.int .i64 i, .int .u8 c] w fun e w' => e = .returned (.int .i64 0) ∧ w = w' := by
  by_cases h1 : i < 0
  · go_enter Tryd.func9, Tryd.ntmps9
    go_wp2_with fail
    go_ret
    exact ⟨rfl, rfl⟩
  by_cases h2 : 13 < i
  · go_enter Tryd.func9, Tryd.ntmps9
    go_wp2_with fail
    go_ret
    exact ⟨rfl, rfl⟩
  by_cases h3 : c < 32
  · go_enter Tryd.func9, Tryd.ntmps9
    go_wp2_with fail
    go_ret
    exact ⟨rfl, rfl⟩
  have h4 : 126 < c := by omega
  go_enter Tryd.func9, Tryd.ntmps9
  go_wp2_with fail
  go_ret
  exact ⟨rfl, rfl⟩
set_option maxRecDepth 100000 in
theorem refWidth_in (k d : Nat) (hk : k < 14) (hd : d < 95) (w : World) : Calls Tryd.prog 9 #[.int .i64 k, .int .u8 ((d : Int) + 32)] w fun e w' => e = .returned (.int .i64 ((wdL k).getD d 0)) ∧ w = w' := by
  have HT := Lib.hid (table_at k hk w)
  obtain ⟨R, hR⟩ : ∃ R, (wdL k).getD d 0 = R := ⟨_, rfl⟩
  rw [hR]
  have k0 : (0 : Int) ≤ k := by omega
  have k1 : (k : Int) ≤ 13 := by omega
  have d0 : (32 : Int) ≤ (d : Int) + 32 := by omega
  have d1 : (d : Int) + 32 ≤ 126 := by omega
  have d2 : (d : Int) + 32 - 32 = d := by omega
  rcases tno_ok k hk with ⟨t1, t2, t3⟩ | ⟨t1, t2, t3⟩
  · obtain ⟨j, hj⟩ : ∃ j, tno k = j := ⟨_, rfl⟩
    rw [hj] at t1 t2 t3
    have hlen := txt_len j t1
    have hchk := chk_all j t1
    rw [t3] at hR
    rw [t2] at HT
    obtain ⟨L, hL⟩ : ∃ L, txt j = L := ⟨_, rfl⟩
    obtain ⟨W, hW⟩ : ∃ W, wds j = W := ⟨_, rfl⟩
    rw [hL] at HT hlen hchk
    rw [hW] at hR hchk
    have HR := Lib.hid hR
    have HC := Lib.hid hchk
    have HLen := Lib.hid hlen
    clear hL hW hR hchk hlen t1 t2 t3 hj hk
    go_enter Tryd.func9, Tryd.ntmps9
    go_wp2_with fail
    refine HT.out.mono ?_; rintro e w1 ⟨s, rfl, hsL, rfl⟩
    have HL := Lib.hid hsL
    have hsz : s.size = L.length := by rw [← hsL]; simp
    have hs1 : s.toList.isEmpty = false := by
      rw [ByteArray.toList_eq, hsL]
      cases L with
      | nil => exact absurd HLen.out.1 (by simp)
      | cons c r => rfl
    have HSz := Lib.hid hsz
    clear hsL HT
    go_wp2_with fail
    go_loop [6, 7, 8] (TblR W L d) (fun _ _ i => 400 - (intOf i).toNat)
    case atStart => exact ⟨0, 0, 0, by simp, by omega, by simp, rfl, rfl, HC.out⟩
    case round =>
      obtain ⟨k, q, n, hk, hq, rfl, rfl, rfl, hchk⟩ := hrel
      by_cases hlt : k < s.size
      · have hk4 : k < 400 := by have := HSz.out; have := HLen.out; omega
        have hdrop : L.drop k = s[k] :: L.drop (k + 1) := drop_bytes s L HL.out k hlt
        rw [hdrop] at hchk
        obtain ⟨hn, hq9, hcase⟩ := chk_cons hchk
        clear hchk hdrop
        rcases hcase with ⟨hc, hv, hnext⟩ | ⟨hc, hc1, hc2, hnext⟩
        · have hb : (s[k].toNat : Int) = 32 := by rw [hc]; rfl
          have HV := Lib.hid hv
          have HX := Lib.hid hnext
          clear hc hv hnext
          by_cases he : q = d
          · subst he
            have hz : ((q : Int) - (q : Int)) = 0 := by omega
            rw [hz]
            go_wp2_with fail
            go_ret
            exact ⟨ret_int (by rw [← HR.out, HV.out]), rfl⟩
          · have hz : (((d : Int) - (q : Int)) == 0) = false := by simp; omega
            go_wp2_with fail
            go_round
            case rel => exact ⟨k + 1, q + 1, 0, by have := HSz.out; omega, by omega, by go_num, rfl, by go_num, HX.out⟩
            case measure => simp [intOf]; have := HSz.out; have := HLen.out; omega
        · have HX := Lib.hid hnext
          clear hnext
          have hb : ((s[k].toNat : Int) == 32) = false := by
            have : s[k].toNat ≠ 32 := fun e => hc (UInt8.toNat_inj.1 (by rw [e]; rfl))
            simp; omega
          clear hc
          go_wp2_with fail
          go_round
          case rel => exact ⟨k + 1, q, n * 10 + (s[k].toNat - 48), by have := HSz.out; omega, hq, rfl, by go_num, by go_num, HX.out⟩
          case measure => simp [intOf]; have := HSz.out; have := HLen.out; omega
      · have hend : L.drop k = [] := List.drop_of_length_le (by have := HSz.out; omega)
        rw [hend] at hchk
        obtain ⟨rfl, hw⟩ := chk_nil hchk
        obtain rfl : d = 94 := by omega
        have HW := Lib.hid hw
        clear hchk hend hw
        go_wp2_with fail
        go_ret
        exact ⟨ret_int (by rw [← HR.out, HW.out]), rfl⟩
  · rw [t2] at HT
    by_cases h13 : k = 13
    · subst h13
      rw [if_pos rfl] at t3
      have hv : (788 : Int) = R := by rw [← hR, t3, List.getD_eq_getElem?_getD, List.getElem?_replicate_of_lt hd]; rfl
      clear t1 t2 t3 hR
      subst hv
      go_enter Tryd.func9, Tryd.ntmps9
      go_wp2_with fail
      refine HT.out.mono ?_; rintro e w1 ⟨s, rfl, hsL, rfl⟩
      have hs1 : s.toList.isEmpty = true := by rw [ByteArray.toList_eq, hsL]; rfl
      go_wp2_with fail
      go_ret
      exact ⟨rfl, rfl⟩
    · rw [if_neg h13] at t3
      have hv : (600 : Int) = R := by rw [← hR, t3, List.getD_eq_getElem?_getD, List.getElem?_replicate_of_lt hd]; rfl
      have hk3 : ((k : Int) == 13) = false := by simp; omega
      clear t1 t2 t3 hR
      subst hv
      go_enter Tryd.func9, Tryd.ntmps9
      go_wp2_with fail
      refine HT.out.mono ?_; rintro e w1 ⟨s, rfl, hsL, rfl⟩
      have hs1 : s.toList.isEmpty = true := by rw [ByteArray.toList_eq, hsL]; rfl
      go_wp2_with fail
      go_ret
      exact ⟨rfl, rfl⟩
theorem refWidth_at (i c : Int) (hc : 0 ≤ c ∧ c < 256) (w : World) : Calls Tryd.prog 9 #[.int .i64 i, .int .u8 c] w fun e w' => e = .returned (.int .i64 (wid i c)) ∧ w = w' := by
  by_cases h : i < 0 ∨ 13 < i ∨ c < 32 ∨ 126 < c
  · have e : wid i c = 0 := by
      by_cases hc : c < 32 ∨ 126 < c
      · exact wid_out i c hc
      · have hi : fno i = 14 := by unfold fno; rw [if_neg (by omega)]
        rw [wid_in i c (by omega) (by omega), hi]
        show (List.replicate 95 (0 : Int)).getD _ 0 = 0
        rw [List.getD_eq_getElem?_getD, List.getElem?_replicate_of_lt (by omega)]; rfl
    rw [e]
    exact refWidth_out i c h w
  · obtain ⟨k, rfl⟩ : ∃ k : Nat, i = k := ⟨i.toNat, by omega⟩
    obtain ⟨d, rfl⟩ : ∃ d : Nat, c = (d : Int) + 32 := ⟨(c - 32).toNat, by omega⟩
    have hk : fno (k : Int) = k := by unfold fno; rw [if_pos (by omega)]; omega
    rw [wid_in _ _ (by omega) (by omega), hk]
    have e : ((d : Int) + 32 - 32).toNat = d := by omega
    rw [e]
    exact refWidth_in k d (by omega) (by omega) w
end Fo
end Go.Proofs.YtioldiibfhcgpaaDoor
