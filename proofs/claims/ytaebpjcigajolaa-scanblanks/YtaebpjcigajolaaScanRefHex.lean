/-
  A string in pointed brackets: the document's own answer, by contracts.
-/
import Derived.Test.YtaebpjcigajolaaScanRefStr
namespace Go.Proofs.Ytaebpjcigajolaa
open Go.RowKit
open Sc
theorem refHexd_yes {c d : UInt8} (h : hexd c = some d) (w : World) : Calls Try.prog 40 #[.int .u8 c.toNat] w fun e w' => e = .returned (.int .i64 d.toNat) ∧ w' = w := by
  have hc : c.toNat < 256 := UInt8.toNat_lt _
  unfold hexd at h
  have sb : ∀ k : UInt8, k.toNat ≤ c.toNat → (c - k).toNat = c.toNat - k.toNat := fun k hk => UInt8.toNat_sub_of_le _ _ (by rw [UInt8.le_iff_toNat_le]; exact hk)
  split at h
  · rename_i hr
    cases h
    have e : ((c - 48).toNat : Int) = (c.toNat : Int) - 48 := by rw [sb 48 hr.1]; have : (48 : UInt8).toNat = 48 := rfl; rw [this]; omega
    rw [e]
    have h1 := hr.1
    have h2 := hr.2
    clear hr sb e
    go_enter Try.func40, Try.ntmps40
    go_wp2_with fail
    go_ret
    exact ⟨rfl, rfl⟩
  split at h
  · rename_i hn hr
    cases h
    have e : ((c - 87).toNat : Int) = (c.toNat : Int) - 97 + 10 := by rw [sb 87 (by have : (87 : UInt8).toNat = 87 := rfl; omega)]; have : (87 : UInt8).toNat = 87 := rfl; rw [this]; omega
    rw [e]
    have h1 := hr.1
    have h2 := hr.2
    clear hr sb e hn
    go_enter Try.func40, Try.ntmps40
    go_wp2_with fail
    go_ret
    exact ⟨rfl, rfl⟩
  split at h
  · rename_i hn hn2 hr
    cases h
    have e : ((c - 55).toNat : Int) = (c.toNat : Int) - 65 + 10 := by rw [sb 55 (by have : (55 : UInt8).toNat = 55 := rfl; omega)]; have : (55 : UInt8).toNat = 55 := rfl; rw [this]; omega
    rw [e]
    have h1 := hr.1
    have h2 := hr.2
    clear hr sb e hn hn2
    go_enter Try.func40, Try.ntmps40
    go_wp2_with fail
    go_ret
    exact ⟨rfl, rfl⟩
  · cases h
def NoDigit (w : World) (e : Ending) (w' : World) : Prop := ∃ n : Int, 15 < n ∧ e = .returned (.int .i64 n) ∧ w' = w
theorem refHexd_no {c : UInt8} (h : hexd c = none) (w : World) : Calls Try.prog 40 #[.int .u8 c.toNat] w (NoDigit w) := by
  have hc : c.toNat < 256 := UInt8.toNat_lt _
  unfold hexd at h
  split at h; · cases h
  split at h; · cases h
  split at h; · cases h
  rename_i h1 h2 h3
  have H1 := Lib.hid h1
  have H2 := Lib.hid h2
  have H3 := Lib.hid h3
  clear h1 h2 h3 h
  go_enter Try.func40, Try.ntmps40
  go_wp2_with fail
  all_goals try (exfalso; have := H1.out; have := H2.out; have := H3.out; omega)
  all_goals go_ret
  all_goals refine ⟨_, ?_, rfl, rfl⟩
  all_goals (have := H1.out; have := H2.out; have := H3.out; omega)
theorem mul16d {x d : UInt8} (h1 : x.toNat < 16) (h2 : d.toNat < 16) : (x.toNat : Int) * 16 + (d.toNat : Int) = ((x * 16 + d).toNat : Int) := by
  have e : (16 : UInt8).toNat = 16 := rfl
  rw [UInt8.toNat_add, UInt8.toNat_mul, e]; omega
def HHalf (s0 tx : List UInt8) (h : Value) (s : List UInt8) : Prop := (h = .int .i64 (-1) ∧ HxAt s0 tx none s) ∨ ∃ x : UInt8, x.toNat < 16 ∧ h = .int .i64 x.toNat ∧ HxAt s0 tx (some x) s
def HRel (l s0 : List UInt8) (w : World) (v h i : Value) (wr : World) : Prop :=
  ∃ (q : Nat) (tx : List UInt8), i = .int .i64 q ∧ q ≤ l.length ∧ tx.length ≤ q ∧ HHalf s0 tx h (l.drop q) ∧ wr.ownsRow w.heap.size 5 1 v tx.length (tx.map bv) ∧ Below w.heap.size w wr
theorem HHalf.over {s0 tx : List UInt8} {h : Value} (a : HHalf s0 tx h []) : hx none s0 = none := by
  rcases a with ⟨_, a⟩ | ⟨_, _, _, a⟩ <;> exact a.over
theorem HHalf.blank {s0 tx s : List UInt8} {h : Value} {c : UInt8} (a : HHalf s0 tx h (c :: s)) (h1 : c ≠ 62) (h2 : blnk c = true) : HHalf s0 tx h s := by
  rcases a with ⟨e, a⟩ | ⟨x, hx, e, a⟩
  · exact .inl ⟨e, a.blank h1 h2⟩
  · exact .inr ⟨x, hx, e, a.blank h1 h2⟩
theorem HHalf.wrong {s0 tx s : List UInt8} {h : Value} {c : UInt8} (a : HHalf s0 tx h (c :: s)) (h1 : c ≠ 62) (h2 : blnk c = false) (h3 : hexd c = none) : hx none s0 = none := by
  rcases a with ⟨_, a⟩ | ⟨_, _, _, a⟩ <;> exact a.wrong h1 h2 h3
set_option maxRecDepth 100000 in
set_option maxHeartbeats 4000000 in
theorem refHex_at {w : World} {cap p : Nat} {ba : Option Addr} {l : List UInt8} (hrd : RdB w w.heap.size ba l) (hl : l.length ≤ 65535) (hp : p < l.length) :
    Calls Try.prog 23 #[.slice ba l.length cap, .int .i64 p] w (RStr l (hx none (l.drop (p + 1))) w) := by
  have HR0 := Lib.hid hrd
  obtain ⟨i0, hi, hz0, hz1, hz2⟩ := info_parts u8_infoS
  have HI := Lib.hid (And.intro hi (And.intro hz0 (And.intro hz1 hz2)))
  obtain ⟨s0, hs0⟩ : ∃ s, l.drop (p + 1) = s := ⟨_, rfl⟩
  rw [hs0]
  have HS0 := Lib.hid hs0
  clear hrd hi hz0 hz1 hz2 hs0
  go_enter Try.func23, Try.ntmps23
  go_wp2_with fail
  go_loopw [7, 8, 9] (fun v h i wr => HRel l s0 w v h i wr) (fun _ _ i _ => l.length + 1 - (intOf i).toNat)
  case atStart => exact ⟨p + 1, [], by go_num, by omega, by simp, .inl ⟨rfl, by rw [HS0.out]; exact HxAt.start _⟩, World.ownsRow_nil _ _ _ _, Below.refl _ _⟩
  case round =>
    obtain ⟨q, tx, rfl, hq, htx, hr, hown, hb⟩ := hrel
    have HO := Lib.hid hown
    have HB := Lib.hid hb
    have HRW := Lib.hid (HR0.out.below hb)
    have hsz := hb.size
    clear hown hb
    cases hs : l.drop q with
    | nil =>
      have hql : q = l.length := drop_end hs hq
      rw [hs] at hr
      have HN := Lib.hid hr.over
      subst hql
      clear hr hs hq
      go_wp2_with fail
      refine bodyPost_ret (results_three Try.results23 _ _ _) rfl ?_
      exact rstr_none HN.out HB.out
    | cons c s =>
      obtain ⟨hc, hs1, hlt⟩ := drop_at hs
      obtain ⟨b, off, rfl, hbN, hcell⟩ := HRW.out q c hc
      have HS1 := Lib.hid hs1
      rw [hs] at hr
      have HP := Lib.hid (fun w => refBlank_at c w)
      unfold Says at HP
      clear hs hs1 hc
      cases hbk : blnk c with
      | true =>
        have h62 : c ≠ 62 := by rintro rfl; cases hbk
        have HN := Lib.hid (hr.blank h62 hbk)
        rw [hbk] at HP
        clear hr hbk h62
        go_wp2_with (first | (go_at_call 39; refine (HP.out _).mono ?_; rintro e w2 ⟨rfl, rfl⟩))
        go_roundw
        case rel => exact ⟨q + 1, tx, by go_num, by omega, by omega, by rw [HS1.out]; exact HN.out, HO.out, HB.out⟩
        case measure => simp [intOf]; omega
      | false =>
        rw [hbk] at HP
        by_cases h62 : c = 62
        · subst h62
          have HH := Lib.hid (fun w => refBlank_at 0 w)
          rcases hr with ⟨rfl, hr⟩ | ⟨x, hx16, rfl, hr⟩
          · have HN := Lib.hid hr.done
            clear hr hbk
            go_wp2_with (first | (go_at_call 39; refine (HP.out _).mono ?_; rintro e w2 ⟨rfl, rfl⟩))
            refine bodyPost_ret (results_three Try.results23 _ _ _) rfl ?_
            exact rstr_some (q := q + 1) (t := tx) (by rw [HN.out]; simp [hlast]) HS1.out (by omega) HB.out HO.out
          · have HN := Lib.hid hr.done
            clear hr hbk
            go_wp2_with (first | (go_at_call 39; refine (HP.out _).mono ?_; rintro e w2 ⟨rfl, rfl⟩) | (go_at_call 40; refine (HH.out _).mono ?_; rintro e w2 ⟨rfl, rfl⟩) | (at_builtin; refine wpList_append_own _ rfl (.tmp 31) (.tmp 35) 22 rfl w.heap.size 5 i0 (.int .u8 0) 1 1 Try.underlying22 HI.out.1 HI.out.2.1 HI.out.2.2.1 HI.out.2.2.2 rfl (by decide) _ tx.length (tx.map bv) rfl (HO.out.alloc _) ⟨w2.heap.size, 0, none⟩ 1 1 [.int .u8 _] rfl rfl (src_oneS _ _ _) (one_u8S _) (by unfold maxLen; omega) (by omega) (by simp; omega) ?_))
            intro v2 w3 hown2 hgr _
            have HB3 := Lib.hid (show Below w.heap.size w w3 from (HB.out.alloc HB.out.size _).grown hgr (by simp; omega) (fun k hk => (HO.out.lt k hk).1))
            have HO2 := Lib.hid (own_push (c := x * 16) (mul16 hx16) hown2)
            clear hown2 hgr
            go_wp2_with fail
            refine bodyPost_ret (results_three Try.results23 _ _ _) rfl ?_
            exact rstr_some (q := q + 1) (t := tx ++ [x * 16]) HN.out HS1.out (by omega) HB3.out HO2.out
        · have b62 : ((c.toNat : Int) == 62) = false := beqF (k := 62) (fun e => h62 (UInt8.toNat_inj.1 (e.trans rfl)))
          cases hd : hexd c with
          | none =>
            have HH := Lib.hid (fun w => refHexd_no hd w)
            unfold NoDigit at HH
            have HN := Lib.hid (hr.wrong h62 hbk hd)
            clear hr hbk h62 hd
            go_wp2_with (first | (go_at_call 39; refine (HP.out _).mono ?_; rintro e w2 ⟨rfl, rfl⟩) | (go_at_call 40; refine (HH.out _).mono ?_; rintro e w2 ⟨nd, hnd, rfl, rfl⟩))
            refine bodyPost_ret (results_three Try.results23 _ _ _) rfl ?_
            exact rstr_none HN.out HB.out
          | some d =>
            have HH := Lib.hid (fun w => refHexd_yes hd w)
            have hd16 := hexd_lt hd
            rcases hr with ⟨rfl, hr⟩ | ⟨x, hx16, rfl, hr⟩
            · have HN := Lib.hid (hr.first h62 hbk hd)
              clear hr hbk h62 hd
              go_wp2_with (first | (go_at_call 39; refine (HP.out _).mono ?_; rintro e w2 ⟨rfl, rfl⟩) | (go_at_call 40; refine (HH.out _).mono ?_; rintro e w2 ⟨rfl, rfl⟩))
              go_roundw
              case rel => exact ⟨q + 1, tx, by go_num, by omega, by omega, .inr ⟨d, hd16, rfl, by rw [HS1.out]; exact HN.out⟩, HO.out, HB.out⟩
              case measure => simp [intOf]; omega
            · have HN := Lib.hid (hr.second h62 hbk hd)
              clear hr hbk h62 hd
              go_wp2_with (first | (go_at_call 39; refine (HP.out _).mono ?_; rintro e w2 ⟨rfl, rfl⟩) | (go_at_call 40; refine (HH.out _).mono ?_; rintro e w2 ⟨rfl, rfl⟩) | (at_builtin; refine wpList_append_own _ rfl (.tmp 50) (.tmp 56) 22 rfl w.heap.size 5 i0 (.int .u8 0) 1 1 Try.underlying22 HI.out.1 HI.out.2.1 HI.out.2.2.1 HI.out.2.2.2 rfl (by decide) _ tx.length (tx.map bv) rfl (HO.out.alloc _) ⟨w2.heap.size, 0, none⟩ 1 1 [.int .u8 _] rfl rfl (src_oneS _ _ _) (one_u8S _) (by unfold maxLen; omega) (by omega) (by simp; omega) ?_))
              intro v2 w3 hown2 hgr _
              have HB3 := Lib.hid (show Below w.heap.size w w3 from (HB.out.alloc HB.out.size _).grown hgr (by simp; omega) (fun k hk => (HO.out.lt k hk).1))
              have HO2 := Lib.hid (own_push (c := x * 16 + d) (mul16d hx16 hd16) hown2)
              clear hown2 hgr
              go_wp2_with fail
              go_roundw
              case rel => exact ⟨q + 1, tx ++ [x * 16 + d], by go_num, by omega, by simp; omega, .inl ⟨rfl, by rw [HS1.out]; exact HN.out⟩, HO2.out, HB3.out⟩
              case measure => simp [intOf]; omega
end Go.Proofs.Ytaebpjcigajolaa
