/-
  Lines that tell of a document: the document's own answer, by a contract.
-/
import Derived.Test.YtaebpjcigajolaaScanStruct
namespace Go.Proofs.Ytaebpjcigajolaa
open Go.RowKit
open Sc
namespace Sc
theorem isS_short {m : List UInt8} (h : m.length < 2) : isS m = false := by
  match m, h with
  | [], _ => rfl
  | [_], _ => rfl
  | _ :: _ :: _, h => simp at h; omega
theorem line_two {l : List UInt8} {fr i : Nat} (h : 2 ≤ i - fr) (hi : i ≤ l.length) : ∃ x y t, (l.drop fr).take (i - fr) = x :: y :: t ∧ l[fr]? = some x ∧ l[fr + 1]? = some y := by
  have h1 : fr < l.length := by omega
  have h2 : fr + 1 < l.length := by omega
  obtain ⟨n, hn⟩ : ∃ n, i - fr = n + 2 := ⟨i - fr - 2, by omega⟩
  refine ⟨l[fr], l[fr + 1], (l.drop (fr + 2)).take n, ?_, List.getElem?_eq_getElem h1, List.getElem?_eq_getElem h2⟩
  rw [List.drop_eq_getElem_cons h1, List.drop_eq_getElem_cons h2, hn]; rfl
end Sc
def RStrRel (l : List UInt8) (w : World) (v f j : Value) (wr : World) : Prop :=
  ∃ (fr i : Nat) (out : List (List UInt8)), True = True ∧ f = .int .i64 fr ∧ j = .int .i64 i ∧ fr ≤ i ∧ i ≤ l.length + 1 ∧ (i ≤ l.length → (l.drop fr).dropWhile nl = (l.drop i).dropWhile nl) ∧ (i = l.length + 1 → fr = i) ∧ out.length ≤ fr ∧ strc l = out ++ strc (l.drop fr) ∧ wr.ownsRow w.heap.size 9 1 v out.length (out.map sv) ∧ Below w.heap.size w wr
set_option maxRecDepth 100000 in
set_option maxHeartbeats 4000000 in
theorem refStructure_at {w : World} {cap : Nat} {ba : Option Addr} {l : List UInt8} (hrd : RdB w w.heap.size ba l) (hcl : l.length ≤ cap) (hl : l.length ≤ 20000) :
    Calls Try.prog 15 #[.slice ba l.length cap] w fun e w' => ∃ v, e = .returned v ∧ w'.ownsRow w.heap.size 9 1 v (strc l).length ((strc l).map sv) ∧ Below w.heap.size w w' := by
  have HR := Lib.hid hrd
  obtain ⟨i0, hi, hz0, hz1, hz2⟩ := info_parts str_infoS
  have HI := Lib.hid (And.intro hi (And.intro hz0 (And.intro hz1 hz2)))
  clear hrd hi hz0 hz1 hz2
  go_enter Try.func15, Try.ntmps15
  go_wp2_with fail
  go_loopw [3, 4, 5] (fun v f j wr => RStrRel l w v f j wr) (fun _ _ j _ => l.length + 2 - (intOf j).toNat)
  case atStart => exact ⟨0, 0, [], rfl, rfl, rfl, by omega, by omega, (fun _ => rfl), (fun _ => rfl), by simp, by simp, World.ownsRow_nil _ _ _ _, Below.refl _ _⟩
  case round =>
    obtain ⟨fr, i, out, _, rfl, rfl, hfi, hil, hdw, hlast, hof, hst, hown, hb⟩ := hrel
    have HO := Lib.hid hown
    have HB := Lib.hid hb
    have HST := Lib.hid hst
    have HRW := Lib.hid (HR.out.below hb)
    have hsz := hb.size
    clear hown hb hst
    by_cases hend : i = l.length + 1
    · have hf := hlast hend
      have HN := Lib.hid (show strc l = out by rw [HST.out, List.drop_of_length_le (by omega), strc_nil, List.append_nil])
      have hd : decide ((i : Int) ≤ (l.length : Int)) = false := decide_eq_false (by omega)
      clear hdw hlast
      go_wp2_with fail
      go_ret
      exact ⟨_, rfl, by rw [HN.out]; exact HO.out, HB.out⟩
    have hile : i ≤ l.length := by omega
    have hdw := hdw hile
    have hd0 : decide ((i : Int) ≤ (l.length : Int)) = true := decide_eq_true (by omega)
    clear hlast hend
    cases hs : l.drop i with
    | nil =>
      have hil2 : i = l.length := drop_end hs hile
      have hdl : l.drop i = (l.drop fr).dropWhile nl := by rw [hdw, hs]; rfl
      have HSP := Lib.hid (show strc (l.drop fr) = piece ((l.drop fr).take (i - fr)) ++ strc (l.drop (i + 1)) by rw [strc_step, tw_take' hdl hile hfi, ← hdl, List.drop_drop])
      have hge : ¬ i < l.length := by omega
      clear hs hdw hdl hil2 hd0
      by_cases h2 : i - fr < 2
      · have hno : isS ((l.drop fr).take (i - fr)) = false := isS_short (by simp; omega)
        have HN := Lib.hid (show strc l = out ++ strc (l.drop (i + 1)) by rw [HST.out, HSP.out, piece_no hno]; rfl)
        have hd2 : decide ((2 : Int) ≤ (i : Int) - (fr : Int)) = false := decide_eq_false (by omega)
        clear hno
        go_wp2_with fail
        go_roundw
        case rel => exact ⟨i + 1, i + 1, out, rfl, by go_num, by go_num, by omega, by omega, (fun _ => rfl), (fun _ => rfl), by omega, HN.out, HO.out, HB.out⟩
        case measure => simp [intOf]; omega
      obtain ⟨x, y, t, hline, hx, hy⟩ := line_two (l := l) (fr := fr) (i := i) (by omega) (by omega)
      have htl : t.length = i - (fr + 2) := by
        have := congrArg List.length hline
        simp at this; omega
      have ht2 : t = (l.drop (fr + 2)).take (i - (fr + 2)) := by
        have := congrArg (List.drop 2) hline
        rw [List.drop_take, List.drop_drop] at this
        rw [show i - (fr + 2) = i - fr - 2 by omega, this]; rfl
      obtain ⟨b, off, rfl, hbN, hcx⟩ := HRW.out fr x hx
      obtain ⟨b', off', e', _, hcy⟩ := HRW.out (fr + 1) y hy
      cases e'
      have hcx' : wr.cell? ⟨b, off + fr, none⟩ = some (.int .u8 x.toNat) := hcx
      have hd2 : decide ((2 : Int) ≤ (i : Int) - (fr : Int)) = true := decide_eq_true (by omega)
      by_cases hx37 : x.toNat = 37
      · have bx : ((x.toNat : Int) == 37) = true := beqT (k := 37) hx37
        by_cases hyy : y.toNat = 37 ∨ y.toNat = 33
        · have hyes : isS ((l.drop fr).take (i - fr)) = true := by rw [hline]; show ((x == 37) && (y == 37 || y == 33)) = true; rw [beq_nat, beq_nat, beq_nat]; have e37 : (37 : UInt8).toNat = 37 := rfl; have e33 : (33 : UInt8).toNat = 33 := rfl; rw [e37, e33, decide_eq_true hx37]; rcases hyy with h | h <;> simp [h]
          have HN := Lib.hid (show strc l = (out ++ [t]) ++ strc (l.drop (i + 1)) by rw [HST.out, HSP.out, (piece_yes hyes).1, hline, List.append_assoc]; rfl)
          have hcv : (convert 22 9 (.slice (some ⟨b, off + (fr + 2), none⟩) (i - (fr + 2)) (cap - (fr + 2)))).run Try.prog wr = .ok (.string ⟨t.toArray⟩) wr := by
            have := conv_rd (c := cap - (fr + 2)) (rd_at (p := fr + 2) (k := i - (fr + 2)) HRW.out)
            rw [← ht2, htl] at this; exact this
          have hcv2 : cap = fr + 2 → (convert 22 9 (.slice (some ⟨b, off, none⟩) (i - (fr + 2)) 0)).run Try.prog wr = .ok (.string ⟨t.toArray⟩) wr := by
            intro hc
            have h0 : t = [] := List.eq_nil_of_length_eq_zero (by rw [htl]; omega)
            have hq0 : i - (fr + 2) = 0 := by omega
            rw [hq0, h0]
            exact conv_rd (N := 0) (a := some ⟨b, off, none⟩) (t := []) (fun i c hc => by simp at hc)
          have HY := Lib.hid hyy
          clear hyes hline ht2 hx hy hyy
          by_cases hy37 : y.toNat = 37
          · have by1 : ((y.toNat : Int) == 37) = true := beqT (k := 37) hy37
            by_cases hcap : cap = fr + 2
            · have hcv3 := hcv2 hcap
              subst hcap
              clear hcv hcv2
              go_wp2_with (at_builtin; refine wpList_append_own _ rfl (.tmp 57) (.tmp 64) 33 rfl w.heap.size 9 i0 (.string ⟨#[]⟩) 1 16 Try.underlying33 HI.out.1 HI.out.2.1 HI.out.2.2.1 HI.out.2.2.2 rfl (by decide) _ out.length (out.map sv) rfl (HO.out.alloc _) ⟨wr.heap.size, 0, none⟩ 1 1 [.string ⟨t.toArray⟩] rfl rfl (src_oneS _ _ _) (one_strS _) (by unfold maxLen; omega) (by omega) (by simp; omega) ?_)
              intro v2 w3 hown2 hgr _
              have hb3 : Below w.heap.size w w3 := (HB.out.alloc HB.out.size _).grown hgr (by simp; omega) (fun k hk => (HO.out.lt k hk).1)
              have HO2 := Lib.hid hown2
              have HB3 := Lib.hid hb3
              clear hown2 hgr hb3
              go_wp2_with fail
              go_roundw
              case rel => exact ⟨i + 1, i + 1, out ++ [t], rfl, by go_num, by go_num, by omega, by omega, (fun _ => rfl), (fun _ => rfl), by simp; omega, HN.out, by simpa [sv] using HO2.out, HB3.out⟩
              case measure => simp [intOf]; omega
            · clear hcv2
              go_wp2_with (at_builtin; refine wpList_append_own _ rfl (.tmp 57) (.tmp 64) 33 rfl w.heap.size 9 i0 (.string ⟨#[]⟩) 1 16 Try.underlying33 HI.out.1 HI.out.2.1 HI.out.2.2.1 HI.out.2.2.2 rfl (by decide) _ out.length (out.map sv) rfl (HO.out.alloc _) ⟨wr.heap.size, 0, none⟩ 1 1 [.string ⟨t.toArray⟩] rfl rfl (src_oneS _ _ _) (one_strS _) (by unfold maxLen; omega) (by omega) (by simp; omega) ?_)
              intro v2 w3 hown2 hgr _
              have hb3 : Below w.heap.size w w3 := (HB.out.alloc HB.out.size _).grown hgr (by simp; omega) (fun k hk => (HO.out.lt k hk).1)
              have HO2 := Lib.hid hown2
              have HB3 := Lib.hid hb3
              clear hown2 hgr hb3
              go_wp2_with fail
              go_roundw
              case rel => exact ⟨i + 1, i + 1, out ++ [t], rfl, by go_num, by go_num, by omega, by omega, (fun _ => rfl), (fun _ => rfl), by simp; omega, HN.out, by simpa [sv] using HO2.out, HB3.out⟩
              case measure => simp [intOf]; omega
          · have by1 : ((y.toNat : Int) == 37) = false := beqF (k := 37) hy37
            have by2 : ((y.toNat : Int) == 33) = true := beqT (k := 33) (by have := HY.out; omega)
            by_cases hcap : cap = fr + 2
            · have hcv3 := hcv2 hcap
              subst hcap
              clear hcv hcv2
              go_wp2_with (at_builtin; refine wpList_append_own _ rfl (.tmp 57) (.tmp 64) 33 rfl w.heap.size 9 i0 (.string ⟨#[]⟩) 1 16 Try.underlying33 HI.out.1 HI.out.2.1 HI.out.2.2.1 HI.out.2.2.2 rfl (by decide) _ out.length (out.map sv) rfl (HO.out.alloc _) ⟨wr.heap.size, 0, none⟩ 1 1 [.string ⟨t.toArray⟩] rfl rfl (src_oneS _ _ _) (one_strS _) (by unfold maxLen; omega) (by omega) (by simp; omega) ?_)
              intro v2 w3 hown2 hgr _
              have hb3 : Below w.heap.size w w3 := (HB.out.alloc HB.out.size _).grown hgr (by simp; omega) (fun k hk => (HO.out.lt k hk).1)
              have HO2 := Lib.hid hown2
              have HB3 := Lib.hid hb3
              clear hown2 hgr hb3
              go_wp2_with fail
              go_roundw
              case rel => exact ⟨i + 1, i + 1, out ++ [t], rfl, by go_num, by go_num, by omega, by omega, (fun _ => rfl), (fun _ => rfl), by simp; omega, HN.out, by simpa [sv] using HO2.out, HB3.out⟩
              case measure => simp [intOf]; omega
            · clear hcv2
              go_wp2_with (at_builtin; refine wpList_append_own _ rfl (.tmp 57) (.tmp 64) 33 rfl w.heap.size 9 i0 (.string ⟨#[]⟩) 1 16 Try.underlying33 HI.out.1 HI.out.2.1 HI.out.2.2.1 HI.out.2.2.2 rfl (by decide) _ out.length (out.map sv) rfl (HO.out.alloc _) ⟨wr.heap.size, 0, none⟩ 1 1 [.string ⟨t.toArray⟩] rfl rfl (src_oneS _ _ _) (one_strS _) (by unfold maxLen; omega) (by omega) (by simp; omega) ?_)
              intro v2 w3 hown2 hgr _
              have hb3 : Below w.heap.size w w3 := (HB.out.alloc HB.out.size _).grown hgr (by simp; omega) (fun k hk => (HO.out.lt k hk).1)
              have HO2 := Lib.hid hown2
              have HB3 := Lib.hid hb3
              clear hown2 hgr hb3
              go_wp2_with fail
              go_roundw
              case rel => exact ⟨i + 1, i + 1, out ++ [t], rfl, by go_num, by go_num, by omega, by omega, (fun _ => rfl), (fun _ => rfl), by simp; omega, HN.out, by simpa [sv] using HO2.out, HB3.out⟩
              case measure => simp [intOf]; omega
        · have hno : isS ((l.drop fr).take (i - fr)) = false := by rw [hline]; show ((x == 37) && (y == 37 || y == 33)) = false; rw [beq_nat, beq_nat, beq_nat]; have e37 : (37 : UInt8).toNat = 37 := rfl; have e33 : (33 : UInt8).toNat = 33 := rfl; rw [e37, e33]; simp [hx37]; omega
          have HN := Lib.hid (show strc l = out ++ strc (l.drop (i + 1)) by rw [HST.out, HSP.out, piece_no hno]; rfl)
          have by1 : ((y.toNat : Int) == 37) = false := beqF (k := 37) (by omega)
          have by2 : ((y.toNat : Int) == 33) = false := beqF (k := 33) (by omega)
          clear hno hline ht2 hx hy hyy
          go_wp2_with fail
          go_roundw
          case rel => exact ⟨i + 1, i + 1, out, rfl, by go_num, by go_num, by omega, by omega, (fun _ => rfl), (fun _ => rfl), by omega, HN.out, HO.out, HB.out⟩
          case measure => simp [intOf]; omega
      · have bx : ((x.toNat : Int) == 37) = false := beqF (k := 37) hx37
        have hno : isS ((l.drop fr).take (i - fr)) = false := by rw [hline]; show ((x == 37) && (y == 37 || y == 33)) = false; rw [beq_nat]; have e37 : (37 : UInt8).toNat = 37 := rfl; rw [e37, decide_eq_false hx37]; rfl
        have HN := Lib.hid (show strc l = out ++ strc (l.drop (i + 1)) by rw [HST.out, HSP.out, piece_no hno]; rfl)
        clear hno hline ht2 hx hy
        go_wp2_with fail
        go_roundw
        case rel => exact ⟨i + 1, i + 1, out, rfl, by go_num, by go_num, by omega, by omega, (fun _ => rfl), (fun _ => rfl), by omega, HN.out, HO.out, HB.out⟩
        case measure => simp [intOf]; omega
    | cons c s =>
      obtain ⟨hc, hs1, hlt⟩ := drop_at hs
      obtain ⟨bc, oc, hba, hbcN, hcc⟩ := HRW.out i c hc
      have hdi : decide ((i : Int) < (l.length : Int)) = true := decide_eq_true (by omega)
      cases hpr : nl c with
      | true =>
        rw [hs, List.dropWhile_cons, hpr, if_pos rfl, ← hs1] at hdw
        have HD := Lib.hid hdw
        rw [nl_nat] at hpr
        have hpr := of_decide_eq_true hpr
        have b10 : ((c.toNat : Int) != 10) = true := by have := beqF (k := 10) hpr.1; simpa [bne] using this
        have b13 : ((c.toNat : Int) != 13) = true := by have := beqF (k := 13) hpr.2; simpa [bne] using this
        subst hba
        clear hs hs1 hdw hc hpr
        go_wp2_with fail
        go_roundw
        case rel => exact ⟨fr, i + 1, out, rfl, rfl, by go_num, by omega, by omega, (fun _ => HD.out), (fun h => by omega), hof, HST.out, HO.out, HB.out⟩
        case measure => simp [intOf]; omega
      | false =>
        have hdl : l.drop i = (l.drop fr).dropWhile nl := by rw [hdw, hs, List.dropWhile_cons, if_neg (by simp [hpr])]
        have HSP := Lib.hid (show strc (l.drop fr) = piece ((l.drop fr).take (i - fr)) ++ strc (l.drop (i + 1)) by rw [strc_step, tw_take' hdl hile hfi, ← hdl, List.drop_drop])
        rw [nl_nat] at hpr
        have hpr := of_decide_eq_false hpr
        have HP := Lib.hid hpr
        clear hs hs1 hdw hdl hc hpr
        by_cases h10 : c.toNat = 10
        · have b10 : ((c.toNat : Int) != 10) = false := by simp [h10]
          clear h10
          by_cases h2 : i - fr < 2
          · subst hba
            have hno : isS ((l.drop fr).take (i - fr)) = false := isS_short (by simp; omega)
            have HN := Lib.hid (show strc l = out ++ strc (l.drop (i + 1)) by rw [HST.out, HSP.out, piece_no hno]; rfl)
            have hd2 : decide ((2 : Int) ≤ (i : Int) - (fr : Int)) = false := decide_eq_false (by omega)
            clear hno
            go_wp2_with fail
            go_roundw
            case rel => exact ⟨i + 1, i + 1, out, rfl, by go_num, by go_num, by omega, by omega, (fun _ => rfl), (fun _ => rfl), by omega, HN.out, HO.out, HB.out⟩
            case measure => simp [intOf]; omega
          obtain ⟨x, y, t, hline, hx, hy⟩ := line_two (l := l) (fr := fr) (i := i) (by omega) (by omega)
          have htl : t.length = i - (fr + 2) := by
            have := congrArg List.length hline
            simp at this; omega
          have ht2 : t = (l.drop (fr + 2)).take (i - (fr + 2)) := by
            have := congrArg (List.drop 2) hline
            rw [List.drop_take, List.drop_drop] at this
            rw [show i - (fr + 2) = i - fr - 2 by omega, this]; rfl
          obtain ⟨b, off, rfl, hbN, hcx⟩ := HRW.out fr x hx
          obtain ⟨rfl, rfl⟩ : b = bc ∧ off = oc := by cases hba; exact ⟨rfl, rfl⟩
          clear hba
          obtain ⟨b', off', e', _, hcy⟩ := HRW.out (fr + 1) y hy
          cases e'
          have hcx' : wr.cell? ⟨b, off + fr, none⟩ = some (.int .u8 x.toNat) := hcx
          have hd2 : decide ((2 : Int) ≤ (i : Int) - (fr : Int)) = true := decide_eq_true (by omega)
          by_cases hx37 : x.toNat = 37
          · have bx : ((x.toNat : Int) == 37) = true := beqT (k := 37) hx37
            by_cases hyy : y.toNat = 37 ∨ y.toNat = 33
            · have hyes : isS ((l.drop fr).take (i - fr)) = true := by rw [hline]; show ((x == 37) && (y == 37 || y == 33)) = true; rw [beq_nat, beq_nat, beq_nat]; have e37 : (37 : UInt8).toNat = 37 := rfl; have e33 : (33 : UInt8).toNat = 33 := rfl; rw [e37, e33, decide_eq_true hx37]; rcases hyy with h | h <;> simp [h]
              have HN := Lib.hid (show strc l = (out ++ [t]) ++ strc (l.drop (i + 1)) by rw [HST.out, HSP.out, (piece_yes hyes).1, hline, List.append_assoc]; rfl)
              have hcv : (convert 22 9 (.slice (some ⟨b, off + (fr + 2), none⟩) (i - (fr + 2)) (cap - (fr + 2)))).run Try.prog wr = .ok (.string ⟨t.toArray⟩) wr := by
                have := conv_rd (c := cap - (fr + 2)) (rd_at (p := fr + 2) (k := i - (fr + 2)) HRW.out)
                rw [← ht2, htl] at this; exact this
              have hcv2 : cap = fr + 2 → (convert 22 9 (.slice (some ⟨b, off, none⟩) (i - (fr + 2)) 0)).run Try.prog wr = .ok (.string ⟨t.toArray⟩) wr := by
                intro hc
                have h0 : t = [] := List.eq_nil_of_length_eq_zero (by rw [htl]; omega)
                have hq0 : i - (fr + 2) = 0 := by omega
                rw [hq0, h0]
                exact conv_rd (N := 0) (a := some ⟨b, off, none⟩) (t := []) (fun i c hc => by simp at hc)
              have HY := Lib.hid hyy
              clear hyes hline ht2 hx hy hyy
              by_cases hy37 : y.toNat = 37
              · have by1 : ((y.toNat : Int) == 37) = true := beqT (k := 37) hy37
                by_cases hcap : cap = fr + 2
                · exact absurd hcap (by omega)
                · clear hcv2
                  go_wp2_with (at_builtin; refine wpList_append_own _ rfl (.tmp 57) (.tmp 64) 33 rfl w.heap.size 9 i0 (.string ⟨#[]⟩) 1 16 Try.underlying33 HI.out.1 HI.out.2.1 HI.out.2.2.1 HI.out.2.2.2 rfl (by decide) _ out.length (out.map sv) rfl (HO.out.alloc _) ⟨wr.heap.size, 0, none⟩ 1 1 [.string ⟨t.toArray⟩] rfl rfl (src_oneS _ _ _) (one_strS _) (by unfold maxLen; omega) (by omega) (by simp; omega) ?_)
                  intro v2 w3 hown2 hgr _
                  have hb3 : Below w.heap.size w w3 := (HB.out.alloc HB.out.size _).grown hgr (by simp; omega) (fun k hk => (HO.out.lt k hk).1)
                  have HO2 := Lib.hid hown2
                  have HB3 := Lib.hid hb3
                  clear hown2 hgr hb3
                  go_wp2_with fail
                  go_roundw
                  case rel => exact ⟨i + 1, i + 1, out ++ [t], rfl, by go_num, by go_num, by omega, by omega, (fun _ => rfl), (fun _ => rfl), by simp; omega, HN.out, by simpa [sv] using HO2.out, HB3.out⟩
                  case measure => simp [intOf]; omega
              · have by1 : ((y.toNat : Int) == 37) = false := beqF (k := 37) hy37
                have by2 : ((y.toNat : Int) == 33) = true := beqT (k := 33) (by have := HY.out; omega)
                by_cases hcap : cap = fr + 2
                · exact absurd hcap (by omega)
                · clear hcv2
                  go_wp2_with (at_builtin; refine wpList_append_own _ rfl (.tmp 57) (.tmp 64) 33 rfl w.heap.size 9 i0 (.string ⟨#[]⟩) 1 16 Try.underlying33 HI.out.1 HI.out.2.1 HI.out.2.2.1 HI.out.2.2.2 rfl (by decide) _ out.length (out.map sv) rfl (HO.out.alloc _) ⟨wr.heap.size, 0, none⟩ 1 1 [.string ⟨t.toArray⟩] rfl rfl (src_oneS _ _ _) (one_strS _) (by unfold maxLen; omega) (by omega) (by simp; omega) ?_)
                  intro v2 w3 hown2 hgr _
                  have hb3 : Below w.heap.size w w3 := (HB.out.alloc HB.out.size _).grown hgr (by simp; omega) (fun k hk => (HO.out.lt k hk).1)
                  have HO2 := Lib.hid hown2
                  have HB3 := Lib.hid hb3
                  clear hown2 hgr hb3
                  go_wp2_with fail
                  go_roundw
                  case rel => exact ⟨i + 1, i + 1, out ++ [t], rfl, by go_num, by go_num, by omega, by omega, (fun _ => rfl), (fun _ => rfl), by simp; omega, HN.out, by simpa [sv] using HO2.out, HB3.out⟩
                  case measure => simp [intOf]; omega
            · have hno : isS ((l.drop fr).take (i - fr)) = false := by rw [hline]; show ((x == 37) && (y == 37 || y == 33)) = false; rw [beq_nat, beq_nat, beq_nat]; have e37 : (37 : UInt8).toNat = 37 := rfl; have e33 : (33 : UInt8).toNat = 33 := rfl; rw [e37, e33]; simp [hx37]; omega
              have HN := Lib.hid (show strc l = out ++ strc (l.drop (i + 1)) by rw [HST.out, HSP.out, piece_no hno]; rfl)
              have by1 : ((y.toNat : Int) == 37) = false := beqF (k := 37) (by omega)
              have by2 : ((y.toNat : Int) == 33) = false := beqF (k := 33) (by omega)
              clear hno hline ht2 hx hy hyy
              go_wp2_with fail
              go_roundw
              case rel => exact ⟨i + 1, i + 1, out, rfl, by go_num, by go_num, by omega, by omega, (fun _ => rfl), (fun _ => rfl), by omega, HN.out, HO.out, HB.out⟩
              case measure => simp [intOf]; omega
          · have bx : ((x.toNat : Int) == 37) = false := beqF (k := 37) hx37
            have hno : isS ((l.drop fr).take (i - fr)) = false := by rw [hline]; show ((x == 37) && (y == 37 || y == 33)) = false; rw [beq_nat]; have e37 : (37 : UInt8).toNat = 37 := rfl; rw [e37, decide_eq_false hx37]; rfl
            have HN := Lib.hid (show strc l = out ++ strc (l.drop (i + 1)) by rw [HST.out, HSP.out, piece_no hno]; rfl)
            clear hno hline ht2 hx hy
            go_wp2_with fail
            go_roundw
            case rel => exact ⟨i + 1, i + 1, out, rfl, by go_num, by go_num, by omega, by omega, (fun _ => rfl), (fun _ => rfl), by omega, HN.out, HO.out, HB.out⟩
            case measure => simp [intOf]; omega
        · have h13 : c.toNat = 13 := by have := HP.out; omega
          have b10 : ((c.toNat : Int) != 10) = true := by have := beqF (k := 10) h10; simpa [bne] using this
          have b13 : ((c.toNat : Int) != 13) = false := by simp [h13]
          clear h10 h13
          by_cases h2 : i - fr < 2
          · subst hba
            have hno : isS ((l.drop fr).take (i - fr)) = false := isS_short (by simp; omega)
            have HN := Lib.hid (show strc l = out ++ strc (l.drop (i + 1)) by rw [HST.out, HSP.out, piece_no hno]; rfl)
            have hd2 : decide ((2 : Int) ≤ (i : Int) - (fr : Int)) = false := decide_eq_false (by omega)
            clear hno
            go_wp2_with fail
            go_roundw
            case rel => exact ⟨i + 1, i + 1, out, rfl, by go_num, by go_num, by omega, by omega, (fun _ => rfl), (fun _ => rfl), by omega, HN.out, HO.out, HB.out⟩
            case measure => simp [intOf]; omega
          obtain ⟨x, y, t, hline, hx, hy⟩ := line_two (l := l) (fr := fr) (i := i) (by omega) (by omega)
          have htl : t.length = i - (fr + 2) := by
            have := congrArg List.length hline
            simp at this; omega
          have ht2 : t = (l.drop (fr + 2)).take (i - (fr + 2)) := by
            have := congrArg (List.drop 2) hline
            rw [List.drop_take, List.drop_drop] at this
            rw [show i - (fr + 2) = i - fr - 2 by omega, this]; rfl
          obtain ⟨b, off, rfl, hbN, hcx⟩ := HRW.out fr x hx
          obtain ⟨rfl, rfl⟩ : b = bc ∧ off = oc := by cases hba; exact ⟨rfl, rfl⟩
          clear hba
          obtain ⟨b', off', e', _, hcy⟩ := HRW.out (fr + 1) y hy
          cases e'
          have hcx' : wr.cell? ⟨b, off + fr, none⟩ = some (.int .u8 x.toNat) := hcx
          have hd2 : decide ((2 : Int) ≤ (i : Int) - (fr : Int)) = true := decide_eq_true (by omega)
          by_cases hx37 : x.toNat = 37
          · have bx : ((x.toNat : Int) == 37) = true := beqT (k := 37) hx37
            by_cases hyy : y.toNat = 37 ∨ y.toNat = 33
            · have hyes : isS ((l.drop fr).take (i - fr)) = true := by rw [hline]; show ((x == 37) && (y == 37 || y == 33)) = true; rw [beq_nat, beq_nat, beq_nat]; have e37 : (37 : UInt8).toNat = 37 := rfl; have e33 : (33 : UInt8).toNat = 33 := rfl; rw [e37, e33, decide_eq_true hx37]; rcases hyy with h | h <;> simp [h]
              have HN := Lib.hid (show strc l = (out ++ [t]) ++ strc (l.drop (i + 1)) by rw [HST.out, HSP.out, (piece_yes hyes).1, hline, List.append_assoc]; rfl)
              have hcv : (convert 22 9 (.slice (some ⟨b, off + (fr + 2), none⟩) (i - (fr + 2)) (cap - (fr + 2)))).run Try.prog wr = .ok (.string ⟨t.toArray⟩) wr := by
                have := conv_rd (c := cap - (fr + 2)) (rd_at (p := fr + 2) (k := i - (fr + 2)) HRW.out)
                rw [← ht2, htl] at this; exact this
              have hcv2 : cap = fr + 2 → (convert 22 9 (.slice (some ⟨b, off, none⟩) (i - (fr + 2)) 0)).run Try.prog wr = .ok (.string ⟨t.toArray⟩) wr := by
                intro hc
                have h0 : t = [] := List.eq_nil_of_length_eq_zero (by rw [htl]; omega)
                have hq0 : i - (fr + 2) = 0 := by omega
                rw [hq0, h0]
                exact conv_rd (N := 0) (a := some ⟨b, off, none⟩) (t := []) (fun i c hc => by simp at hc)
              have HY := Lib.hid hyy
              clear hyes hline ht2 hx hy hyy
              by_cases hy37 : y.toNat = 37
              · have by1 : ((y.toNat : Int) == 37) = true := beqT (k := 37) hy37
                by_cases hcap : cap = fr + 2
                · exact absurd hcap (by omega)
                · clear hcv2
                  go_wp2_with (at_builtin; refine wpList_append_own _ rfl (.tmp 57) (.tmp 64) 33 rfl w.heap.size 9 i0 (.string ⟨#[]⟩) 1 16 Try.underlying33 HI.out.1 HI.out.2.1 HI.out.2.2.1 HI.out.2.2.2 rfl (by decide) _ out.length (out.map sv) rfl (HO.out.alloc _) ⟨wr.heap.size, 0, none⟩ 1 1 [.string ⟨t.toArray⟩] rfl rfl (src_oneS _ _ _) (one_strS _) (by unfold maxLen; omega) (by omega) (by simp; omega) ?_)
                  intro v2 w3 hown2 hgr _
                  have hb3 : Below w.heap.size w w3 := (HB.out.alloc HB.out.size _).grown hgr (by simp; omega) (fun k hk => (HO.out.lt k hk).1)
                  have HO2 := Lib.hid hown2
                  have HB3 := Lib.hid hb3
                  clear hown2 hgr hb3
                  go_wp2_with fail
                  go_roundw
                  case rel => exact ⟨i + 1, i + 1, out ++ [t], rfl, by go_num, by go_num, by omega, by omega, (fun _ => rfl), (fun _ => rfl), by simp; omega, HN.out, by simpa [sv] using HO2.out, HB3.out⟩
                  case measure => simp [intOf]; omega
              · have by1 : ((y.toNat : Int) == 37) = false := beqF (k := 37) hy37
                have by2 : ((y.toNat : Int) == 33) = true := beqT (k := 33) (by have := HY.out; omega)
                by_cases hcap : cap = fr + 2
                · exact absurd hcap (by omega)
                · clear hcv2
                  go_wp2_with (at_builtin; refine wpList_append_own _ rfl (.tmp 57) (.tmp 64) 33 rfl w.heap.size 9 i0 (.string ⟨#[]⟩) 1 16 Try.underlying33 HI.out.1 HI.out.2.1 HI.out.2.2.1 HI.out.2.2.2 rfl (by decide) _ out.length (out.map sv) rfl (HO.out.alloc _) ⟨wr.heap.size, 0, none⟩ 1 1 [.string ⟨t.toArray⟩] rfl rfl (src_oneS _ _ _) (one_strS _) (by unfold maxLen; omega) (by omega) (by simp; omega) ?_)
                  intro v2 w3 hown2 hgr _
                  have hb3 : Below w.heap.size w w3 := (HB.out.alloc HB.out.size _).grown hgr (by simp; omega) (fun k hk => (HO.out.lt k hk).1)
                  have HO2 := Lib.hid hown2
                  have HB3 := Lib.hid hb3
                  clear hown2 hgr hb3
                  go_wp2_with fail
                  go_roundw
                  case rel => exact ⟨i + 1, i + 1, out ++ [t], rfl, by go_num, by go_num, by omega, by omega, (fun _ => rfl), (fun _ => rfl), by simp; omega, HN.out, by simpa [sv] using HO2.out, HB3.out⟩
                  case measure => simp [intOf]; omega
            · have hno : isS ((l.drop fr).take (i - fr)) = false := by rw [hline]; show ((x == 37) && (y == 37 || y == 33)) = false; rw [beq_nat, beq_nat, beq_nat]; have e37 : (37 : UInt8).toNat = 37 := rfl; have e33 : (33 : UInt8).toNat = 33 := rfl; rw [e37, e33]; simp [hx37]; omega
              have HN := Lib.hid (show strc l = out ++ strc (l.drop (i + 1)) by rw [HST.out, HSP.out, piece_no hno]; rfl)
              have by1 : ((y.toNat : Int) == 37) = false := beqF (k := 37) (by omega)
              have by2 : ((y.toNat : Int) == 33) = false := beqF (k := 33) (by omega)
              clear hno hline ht2 hx hy hyy
              go_wp2_with fail
              go_roundw
              case rel => exact ⟨i + 1, i + 1, out, rfl, by go_num, by go_num, by omega, by omega, (fun _ => rfl), (fun _ => rfl), by omega, HN.out, HO.out, HB.out⟩
              case measure => simp [intOf]; omega
          · have bx : ((x.toNat : Int) == 37) = false := beqF (k := 37) hx37
            have hno : isS ((l.drop fr).take (i - fr)) = false := by rw [hline]; show ((x == 37) && (y == 37 || y == 33)) = false; rw [beq_nat]; have e37 : (37 : UInt8).toNat = 37 := rfl; rw [e37, decide_eq_false hx37]; rfl
            have HN := Lib.hid (show strc l = out ++ strc (l.drop (i + 1)) by rw [HST.out, HSP.out, piece_no hno]; rfl)
            clear hno hline ht2 hx hy
            go_wp2_with fail
            go_roundw
            case rel => exact ⟨i + 1, i + 1, out, rfl, by go_num, by go_num, by omega, by omega, (fun _ => rfl), (fun _ => rfl), by omega, HN.out, HO.out, HB.out⟩
            case measure => simp [intOf]; omega
end Go.Proofs.Ytaebpjcigajolaa
