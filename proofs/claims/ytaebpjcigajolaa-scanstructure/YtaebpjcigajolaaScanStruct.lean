/-
  Lines that tell of a document, plainly and by the program's contracts.
-/
import Derived.Test.YtaebpjcigajolaaScanRow
namespace Go.Proofs.Ytaebpjcigajolaa
open Go.RowKit
open Sc
namespace Sc
/-- a line goes on at c -/
def nl (c : UInt8) : Bool := !(c == 10 || c == 13)
theorem nl_nat (c : UInt8) : nl c = decide (c.toNat ≠ 10 ∧ c.toNat ≠ 13) := by
  unfold nl
  simp only [beq_nat, ← Bool.decide_or, ← decide_not]
  apply decide_eq_decide.2
  show (¬ (c.toNat = 10 ∨ c.toNat = 13)) ↔ _
  omega
def isS (s : List UInt8) : Bool := match s with | a :: b :: _ => (a == 37) && (b == 37 || b == 33) | _ => false
def piece (s : List UInt8) : List (List UInt8) := if isS s then [s.drop 2] else []
def strc (s : List UInt8) : List (List UInt8) :=
  piece (s.takeWhile nl) ++ (match _h : s.dropWhile nl with | [] => [] | _ :: t => strc t)
termination_by s.length
decreasing_by
  have := dw_len nl s
  rw [_h] at this
  simp at this; omega
theorem strc_nil : strc [] = [] := by rw [strc]; rfl
theorem strc_step (s : List UInt8) : strc s = piece (s.takeWhile nl) ++ strc ((s.dropWhile nl).drop 1) := by
  rw [strc]
  split
  · rename_i h; rw [h]; simp [strc_nil]
  · rename_i c t h; rw [h]; rfl
end Sc
theorem lineEnd_at {w : World} {N cap p : Nat} {ba : Option Addr} {l : List UInt8} (hrd : RdB w N ba l) (hl : l.length ≤ 100000) (hp : p ≤ l.length) :
    Calls Try.prog 27 #[.slice ba l.length cap, .int .i64 p] w fun e w' => ∃ q, p ≤ q ∧ q ≤ l.length ∧ l.drop q = (l.drop p).dropWhile nl ∧ e = .returned (.int .i64 q) ∧ w' = w := by
  have HR := Lib.hid hrd
  clear hrd
  go_enter Try.func27, Try.ntmps27
  go_wp2_with fail
  go_loop [1] (fun v => ∃ q : Nat, v = .int .i64 q ∧ p ≤ q ∧ q ≤ l.length ∧ (l.drop p).dropWhile nl = (l.drop q).dropWhile nl) (fun v => l.length - (intOf v).toNat)
  case atStart => exact ⟨p, rfl, Nat.le_refl _, hp, rfl⟩
  case round =>
    obtain ⟨q, rfl, hpq, hq, hdw⟩ := hrel
    cases hs : l.drop q with
    | nil =>
      have hql : q = l.length := drop_end hs hq
      have HE := Lib.hid (show l.drop q = (l.drop p).dropWhile nl by rw [hdw, hs]; rfl)
      subst hql
      clear hs hdw hq
      go_wp2_with fail
      go_ret
      exact ⟨l.length, hpq, Nat.le_refl _, HE.out, rfl, rfl⟩
    | cons c s =>
      obtain ⟨hc, hs1, hlt⟩ := drop_at hs
      obtain ⟨b, off, rfl, hbN, hcell⟩ := HR.out q c hc
      rw [hs, List.dropWhile_cons] at hdw
      cases hpr : nl c with
      | true =>
        rw [hpr, if_pos rfl, ← hs1] at hdw
        have HD := Lib.hid hdw
        rw [nl_nat] at hpr
        have hpr := of_decide_eq_true hpr
        have b10 : ((c.toNat : Int) != 10) = true := by have := beqF (k := 10) hpr.1; simpa [bne] using this
        have b13 : ((c.toNat : Int) != 13) = true := by have := beqF (k := 13) hpr.2; simpa [bne] using this
        clear hs hs1 hdw hc hpr
        go_wp2_with fail
        go_round
        case rel => exact ⟨q + 1, by go_num, by omega, by omega, HD.out⟩
        case measure => simp [intOf]; omega
      | false =>
        rw [hpr, if_neg (by decide), ← hs] at hdw
        have HE := Lib.hid hdw.symm
        rw [nl_nat] at hpr
        have hpr := of_decide_eq_false hpr
        have HP := Lib.hid hpr
        clear hs hs1 hdw hc hpr
        by_cases h10 : c.toNat = 10
        · have b10 : ((c.toNat : Int) != 10) = false := by simp [h10]
          clear h10
          go_wp2_with fail
          go_ret
          exact ⟨q, hpq, hq, HE.out, rfl, rfl⟩
        · have h13 : c.toNat = 13 := by have := HP.out; omega
          have b10 : ((c.toNat : Int) != 10) = true := by have := beqF (k := 10) h10; simpa [bne] using this
          have b13 : ((c.toNat : Int) != 13) = false := by simp [h13]
          clear h10 h13
          go_wp2_with fail
          go_ret
          exact ⟨q, hpq, hq, HE.out, rfl, rfl⟩
theorem isStructure_at {w : World} {N c : Nat} {a : Option Addr} {m : List UInt8} (hrd : RdB w N a m) (hm : m.length ≤ 100000) :
    Calls Try.prog 28 #[.slice a m.length c] w (Says (isS m) w) := by
  unfold Says
  match m, hrd, hm with
  | [], _, _ =>
    go_enter Try.func28, Try.ntmps28
    go_wp2_with fail
    go_ret
    exact said rfl
  | [x], _, _ =>
    go_enter Try.func28, Try.ntmps28
    go_wp2_with fail
    go_ret
    exact said rfl
  | x :: y :: t, hrd, hm =>
    obtain ⟨b, off, rfl, _, hc0⟩ := hrd 0 x rfl
    obtain ⟨b', off', e, _, hc1⟩ := hrd 1 y rfl
    cases e
    have HI := Lib.hid (show isS (x :: y :: t) = ((x == 37) && (y == 37 || y == 33)) from rfl)
    rw [HI.out, beq_nat, beq_nat, beq_nat]
    have e37 : (37 : UInt8).toNat = 37 := rfl
    have e33 : (33 : UInt8).toNat = 33 := rfl
    rw [e37, e33]
    rw [Nat.add_zero] at hc0
    have hlen : (x :: y :: t).length = t.length + 2 := by simp
    rw [hlen] at hm ⊢
    have h2 : decide ((2 : Int) ≤ ((t.length + 2 : Nat) : Int)) = true := decide_eq_true (by omega)
    clear hrd HI hlen e37 e33
    by_cases hx : x.toNat = 37
    · have bx : ((x.toNat : Int) == 37) = true := beqT (k := 37) hx
      by_cases hy : y.toNat = 37
      · have by1 : ((y.toNat : Int) == 37) = true := beqT (k := 37) hy
        rw [decide_eq_true hx, decide_eq_true hy]
        clear hx hy
        go_enter Try.func28, Try.ntmps28
        go_wp2_with fail
        go_ret
        exact said rfl
      · have by1 : ((y.toNat : Int) == 37) = false := beqF (k := 37) hy
        rw [decide_eq_true hx, decide_eq_false hy]
        have by2 : ((y.toNat : Int) == 33) = decide (y.toNat = 33) := eqb _ 33
        clear hx hy
        go_enter Try.func28, Try.ntmps28
        go_wp2_with fail
        go_ret
        exact said (by simp)
    · have bx : ((x.toNat : Int) == 37) = false := beqF (k := 37) hx
      rw [decide_eq_false hx]
      clear hx
      go_enter Try.func28, Try.ntmps28
      go_wp2_with fail
      go_ret
      exact said rfl
/-- a string as a value -/
def sv (t : List UInt8) : Value := .string ⟨t.toArray⟩
theorem str_infoS : (Try.prog.info? 9).map (fun i => (i.zero, i.size, i.bytes)) = some (some (.string ⟨#[]⟩), 1, 16) := by kernel_rfl
theorem one_strS (t : ByteArray) : ∀ u ∈ [Value.string t], u.oneCell' = true := by
  intro u hu; simp at hu; subst hu; rfl
def StrRel (l : List UInt8) (w : World) (v i : Value) (wr : World) : Prop :=
  ∃ (p : Nat) (out : List (List UInt8)), i = .int .i64 p ∧ p ≤ l.length + 1 ∧ out.length ≤ p ∧ strc l = out ++ strc (l.drop p) ∧ wr.ownsRow w.heap.size 9 1 v out.length (out.map sv) ∧ Below w.heap.size w wr
theorem tw_take' {l : List UInt8} {p q : Nat} {pr : UInt8 → Bool} (h : l.drop q = (l.drop p).dropWhile pr) (hq : q ≤ l.length) (hp : p ≤ q) : (l.drop p).takeWhile pr = (l.drop p).take (q - p) := (tw_take h hq hp).symm
theorem piece_yes {m : List UInt8} (h : isS m = true) : piece m = [m.drop 2] ∧ 2 ≤ m.length := by
  refine ⟨by unfold piece; rw [if_pos h], ?_⟩
  match m, h with
  | a :: b :: t, _ => simp
theorem piece_no {m : List UInt8} (h : isS m = false) : piece m = [] := by unfold piece; rw [if_neg (by simp [h])]
set_option maxHeartbeats 1000000 in
theorem structure_at {w : World} {cap : Nat} {ba : Option Addr} {l : List UInt8} (hrd : RdB w w.heap.size ba l) (hcl : l.length ≤ cap) (hl : l.length ≤ 20000) :
    Calls Try.prog 14 #[.slice ba l.length cap] w fun e w' => ∃ v, e = .returned v ∧ w'.ownsRow w.heap.size 9 1 v (strc l).length ((strc l).map sv) ∧ Below w.heap.size w w' := by
  have HR := Lib.hid hrd
  obtain ⟨i0, hi, hz0, hz1, hz2⟩ := info_parts str_infoS
  have HI := Lib.hid (And.intro hi (And.intro hz0 (And.intro hz1 hz2)))
  clear hrd hi hz0 hz1 hz2
  go_enter Try.func14, Try.ntmps14
  go_wp2_with fail
  go_loopw [3, 4] (fun v i wr => StrRel l w v i wr) (fun _ i _ => l.length + 1 - (intOf i).toNat)
  case atStart => exact ⟨0, [], rfl, by omega, by simp, by simp, World.ownsRow_nil _ _ _ _, Below.refl _ _⟩
  case round =>
    obtain ⟨p, out, rfl, hp, hop, hst, hown, hb⟩ := hrel
    have HO := Lib.hid hown
    have HB := Lib.hid hb
    have HST := Lib.hid hst
    have hsz := hb.size
    clear hown hb hst
    by_cases hlt : p < l.length
    · have hrw := HR.out.below HB.out
      have hpb : ∃ c, l[p]? = some c := ⟨_, List.getElem?_eq_getElem hlt⟩
      obtain ⟨c0, hc0⟩ := hpb
      obtain ⟨b, off, rfl, hbN, hcell⟩ := hrw p c0 hc0
      clear hcell hc0
      have HRW := Lib.hid hrw
      clear hrw
      go_wp2_with fail
      refine (lineEnd_at HRW.out (by omega) (by omega)).mono ?_
      rintro e w1 ⟨q, hpq, hq, hdw, rfl, rfl⟩
      have htw := tw_take' hdw hq hpq
      have hstep : strc (l.drop p) = piece ((l.drop p).take (q - p)) ++ strc (l.drop (q + 1)) := by
        rw [strc_step, htw, ← hdw, List.drop_drop]
      have hml : ((l.drop p).take (q - p)).length = q - p := by simp; omega
      have hm := isStructure_at (w := w1) (c := cap - p) (rd_at (p := p) (k := q - p) HRW.out) (by omega)
      rw [hml] at hm
      have HM := Lib.hid hm
      have HSP := Lib.hid hstep
      have HML := Lib.hid hml
      clear hm hstep hml htw hdw
      cases hiS : isS ((l.drop p).take (q - p)) with
      | false =>
        rw [hiS] at HM
        have HN := Lib.hid (show strc l = out ++ strc (l.drop (q + 1)) by rw [HST.out, HSP.out, piece_no hiS]; rfl)
        clear hiS
        go_wp2_with fail
        refine HM.out.mono ?_; rintro e w2 ⟨rfl, rfl⟩
        go_wp2_with fail
        go_roundw
        case rel => exact ⟨q + 1, out, by go_num, by omega, by omega, HN.out, HO.out, HB.out⟩
        case measure => simp [intOf]; omega
      | true =>
        rw [hiS] at HM
        obtain ⟨hpc, h2⟩ := piece_yes hiS
        rw [HML.out] at h2
        obtain ⟨t, ht⟩ : ∃ t, ((l.drop p).take (q - p)).drop 2 = t := ⟨_, rfl⟩
        have htl : t.length = q - (p + 2) := by rw [← ht, List.length_drop, HML.out]; omega
        have ht2 : t = (l.drop (p + 2)).take (q - (p + 2)) := by rw [← ht, List.drop_take, List.drop_drop]; congr 1
        have HN := Lib.hid (show strc l = (out ++ [t]) ++ strc (l.drop (q + 1)) by rw [HST.out, HSP.out, hpc, ht, List.append_assoc])
        have hcv : (convert 22 9 (.slice (some ⟨b, off + (p + 2), none⟩) (q - (p + 2)) (cap - (p + 2)))).run Try.prog w1 = .ok (.string ⟨t.toArray⟩) w1 := by
          have := conv_rd (c := cap - (p + 2)) (rd_at (p := p + 2) (k := q - (p + 2)) HRW.out)
          rw [← ht2, htl] at this; exact this
        have hcv2 : cap = p + 2 → (convert 22 9 (.slice (some ⟨b, off, none⟩) (q - (p + 2)) 0)).run Try.prog w1 = .ok (.string ⟨t.toArray⟩) w1 := by
          intro hc
          have h0 : t = [] := List.eq_nil_of_length_eq_zero (by rw [htl]; omega)
          have hq0 : q - (p + 2) = 0 := by omega
          rw [hq0, h0]
          exact conv_rd (N := 0) (a := some ⟨b, off, none⟩) (t := []) (fun i c hc => by simp at hc)
        clear hiS hpc ht ht2
        go_wp2_with fail
        refine HM.out.mono ?_; rintro e w2 ⟨rfl, rfl⟩
        by_cases hcap : cap = p + 2
        · have hcv3 := hcv2 hcap
          subst hcap
          clear hcv hcv2
          go_wp2_with (at_builtin; refine wpList_append_own _ rfl (.tmp 18) (.tmp 25) 33 rfl w.heap.size 9 i0 (.string ⟨#[]⟩) 1 16 Try.underlying33 HI.out.1 HI.out.2.1 HI.out.2.2.1 HI.out.2.2.2 rfl (by decide) _ out.length (out.map sv) rfl (HO.out.alloc _) ⟨w2.heap.size, 0, none⟩ 1 1 [.string ⟨t.toArray⟩] rfl rfl (src_oneS _ _ _) (one_strS _) (by unfold maxLen; omega) (by omega) (by simp; omega) ?_)
          intro v2 w3 hown2 hgr _
          have hb3 : Below w.heap.size w w3 := (HB.out.alloc HB.out.size _).grown hgr (by simp; omega) (fun k hk => (HO.out.lt k hk).1)
          have HO2 := Lib.hid hown2
          have HB3 := Lib.hid hb3
          clear hown2 hgr hb3
          go_wp2_with fail
          go_roundw
          case rel => exact ⟨q + 1, out ++ [t], by go_num, by omega, by simp; omega, HN.out, by simpa [sv] using HO2.out, HB3.out⟩
          case measure => simp [intOf]; omega
        · clear hcv2
          go_wp2_with (at_builtin; refine wpList_append_own _ rfl (.tmp 18) (.tmp 25) 33 rfl w.heap.size 9 i0 (.string ⟨#[]⟩) 1 16 Try.underlying33 HI.out.1 HI.out.2.1 HI.out.2.2.1 HI.out.2.2.2 rfl (by decide) _ out.length (out.map sv) rfl (HO.out.alloc _) ⟨w2.heap.size, 0, none⟩ 1 1 [.string ⟨t.toArray⟩] rfl rfl (src_oneS _ _ _) (one_strS _) (by unfold maxLen; omega) (by omega) (by simp; omega) ?_)
          intro v2 w3 hown2 hgr _
          have hb3 : Below w.heap.size w w3 := (HB.out.alloc HB.out.size _).grown hgr (by simp; omega) (fun k hk => (HO.out.lt k hk).1)
          have HO2 := Lib.hid hown2
          have HB3 := Lib.hid hb3
          clear hown2 hgr hb3
          go_wp2_with fail
          go_roundw
          case rel => exact ⟨q + 1, out ++ [t], by go_num, by omega, by simp; omega, HN.out, by simpa [sv] using HO2.out, HB3.out⟩
          case measure => simp [intOf]; omega
    · have HN := Lib.hid (show strc l = out by rw [HST.out, List.drop_of_length_le (by omega), strc_nil, List.append_nil])
      go_wp2_with fail
      go_ret
      exact ⟨_, rfl, by rw [HN.out]; exact HO.out, HB.out⟩
end Go.Proofs.Ytaebpjcigajolaa
