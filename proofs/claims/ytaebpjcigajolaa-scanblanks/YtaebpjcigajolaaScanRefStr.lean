/-
  Strings in round and in pointed brackets: the document's own answers, by contracts.
-/
import Derived.Test.YtaebpjcigajolaaScanRef
import Derived.Deep.CutBlock
import Derived.Deep.CutRange
namespace Go.Proofs.Ytaebpjcigajolaa
open Go.RowKit
open Sc
/-- a string's bytes and the place behind it, or the error -/
def RStr (l : List UInt8) (o : Option (List UInt8 × List UInt8)) (w : World) (e : Ending) (w' : World) : Prop :=
  ∃ v, e = .returned v ∧ Below w.heap.size w w' ∧
  (match o with
  | none => v = .tuple #[.slice none 0 0, .int .i64 0, .int .i64 14]
  | some x => ∃ s, v = .tuple #[s, .int .i64 ((l.length - x.2.length : Nat) : Int), .int .i64 0] ∧ w'.ownsRow w.heap.size 5 1 s x.1.length (x.1.map bv))
theorem rstr_none {l : List UInt8} {o : Option (List UInt8 × List UInt8)} {w w' : World} (h : o = none) (hb : Below w.heap.size w w') : RStr l o w (.returned (.tuple #[.slice none 0 0, .int .i64 0, .int .i64 14])) w' := by
  subst h; exact ⟨_, rfl, hb, rfl⟩
theorem rstr_some {l t r : List UInt8} {o : Option (List UInt8 × List UInt8)} {w w' : World} {s : Value} {q : Nat} (h : o = some (t, r)) (hq : l.drop q = r) (hql : q ≤ l.length) (hb : Below w.heap.size w w') (ho : w'.ownsRow w.heap.size 5 1 s t.length (t.map bv)) : RStr l o w (.returned (.tuple #[s, .int .i64 q, .int .i64 0])) w' := by
  subst h
  refine ⟨_, rfl, hb, s, ?_, ho⟩
  have e := congrArg List.length hq
  rw [List.length_drop] at e
  show Value.tuple #[s, .int .i64 (q : Int), .int .i64 0] = Value.tuple #[s, .int .i64 ((l.length - r.length : Nat) : Int), .int .i64 0]
  rw [show l.length - r.length = q by omega]
def RRel (l s0 : List UInt8) (w : World) (v d i : Value) (wr : World) : Prop :=
  ∃ (q n : Nat) (tx : List UInt8), d = .int .i64 n ∧ i = .int .i64 q ∧ q ≤ l.length ∧ 1 ≤ n ∧ n ≤ q + 1 ∧ tx.length ≤ q ∧ RndAt s0 tx n (l.drop q) ∧ wr.ownsRow w.heap.size 5 1 v tx.length (tx.map bv) ∧ Below w.heap.size w wr
/-- an append of one byte, told once -/
theorem own_push {w w3 : World} {v2 : Value} {tx : List UInt8} {c : UInt8} {z : Int} (hz : z = c.toNat) (h : w3.ownsRow w.heap.size 5 1 v2 (tx.length + 1) (tx.map bv ++ [.int .u8 z])) : w3.ownsRow w.heap.size 5 1 v2 (tx ++ [c]).length ((tx ++ [c]).map bv) := by
  subst hz
  rw [List.length_append, List.map_append]; exact h
def OctR (l : List UInt8) (q : Nat) (R0 : UInt8 × List UInt8) (wr : World) (i nn kk : Value) (w0 : World) : Prop :=
  ∃ (k q2 m : Nat), k ≤ 2 ∧ i = .int .i64 q2 ∧ nn = .int .i64 m ∧ kk = .int .i64 k ∧ q2 ≤ l.length ∧ q + 2 ≤ q2 ∧ m < 8 ^ (k + 1) ∧ oct (2 - k) (UInt8.ofNat m) (l.drop q2) = R0 ∧ w0 = wr
theorem results_three {fn : Func} (hfn : fn.results = #[.tmp 4, .tmp 5, .tmp 6]) (tmps : Array Value) (P : Program) (W : World) : (results fn tmps).run P W = .ok (.tuple #[tmps.getD 4 undef, tmps.getD 5 undef, tmps.getD 6 undef]) W := by
  simp [results, hfn, go_sem]
def OctE (l : List UInt8) (q : Nat) (R0 : UInt8 × List UInt8) (wr : World) (i nn : Value) (wx : World) : Prop :=
  ∃ (q2 m : Nat), i = .int .i64 q2 ∧ nn = .int .i64 m ∧ q2 ≤ l.length ∧ q + 2 ≤ q2 ∧ m < 512 ∧ UInt8.ofNat m = R0.1 ∧ l.drop q2 = R0.2 ∧ wx = wr
theorem octm {m k x : Nat} (h : m < 8 ^ (k + 1)) (hx : x ≤ 55) : m * 8 + (x - 48) < 8 ^ (k + 1 + 1) := by
  rw [Nat.pow_succ 8 (k + 1)]; omega
theorem octn {m : Nat} {x : UInt8} (h : 48 ≤ x.toNat) : UInt8.ofNat (m * 8 + (x.toNat - 48)) = UInt8.ofNat m * 8 + (x - 48) := by
  apply UInt8.toNat_inj.1
  rw [UInt8.toNat_add, UInt8.toNat_mul, sub48 h]
  simp only [UInt8.toNat_ofNat']
  have : (8 : UInt8).toNat = 8 := rfl
  rw [this]; omega
theorem octz {m : Nat} (_ : m < 512) : ((m : Int) % 256) = ((UInt8.ofNat m).toNat : Int) := by
  simp only [UInt8.toNat_ofNat']; omega
set_option maxRecDepth 100000 in
set_option maxHeartbeats 4000000 in
theorem refRound_at {w : World} {cap p : Nat} {ba : Option Addr} {l : List UInt8} (hrd : RdB w w.heap.size ba l) (hl : l.length ≤ 65535) (hp : p < l.length) :
    Calls Try.prog 22 #[.slice ba l.length cap, .int .i64 p] w (RStr l (rnd 1 (l.drop (p + 1))) w) := by
  have HR0 := Lib.hid hrd
  obtain ⟨i0, hi, hz0, hz1, hz2⟩ := info_parts u8_infoS
  have HI := Lib.hid (And.intro hi (And.intro hz0 (And.intro hz1 hz2)))
  obtain ⟨s0, hs0⟩ : ∃ s, l.drop (p + 1) = s := ⟨_, rfl⟩
  rw [hs0]
  have HS0 := Lib.hid hs0
  clear hrd hi hz0 hz1 hz2 hs0
  go_enter Try.func22, Try.ntmps22
  go_wp2_with fail
  go_loopw [7, 8, 9] (fun v d i wr => RRel l s0 w v d i wr) (fun _ _ i _ => l.length + 1 - (intOf i).toNat)
  case atStart => exact ⟨p + 1, 1, [], rfl, by go_num, by omega, by omega, by omega, by simp, by rw [HS0.out]; exact RndAt.start _, World.ownsRow_nil _ _ _ _, Below.refl _ _⟩
  case round =>
    obtain ⟨q, n, tx, rfl, rfl, hq, hn1, hnq, htx, hr, hown, hb⟩ := hrel
    have HO := Lib.hid hown
    have HB := Lib.hid hb
    have HRW := Lib.hid (HR0.out.below hb)
    have hsz := hb.size
    clear hown hb
    cases hs : l.drop q with
    | nil =>
      have hql : q = l.length := drop_end hs hq
      have HN := Lib.hid (hr.fail (by rw [hs]; rfl))
      subst hql
      clear hr hs hq
      go_wp2_with fail
      refine bodyPost_ret (results_three Try.results22 _ _ _) rfl ?_
      exact rstr_none HN.out HB.out
    | cons c s =>
      obtain ⟨hc, hs1, hlt⟩ := drop_at hs
      obtain ⟨b, off, rfl, hbN, hcell⟩ := HRW.out q c hc
      have HS1 := Lib.hid hs1
      rw [hs] at hr
      have HR := Lib.hid hr
      clear hs hs1 hc hr
      by_cases h40 : c = 40
      · subst h40
        as_aux_lemma =>
          go_wp2_with (at_builtin; refine wpList_append_own _ rfl (.tmp 54) (.tmp 56) 22 rfl w.heap.size 5 i0 (.int .u8 0) 1 1 Try.underlying22 HI.out.1 HI.out.2.1 HI.out.2.2.1 HI.out.2.2.2 rfl (by decide) _ tx.length (tx.map bv) rfl (HO.out.alloc _) ⟨wr.heap.size, 0, none⟩ 1 1 [.int .u8 40] rfl rfl (src_oneS _ _ _) (one_u8S _) (by unfold maxLen; omega) (by omega) (by simp; omega) ?_)
          intro v2 w3 hown2 hgr _
          have HB3 := Lib.hid (show Below w.heap.size w w3 from (HB.out.alloc HB.out.size _).grown hgr (by simp; omega) (fun k hk => (HO.out.lt k hk).1))
          have HO2 := Lib.hid (own_push (c := 40) rfl hown2)
          clear hown2 hgr
          go_wp2_with fail
          go_roundw
          case rel => exact ⟨q + 1, n + 1, tx ++ [40], by go_num, by go_num, by omega, by omega, by omega, by simp; omega, by rw [HS1.out]; exact HR.out.step rfl, HO2.out, HB3.out⟩
          case measure => simp [intOf]; omega
      by_cases h41 : c = 41
      · subst h41
        by_cases hn : n = 1
        · subst hn
          have HD := Lib.hid (HR.out.done rfl)
          as_aux_lemma =>
            go_wp2_with fail
            refine bodyPost_ret (results_three Try.results22 _ _ _) rfl ?_
            exact rstr_some (q := q + 1) HD.out HS1.out (by omega) HB.out HO.out
        · have hst1 : stp n (41 :: s) = .go (n - 1) [41] s := by rw [stp, if_neg (by decide), if_pos rfl, if_neg hn]
          have HST := Lib.hid hst1
          have hd0 : ((n : Int) - 1 == 0) = false := by
            have : ¬ (n : Int) - 1 = 0 := by omega
            simp [this]
          clear hst1
          as_aux_lemma =>
            go_wp2_with (at_builtin; refine wpList_append_own _ rfl (.tmp 54) (.tmp 56) 22 rfl w.heap.size 5 i0 (.int .u8 0) 1 1 Try.underlying22 HI.out.1 HI.out.2.1 HI.out.2.2.1 HI.out.2.2.2 rfl (by decide) _ tx.length (tx.map bv) rfl (HO.out.alloc _) ⟨wr.heap.size, 0, none⟩ 1 1 [.int .u8 41] rfl rfl (src_oneS _ _ _) (one_u8S _) (by unfold maxLen; omega) (by omega) (by simp; omega) ?_)
            intro v2 w3 hown2 hgr _
            have HB3 := Lib.hid (show Below w.heap.size w w3 from (HB.out.alloc HB.out.size _).grown hgr (by simp; omega) (fun k hk => (HO.out.lt k hk).1))
            have HO2 := Lib.hid (own_push (c := 41) rfl hown2)
            clear hown2 hgr
            go_wp2_with fail
            go_roundw
            case rel => exact ⟨q + 1, n - 1, tx ++ [41], by congr 1; omega, by go_num, by omega, by omega, by omega, by simp; omega, by rw [HS1.out]; exact HR.out.step HST.out, HO2.out, HB3.out⟩
            case measure => simp [intOf]; omega
      by_cases h13 : c = 13
      · subst h13
        have hst1 : stp n (13 :: s) = .go n [10] (lf s) := by rw [stp, if_neg (by decide), if_neg (by decide), if_pos rfl]
        have HST := Lib.hid hst1
        clear hst1
        cases hs2 : l.drop (q + 1) with
        | nil =>
          have hge : ¬ q + 1 < l.length := by have := drop_end hs2 (by omega); omega
          have HL := Lib.hid (show l.drop (q + 1) = lf s by rw [← HS1.out, hs2]; rfl)
          clear hs2
          as_aux_lemma =>
            go_wp2_with (at_builtin; refine wpList_append_own _ rfl (.tmp 54) (.tmp 56) 22 rfl w.heap.size 5 i0 (.int .u8 0) 1 1 Try.underlying22 HI.out.1 HI.out.2.1 HI.out.2.2.1 HI.out.2.2.2 rfl (by decide) _ tx.length (tx.map bv) rfl (HO.out.alloc _) ⟨wr.heap.size, 0, none⟩ 1 1 [.int .u8 10] rfl rfl (src_oneS _ _ _) (one_u8S _) (by unfold maxLen; omega) (by omega) (by simp; omega) ?_)
            intro v2 w3 hown2 hgr _
            have HB3 := Lib.hid (show Below w.heap.size w w3 from (HB.out.alloc HB.out.size _).grown hgr (by simp; omega) (fun k hk => (HO.out.lt k hk).1))
            have HO2 := Lib.hid (own_push (c := 10) rfl hown2)
            clear hown2 hgr
            go_wp2_with fail
            go_roundw
            case rel => exact ⟨q + 1, n, tx ++ [10], rfl, by go_num, by omega, by omega, by omega, by simp; omega, by rw [HL.out]; exact HR.out.step HST.out, HO2.out, HB3.out⟩
            case measure => simp [intOf]; omega
        | cons x s2 =>
          obtain ⟨hx, hs21, hlt2⟩ := drop_at hs2
          obtain ⟨b', off', e', _, hcx⟩ := HRW.out (q + 1) x hx
          cases e'
          by_cases hx10 : x = 10
          · subst hx10
            have HL := Lib.hid (show l.drop (q + 2) = lf s by rw [← HS1.out, hs2, lf, if_pos rfl, ← hs21])
            have hc10 : wr.cell? ⟨b, off + (q + 1), none⟩ = some (.int .u8 10) := hcx
            clear hs2 hs21 hx hcx
            as_aux_lemma =>
              go_wp2_with (at_builtin; refine wpList_append_own _ rfl (.tmp 54) (.tmp 56) 22 rfl w.heap.size 5 i0 (.int .u8 0) 1 1 Try.underlying22 HI.out.1 HI.out.2.1 HI.out.2.2.1 HI.out.2.2.2 rfl (by decide) _ tx.length (tx.map bv) rfl (HO.out.alloc _) ⟨wr.heap.size, 0, none⟩ 1 1 [.int .u8 10] rfl rfl (src_oneS _ _ _) (one_u8S _) (by unfold maxLen; omega) (by omega) (by simp; omega) ?_)
              intro v2 w3 hown2 hgr _
              have HB3 := Lib.hid (show Below w.heap.size w w3 from (HB.out.alloc HB.out.size _).grown hgr (by simp; omega) (fun k hk => (HO.out.lt k hk).1))
              have HO2 := Lib.hid (own_push (c := 10) rfl hown2)
              clear hown2 hgr
              go_wp2_with fail
              go_roundw
              case rel => exact ⟨q + 2, n, tx ++ [10], rfl, by go_num, by omega, by omega, by omega, by simp; omega, by rw [HL.out]; exact HR.out.step HST.out, HO2.out, HB3.out⟩
              case measure => simp [intOf]; omega
          · have HL := Lib.hid (show l.drop (q + 1) = lf s by rw [← HS1.out, hs2, lf, if_neg hx10])
            have bx : ((x.toNat : Int) == 10) = false := beqF (k := 10) (fun e => hx10 (UInt8.toNat_inj.1 (e.trans rfl)))
            clear hs2 hs21 hx hx10
            as_aux_lemma =>
              go_wp2_with (at_builtin; refine wpList_append_own _ rfl (.tmp 54) (.tmp 56) 22 rfl w.heap.size 5 i0 (.int .u8 0) 1 1 Try.underlying22 HI.out.1 HI.out.2.1 HI.out.2.2.1 HI.out.2.2.2 rfl (by decide) _ tx.length (tx.map bv) rfl (HO.out.alloc _) ⟨wr.heap.size, 0, none⟩ 1 1 [.int .u8 10] rfl rfl (src_oneS _ _ _) (one_u8S _) (by unfold maxLen; omega) (by omega) (by simp; omega) ?_)
              intro v2 w3 hown2 hgr _
              have HB3 := Lib.hid (show Below w.heap.size w w3 from (HB.out.alloc HB.out.size _).grown hgr (by simp; omega) (fun k hk => (HO.out.lt k hk).1))
              have HO2 := Lib.hid (own_push (c := 10) rfl hown2)
              clear hown2 hgr
              go_wp2_with fail
              go_roundw
              case rel => exact ⟨q + 1, n, tx ++ [10], rfl, by go_num, by omega, by omega, by omega, by simp; omega, by rw [HL.out]; exact HR.out.step HST.out, HO2.out, HB3.out⟩
              case measure => simp [intOf]; omega
      by_cases h92 : c = 92
      · subst h92
        have hst92 : ∀ y r, esc s = some (y, r) → stp n (92 :: s) = .go n y r := fun y r e => by rw [stp, if_neg (by decide), if_neg (by decide), if_neg (by decide), if_pos rfl, e]
        have HES := Lib.hid hst92
        clear hst92
        cases hs2 : l.drop (q + 1) with
        | nil =>
          have hge : ¬ q + 1 < l.length := by have := drop_end hs2 (by omega); omega
          have HN := Lib.hid (HR.out.fail (show stp n (92 :: s) = .fail by rw [← HS1.out, hs2]; rfl))
          clear hs2
          as_aux_lemma =>
            go_wp2_with fail
            refine bodyPost_ret (results_three Try.results22 _ _ _) rfl ?_
            exact rstr_none HN.out HB.out
        | cons d s2 =>
          obtain ⟨hd, hs21, hlt2⟩ := drop_at hs2
          obtain ⟨b', off', e', _, hcd⟩ := HRW.out (q + 1) d hd
          cases e'
          have hsd : s = d :: s2 := by rw [← HS1.out, hs2]
          rw [hsd] at HES HR
          have HS2 := Lib.hid hs21
          clear hs2 hs21 hd hsd
          by_cases h110 : d = 110
          · subst h110
            as_aux_lemma =>
              go_wp2_with (at_builtin; refine wpList_append_own _ rfl (.tmp 75) (.tmp 76) 22 rfl w.heap.size 5 i0 (.int .u8 0) 1 1 Try.underlying22 HI.out.1 HI.out.2.1 HI.out.2.2.1 HI.out.2.2.2 rfl (by decide) _ tx.length (tx.map bv) rfl (HO.out.alloc _) ⟨wr.heap.size, 0, none⟩ 1 1 [.int .u8 10] rfl rfl (src_oneS _ _ _) (one_u8S _) (by unfold maxLen; omega) (by omega) (by simp; omega) ?_)
              intro v2 w3 hown2 hgr _
              have HB3 := Lib.hid (show Below w.heap.size w w3 from (HB.out.alloc HB.out.size _).grown hgr (by simp; omega) (fun k hk => (HO.out.lt k hk).1))
              have HO2 := Lib.hid (own_push (c := 10) rfl hown2)
              clear hown2 hgr
              go_wp2_with fail
              go_roundw
              case rel => exact ⟨q + 2, n, tx ++ [10], rfl, by go_num, by omega, by omega, by omega, by simp; omega, by rw [HS2.out]; exact HR.out.step (HES.out _ _ rfl), HO2.out, HB3.out⟩
              case measure => simp [intOf]; omega
          by_cases h114 : d = 114
          · subst h114
            as_aux_lemma =>
              go_wp2_with (at_builtin; refine wpList_append_own _ rfl (.tmp 81) (.tmp 82) 22 rfl w.heap.size 5 i0 (.int .u8 0) 1 1 Try.underlying22 HI.out.1 HI.out.2.1 HI.out.2.2.1 HI.out.2.2.2 rfl (by decide) _ tx.length (tx.map bv) rfl (HO.out.alloc _) ⟨wr.heap.size, 0, none⟩ 1 1 [.int .u8 13] rfl rfl (src_oneS _ _ _) (one_u8S _) (by unfold maxLen; omega) (by omega) (by simp; omega) ?_)
              intro v2 w3 hown2 hgr _
              have HB3 := Lib.hid (show Below w.heap.size w w3 from (HB.out.alloc HB.out.size _).grown hgr (by simp; omega) (fun k hk => (HO.out.lt k hk).1))
              have HO2 := Lib.hid (own_push (c := 13) rfl hown2)
              clear hown2 hgr
              go_wp2_with fail
              go_roundw
              case rel => exact ⟨q + 2, n, tx ++ [13], rfl, by go_num, by omega, by omega, by omega, by simp; omega, by rw [HS2.out]; exact HR.out.step (HES.out _ _ rfl), HO2.out, HB3.out⟩
              case measure => simp [intOf]; omega
          by_cases h116 : d = 116
          · subst h116
            as_aux_lemma =>
              go_wp2_with (at_builtin; refine wpList_append_own _ rfl (.tmp 87) (.tmp 88) 22 rfl w.heap.size 5 i0 (.int .u8 0) 1 1 Try.underlying22 HI.out.1 HI.out.2.1 HI.out.2.2.1 HI.out.2.2.2 rfl (by decide) _ tx.length (tx.map bv) rfl (HO.out.alloc _) ⟨wr.heap.size, 0, none⟩ 1 1 [.int .u8 9] rfl rfl (src_oneS _ _ _) (one_u8S _) (by unfold maxLen; omega) (by omega) (by simp; omega) ?_)
              intro v2 w3 hown2 hgr _
              have HB3 := Lib.hid (show Below w.heap.size w w3 from (HB.out.alloc HB.out.size _).grown hgr (by simp; omega) (fun k hk => (HO.out.lt k hk).1))
              have HO2 := Lib.hid (own_push (c := 9) rfl hown2)
              clear hown2 hgr
              go_wp2_with fail
              go_roundw
              case rel => exact ⟨q + 2, n, tx ++ [9], rfl, by go_num, by omega, by omega, by omega, by simp; omega, by rw [HS2.out]; exact HR.out.step (HES.out _ _ rfl), HO2.out, HB3.out⟩
              case measure => simp [intOf]; omega
          by_cases h98 : d = 98
          · subst h98
            as_aux_lemma =>
              go_wp2_with (at_builtin; refine wpList_append_own _ rfl (.tmp 93) (.tmp 94) 22 rfl w.heap.size 5 i0 (.int .u8 0) 1 1 Try.underlying22 HI.out.1 HI.out.2.1 HI.out.2.2.1 HI.out.2.2.2 rfl (by decide) _ tx.length (tx.map bv) rfl (HO.out.alloc _) ⟨wr.heap.size, 0, none⟩ 1 1 [.int .u8 8] rfl rfl (src_oneS _ _ _) (one_u8S _) (by unfold maxLen; omega) (by omega) (by simp; omega) ?_)
              intro v2 w3 hown2 hgr _
              have HB3 := Lib.hid (show Below w.heap.size w w3 from (HB.out.alloc HB.out.size _).grown hgr (by simp; omega) (fun k hk => (HO.out.lt k hk).1))
              have HO2 := Lib.hid (own_push (c := 8) rfl hown2)
              clear hown2 hgr
              go_wp2_with fail
              go_roundw
              case rel => exact ⟨q + 2, n, tx ++ [8], rfl, by go_num, by omega, by omega, by omega, by simp; omega, by rw [HS2.out]; exact HR.out.step (HES.out _ _ rfl), HO2.out, HB3.out⟩
              case measure => simp [intOf]; omega
          by_cases h102 : d = 102
          · subst h102
            as_aux_lemma =>
              go_wp2_with (at_builtin; refine wpList_append_own _ rfl (.tmp 99) (.tmp 100) 22 rfl w.heap.size 5 i0 (.int .u8 0) 1 1 Try.underlying22 HI.out.1 HI.out.2.1 HI.out.2.2.1 HI.out.2.2.2 rfl (by decide) _ tx.length (tx.map bv) rfl (HO.out.alloc _) ⟨wr.heap.size, 0, none⟩ 1 1 [.int .u8 12] rfl rfl (src_oneS _ _ _) (one_u8S _) (by unfold maxLen; omega) (by omega) (by simp; omega) ?_)
              intro v2 w3 hown2 hgr _
              have HB3 := Lib.hid (show Below w.heap.size w w3 from (HB.out.alloc HB.out.size _).grown hgr (by simp; omega) (fun k hk => (HO.out.lt k hk).1))
              have HO2 := Lib.hid (own_push (c := 12) rfl hown2)
              clear hown2 hgr
              go_wp2_with fail
              go_roundw
              case rel => exact ⟨q + 2, n, tx ++ [12], rfl, by go_num, by omega, by omega, by omega, by simp; omega, by rw [HS2.out]; exact HR.out.step (HES.out _ _ rfl), HO2.out, HB3.out⟩
              case measure => simp [intOf]; omega
          by_cases h10 : d = 10
          · subst h10
            as_aux_lemma =>
              go_wp2_with fail
              go_roundw
              case rel => exact ⟨q + 2, n, tx, rfl, by go_num, by omega, by omega, by omega, by omega, by rw [HS2.out]; have h := HR.out.step (HES.out _ _ rfl); rw [List.append_nil] at h; exact h, HO.out, HB.out⟩
              case measure => simp [intOf]; omega
          by_cases h13b : d = 13
          · subst h13b
            cases hs3 : l.drop (q + 1 + 1) with
            | nil =>
              have hge : ¬ q + 1 + 1 < l.length := by have := drop_end hs3 (by omega); omega
              have HL := Lib.hid (show l.drop (q + 2) = lf s2 by rw [← HS2.out, hs3]; rfl)
              clear hs3
              as_aux_lemma =>
                go_wp2_with fail
                go_roundw
                case rel => exact ⟨q + 2, n, tx, rfl, by go_num, by omega, by omega, by omega, by omega, by rw [HL.out]; have h := HR.out.step (HES.out _ _ rfl); rw [List.append_nil] at h; exact h, HO.out, HB.out⟩
                case measure => simp [intOf]; omega
            | cons x s3 =>
              obtain ⟨hx, hs31, hlt3⟩ := drop_at hs3
              obtain ⟨b', off', e', _, hcx⟩ := HRW.out (q + 1 + 1) x hx
              cases e'
              by_cases hx10 : x = 10
              · subst hx10
                have HL := Lib.hid (show l.drop (q + 3) = lf s2 by rw [← HS2.out, hs3, lf, if_pos rfl, ← hs31])
                have hc10 : wr.cell? ⟨b, off + (q + 1 + 1), none⟩ = some (.int .u8 10) := hcx
                clear hs3 hs31 hx hcx
                as_aux_lemma =>
                  go_wp2_with fail
                  go_roundw
                  case rel => exact ⟨q + 3, n, tx, rfl, by go_num, by omega, by omega, by omega, by omega, by rw [HL.out]; have h := HR.out.step (HES.out _ _ rfl); rw [List.append_nil] at h; exact h, HO.out, HB.out⟩
                  case measure => simp [intOf]; omega
              · have HL := Lib.hid (show l.drop (q + 2) = lf s2 by rw [← HS2.out, hs3, lf, if_neg hx10])
                have bx : ((x.toNat : Int) == 10) = false := beqF (k := 10) (fun e => hx10 (UInt8.toNat_inj.1 (e.trans rfl)))
                clear hs3 hs31 hx hx10
                as_aux_lemma =>
                  go_wp2_with fail
                  go_roundw
                  case rel => exact ⟨q + 2, n, tx, rfl, by go_num, by omega, by omega, by omega, by omega, by rw [HL.out]; have h := HR.out.step (HES.out _ _ rfl); rw [List.append_nil] at h; exact h, HO.out, HB.out⟩
                  case measure => simp [intOf]; omega
          have n0 : ∀ k : UInt8, d ≠ k → ((d.toNat : Int) == (k.toNat : Int)) = false := fun k hk => beqF (fun e => hk (UInt8.toNat_inj.1 e))
          have d110 : ((d.toNat : Int) == 110) = false := n0 110 h110
          have d114 : ((d.toNat : Int) == 114) = false := n0 114 h114
          have d116 : ((d.toNat : Int) == 116) = false := n0 116 h116
          have d98 : ((d.toNat : Int) == 98) = false := n0 98 h98
          have d102 : ((d.toNat : Int) == 102) = false := n0 102 h102
          have d10 : ((d.toNat : Int) == 10) = false := n0 10 h10
          have d13 : ((d.toNat : Int) == 13) = false := n0 13 h13b
          have hes : esc (d :: s2) = if isOct d then some ([(oct 2 (d - 48) s2).1], (oct 2 (d - 48) s2).2) else some ([d], s2) := by
            rw [esc, if_neg h110, if_neg h114, if_neg h116, if_neg h98, if_neg h102, if_neg h10, if_neg h13b]
          clear n0 h110 h114 h116 h98 h102 h10 h13b h40 h41 h13
          cases ho : isOct d with
          | true =>
            rw [ho, if_pos rfl] at hes
            have HX := Lib.hid (HR.out.step (HES.out _ _ hes))
            have h48 : 48 ≤ d.toNat ∧ d.toNat ≤ 55 := by rw [isOct_nat] at ho; exact of_decide_eq_true ho
            have o1 := h48.1
            have o2 := h48.2
            obtain ⟨R0, hR0⟩ : ∃ R0, oct 2 (d - 48) s2 = R0 := ⟨_, rfl⟩
            rw [hR0] at HX
            have HR0 := Lib.hid hR0
            clear hes ho h48 hR0
            as_aux_lemma =>
              go_upto_block 3 with fail
              go_cut [9, 11, 12] from 15 to 171 (fun i nn _ wx => OctE l q R0 wr i nn wx)
              case first =>
                go_wp2_with fail
                simp only [show decide ((d.toNat : Int) ≤ 55) = true from decide_eq_true (by omega)]
                go_loopw [9, 11, 12] (fun i nn kk w0 => OctR l q R0 wr i nn kk w0) (fun _ _ kk _ => 2 - (intOf kk).toNat)
                case atStart =>
                  refine ⟨0, q + 2, d.toNat - 48, by omega, rfl, by congr 1; omega, by go_num, by omega, by omega, by omega, ?_, rfl⟩
                  rw [HS2.out, ← HR0.out]
                  show oct 2 (UInt8.ofNat (d.toNat - 48)) s2 = _
                  rw [← sub48 o1]; simp
                case round =>
                  obtain ⟨k, q2, m, hk, rfl, rfl, rfl, hq2, hqq, hm0, hoct, rfl⟩ := hrel
                  have hm : m < 512 := Nat.lt_of_lt_of_le hm0 (Nat.pow_le_pow_right (n := 8) (by decide) (by omega : k + 1 ≤ 3))
                  by_cases hk2 : k = 2
                  · subst hk2
                    have HE := Lib.hid (show UInt8.ofNat m = R0.1 ∧ l.drop q2 = R0.2 by rw [← hoct]; exact ⟨rfl, rfl⟩)
                    clear hoct
                    go_wp2_with fail
                    go_meet
                    case rel => exact ⟨q2, m, rfl, rfl, hq2, hqq, hm, HE.out.1, HE.out.2, rfl⟩
                  have hk2 : k < 2 := by omega
                  obtain ⟨k', hk'⟩ : ∃ k', 2 - k = k' + 1 := ⟨1 - k, by omega⟩
                  rw [hk'] at hoct
                  cases hs3 : l.drop q2 with
                  | nil =>
                    have hge : ¬ q2 < l.length := by have := drop_end hs3 hq2; omega
                    have HE := Lib.hid (show UInt8.ofNat m = R0.1 ∧ l.drop q2 = R0.2 by rw [← hoct, hs3]; exact ⟨rfl, rfl⟩)
                    clear hoct hs3
                    go_wp2_with fail
                    go_meet
                    case rel => exact ⟨q2, m, rfl, rfl, hq2, hqq, hm, HE.out.1, HE.out.2, rfl⟩
                  | cons x s3 =>
                    obtain ⟨hx, hs31, hlt3⟩ := drop_at hs3
                    obtain ⟨b', off', e', _, hcx⟩ := HRW.out q2 x hx
                    cases e'
                    cases hox : isOct x with
                    | false =>
                      have HE := Lib.hid (show UInt8.ofNat m = R0.1 ∧ l.drop q2 = R0.2 by rw [← hoct, hs3, oct_stop hox]; exact ⟨rfl, rfl⟩)
                      have hx48 : ¬ (48 ≤ x.toNat ∧ x.toNat ≤ 55) := by rw [isOct_nat] at hox; exact of_decide_eq_false hox
                      clear hoct hs3 hs31 hx hox
                      by_cases hx48a : 48 ≤ x.toNat
                      · have hx55 : ¬ x.toNat ≤ 55 := by omega
                        clear hx48
                        go_wp2_with fail
                        go_meet
                        case rel => exact ⟨q2, m, rfl, rfl, hq2, hqq, hm, HE.out.1, HE.out.2, rfl⟩
                      · clear hx48
                        go_wp2_with fail
                        go_meet
                        case rel => exact ⟨q2, m, rfl, rfl, hq2, hqq, hm, HE.out.1, HE.out.2, rfl⟩
                    | true =>
                      have HE := Lib.hid (show oct k' (UInt8.ofNat m * 8 + (x - 48)) (l.drop (q2 + 1)) = R0 by rw [← hoct, hs3, oct_step hox, hs31])
                      have hx48 : 48 ≤ x.toNat ∧ x.toNat ≤ 55 := by rw [isOct_nat] at hox; exact of_decide_eq_true hox
                      have hx1 := hx48.1
                      have hx2 := hx48.2
                      clear hoct hs3 hs31 hx hox hx48
                      go_wp2_with fail
                      go_roundw
                      case rel =>
                        refine ⟨k + 1, q2 + 1, m * 8 + (x.toNat - 48), by omega, by go_num, by congr 1; omega, by go_num, by omega, by omega, octm hm0 hx2, ?_, rfl⟩
                        rw [← HE.out, octn hx1, show 2 - (k + 1) = k' by omega]
                      case measure => simp [intOf]; omega
              case rest =>
                obtain ⟨q2, m, rfl, rfl, hq2, hqq, hm, hE1, hE2, rfl⟩ := hcut
                have HE := Lib.hid (And.intro hE1 hE2)
                clear hE1 hE2
                go_wp2_with (at_builtin; refine wpList_append_own _ rfl (.tmp 166) (.tmp 170) 22 rfl w.heap.size 5 i0 (.int .u8 0) 1 1 Try.underlying22 HI.out.1 HI.out.2.1 HI.out.2.2.1 HI.out.2.2.2 rfl (by decide) _ tx.length (tx.map bv) rfl (HO.out.alloc _) ⟨wc.heap.size, 0, none⟩ 1 1 [.int .u8 _] rfl rfl (src_oneS _ _ _) (one_u8S _) (by unfold maxLen; omega) (by omega) (by simp; omega) ?_)
                intro v2 w3 hown2 hgr _
                have HB3 := Lib.hid (show Below w.heap.size w w3 from (HB.out.alloc HB.out.size _).grown hgr (by simp; omega) (fun k hk => (HO.out.lt k hk).1))
                have HO2 := Lib.hid (own_push (c := UInt8.ofNat m) (octz hm) hown2)
                clear hown2 hgr
                go_wp2_with fail
                go_roundw
                case rel => exact ⟨q2, n, tx ++ [UInt8.ofNat m], rfl, rfl, by omega, by omega, by omega, by simp; omega, by rw [HE.out.2]; rw [HE.out.1]; exact HX.out, HO2.out, HB3.out⟩
                case measure => simp [intOf]; omega
          | false =>
            rw [ho, if_neg (by decide)] at hes
            have HX := Lib.hid (HR.out.step (HES.out _ _ hes))
            have h48 : ¬ (48 ≤ d.toNat ∧ d.toNat ≤ 55) := by rw [isOct_nat] at ho; exact of_decide_eq_false ho
            clear hes ho
            by_cases h48a : 48 ≤ d.toNat
            · have h55 : ¬ d.toNat ≤ 55 := by omega
              clear h48
              as_aux_lemma =>
                go_wp2_with (at_builtin; refine wpList_append_own _ rfl (.tmp 68) (.tmp 70) 22 rfl w.heap.size 5 i0 (.int .u8 0) 1 1 Try.underlying22 HI.out.1 HI.out.2.1 HI.out.2.2.1 HI.out.2.2.2 rfl (by decide) _ tx.length (tx.map bv) rfl (HO.out.alloc _) ⟨wr.heap.size, 0, none⟩ 1 1 [.int .u8 d.toNat] rfl rfl (src_oneS _ _ _) (one_u8S _) (by unfold maxLen; omega) (by omega) (by simp; omega) ?_)
                intro v2 w3 hown2 hgr _
                have HB3 := Lib.hid (show Below w.heap.size w w3 from (HB.out.alloc HB.out.size _).grown hgr (by simp; omega) (fun k hk => (HO.out.lt k hk).1))
                have HO2 := Lib.hid (own_push (c := d) rfl hown2)
                clear hown2 hgr
                go_wp2_with fail
                go_roundw
                case rel => exact ⟨q + 2, n, tx ++ [d], rfl, by go_num, by omega, by omega, by omega, by simp; omega, by rw [HS2.out]; exact HX.out, HO2.out, HB3.out⟩
                case measure => simp [intOf]; omega
            · clear h48
              as_aux_lemma =>
                go_wp2_with (at_builtin; refine wpList_append_own _ rfl (.tmp 68) (.tmp 70) 22 rfl w.heap.size 5 i0 (.int .u8 0) 1 1 Try.underlying22 HI.out.1 HI.out.2.1 HI.out.2.2.1 HI.out.2.2.2 rfl (by decide) _ tx.length (tx.map bv) rfl (HO.out.alloc _) ⟨wr.heap.size, 0, none⟩ 1 1 [.int .u8 d.toNat] rfl rfl (src_oneS _ _ _) (one_u8S _) (by unfold maxLen; omega) (by omega) (by simp; omega) ?_)
                intro v2 w3 hown2 hgr _
                have HB3 := Lib.hid (show Below w.heap.size w w3 from (HB.out.alloc HB.out.size _).grown hgr (by simp; omega) (fun k hk => (HO.out.lt k hk).1))
                have HO2 := Lib.hid (own_push (c := d) rfl hown2)
                clear hown2 hgr
                go_wp2_with fail
                go_roundw
                case rel => exact ⟨q + 2, n, tx ++ [d], rfl, by go_num, by omega, by omega, by omega, by simp; omega, by rw [HS2.out]; exact HX.out, HO2.out, HB3.out⟩
                case measure => simp [intOf]; omega
      have n0 : ∀ k : UInt8, c ≠ k → ((c.toNat : Int) == (k.toNat : Int)) = false := fun k hk => beqF (fun e => hk (UInt8.toNat_inj.1 e))
      have b40 : ((c.toNat : Int) == 40) = false := n0 40 h40
      have b41 : ((c.toNat : Int) == 41) = false := n0 41 h41
      have b13 : ((c.toNat : Int) == 13) = false := n0 13 h13
      have b92 : ((c.toNat : Int) != 92) = true := by have := n0 92 h92; simpa [bne] using this
      have HST := Lib.hid (HR.out.step (show stp n (c :: s) = .go n [c] s by rw [stp, if_neg h40, if_neg h41, if_neg h13, if_neg h92]))
      clear n0 h40 h41 h13 h92
      go_wp2_with (at_builtin; refine wpList_append_own _ rfl (.tmp 54) (.tmp 56) 22 rfl w.heap.size 5 i0 (.int .u8 0) 1 1 Try.underlying22 HI.out.1 HI.out.2.1 HI.out.2.2.1 HI.out.2.2.2 rfl (by decide) _ tx.length (tx.map bv) rfl (HO.out.alloc _) ⟨wr.heap.size, 0, none⟩ 1 1 [.int .u8 c.toNat] rfl rfl (src_oneS _ _ _) (one_u8S _) (by unfold maxLen; omega) (by omega) (by simp; omega) ?_)
      intro v2 w3 hown2 hgr _
      have HB3 := Lib.hid (show Below w.heap.size w w3 from (HB.out.alloc HB.out.size _).grown hgr (by simp; omega) (fun k hk => (HO.out.lt k hk).1))
      have HO2 := Lib.hid (own_push (c := c) rfl hown2)
      clear hown2 hgr
      go_wp2_with fail
      go_roundw
      case rel => exact ⟨q + 1, n, tx ++ [c], rfl, by go_num, by omega, by omega, by omega, by simp; omega, by rw [HS1.out]; exact HST.out, HO2.out, HB3.out⟩
      case measure => simp [intOf]; omega
end Go.Proofs.Ytaebpjcigajolaa
