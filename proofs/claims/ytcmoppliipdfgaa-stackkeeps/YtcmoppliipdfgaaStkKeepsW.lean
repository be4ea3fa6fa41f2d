/-
  The law StackKeeps, walked.
-/
import Derived.Test.YtcmoppliipdfgaaStkNil
import Derived.Deep.DeepCutAuto
namespace Go.Proofs.Ytcmoppliipdfgaa
open Go.RowKit
open St Stk
/-- what a Take of all leaves: the row is not the stack's -/
def TkR (w : World) (s : Nat) (most ov un : Int) (l t : List Ob) (a : Option Addr) (c : Nat) (w' : World) : Prop := ∃ O : Nat → Prop, Sk O w' s most ov un l ∧ (∀ k, O k → w.heap.size ≤ k) ∧ Below w.heap.size w w' ∧ SL w' (.slice a t.length c) t ∧ ∀ k, isB (.slice a t.length c) k → ¬ O k
theorem st_take {w wr : World} {s i : Nat} {most ov un : Int} {l : List Ob} (h : Stt w wr s most ov un l) (hi : i ≤ l.length) : Calls Try.prog 55 #[.pointer (some ⟨s, 0, none⟩), .int .i64 i] wr fun e w' => ∃ a c, e = .returned (.tuple #[.slice a (l.drop (l.length - i)).length c, .int .i64 0]) ∧ TkR w s most ov un (l.take (l.length - i)) (l.drop (l.length - i)) a c w' := by
  obtain ⟨O, h1, h2, h3⟩ := h
  refine (take_yes h1 hi).mono ?_
  rintro e w' ⟨v, rfl, hs, O', hk, hF, hO, hn⟩
  obtain ⟨a, c, rfl, _⟩ := hs.form
  refine ⟨a, c, rfl, O', hk, fun k hk2 => ?_, ⟨hF.os.trans h3.os, hF.tape.trans h3.tape, hF.output.trans h3.output, Nat.le_trans h3.size hF.size, fun k hk2 => (hF.block k (by have := h3.size; omega) (fun e => by have := h2 k e; omega)).trans (h3.block k hk2)⟩, hs, fun k hk2 => (hn k hk2).2⟩
  rcases hO k hk2 with e | e
  · exact h2 k e
  · have := h3.size; omega
theorem tk_push {w wr : World} {s : Nat} {most ov un : Int} {l t ys : List Ob} {a b : Option Addr} {c d : Nat} (h : TkR w s most ov un l t a c wr) (hs : SrcO wr b ys) (hd : b = none → d = 0) (hm : l.length + ys.length ≤ 50000) (hf : (l.length : Int) + ys.length ≤ most) :
    Calls Try.prog 53 #[.pointer (some ⟨s, 0, none⟩), .slice b ys.length d] wr fun e w' => e = .returned (.int .i64 0) ∧ SrcO w' a t ∧ Below w.heap.size w w' := by
  obtain ⟨O, h1, h2, h3, h4, h5⟩ := h
  refine (push_fit h1 hs hd hm hf).mono ?_
  rintro e w' ⟨rfl, hp⟩
  refine ⟨rfl, ?_, (turn_stt h2 h3 hp).bel⟩
  obtain ⟨O', _, hF, _⟩ := hp
  exact (h4.same (fun k hk => hF.block k (h4.lt hk) (h5 k hk))).src
theorem src_made (w : World) (n : Nat) : SrcO (w.alloc (.cells (nobs n) 40)) (some ⟨w.heap.size, 0, none⟩) (List.replicate n nul) := by
  refine .inr ⟨_, rfl, fun j z hz => ?_⟩
  rw [Addr.add_lit, Nat.zero_add]
  rw [← nobs_list] at hz
  have : (w.alloc (.cells (nobs n) 40)).cell? ⟨w.heap.size, j, none⟩ = _ := blk_cell (heap_alloc_new w (.cells (nobs n) 40)) j
  rw [this, ← hz]
  simp
theorem keep_rel {w w3 w4 : World} {B c2 : Nat} {most ov un : Int} {s : Nat} {l : List Ob} {O : Nat → Prop} (hO : ∀ k, O k → w.heap.size ≤ k) (hk : ∀ k, O k → k < B) (hb : Below w.heap.size w w3) (hB : w.heap.size ≤ B) (hrow : SL w3 (.slice (some ⟨B, 0, none⟩) l.length c2) l) (hp : SkP O w3 s most ov un l w4) : RelB w w4 s most ov un l (some ⟨B, 0, none⟩) 3 := by
  have hB3 : B < w3.heap.size := hrow.lt rfl
  obtain ⟨O', h1, h2, h3⟩ := turn_stt hO hb hp
  obtain ⟨O2, g1, gF, g3⟩ := hp
  have hnB : ¬ O B := fun e => by have := hk B e; omega
  refine ⟨O2, g1, fun k hk2 => ?_, h3, .inr ⟨B, rfl, (IR.of_sl hrow 3 (.inr rfl)).same (gF.block B hB3 hnB), fun e => ?_, hB⟩⟩
  · rcases g3 k hk2 with e | e
    · exact hO k e
    · have := hb.size; omega
  · rcases g3 B e with e | e
    · exact hnB e
    · omega
theorem keep_out {w wr w' : World} {oa : Option Addr} {oc : Nat} {most ov un : Int} {s : Nat} {l : List Ob} (h : Stt w wr s most ov un l) (hs : SL w' (.slice oa l.length oc) l) (hb : Below wr.heap.size wr w') (hk : ∀ k, isB (.slice oa l.length oc) k → wr.heap.size ≤ k) : RelB w w' s most ov un l oa 0 := by
  obtain ⟨O, h1, h2, h3⟩ := h
  refine ⟨O, h1.below hb, h2, bthen h3 hb, ?_⟩
  have hs2 := hs
  rcases hs with ⟨_, e⟩ | ⟨g, cap, cur, e, _⟩
  · exact .inl e
  · cases e
    refine .inr ⟨g, rfl, IR.of_sl hs2 0 (.inl rfl), fun e => ?_, ?_⟩
    · have := h1.olt g e; have := hk g rfl; omega
    · have := hk g rfl; have := h3.size; omega
/-- a copy of however many -/
theorem copiedBig {w : World} {a : Option Addr} {l : List Ob} {c : Nat} (h : SrcO w a l) (hl : 300 < l.length) (hm : l.length * 72 ≤ 140737488351232) (ty : TypeId) :
    ∃ B c2 w2, (Builtin.append_ #[34, 34] ty #[.slice (some ⟨w.heap.size, 0, none⟩) 0 0, .slice a l.length c]).run Try.prog (w.alloc (.cells #[] 40)) = .ok (.slice (some ⟨B, 0, none⟩) l.length c2) w2 ∧ Below w.heap.size w w2 := by
  obtain ⟨i0, hi, hz0, hz1, hz2⟩ := info_parts obj_info
  rcases h with rfl | ⟨ad, rfl, hx⟩
  · simp at hl
  · have hr := run_append_grow (P := Try.prog) (w.alloc (.cells #[] 40)) 34 ty 40 i0 _ Try.underlying34 hi hz0 ⟨w.heap.size, 0, none⟩ 0 0 [] (by simp) (by simp) ad l.length c (l.flatMap Ob.cells) (by rw [hz1]; exact obs_len l) (fun j v hv => ((below1 w _).cell (World.block_lt_of_cell? w _ (hx j v hv))).trans (hx j v hv)) (by omega) (by omega) (growslice_fits (by omega) (by rw [hz2]; omega))
    rw [Nat.zero_add] at hr
    exact ⟨_, _, _, hr, ((below_draw (below1 w _) 1).alloc (by simp) _)⟩
set_option maxRecDepth 100000 in
set_option maxHeartbeats 2000000 in
theorem keeps_big {w : World} {a : Option Addr} {c : Nat} {l : List Ob} (h : SrcO w a l) (hm : l.length * 72 ≤ 140737488351232) (hbig : 300 < l.length) :
    Calls Try.prog 8 #[.slice a l.length c] w fun e w' => e = .returned (.bool true) ∧ Below w.heap.size w w' := by
  have HN := Lib.hid (st_new 500 1 2 w (by decide))
  rw [show max (500 : Int) 0 = 500 from rfl] at HN
  have hbi : (300 : Int) < (l.length : Int) := by omega
  have hd1 : decide ((300 : Int) < (l.length : Int)) = true := decide_eq_true hbi
  have HSrc := Lib.hid h
  clear h
  go_enter Try.func8, Try.ntmps8
  go_wp2_with fail
  refine HN.out.mono ?_; rintro e w1 ⟨rfl, hst⟩
  obtain ⟨B, c2, w2, hr, hb2⟩ := copiedBig (c := c) (HSrc.out.below hst.bel) hbig hm 34
  have HR := Lib.hid hr
  have HS2 := Lib.hid (hst.step hb2)
  clear hst hr hb2
  go_wp2_with (at_builtin; refine wpList_append_run7 rfl (.tmp 21) (.tmp 22) 34 34 34 (.slice (some ⟨B, 0, none⟩) l.length c2) rfl rfl _ _ rfl rfl HR.out ?_)
  refine (answers07 _).mono ?_; rintro e w3 ⟨rfl, hb⟩
  have HS3 := Lib.hid (HS2.out.step hb)
  clear hb
  go_wp2_with fail
  refine (answers07 _).mono ?_; rintro e w4 ⟨rfl, hb⟩
  have HS4 := Lib.hid (HS3.out.step hb).bel
  clear hb
  go_wp2_with fail
  go_ret
  exact ⟨rfl, HS4.out⟩
set_option maxRecDepth 100000 in
set_option maxHeartbeats 2000000 in
theorem keeps_small {w : World} {a : Option Addr} {c : Nat} {l : List Ob} (h : SrcO w a l) (hc : a = none → c = 0) (hbig : ¬ 300 < l.length) :
    Calls Try.prog 8 #[.slice a l.length c] w fun e w' => e = .returned (.bool true) ∧ Below w.heap.size w w' := by
  have HN := Lib.hid (st_new 500 1 2 w (by decide))
  rw [show max (500 : Int) 0 = 500 from rfl] at HN
  have hbi : ¬ (300 : Int) < (l.length : Int) := by omega
  have hd1 : decide ((300 : Int) < (l.length : Int)) = false := decide_eq_false hbi
  have hd2 : decide (300 < l.length) = false := decide_eq_false hbig
  have HSrc := Lib.hid h
  have HC := Lib.hid hc
  clear h hc
  go_enter Try.func8, Try.ntmps8
  go_wp2_with fail
  refine HN.out.mono ?_; rintro e w1 ⟨rfl, hst⟩
  obtain ⟨B, c2, w2, hr, hb2, hB, hrow⟩ := copiedO (HSrc.out.below hst.bel) HC.out (by omega) 34
  have HR := Lib.hid hr
  have HS1 := Lib.hid hst
  have HB2 := Lib.hid hb2
  have HRow := Lib.hid (And.intro hB hrow)
  clear hst hr hb2 hB hrow
  go_wp2_with (at_builtin; refine wpList_append_run7 rfl (.tmp 21) (.tmp 22) 34 34 34 (.slice (some ⟨B, 0, none⟩) l.length c2) rfl rfl _ _ rfl rfl HR.out ?_)
  refine (answers07 _).mono ?_; rintro e w3 ⟨rfl, hb⟩
  have hrow3 := HRow.out.2.below hb
  obtain ⟨O, h0, h2, h30⟩ := HS1.out
  have hb13 := HB2.out.trans (hb.mono HB2.out.size)
  have h1 := h0.below hb13
  have h3 := bthen h30 hb13
  have HPush := Lib.hid ((push_fit (c := c2) h1 hrow3.src (fun e => by cases e) (by simp; omega) (by simp; omega)).mono fun _ _ ⟨he, hp⟩ => And.intro he (keep_rel (l := l) h2 (fun k hk => Nat.lt_of_lt_of_le (h0.olt k hk) HRow.out.1) h3 (Nat.le_trans HS1.out.bel.size HRow.out.1) hrow3 (by rw [List.nil_append] at hp; exact hp)))
  clear hb hrow3 h0 h1 h2 h3 h30 hb13
  go_wp2_with fail
  refine HPush.out.mono ?_; rintro e w4 ⟨rfl, hrel4⟩
  have HRel4 := Lib.hid hrel4
  clear hrel4
  go_wp2_with fail
  go_loopw [5] (fun s5 wr => ∃ i : Nat, s5 = .int .i64 i ∧ i ≤ l.length ∧ RelB w wr w.heap.size 500 1 2 l (some ⟨B, 0, none⟩) 3) (fun s5 _ => l.length - (intOf s5).toNat)
  case atStart => exact ⟨0, rfl, Nat.zero_le _, HRel4.out⟩
  case round =>
    obtain ⟨i, rfl, hi, hrel⟩ := hrel
    have HRel := Lib.hid hrel
    by_cases hlt : i < l.length
    · obtain ⟨g, z, e, hz, hf⟩ := hrel.cell hlt
      cases e
      clear hrel
      go_wp2_with fail
      go_roundw
      case rel => exact ⟨i + 1, by go_num, by omega, HRel.out.set hlt⟩
      case measure => simp [intOf]; omega
    · have hil : i = l.length := by omega
      subst hil
      have HAll := Lib.hid (st_all hrel.stt)
      clear hrel
      go_wp2_with fail
      refine HAll.out.mono ?_; rintro e w5 ⟨oa, oc, rfl, hsl, hb5, _, hnew⟩
      have HRel5 := Lib.hid (keep_out HRel.out.stt hsl hb5 hnew)
      clear hsl hb5 hnew
      go_wp2_with fail
      go_loopw [7] (fun s7 wr => ∃ i : Nat, s7 = .int .i64 i ∧ i ≤ l.length ∧ RelB w wr w.heap.size 500 1 2 l oa 0) (fun s7 _ => l.length - (intOf s7).toNat)
      case atStart => exact ⟨0, rfl, Nat.zero_le _, HRel5.out⟩
      case round =>
        obtain ⟨i, rfl, hi, hrel⟩ := hrel
        have HRel := Lib.hid hrel
        by_cases hlt : i < l.length
        · obtain ⟨g, z, e, hz, hf⟩ := hrel.cell hlt
          rw [Nat.add_zero] at hz hf
          subst e
          have HSet := Lib.hid (fun z => hrel.set (z := z) hlt)
          simp only [Nat.add_zero] at HSet
          clear hrel
          go_wp2_with fail
          go_roundw
          case rel => exact ⟨i + 1, by go_num, by omega, HSet.out _⟩
          case measure => simp [intOf]; omega
        · have hil : i = l.length := by omega
          subst hil
          have HAll := Lib.hid (st_all hrel.stt)
          clear hrel HRel5 HRel4
          go_wp2_with fail
          refine HAll.out.mono ?_; rintro e w6 ⟨a6, c6, rfl, hsl, hb6, hst, _⟩
          have HS6 := Lib.hid hst
          have HSame := Lib.hid (same_yes (ca := c6) (cb := c) hsl.src (HSrc.out.below hst.bel) (by omega))
          clear hsl hb6 hst
          go_wp2_with fail
          refine HSame.out.mono ?_; rintro e w7 ⟨rfl, hb7⟩
          have ht := st_take (i := l.length) (HS6.out.step hb7) (Nat.le_refl _)
          rw [Nat.sub_self, List.drop_zero, List.take_zero] at ht
          have HT := Lib.hid ht
          clear hb7 ht
          go_wp2_with fail
          refine HT.out.mono ?_; rintro e w8 ⟨ta, tc, rfl, htk⟩
          have hmk := make_obs l.length (by omega)
          have htk2 : TkR w w.heap.size 500 1 2 [] l ta tc (w8.alloc (.cells (nobs l.length) 40)) := by
            obtain ⟨O, g1, g2, g3, g4, g5⟩ := htk
            exact ⟨O, g1.below (below1 _ _), g2, bthen g3 (below1 _ _), g4.below (below1 _ _), g5⟩
          have hpu := tk_push (d := l.length) htk2 (src_made w8 l.length) (fun e => by cases e) (by simp; omega) (by simp; omega)
          rw [List.length_replicate] at hpu
          have HPu := Lib.hid hpu
          clear htk htk2 hpu
          go_wp2_with fail
          refine HPu.out.mono ?_; rintro e w9 ⟨rfl, hsrc9, hb9⟩
          have HSrc9 := Lib.hid hsrc9
          have HB9 := Lib.hid hb9
          clear hsrc9 hb9 hmk
          have HP1 := Lib.hid (fun W => pop_nil W)
          have HP2 := Lib.hid (fun W => topT_nil W)
          unfold nul Ob.val at HP1 HP2
          go_wp2_with fail
          refine (HP1.out _).mono ?_; rintro e w10 ⟨rfl, hb⟩
          have HB10 := Lib.hid (bthen HB9.out hb)
          have HS10 := Lib.hid (HSrc9.out.below hb)
          clear hb
          have HB10z := Lib.hid (bthen HB10.out (below1 w10 (.cells zeroOb 40)))
          have HS10z := Lib.hid (HS10.out.below (below1 w10 (.cells zeroOb 40)))
          unfold zeroOb at HB10z HS10z
          go_wp2_with fail
          refine (take_nil _ _).mono ?_; rintro e w11 ⟨rfl, rfl⟩
          go_wp2_with fail
          refine (HP2.out _).mono ?_; rintro e w12 ⟨rfl, hb⟩
          have HB12 := Lib.hid (bthen (bthen HB10z.out hb) (below1 w12 (.cells zeroOb 40)))
          have HS12 := Lib.hid ((HS10z.out.below hb).below (below1 w12 (.cells zeroOb 40)))
          unfold zeroOb at HB12 HS12
          clear hb
          go_wp2_with fail
          refine (toMark_nil _).mono ?_; rintro e w13 ⟨rfl, rfl⟩
          go_wp2_with fail
          refine (reset_nil _ _ _ _).mono ?_; rintro e w14 ⟨rfl, rfl⟩
          go_wp2_with fail
          have HSm := Lib.hid (same_yes (ca := tc) (cb := c) HS12.out (HSrc.out.below HB12.out) (by omega))
          refine HSm.out.mono ?_; rintro e w15 ⟨rfl, hb⟩
          have HB15 := Lib.hid (bthen HB12.out hb)
          clear hb
          go_wp2_with fail
          refine (push_nil _ _).mono ?_; rintro e w16 ⟨rfl, rfl⟩
          go_wp2_with fail
          have HSw := Lib.hid (fun W => swap_nil nul W)
          unfold nul Ob.val at HSw
          refine (HSw.out _).mono ?_; rintro e w17 ⟨rfl, hb⟩
          have HB17 := Lib.hid (bthen HB15.out hb)
          clear hb
          go_wp2_with fail
          refine (roll_nil _ _ _).mono ?_; rintro e w18 ⟨rfl, rfl⟩
          go_wp2_with fail
          refine (need_nil _).mono ?_; rintro e w19 ⟨rfl, rfl⟩
          go_wp2_with fail
          refine (skLen_nil _).mono ?_; rintro e w20 ⟨rfl, rfl⟩
          go_wp2_with fail
          refine (skAll_nil _).mono ?_; rintro e w21 ⟨rfl, rfl⟩
          go_wp2_with fail
          go_ret
          exact ⟨rfl, HB17.out⟩
theorem keeps_walk {w : World} {a : Option Addr} {c : Nat} {l : List Ob} (h : SrcO w a l) (hc : a = none → c = 0) (hm : l.length * 72 ≤ 140737488351232) :
    Calls Try.prog 8 #[.slice a l.length c] w fun e w' => e = .returned (.bool true) ∧ Below w.heap.size w w' := by
  by_cases hbig : 300 < l.length
  · exact keeps_big h hm hbig
  · exact keeps_small h hc hbig
end Go.Proofs.Ytcmoppliipdfgaa
