/-
  A stack's calls, by contracts: Take, Reset, ToMark.
-/
import Derived.Test.YtcmoppliipdfgaaStkOps5
namespace Go.Proofs.Ytcmoppliipdfgaa
open Go.RowKit
open St Stk
/-- objects in a row of their own, an error, and the stack -/
def SkT (O : Nat → Prop) (w : World) (s : Nat) (most ov un : Int) (l t : List Ob) (E : Int) (e : Ending) (w' : World) : Prop := ∃ v, e = .returned (.tuple #[v, .int .i64 E]) ∧ SL w' v t ∧ ∃ O' : Nat → Prop, Sk O' w' s most ov un l ∧ Frm O w w' ∧ (∀ k, O' k → O k ∨ w.heap.size ≤ k) ∧ ∀ k, isB v k → w.heap.size ≤ k ∧ ¬ O' k
section
variable {O : Nat → Prop} {w : World} {s : Nat} {most ov un : Int} {l : List Ob}
set_option maxRecDepth 100000
set_option maxHeartbeats 1000000
theorem take_no {i x : Int} (h : Sk O w s most ov un l) (hp : Calls Try.prog 95 #[.pointer (some ⟨s, 0, none⟩), .int .i64 i] w fun e w' => e = .returned (.tuple #[.slice none 0 0, .bool false, .int .i64 x]) ∧ ∃ q, w' = w.drewN q) :
    Calls Try.prog 55 #[.pointer (some ⟨s, 0, none⟩), .int .i64 i] w (SkT O w s most ov un l [] x) := by
  have HP := Lib.hid hp
  have HK := Lib.hid (fun q => h.below (below_draw (Below.refl _ _) q))
  unfold SkT
  clear h hp
  go_enter Try.func55, Try.ntmps55
  go_wp2_with fail
  refine HP.out.mono ?_; rintro e w1 ⟨rfl, q, rfl⟩
  go_wp2_with fail
  exact bodyPost_ret (v := .tuple #[.slice none 0 0, .int .i64 x]) (by simp [results, Try.results55, go_sem]) rfl ⟨_, rfl, SL.nil _, O, HK.out q, ⟨rfl, rfl, rfl, Nat.le_refl _, fun _ _ _ => rfl⟩, fun _ e => .inl e, fun k hk => by cases hk⟩
/-- the last i, as a source -/
theorem src_tail {g n c of i : Nat} {l : List Ob} (h : SL w (.slice (some ⟨g, 0, none⟩) n c) l) (hi : i ≤ l.length) (hof : i = 0 ∨ of = (l.length - i) * 8) : SrcO w (some ⟨g, of, none⟩) (l.drop (l.length - i)) := by
  by_cases h0 : i = 0
  · left
    rw [h0, Nat.sub_zero, List.drop_length]
  · have hof2 : of = (l.length - i) * 8 := by rcases hof with e | e; exact absurd e h0; exact e
    refine .inr ⟨_, rfl, fun j z hz => ?_⟩
    have hd : (l.drop (l.length - i)).length = i := by rw [List.length_drop]; omega
    have hj : j < i * 8 := by have := (List.getElem?_eq_some_iff.1 hz).1; rw [obs_len, hd] at this; exact this
    rw [Addr.add_lit]
    have e2 : l.flatMap Ob.cells = (l.take (l.length - i)).flatMap Ob.cells ++ (l.drop (l.length - i)).flatMap Ob.cells := by rw [← List.flatMap_append, List.take_append_drop]
    have e3 : ((l.take (l.length - i)).flatMap Ob.cells).length = of := by rw [obs_len, List.length_take, hof2]; congr 1; omega
    rw [h.cellAt (of + j) (by omega), e2, List.getElem?_append_right (by omega), e3, ← hz]
    congr 1; omega
/-- a row, of which m are left -/
def lv (la : Option Addr) (m : Nat) : Value := match la with
  | none => .slice none 0 0
  | some a => .slice (some a) m m
theorem leave_any {w : World} {s c m : Nat} {la : Option Addr} {most ov un : Int} {l : List Ob} (hl : SL w (.slice la l.length c) l) (hk : SkC w s (.slice la l.length c) most ov un) (hc : l.length ≤ c) (hm : m ≤ l.length) :
    Calls Try.prog 94 #[.pointer (some ⟨s, 0, none⟩), .int .i64 m] w fun e w' => e = .returned (.tuple #[]) ∧ Set1 w s (stkC (lv la m) most ov un) w' := by
  rcases hl with ⟨e, rfl⟩ | ⟨g, cap, cur, e, _⟩
  · cases e
    have : m = 0 := by simpa using hm
    subst this
    exact leave_set0 hk
  · cases e
    exact leave_set hk hc hm
theorem left_any {w w3 : World} {s c i : Nat} {la : Option Addr} {most ov un : Int} {l : List Ob} {O : Nat → Prop} (h : Sk O w s most ov un l) (hl : SL w (.slice la l.length c) l) (hk : SkC w s (.slice la l.length c) most ov un) (ho : ∀ k, isB (.slice la l.length c) k → O k) (hi : i ≤ l.length)
    (hb : w3.heap[s]? = some (stkC (lv la i) most ov un)) (hF : Frm (fun k => k = s) w w3) : Sk O w3 s most ov un (l.take i) := by
  have hfit := h.fit
  have hfew := h.few
  have hlen : (l.take i).length = i := by rw [List.length_take]; omega
  have hne := sl_ne hl hk
  have hlc := hl
  rcases hl with ⟨e, rfl⟩ | ⟨g, cap, cur, e, _⟩
  · cases e
    have hm := h.m0
    exact ⟨h.os, fun k hk => Nat.lt_of_lt_of_le (h.olt k hk) hF.size, ⟨_, hb, by rw [List.take_nil]; exact SL.nil _, fun k hk => by cases hk⟩, h.m0, h.m1, by simpa using hm, by simp⟩
  · cases e
    have hgl : g < w.heap.size := hlc.lt rfl
    refine ⟨h.os, fun k hk => Nat.lt_of_lt_of_le (h.olt k hk) hF.size, ⟨_, hb, (hlc.take hi).same (fun k hk2 => ?_), fun k hk2 => ?_⟩, h.m0, h.m1, by rw [hlen]; omega, by rw [hlen]; omega⟩
    · have e : g = k := by simpa [isB, Value.ownBlock] using hk2
      subst e
      exact hF.block g hgl (fun e => hne g rfl e)
    · have e : g = k := by simpa [isB, Value.ownBlock, lv] using hk2
      subst e
      exact ho g rfl
/-- the last i are told where they are -/
def TopR (w : World) (i : Nat) (t : List Ob) (e : Ending) (w' : World) : Prop := ∃ ta tc q, e = .returned (.tuple #[.slice ta i tc, .bool true, .int .i64 0]) ∧ SrcO w ta t ∧ (ta = none → tc = 0) ∧ w' = w.drewN q
theorem top_any {w : World} {s c i : Nat} {la : Option Addr} {most ov un : Int} {l : List Ob} (hl : SL w (.slice la l.length c) l) (hk : SkC w s (.slice la l.length c) most ov un) (hc : l.length ≤ c) (hfew : l.length ≤ 50000) (hi : i ≤ l.length) :
    Calls Try.prog 95 #[.pointer (some ⟨s, 0, none⟩), .int .i64 i] w (TopR w i (l.drop (l.length - i))) := by
  have hlc := hl
  rcases hl with ⟨e, rfl⟩ | ⟨g, cap, cur, e, _⟩
  · cases e
    have : i = 0 := by simpa using hi
    subst this
    refine (top_none hk).mono ?_
    rintro e w' ⟨rfl, q, rfl⟩
    exact ⟨none, 0, q, rfl, .inl (by simp), fun _ => rfl, rfl⟩
  · cases e
    refine (top_ok hk hc hfew hi).mono ?_
    rintro e w' ⟨⟨of, c2, h1, h2, rfl⟩, q, rfl⟩
    exact ⟨_, c2, q, rfl, src_tail hlc hi h1, fun e => (by cases e), rfl⟩
theorem take_yes {i : Nat} (h : Sk O w s most ov un l) (hi : i ≤ l.length) : Calls Try.prog 55 #[.pointer (some ⟨s, 0, none⟩), .int .i64 i] w (SkT O w s most ov un (l.take (l.length - i)) (l.drop (l.length - i)) 0) := by
  obtain ⟨la, lc, hk, hl, hO, hn, hcap⟩ := h.skc
  have hsl := h.lt
  have hfew := h.few
  have hd : (l.drop (l.length - i)).length = i := by rw [List.length_drop]; omega
  have HT := Lib.hid (top_any hl hk hcap hfew hi)
  have HC := Lib.hid (fun w1 a c (hs : SrcO w1 a (l.drop (l.length - i))) hc => cloneO_at (w := w1) (a := a) (c := c) hs hc (by rw [hd]; omega))
  rw [hd] at HC
  obtain ⟨m, hm⟩ : ∃ m, l.length - i = m := ⟨_, rfl⟩
  rw [hm] at HT HC ⊢
  have e1 : (l.length : Int) - (i : Int) = m := by omega
  have HK := Lib.hid (fun w1 (hb : Below w.heap.size w w1) => hk.below hb)
  have HL := Lib.hid (fun w1 (hb : Below w.heap.size w w1) => leave_any (m := m) (hl.below hb) (hk.below hb) hcap (by omega))
  have HD := Lib.hid (fun w3 hb hF => left_any (w3 := w3) (i := m) h hl hk hO (by omega) hb hF)
  have HO := Lib.hid h.olt
  have HOs := Lib.hid h.os
  unfold SkT
  clear h hk hl hO hn hi hm hd hcap
  go_enter Try.func55, Try.ntmps55
  go_wp2_with fail
  refine HT.out.mono ?_; rintro e w1 ⟨ta, tc, q, rfl, hsrc, htn, rfl⟩
  have HC2 := Lib.hid (HC.out (w.drewN q) ta tc (hsrc.below (below_draw (Below.refl _ _) q)) htn)
  clear hsrc htn
  go_wp2_with fail
  refine HC2.out.mono ?_; rintro e w2 ⟨v, rfl, hs, hb, hnew⟩
  have hb2 := (below_draw (Below.refl w.heap.size w) q).trans hb
  have hk2 := HK.out w2 hb2
  obtain ⟨k0, _⟩ := hk2.cells
  have HL2 := Lib.hid (HL.out w2 hb2)
  have HB2 := Lib.hid hb2
  have HN := Lib.hid hnew
  have HS := Lib.hid hs
  obtain ⟨va, vc, rfl, _⟩ := hs.form
  clear hs hb hnew hb2 hk2
  go_wp2_with fail
  refine HL2.out.mono ?_; rintro e w3 ⟨rfl, hset⟩
  have HSet := Lib.hid hset
  clear hset k0
  go_wp2_with fail
  obtain ⟨vn, hvn⟩ : ∃ n, (l.drop m).length = n := ⟨_, rfl⟩
  have hne : ∀ k, isB (.slice va (l.drop m).length vc) k → k ≠ s := fun k hk e => by have := HN.out k hk; simp [World.drewN] at this; omega
  have hF : Frm (fun k => k = s) w w3 := ⟨HSet.out.os.trans HB2.out.os, HSet.out.tape.trans HB2.out.tape, HSet.out.output.trans HB2.out.output, by rw [HSet.out.size]; exact HB2.out.size, fun k hk hn => by rw [HSet.out.far k hn]; exact HB2.out.block k hk⟩
  refine bodyPost_ret (v := .tuple #[.slice va (l.drop m).length vc, .int .i64 0]) (by simp [results, Try.results55, go_sem]) rfl ⟨_, rfl, HS.out.same (fun k hk => HSet.out.far k (hne k hk)), O, HD.out w3 HSet.out.blk hF, hF.mono (fun k _ e => by rw [e]; exact HOs.out), fun _ e => .inl e, fun k hk => ?_⟩
  have h1 := HN.out k hk
  have h2 : w.heap.size ≤ k := by simpa [World.drewN] using h1
  exact ⟨h2, fun e => by have := HO.out k e; omega⟩
theorem src_take {a : Option Addr} {t : List Ob} (hs : SrcO w a t) (m : Nat) : SrcO w a (t.take m) := by
  rcases hs with rfl | ⟨ad, rfl, hx⟩
  · exact .inl (by simp)
  · refine .inr ⟨ad, rfl, fun j z hz => hx j z ?_⟩
    have e3 : t.flatMap Ob.cells = (t.take m).flatMap Ob.cells ++ (t.drop m).flatMap Ob.cells := by rw [← List.flatMap_append, List.take_append_drop]
    have hj := (List.getElem?_eq_some_iff.1 hz).1
    rw [e3, List.getElem?_append_left hj]; exact hz
theorem reset_gen {t : List Ob} {a : Option Addr} {c m : Nat} (h : Sk O w s most ov un l) (hs : SrcO w a t) (hc : a = none → c = 0) (ht : t.length ≤ 50000) (htc : t.length ≤ c) (hm : (most < t.length ∧ most = m) ∨ ((t.length : Int) ≤ most ∧ m = t.length)) :
    Calls Try.prog 60 #[.pointer (some ⟨s, 0, none⟩), .slice a t.length c] w fun e w' => e = .returned (.tuple #[]) ∧ SkP O w s most ov un (t.take m) w' := by
  obtain ⟨la, lc, hk, hl, hO, hn, hcap⟩ := h.skc
  obtain ⟨c0, c1, c2, c3, cf⟩ := hk.cells
  have hm0 := h.m0
  have hm1 := h.m1
  have hlen : (t.take m).length = m := by rw [List.length_take]; omega
  have HC := Lib.hid (cloneO_at (c := c) (src_take hs m) hc (by omega))
  rw [hlen] at HC
  have HP := Lib.hid (fun w2 w3 (v : Value) (hn : NewR w (t.take m) v w2) (hp : Set1 w2 s (stkC v most ov un) w3) => h.put (Frm.of_below hn.2.1) (hk.below hn.2.1) hn.1 (fun k hk => .inr (hn.2.2 k hk)) (by omega) (by omega) hp)
  have HK := Lib.hid (fun w2 (hb : Below w.heap.size w w2) => hk.below hb)
  clear h hk hl hO hn hcap
  rcases hm with ⟨hm1, rfl⟩ | ⟨hm1, rfl⟩
  · have hmt : m ≤ c := by omega
    have hdec : ¬ ((t.length : Int) ≤ (m : Int)) := by omega
    cases a with
    | none =>
      have e := hs.none
      subst e
      simp at hm1; omega
    | some ad =>
      clear hc hs hlen
      go_enter Try.func60, Try.ntmps60
      go_wp2_with fail
      refine HC.out.mono ?_; rintro e w2 ⟨v, rfl, hn⟩
      obtain ⟨k0, _, _, _, kf⟩ := (HK.out w2 hn.2.1).cells
      have HS := Lib.hid (HP.out w2 _ v hn (HK.out w2 hn.2.1).put)
      obtain ⟨va, vc, rfl, _⟩ := hn.1.form
      obtain ⟨vn, hvn⟩ : ∃ n, (t.take m).length = n := ⟨_, rfl⟩
      rw [hvn] at HS ⊢
      clear hn hvn
      go_wp2_with fail
      go_end0
      exact ⟨rfl, HS.out⟩
  · cases a with
    | none =>
      obtain rfl := hc rfl
      have e := hs.none
      subst e
      simp only [List.length_nil, Int.natCast_zero] at *
      clear hc hs hlen
      go_enter Try.func60, Try.ntmps60
      go_wp2_with fail
      refine HC.out.mono ?_; rintro e w2 ⟨v, rfl, hn⟩
      obtain ⟨k0, _, _, _, kf⟩ := (HK.out w2 hn.2.1).cells
      have HS := Lib.hid (HP.out w2 _ v hn (HK.out w2 hn.2.1).put)
      obtain ⟨va, vc, rfl, _⟩ := hn.1.form
      obtain ⟨vn, hvn⟩ : ∃ n, (([] : List Ob).take 0).length = n := ⟨_, rfl⟩
      rw [hvn] at HS ⊢
      clear hn hvn
      go_wp2_with fail
      go_end0
      exact ⟨rfl, HS.out⟩
    | some ad =>
      clear hc hs hlen
      go_enter Try.func60, Try.ntmps60
      go_wp2_with fail
      refine HC.out.mono ?_; rintro e w2 ⟨v, rfl, hn⟩
      obtain ⟨k0, _, _, _, kf⟩ := (HK.out w2 hn.2.1).cells
      have HS := Lib.hid (HP.out w2 _ v hn (HK.out w2 hn.2.1).put)
      obtain ⟨va, vc, rfl, _⟩ := hn.1.form
      obtain ⟨vn, hvn⟩ : ∃ n, (t.take t.length).length = n := ⟨_, rfl⟩
      rw [hvn] at HS ⊢
      clear hn hvn
      go_wp2_with fail
      go_end0
      exact ⟨rfl, HS.out⟩
theorem reset_at {t : List Ob} {a : Option Addr} {c : Nat} (h : Sk O w s most ov un l) (hs : SrcO w a t) (hc : a = none → c = 0) (ht : t.length ≤ 50000) (htc : t.length ≤ c) :
    Calls Try.prog 60 #[.pointer (some ⟨s, 0, none⟩), .slice a t.length c] w fun e w' => e = .returned (.tuple #[]) ∧ SkP O w s most ov un (t.take most.toNat) w' := by
  have hm0 := h.m0
  by_cases hx : (t.length : Int) ≤ most
  · rw [List.take_of_length_le (by omega)]
    have := reset_gen (m := t.length) h hs hc ht htc (.inr ⟨hx, rfl⟩)
    rw [List.take_of_length_le (Nat.le_refl _)] at this
    exact this
  · exact reset_gen (m := most.toNat) h hs hc ht htc (.inl ⟨by omega, by omega⟩)
theorem reset_nil (w : World) (a : Option Addr) (n c : Nat) : Calls Try.prog 60 #[.pointer none, .slice a n c] w fun e w' => e = .returned (.tuple #[]) ∧ w' = w := by
  go_enter Try.func60, Try.ntmps60
  go_wp2_with fail
  exact bodyPost_ret (v := .tuple #[]) (by simp [results, Try.results60, go_sem]) rfl ⟨rfl, rfl⟩
end
end Go.Proofs.Ytcmoppliipdfgaa
