/-
  The document's own Next as a whole, by a contract.
-/
import Derived.Test.YtaebpjcigajolaaScanRefHex
namespace Go.Proofs.Ytaebpjcigajolaa
open Go.RowKit
open Sc
namespace Sc
theorem hx_olen (h : Option UInt8) (s o r : List UInt8) (e : hx h s = some (o, r)) : o.length + r.length ≤ s.length := by
  induction s generalizing h o r with
  | nil => cases e
  | cons c s ih =>
    rw [hx] at e
    split at e
    · cases e; cases h <;> simp [hlast]; omega
    split at e
    · have := ih _ _ _ e; simp; omega
    split at e
    · cases e
    split at e
    · have := ih _ _ _ e; simp; omega
    · cases hq : hx none s with
      | none => rw [hq] at e; cases e
      | some y => rw [hq] at e; obtain ⟨y1, y2⟩ := y; cases e; have := ih _ _ _ hq; simp; omega
end Sc
/-- what the document's Next leaves -/
def NxR (l : List UInt8) (o : Out) (w : World) (e : Ending) (w' : World) : Prop := e = .returned (nextV l o) ∧ Below w.heap.size w w'
section
variable {l t r : List UInt8} {o : Out} {w w' : World} {q : Nat} {k n x : Int}
theorem nxR_err (h : o = .err x) (hb : Below w.heap.size w w') : NxR l o w (.returned (.tuple #[.agg #[.int .i64 0, .int .i64 0, .string ⟨#[]⟩], .int .i64 0, .int .i64 x])) w' := by
  subst h; exact ⟨rfl, hb⟩
theorem nxR_tok (h : o = .tok k n t r) (hq : l.drop q = r) (hql : q ≤ l.length) (hb : Below w.heap.size w w') : NxR l o w (.returned (.tuple #[.agg #[.int .i64 k, .int .i64 n, .string ⟨t.toArray⟩], .int .i64 q, .int .i64 0])) w' := by
  subst h
  have e := congrArg List.length hq
  rw [List.length_drop] at e
  have e2 : l.length - r.length = q := by omega
  refine ⟨?_, hb⟩
  show Ending.returned (.tuple #[.agg #[.int .i64 k, .int .i64 n, .string ⟨t.toArray⟩], .int .i64 (q : Int), .int .i64 0]) = Ending.returned (.tuple #[.agg #[.int .i64 k, .int .i64 n, .string ⟨t.toArray⟩], .int .i64 ((l.length - r.length : Nat) : Int), .int .i64 0])
  rw [e2]
end
/-- a token and two slots as results -/
theorem results_tokg {fn : Func} {a b c : Nat} (hfn : fn.results = #[.cell a 25, .tmp b, .tmp c]) (tmps : Array Value) (W : World) (B : Nat) (k n : Int) (t : ByteArray) (hp : tmps.getD a undef = .pointer (some ⟨B, 0, none⟩))
    (h0 : W.cell? ⟨B, 0, none⟩ = some (.int .i64 k)) (h1 : W.cell? ⟨B, 1, none⟩ = some (.int .i64 n)) (h2 : W.cell? ⟨B, 2, none⟩ = some (.string t)) :
    (results fn tmps).run Try.prog W = .ok (.tuple #[.agg #[.int .i64 k, .int .i64 n, .string t], tmps.getD b undef, tmps.getD c undef]) W := by
  have hp2 : tmps[a]?.getD undef = .pointer (some ⟨B, 0, none⟩) := by rw [← hp]; simp
  simp [results, hfn, go_sem, hp2, h0, h1, h2]
theorem tok_endg {fn : Func} {a b c : Nat} (hfn : fn.results = #[.cell a 25, .tmp b, .tmp c]) {tmps : Array Value} {w2 : World} {T : Nat} {k0 n0 k n : Int} {t0 t : ByteArray} {x y : Value} {Q : Ending → World → Prop} (hT : w2.heap[T]? = some (tokB k0 n0 t0)) (hp : tmps.getD a undef = .pointer (some ⟨T, 0, none⟩))
    (hx : tmps.getD b undef = x) (hy : tmps.getD c undef = y) (hq : Q (.returned (.tuple #[.agg #[.int .i64 k, .int .i64 n, .string t], x, y])) (tokSet w2 T k n t)) : bodyPost Try.prog fn Q Exit.ret { tmps := tmps, defers := [] } (tokSet w2 T k n t) := by
  obtain ⟨r0, r1, r2, _⟩ := tok_c (tokSet_at hT k n t)
  subst hx hy
  exact bodyPost_ret (results_tokg hfn _ (tokSet w2 T k n t) T k n t hp r0 r1 r2) rfl hq
theorem refNone_at (x : Int) (w : World) : Calls Try.prog 20 #[.int .i64 x] w fun e w' => e = .returned (.tuple #[.agg #[.int .i64 0, .int .i64 0, .string ⟨#[]⟩], .int .i64 0, .int .i64 x]) ∧ Below w.heap.size w w' := by
  go_enter Try.func20, Try.ntmps20
  go_wp2_with fail
  exact bodyPost_ret (v := .tuple #[.agg #[.int .i64 0, .int .i64 0, .string ⟨#[]⟩], .int .i64 0, .int .i64 x]) (by simp [results, Try.results20, go_sem]) rfl ⟨rfl, (Below.refl _ _).alloc (Nat.le_refl _) _⟩
/-- what the document's name leaves -/
def NamR (l : List UInt8) (k : Int) (p q : Nat) (w : World) (e : Ending) (w' : World) : Prop :=
  e = .returned (if 127 < q - p then .tuple #[.agg #[.int .i64 0, .int .i64 0, .string ⟨#[]⟩], .int .i64 0, .int .i64 9] else .tuple #[.agg #[.int .i64 k, .int .i64 0, .string ⟨((l.drop p).take (q - p)).toArray⟩], .int .i64 q, .int .i64 0]) ∧ Below w.heap.size w w'
theorem namR_no {l : List UInt8} {k : Int} {p q : Nat} {w w' : World} (h : 127 < q - p) (hb : Below w.heap.size w w') : NamR l k p q w (.returned (.tuple #[.agg #[.int .i64 0, .int .i64 0, .string ⟨#[]⟩], .int .i64 0, .int .i64 9])) w' := by
  unfold NamR; rw [if_pos h]; exact ⟨rfl, hb⟩
theorem namR_yes {l t : List UInt8} {k : Int} {p q : Nat} {w w' : World} (h : ¬ 127 < q - p) (ht : (l.drop p).take (q - p) = t) (hb : Below w.heap.size w w') : NamR l k p q w (.returned (.tuple #[.agg #[.int .i64 k, .int .i64 0, .string ⟨t.toArray⟩], .int .i64 q, .int .i64 0])) w' := by
  subst ht; unfold NamR; rw [if_neg h]; exact ⟨rfl, hb⟩
theorem refName_at {w : World} {cap p q b off : Nat} {l : List UInt8} (k : Int) (hrd : RdB w w.heap.size (some ⟨b, off, none⟩) l) (hcl : l.length ≤ cap) (hl : l.length ≤ 65535) (hpq : p ≤ q) (hq : q ≤ l.length) :
    Calls Try.prog 24 #[.int .i64 k, .slice (some ⟨b, off, none⟩) l.length cap, .int .i64 p, .int .i64 q] w (NamR l k p q w) := by
  by_cases h127 : 127 < q - p
  · have HN := Lib.hid h127
    have hd : decide ((127 : Int) < (q : Int) - (p : Int)) = true := decide_eq_true (by omega)
    clear h127 hrd
    go_enter Try.func24, Try.ntmps24
    go_wp2_with fail
    refine (refNone_at 9 _).mono ?_; rintro e w2 ⟨rfl, hb2⟩
    have hT : w2.heap[w.heap.size]? = some (tokB 0 0 ⟨#[]⟩) := (hb2.block w.heap.size (by simp)).trans (tok_new w 0 0 ⟨#[]⟩)
    obtain ⟨t0, t1, t2, g0, g1, g2⟩ := tok_c hT
    have HT := Lib.hid hT
    have HB := Lib.hid (((Below.refl w.heap.size w).alloc (Nat.le_refl _) (tokB 0 0 ⟨#[]⟩)).trans (hb2.mono (by simp)))
    clear hb2 hT
    go_wp2_with fail
    exact tok_endg Try.results24 HT.out rfl rfl rfl (namR_no HN.out (((HB.out.setCell (p := ⟨w.heap.size, 0, none⟩) (Nat.le_refl _) _).setCell (p := ⟨w.heap.size, 1, none⟩) (Nat.le_refl _) _).setCell (p := ⟨w.heap.size, 2, none⟩) (Nat.le_refl _) _))
  · have HN := Lib.hid h127
    have hd : decide ((127 : Int) < (q : Int) - (p : Int)) = false := decide_eq_false (by omega)
    obtain ⟨t, ht⟩ : ∃ t, (l.drop p).take (q - p) = t := ⟨_, rfl⟩
    have htl : t.length = q - p := by rw [← ht]; simp; omega
    have hrd2 := hrd.below ((Below.refl w.heap.size w).alloc (Nat.le_refl _) (tokB 0 0 ⟨#[]⟩))
    have HE := Lib.hid ht
    by_cases hcap : cap = p
    · have hq0 : q - p = 0 := by omega
      have h0 : t = [] := List.eq_nil_of_length_eq_zero (by rw [htl]; exact hq0)
      have hcv : (convert 22 9 (.slice (some ⟨b, off, none⟩) (q - p) 0)).run Try.prog (w.alloc (tokB 0 0 ⟨#[]⟩)) = .ok (.string ⟨t.toArray⟩) (w.alloc (tokB 0 0 ⟨#[]⟩)) := by
        rw [hq0, h0]
        exact conv_rd (N := 0) (a := some ⟨b, off, none⟩) (t := []) (fun i c hc => by simp at hc)
      unfold tokB at hcv
      subst hcap
      clear h127 hrd hrd2 ht htl h0 hq0
      go_enter Try.func24, Try.ntmps24
      go_wp2_with fail
      exact bodyPost_ret (v := .tuple #[.agg #[.int .i64 k, .int .i64 0, .string ⟨t.toArray⟩], .int .i64 q, .int .i64 0]) (by simp [results, Try.results24, go_sem]) rfl (namR_yes HN.out HE.out ((Below.refl _ _).alloc (Nat.le_refl _) _))
    · have hcv : (convert 22 9 (.slice (some ⟨b, off + p, none⟩) (q - p) (cap - p))).run Try.prog (w.alloc (tokB 0 0 ⟨#[]⟩)) = .ok (.string ⟨t.toArray⟩) (w.alloc (tokB 0 0 ⟨#[]⟩)) := by
        have := conv_rd (c := cap - p) (rd_at (p := p) (k := q - p) hrd2)
        rw [ht, htl] at this; exact this
      unfold tokB at hcv
      clear h127 hrd hrd2 ht htl
      go_enter Try.func24, Try.ntmps24
      go_wp2_with fail
      exact bodyPost_ret (v := .tuple #[.agg #[.int .i64 k, .int .i64 0, .string ⟨t.toArray⟩], .int .i64 q, .int .i64 0]) (by simp [results, Try.results24, go_sem]) rfl (namR_yes HN.out HE.out ((Below.refl _ _).alloc (Nat.le_refl _) _))
/-- what the document's Token answers of bytes, from world w on -/
def RTkAt (w : World) (tk : List UInt8 → Int × Int × Bool × Int) : Prop :=
  ∀ (s : List UInt8) (w' : World), s.length ≤ 65535 → Below w.heap.size w w' → Calls Try.prog 26 #[.string ⟨s.toArray⟩] w' fun e w'' =>
    e = .returned (.tuple #[.agg #[.int .i64 (tk s).1, .int .i64 (tk s).2.1, .string ⟨#[]⟩], .bool (tk s).2.2.1, .int .i64 (tk s).2.2.2]) ∧ Below w'.heap.size w' w''
/-- what the answers keep to -/
def TkGood (tk : List UInt8 → Int × Int × Bool × Int) : Prop := (∀ s, (tk s).2.2.2 ≠ 0 → (tk s).2.2.1 = true) ∧ ∀ s, 127 < s.length → tk s = (0, 0, false, 0)
theorem RdB.up {w : World} {N M : Nat} {a : Option Addr} {l : List UInt8} (h : RdB w N a l) (hN : N ≤ M) : RdB w M a l := fun i c hc => by
  obtain ⟨b, off, e, hb, hcell⟩ := h i c hc
  exact ⟨b, off, e, by omega, hcell⟩
theorem nxR_tok2 {l t r : List UInt8} {o : Out} {w w' : World} {k n : Int} (h : o = .tok k n t r) (hb : Below w.heap.size w w') : NxR l o w (.returned (.tuple #[.agg #[.int .i64 k, .int .i64 n, .string ⟨t.toArray⟩], .int .i64 ((l.length - r.length : Nat) : Int), .int .i64 0])) w' := by
  subst h; exact ⟨rfl, hb⟩
theorem tokSet_below {w w' : World} {T : Nat} (hb : Below w.heap.size w w') (hT : w.heap.size ≤ T) (k n : Int) (t : ByteArray) : Below w.heap.size w (tokSet w' T k n t) :=
  ((hb.setCell (p := ⟨T, 0, none⟩) hT _).setCell (p := ⟨T, 1, none⟩) hT _).setCell (p := ⟨T, 2, none⟩) hT _
theorem kept_tok {w w' : World} {k n : Int} {t : ByteArray} (hb : Below (w.alloc (tokB k n t)).heap.size (w.alloc (tokB k n t)) w') : w'.heap[w.heap.size]? = some (tokB k n t) ∧ Below w.heap.size w w' :=
  ⟨(hb.block w.heap.size (by simp)).trans (tok_new w k n t), ((Below.refl w.heap.size w).alloc (Nat.le_refl _) (tokB k n t)).trans (hb.mono (by simp))⟩
theorem tok_alloc {w : World} {T : Nat} {k n : Int} {t : ByteArray} (h : w.heap[T]? = some (tokB k n t)) (o : Obj) : (w.alloc o).heap[T]? = some (tokB k n t) := (Below.heap_alloc _ _ _ (lt_of_some h)).trans h
theorem tok_endga {fn : Func} {a b c : Nat} (hfn : fn.results = #[.cell a 25, .tmp b, .tmp c]) {tmps : Array Value} {w2 : World} {T : Nat} {k0 n0 k n : Int} {t0 t : ByteArray} {ob : Obj} {x y : Value} {Q : Ending → World → Prop} (hT : w2.heap[T]? = some (tokB k0 n0 t0)) (hp : tmps.getD a undef = .pointer (some ⟨T, 0, none⟩))
    (hx : tmps.getD b undef = x) (hy : tmps.getD c undef = y) (hq : Q (.returned (.tuple #[.agg #[.int .i64 k, .int .i64 n, .string t], x, y])) ((tokSet w2 T k n t).alloc ob)) : bodyPost Try.prog fn Q Exit.ret { tmps := tmps, defers := [] } ((tokSet w2 T k n t).alloc ob) := by
  obtain ⟨r0, r1, r2, _⟩ := tok_c (tok_alloc (tokSet_at hT k n t) ob)
  subst hx hy
  exact bodyPost_ret (results_tokg hfn _ _ T k n t hp r0 r1 r2) rfl hq
theorem name_err {l : List UInt8} {k : Int} {p q : Nat} {w : World} {e : Ending} {w' : World} (h : NamR l k p q w e w') (h1 : 127 < q - p) : e = .returned (.tuple #[.agg #[.int .i64 0, .int .i64 0, .string ⟨#[]⟩], .int .i64 0, .int .i64 9]) ∧ Below w.heap.size w w' := by
  unfold NamR at h; rw [if_pos h1] at h; exact h
theorem name_tok {l : List UInt8} {k : Int} {p q : Nat} {w : World} {e : Ending} {w' : World} (h : NamR l k p q w e w') (h1 : ¬ 127 < q - p) : e = .returned (.tuple #[.agg #[.int .i64 k, .int .i64 0, .string ⟨((l.drop p).take (q - p)).toArray⟩], .int .i64 q, .int .i64 0]) ∧ Below w.heap.size w w' := by
  unfold NamR at h; rw [if_neg h1] at h; exact h
theorem nam_cases {l : List UInt8} {p q : Nat} {k : Int} (hdw : l.drop q = (l.drop p).dropWhile regular) (hq : q ≤ l.length) (hp : p ≤ q) : nam k (l.drop p) = if 127 < q - p then .err 9 else .tok k 0 ((l.drop p).take (q - p)) (l.drop q) := by
  have htw := tw_take hdw hq hp
  have hlen : ((l.drop p).takeWhile regular).length = q - p := by rw [← htw, List.length_take, List.length_drop]; omega
  unfold nam
  rw [hlen, htw, hdw]
theorem wrd_cases {tk : List UInt8 → Int × Int × Bool × Int} {l a : List UInt8} {p q : Nat} {k n x : Int} {o : Bool} (hg : TkGood tk) (hdw : l.drop q = (l.drop p).dropWhile regular) (hq : q ≤ l.length) (hp : p ≤ q) (ha : (l.drop p).take (q - p) = a) (hr : tk a = (k, n, o, x)) :
    (x ≠ 0 → o = true ∧ wrd tk (l.drop p) = .err x) ∧ (x = 0 → o = true → wrd tk (l.drop p) = .tok k n [] (l.drop q)) ∧ (x = 0 → o = false → wrd tk (l.drop p) = if 127 < q - p then .err 9 else .tok 3 0 a (l.drop q)) := by
  have htw := tw_take hdw hq hp
  have hlen : ((l.drop p).takeWhile regular).length = q - p := by rw [← htw, List.length_take, List.length_drop]; omega
  have hal : a.length = q - p := by rw [← ha, htw]; exact hlen
  have hlong := hg.2 a
  rw [hr, hal] at hlong
  have hok := hg.1 a
  rw [hr] at hok
  have e0 : wrd tk (l.drop p) = if 127 < q - p then .err 9 else if x ≠ 0 then .err x else if o = false then .tok 3 0 a (l.drop q) else .tok k n [] (l.drop q) := by
    unfold wrd
    rw [hlen, ← htw, ha, hr, hdw]
  rw [e0]
  refine ⟨fun hx => ?_, fun hx ho => ?_, fun hx ho => ?_⟩
  · have h1 : ¬ 127 < q - p := fun h => hx (by have := hlong h; simp at this; exact this.2.2.2)
    exact ⟨hok hx, by rw [if_neg h1, if_pos hx]⟩
  · have h1 : ¬ 127 < q - p := fun h => by have := hlong h; simp [ho] at this
    rw [if_neg h1, if_neg (by simp [hx]), if_neg (by simp [ho])]
  · rw [if_neg (by simp [hx] : ¬ x ≠ 0), if_pos ho]
namespace Sc
theorem skp_head {m : Bool} {s r : List UInt8} {c : UInt8} (h : skp m s = c :: r) : blnk c = false ∧ c ≠ 37 := by
  induction s generalizing m with
  | nil => cases m <;> simp [skp] at h
  | cons x s ih =>
    cases m
    · rw [skp] at h
      split at h
      · exact ih h
      · split at h
        · exact ih h
        · rename_i h1 h2; injection h with e1 e2; subst e1; exact ⟨by simpa using h1, h2⟩
    · rw [skp] at h
      split at h
      · exact ih h
      · exact ih h
end Sc
set_option maxRecDepth 100000 in
set_option maxHeartbeats 4000000 in
theorem refNext_at {w : World} {cap p : Nat} {ba : Option Addr} {l : List UInt8} (hrd : RdB w w.heap.size ba l) (hcl : l.length ≤ cap) (hl : l.length ≤ 65535) (hp : p ≤ l.length) {tk : List UInt8 → Int × Int × Bool × Int} (hg : TkGood tk) (htk : RTkAt w tk) :
    Calls Try.prog 11 #[.slice ba l.length cap, .int .i64 p] w (NxR l (nxt tk (l.drop p)) w) := by
  have hb0 : Below w.heap.size w (w.alloc (tokB 0 0 ⟨#[]⟩)) := (Below.refl w.heap.size w).alloc (Nat.le_refl _) _
  have hrd0 : RdB (w.alloc (tokB 0 0 ⟨#[]⟩)) (w.alloc (tokB 0 0 ⟨#[]⟩)).heap.size ba l := (hrd.below hb0).up (by simp)
  have HRD := Lib.hid hrd0
  have HC := Lib.hid (refSkip_at (cap := cap) hrd0 (by omega) hp)
  have HB0 := Lib.hid hb0
  have HTk := Lib.hid htk
  have HG := Lib.hid hg
  obtain ⟨O, hO⟩ : ∃ O, nxt tk (l.drop p) = O := ⟨_, rfl⟩
  rw [hO]
  have HO0 := Lib.hid hO
  have hd : decide ((l.length : Int) < (p : Int)) = false := decide_eq_false (by omega)
  have hd0 : decide ((p : Int) < 0) = false := decide_eq_false (by omega)
  unfold tokB at HC
  clear hrd htk hg hb0 hO
  go_enter Try.func11, Try.ntmps11
  go_wp2_with fail
  refine HC.out.mono ?_
  rintro e w1 ⟨q, hq, hsk, rfl, rfl⟩
  have hnx : O = beg tk (l.drop q) := by rw [← HO0.out]; unfold nxt; rw [hsk]
  have HSK := Lib.hid hsk
  have HNX := Lib.hid hnx
  clear hsk hnx hd hd0 HO0
  cases hs : l.drop q with
  | nil =>
    have hql : q = l.length := drop_end hs hq
    rw [hs] at HNX
    subst hql
    clear hs hq
    as_aux_lemma =>
      go_wp2_with fail
      exact bodyPost_ret (v := .tuple #[.agg #[.int .i64 0, .int .i64 0, .string ⟨#[]⟩], .int .i64 l.length, .int .i64 0]) (by simp [results, Try.results11, go_sem]) rfl (nxR_tok (q := l.length) (t := []) (r := []) HNX.out (List.drop_of_length_le (Nat.le_refl _)) (Nat.le_refl _) HB0.out)
  | cons c r =>
    obtain ⟨hc, hs1, hlt⟩ := drop_at hs
    obtain ⟨b, off, rfl, hbN, hcell⟩ := hrd0 q c hc
    have hcq : ¬ cap = q := by omega
    rw [hs] at HNX
    have HS := Lib.hid hs
    have HS1 := Lib.hid hs1
    have hnext : (r = [] ∧ ¬ q + 1 < l.length) ∨ ∃ x r2, r = x :: r2 ∧ q + 1 < l.length ∧ l.drop (q + 2) = r2 ∧ (w.alloc (tokB 0 0 ⟨#[]⟩)).cell? ⟨b, off + (q + 1), none⟩ = some (.int .u8 x.toNat) := by
      cases r with
      | nil => exact .inl ⟨rfl, by have := drop_end hs1 (by omega); omega⟩
      | cons x r2 =>
        obtain ⟨hx, hs2, hlt2⟩ := drop_at hs1
        obtain ⟨b', off', e', _, hcx⟩ := hrd0 (q + 1) x hx
        cases e'
        exact .inr ⟨x, r2, rfl, hlt2, hs2, hcx⟩
    have hb37 : blnk c = false ∧ c ≠ 37 := by
      have h := HSK.out
      rw [hs] at h
      refine skp_head h.symm
    clear hs hs1 hc hrd0
    unfold tokB at hcell hnext
    by_cases h40 : c = 40
    · subst h40
      have HN := Lib.hid (show beg tk (40 :: r) = str (rnd 1 r) by rw [beg, if_neg (by decide), if_pos rfl])
      have hc1 : (w.alloc (.cells #[.int .i64 0, .int .i64 0, .string ⟨#[]⟩] 25)).cell? ⟨b, off + q, none⟩ = some (.int .u8 40) := hcell
      clear hcell
      rcases hnext with ⟨_, hge⟩ | ⟨x, r2, _, hlt2, _, hcx⟩
      · skip
        have HSt := Lib.hid (refRound_at (cap := cap) (p := q) HRD.out hl hlt)
        obtain ⟨o, ho⟩ : ∃ o, rnd 1 (l.drop (q + 1)) = o := ⟨_, rfl⟩
        rw [ho] at HSt; have HN := Lib.hid (HN.out.trans (show str (rnd 1 r) = str o by rw [← HS1.out, ho]))
        have HO := Lib.hid ho
        clear ho
        as_aux_lemma =>
          go_wp2_with fail
          refine HSt.out.mono ?_; rintro e w2 ⟨v, rfl, hb2, hm⟩
          obtain ⟨hT, hb3⟩ := kept_tok hb2
          have HT := Lib.hid hT
          have HB := Lib.hid hb3
          cases o with
          | none =>
            subst hm
            clear hb2 hb3 hT
            go_wp2_with fail
            refine (refNone_at 14 _).mono ?_; rintro e w3 ⟨rfl, hb4⟩
            have hT3 := (hb4.block w.heap.size (lt_of_some HT.out)).trans HT.out
            obtain ⟨t0, t1, t2, g0, g1, g2⟩ := tok_c hT3
            have HT3 := Lib.hid hT3
            have HB3 := Lib.hid (HB.out.trans (hb4.mono HB.out.size))
            clear hb4 hT3
            go_wp2_with fail
            exact tok_endg Try.results11 HT3.out rfl rfl rfl (nxR_err (HNX.out.trans HN.out) (tokSet_below HB3.out (Nat.le_refl _) _ _ _))
          | some x =>
            obtain ⟨t, r3⟩ := x
            obtain ⟨sv0, rfl, hown⟩ := hm
            simp only at hown
            obtain ⟨a, cc, rfl⟩ := owns_shape hown
            have htl : t.length ≤ 65535 := by
              have := rnd_len _ _ _ _ _ (Nat.le_refl _) HO.out; rw [List.length_drop] at this
              omega
            have hcv := conv_owned hown
            have hd5 : decide ((65535 : Int) < (t.length : Int)) = false := decide_eq_false (by omega)
            obtain ⟨t0, t1, t2, g0, g1, g2⟩ := tok_c HT.out
            clear hb2 hb3 hT hown
            go_wp2_with fail
            exact tok_endg Try.results11 HT.out rfl rfl rfl (nxR_tok2 (HNX.out.trans HN.out) (tokSet_below HB.out (Nat.le_refl _) _ _ _))
      · skip
        have HSt := Lib.hid (refRound_at (cap := cap) (p := q) HRD.out hl hlt)
        obtain ⟨o, ho⟩ : ∃ o, rnd 1 (l.drop (q + 1)) = o := ⟨_, rfl⟩
        rw [ho] at HSt; have HN := Lib.hid (HN.out.trans (show str (rnd 1 r) = str o by rw [← HS1.out, ho]))
        have HO := Lib.hid ho
        clear ho
        as_aux_lemma =>
          go_wp2_with fail
          refine HSt.out.mono ?_; rintro e w2 ⟨v, rfl, hb2, hm⟩
          obtain ⟨hT, hb3⟩ := kept_tok hb2
          have HT := Lib.hid hT
          have HB := Lib.hid hb3
          cases o with
          | none =>
            subst hm
            clear hb2 hb3 hT
            go_wp2_with fail
            refine (refNone_at 14 _).mono ?_; rintro e w3 ⟨rfl, hb4⟩
            have hT3 := (hb4.block w.heap.size (lt_of_some HT.out)).trans HT.out
            obtain ⟨t0, t1, t2, g0, g1, g2⟩ := tok_c hT3
            have HT3 := Lib.hid hT3
            have HB3 := Lib.hid (HB.out.trans (hb4.mono HB.out.size))
            clear hb4 hT3
            go_wp2_with fail
            exact tok_endg Try.results11 HT3.out rfl rfl rfl (nxR_err (HNX.out.trans HN.out) (tokSet_below HB3.out (Nat.le_refl _) _ _ _))
          | some x =>
            obtain ⟨t, r3⟩ := x
            obtain ⟨sv0, rfl, hown⟩ := hm
            simp only at hown
            obtain ⟨a, cc, rfl⟩ := owns_shape hown
            have htl : t.length ≤ 65535 := by
              have := rnd_len _ _ _ _ _ (Nat.le_refl _) HO.out; rw [List.length_drop] at this
              omega
            have hcv := conv_owned hown
            have hd5 : decide ((65535 : Int) < (t.length : Int)) = false := decide_eq_false (by omega)
            obtain ⟨t0, t1, t2, g0, g1, g2⟩ := tok_c HT.out
            clear hb2 hb3 hT hown
            go_wp2_with fail
            exact tok_endg Try.results11 HT.out rfl rfl rfl (nxR_tok2 (HNX.out.trans HN.out) (tokSet_below HB.out (Nat.le_refl _) _ _ _))
    by_cases h123 : c = 123
    · subst h123
      have HN := Lib.hid (show beg tk (123 :: r) = .tok 7 0 [] r by rw [beg, if_neg (by decide), if_neg (by decide), if_neg (by decide), if_neg (by decide), if_pos rfl])
      have hc1 : (w.alloc (.cells #[.int .i64 0, .int .i64 0, .string ⟨#[]⟩] 25)).cell? ⟨b, off + q, none⟩ = some (.int .u8 123) := hcell
      clear hcell
      rcases hnext with ⟨_, hge⟩ | ⟨x, r2, _, hlt2, _, hcx⟩
      · skip
        as_aux_lemma =>
          go_wp2_with fail
          exact bodyPost_ret (v := .tuple #[.agg #[.int .i64 7, .int .i64 0, .string ⟨#[]⟩], .int .i64 (q + 1 : Nat), .int .i64 0]) (by simp [results, Try.results11, go_sem]) rfl (nxR_tok (q := q + 1) (t := []) (r := r) (HNX.out.trans HN.out) HS1.out (by omega) ((Below.refl w.heap.size w).alloc (Nat.le_refl _) _))
      · skip
        as_aux_lemma =>
          go_wp2_with fail
          exact bodyPost_ret (v := .tuple #[.agg #[.int .i64 7, .int .i64 0, .string ⟨#[]⟩], .int .i64 (q + 1 : Nat), .int .i64 0]) (by simp [results, Try.results11, go_sem]) rfl (nxR_tok (q := q + 1) (t := []) (r := r) (HNX.out.trans HN.out) HS1.out (by omega) ((Below.refl w.heap.size w).alloc (Nat.le_refl _) _))
    by_cases h125 : c = 125
    · subst h125
      have HN := Lib.hid (show beg tk (125 :: r) = .tok 8 0 [] r by rw [beg, if_neg (by decide), if_neg (by decide), if_neg (by decide), if_neg (by decide), if_neg (by decide), if_pos rfl])
      have hc1 : (w.alloc (.cells #[.int .i64 0, .int .i64 0, .string ⟨#[]⟩] 25)).cell? ⟨b, off + q, none⟩ = some (.int .u8 125) := hcell
      clear hcell
      rcases hnext with ⟨_, hge⟩ | ⟨x, r2, _, hlt2, _, hcx⟩
      · skip
        as_aux_lemma =>
          go_wp2_with fail
          exact bodyPost_ret (v := .tuple #[.agg #[.int .i64 8, .int .i64 0, .string ⟨#[]⟩], .int .i64 (q + 1 : Nat), .int .i64 0]) (by simp [results, Try.results11, go_sem]) rfl (nxR_tok (q := q + 1) (t := []) (r := r) (HNX.out.trans HN.out) HS1.out (by omega) ((Below.refl w.heap.size w).alloc (Nat.le_refl _) _))
      · skip
        as_aux_lemma =>
          go_wp2_with fail
          exact bodyPost_ret (v := .tuple #[.agg #[.int .i64 8, .int .i64 0, .string ⟨#[]⟩], .int .i64 (q + 1 : Nat), .int .i64 0]) (by simp [results, Try.results11, go_sem]) rfl (nxR_tok (q := q + 1) (t := []) (r := r) (HNX.out.trans HN.out) HS1.out (by omega) ((Below.refl w.heap.size w).alloc (Nat.le_refl _) _))
    by_cases h91 : c = 91
    · subst h91
      have HN := Lib.hid (show beg tk (91 :: r) = .tok 3 0 [91] r by rw [beg, if_neg (by decide), if_neg (by decide), if_neg (by decide), if_neg (by decide), if_neg (by decide), if_neg (by decide), if_pos rfl])
      have hc1 : (w.alloc (.cells #[.int .i64 0, .int .i64 0, .string ⟨#[]⟩] 25)).cell? ⟨b, off + q, none⟩ = some (.int .u8 91) := hcell
      clear hcell
      rcases hnext with ⟨_, hge⟩ | ⟨x, r2, _, hlt2, _, hcx⟩
      · skip
        have hcv : (convert 22 9 (.slice (some ⟨w.heap.size + 1, 0, none⟩) 1 1)).run Try.prog ((w.alloc (.cells #[.int .i64 0, .int .i64 0, .string ⟨#[]⟩] 25)).alloc (.cells #[.int .u8 91] 5)) = .ok (.string ⟨#[91]⟩) ((w.alloc (.cells #[.int .i64 0, .int .i64 0, .string ⟨#[]⟩] 25)).alloc (.cells #[.int .u8 91] 5)) := by
          have h := conv_one (w.alloc (.cells #[.int .i64 0, .int .i64 0, .string ⟨#[]⟩] 25)) 91
          rw [show (w.alloc (.cells #[.int .i64 0, .int .i64 0, .string ⟨#[]⟩] 25)).heap.size = w.heap.size + 1 by simp] at h
          exact h
        as_aux_lemma =>
          go_wp2_with fail
          exact bodyPost_ret (v := .tuple #[.agg #[.int .i64 3, .int .i64 0, .string ⟨#[91]⟩], .int .i64 (q + 1 : Nat), .int .i64 0]) (by simp [results, Try.results11, go_sem]) rfl (nxR_tok (q := q + 1) (t := [91]) (r := r) (HNX.out.trans HN.out) HS1.out (by omega) (by first | exact ((Below.refl w.heap.size w).alloc (Nat.le_refl _) _).alloc (by simp) _ | exact tokSet_below (((Below.refl w.heap.size w).alloc (Nat.le_refl _) _).alloc (by simp) _) (Nat.le_refl _) _ _ _))
      · skip
        have hcv : (convert 22 9 (.slice (some ⟨w.heap.size + 1, 0, none⟩) 1 1)).run Try.prog ((w.alloc (.cells #[.int .i64 0, .int .i64 0, .string ⟨#[]⟩] 25)).alloc (.cells #[.int .u8 91] 5)) = .ok (.string ⟨#[91]⟩) ((w.alloc (.cells #[.int .i64 0, .int .i64 0, .string ⟨#[]⟩] 25)).alloc (.cells #[.int .u8 91] 5)) := by
          have h := conv_one (w.alloc (.cells #[.int .i64 0, .int .i64 0, .string ⟨#[]⟩] 25)) 91
          rw [show (w.alloc (.cells #[.int .i64 0, .int .i64 0, .string ⟨#[]⟩] 25)).heap.size = w.heap.size + 1 by simp] at h
          exact h
        as_aux_lemma =>
          go_wp2_with fail
          exact bodyPost_ret (v := .tuple #[.agg #[.int .i64 3, .int .i64 0, .string ⟨#[91]⟩], .int .i64 (q + 1 : Nat), .int .i64 0]) (by simp [results, Try.results11, go_sem]) rfl (nxR_tok (q := q + 1) (t := [91]) (r := r) (HNX.out.trans HN.out) HS1.out (by omega) (by first | exact ((Below.refl w.heap.size w).alloc (Nat.le_refl _) _).alloc (by simp) _ | exact tokSet_below (((Below.refl w.heap.size w).alloc (Nat.le_refl _) _).alloc (by simp) _) (Nat.le_refl _) _ _ _))
    by_cases h93 : c = 93
    · subst h93
      have HN := Lib.hid (show beg tk (93 :: r) = .tok 3 0 [93] r by rw [beg, if_neg (by decide), if_neg (by decide), if_neg (by decide), if_neg (by decide), if_neg (by decide), if_neg (by decide), if_neg (by decide), if_pos rfl])
      have hc1 : (w.alloc (.cells #[.int .i64 0, .int .i64 0, .string ⟨#[]⟩] 25)).cell? ⟨b, off + q, none⟩ = some (.int .u8 93) := hcell
      clear hcell
      rcases hnext with ⟨_, hge⟩ | ⟨x, r2, _, hlt2, _, hcx⟩
      · skip
        have hcv : (convert 22 9 (.slice (some ⟨w.heap.size + 1, 0, none⟩) 1 1)).run Try.prog ((w.alloc (.cells #[.int .i64 0, .int .i64 0, .string ⟨#[]⟩] 25)).alloc (.cells #[.int .u8 93] 5)) = .ok (.string ⟨#[93]⟩) ((w.alloc (.cells #[.int .i64 0, .int .i64 0, .string ⟨#[]⟩] 25)).alloc (.cells #[.int .u8 93] 5)) := by
          have h := conv_one (w.alloc (.cells #[.int .i64 0, .int .i64 0, .string ⟨#[]⟩] 25)) 93
          rw [show (w.alloc (.cells #[.int .i64 0, .int .i64 0, .string ⟨#[]⟩] 25)).heap.size = w.heap.size + 1 by simp] at h
          exact h
        as_aux_lemma =>
          go_wp2_with fail
          exact bodyPost_ret (v := .tuple #[.agg #[.int .i64 3, .int .i64 0, .string ⟨#[93]⟩], .int .i64 (q + 1 : Nat), .int .i64 0]) (by simp [results, Try.results11, go_sem]) rfl (nxR_tok (q := q + 1) (t := [93]) (r := r) (HNX.out.trans HN.out) HS1.out (by omega) (by first | exact ((Below.refl w.heap.size w).alloc (Nat.le_refl _) _).alloc (by simp) _ | exact tokSet_below (((Below.refl w.heap.size w).alloc (Nat.le_refl _) _).alloc (by simp) _) (Nat.le_refl _) _ _ _))
      · skip
        have hcv : (convert 22 9 (.slice (some ⟨w.heap.size + 1, 0, none⟩) 1 1)).run Try.prog ((w.alloc (.cells #[.int .i64 0, .int .i64 0, .string ⟨#[]⟩] 25)).alloc (.cells #[.int .u8 93] 5)) = .ok (.string ⟨#[93]⟩) ((w.alloc (.cells #[.int .i64 0, .int .i64 0, .string ⟨#[]⟩] 25)).alloc (.cells #[.int .u8 93] 5)) := by
          have h := conv_one (w.alloc (.cells #[.int .i64 0, .int .i64 0, .string ⟨#[]⟩] 25)) 93
          rw [show (w.alloc (.cells #[.int .i64 0, .int .i64 0, .string ⟨#[]⟩] 25)).heap.size = w.heap.size + 1 by simp] at h
          exact h
        as_aux_lemma =>
          go_wp2_with fail
          exact bodyPost_ret (v := .tuple #[.agg #[.int .i64 3, .int .i64 0, .string ⟨#[93]⟩], .int .i64 (q + 1 : Nat), .int .i64 0]) (by simp [results, Try.results11, go_sem]) rfl (nxR_tok (q := q + 1) (t := [93]) (r := r) (HNX.out.trans HN.out) HS1.out (by omega) (by first | exact ((Below.refl w.heap.size w).alloc (Nat.le_refl _) _).alloc (by simp) _ | exact tokSet_below (((Below.refl w.heap.size w).alloc (Nat.le_refl _) _).alloc (by simp) _) (Nat.le_refl _) _ _ _))
    by_cases h41 : c = 41
    · subst h41
      have HN := Lib.hid (show beg tk (41 :: r) = .err 14 by rw [beg, if_neg (by decide), if_neg (by decide), if_neg (by decide), if_neg (by decide), if_neg (by decide), if_neg (by decide), if_neg (by decide), if_neg (by decide), if_neg (by decide)])
      have hc1 : (w.alloc (.cells #[.int .i64 0, .int .i64 0, .string ⟨#[]⟩] 25)).cell? ⟨b, off + q, none⟩ = some (.int .u8 41) := hcell
      clear hcell
      rcases hnext with ⟨_, hge⟩ | ⟨x, r2, _, hlt2, _, hcx⟩
      · skip
        as_aux_lemma =>
          go_wp2_with fail
          refine (refNone_at 14 _).mono ?_; rintro e w2 ⟨rfl, hb2⟩
          obtain ⟨hT, hb3⟩ := kept_tok hb2
          obtain ⟨t0, t1, t2, g0, g1, g2⟩ := tok_c hT
          have HT := Lib.hid hT
          have HB := Lib.hid hb3
          clear hb2 hb3 hT
          go_wp2_with fail
          exact tok_endg Try.results11 HT.out rfl rfl rfl (nxR_err (HNX.out.trans HN.out) (tokSet_below HB.out (Nat.le_refl _) _ _ _))
      · skip
        as_aux_lemma =>
          go_wp2_with fail
          refine (refNone_at 14 _).mono ?_; rintro e w2 ⟨rfl, hb2⟩
          obtain ⟨hT, hb3⟩ := kept_tok hb2
          obtain ⟨t0, t1, t2, g0, g1, g2⟩ := tok_c hT
          have HT := Lib.hid hT
          have HB := Lib.hid hb3
          clear hb2 hb3 hT
          go_wp2_with fail
          exact tok_endg Try.results11 HT.out rfl rfl rfl (nxR_err (HNX.out.trans HN.out) (tokSet_below HB.out (Nat.le_refl _) _ _ _))
    by_cases h60 : c = 60
    · subst h60
      have hc1 : (w.alloc (.cells #[.int .i64 0, .int .i64 0, .string ⟨#[]⟩] 25)).cell? ⟨b, off + q, none⟩ = some (.int .u8 60) := hcell
      clear hcell
      rcases hnext with ⟨hr0, hge⟩ | ⟨x, r2, hr0, hlt2, hs2, hcx⟩
      · have HN := Lib.hid (show beg tk (60 :: r) = str (hx none r) by rw [beg, if_neg (by decide), if_neg (by decide), if_pos rfl]; rw [hr0]; rfl)
        clear hr0
        have HSt := Lib.hid (refHex_at (cap := cap) (p := q) HRD.out hl hlt)
        obtain ⟨o, ho⟩ : ∃ o, hx none (l.drop (q + 1)) = o := ⟨_, rfl⟩
        rw [ho] at HSt; have HN := Lib.hid (HN.out.trans (show str (hx none r) = str o by rw [← HS1.out, ho]))
        have HO := Lib.hid ho
        clear ho
        as_aux_lemma =>
          go_wp2_with fail
          refine HSt.out.mono ?_; rintro e w2 ⟨v, rfl, hb2, hm⟩
          obtain ⟨hT, hb3⟩ := kept_tok hb2
          have HT := Lib.hid hT
          have HB := Lib.hid hb3
          cases o with
          | none =>
            subst hm
            clear hb2 hb3 hT
            go_wp2_with fail
            refine (refNone_at 14 _).mono ?_; rintro e w3 ⟨rfl, hb4⟩
            have hT3 := (hb4.block w.heap.size (lt_of_some HT.out)).trans HT.out
            obtain ⟨t0, t1, t2, g0, g1, g2⟩ := tok_c hT3
            have HT3 := Lib.hid hT3
            have HB3 := Lib.hid (HB.out.trans (hb4.mono HB.out.size))
            clear hb4 hT3
            go_wp2_with fail
            exact tok_endg Try.results11 HT3.out rfl rfl rfl (nxR_err (HNX.out.trans HN.out) (tokSet_below HB3.out (Nat.le_refl _) _ _ _))
          | some x =>
            obtain ⟨t, r3⟩ := x
            obtain ⟨sv0, rfl, hown⟩ := hm
            simp only at hown
            obtain ⟨a, cc, rfl⟩ := owns_shape hown
            have htl : t.length ≤ 65535 := by
              have := hx_olen _ _ _ _ HO.out; rw [List.length_drop] at this
              omega
            have hcv := conv_owned hown
            have hd5 : decide ((65535 : Int) < (t.length : Int)) = false := decide_eq_false (by omega)
            obtain ⟨t0, t1, t2, g0, g1, g2⟩ := tok_c HT.out
            clear hb2 hb3 hT hown
            go_wp2_with fail
            exact tok_endg Try.results11 HT.out rfl rfl rfl (nxR_tok2 (HNX.out.trans HN.out) (tokSet_below HB.out (Nat.le_refl _) _ _ _))
      · by_cases hx60 : x = 60
        · subst hx60
          have HN := Lib.hid (show beg tk (60 :: r) = .tok 3 0 [60, 60] r2 by rw [beg, if_neg (by decide), if_neg (by decide), if_pos rfl]; rw [hr0, twice, if_pos rfl])
          have hc2 : (w.alloc (.cells #[.int .i64 0, .int .i64 0, .string ⟨#[]⟩] 25)).cell? ⟨b, off + (q + 1), none⟩ = some (.int .u8 60) := hcx
          have HS2 := Lib.hid hs2
          clear hcx hr0 hs2
          as_aux_lemma =>
            go_wp2_with fail
            exact bodyPost_ret (v := .tuple #[.agg #[.int .i64 3, .int .i64 0, .string ⟨#[60, 60]⟩], .int .i64 (q + 2 : Nat), .int .i64 0]) (by simp [results, Try.results11, go_sem]) rfl (nxR_tok (q := q + 2) (t := [60, 60]) (r := r2) (HNX.out.trans HN.out) HS2.out (by omega) ((Below.refl w.heap.size w).alloc (Nat.le_refl _) _))
        · have HN := Lib.hid (show beg tk (60 :: r) = str (hx none r) by rw [beg, if_neg (by decide), if_neg (by decide), if_pos rfl]; rw [hr0, twice, if_neg hx60])
          have hbx : ((x.toNat : Int) == 60) = false := beqF (k := 60) (fun e => hx60 (UInt8.toNat_inj.1 (e.trans rfl)))
          clear hr0 hs2 hx60
          have HSt := Lib.hid (refHex_at (cap := cap) (p := q) HRD.out hl hlt)
          obtain ⟨o, ho⟩ : ∃ o, hx none (l.drop (q + 1)) = o := ⟨_, rfl⟩
          rw [ho] at HSt; have HN := Lib.hid (HN.out.trans (show str (hx none r) = str o by rw [← HS1.out, ho]))
          have HO := Lib.hid ho
          clear ho
          as_aux_lemma =>
            go_wp2_with fail
            refine HSt.out.mono ?_; rintro e w2 ⟨v, rfl, hb2, hm⟩
            obtain ⟨hT, hb3⟩ := kept_tok hb2
            have HT := Lib.hid hT
            have HB := Lib.hid hb3
            cases o with
            | none =>
              subst hm
              clear hb2 hb3 hT
              go_wp2_with fail
              refine (refNone_at 14 _).mono ?_; rintro e w3 ⟨rfl, hb4⟩
              have hT3 := (hb4.block w.heap.size (lt_of_some HT.out)).trans HT.out
              obtain ⟨t0, t1, t2, g0, g1, g2⟩ := tok_c hT3
              have HT3 := Lib.hid hT3
              have HB3 := Lib.hid (HB.out.trans (hb4.mono HB.out.size))
              clear hb4 hT3
              go_wp2_with fail
              exact tok_endg Try.results11 HT3.out rfl rfl rfl (nxR_err (HNX.out.trans HN.out) (tokSet_below HB3.out (Nat.le_refl _) _ _ _))
            | some x =>
              obtain ⟨t, r3⟩ := x
              obtain ⟨sv0, rfl, hown⟩ := hm
              simp only at hown
              obtain ⟨a, cc, rfl⟩ := owns_shape hown
              have htl : t.length ≤ 65535 := by
                have := hx_olen _ _ _ _ HO.out; rw [List.length_drop] at this
                omega
              have hcv := conv_owned hown
              have hd5 : decide ((65535 : Int) < (t.length : Int)) = false := decide_eq_false (by omega)
              obtain ⟨t0, t1, t2, g0, g1, g2⟩ := tok_c HT.out
              clear hb2 hb3 hT hown
              go_wp2_with fail
              exact tok_endg Try.results11 HT.out rfl rfl rfl (nxR_tok2 (HNX.out.trans HN.out) (tokSet_below HB.out (Nat.le_refl _) _ _ _))
    by_cases h62 : c = 62
    · subst h62
      have hc1 : (w.alloc (.cells #[.int .i64 0, .int .i64 0, .string ⟨#[]⟩] 25)).cell? ⟨b, off + q, none⟩ = some (.int .u8 62) := hcell
      clear hcell
      rcases hnext with ⟨hr0, hge⟩ | ⟨x, r2, hr0, hlt2, hs2, hcx⟩
      · have HN := Lib.hid (show beg tk (62 :: r) = .err 14 by rw [beg, if_neg (by decide), if_neg (by decide), if_neg (by decide), if_pos rfl]; rw [hr0]; rfl)
        clear hr0
        as_aux_lemma =>
          go_wp2_with fail
          refine (refNone_at 14 _).mono ?_; rintro e w2 ⟨rfl, hb2⟩
          obtain ⟨hT, hb3⟩ := kept_tok hb2
          obtain ⟨t0, t1, t2, g0, g1, g2⟩ := tok_c hT
          have HT := Lib.hid hT
          have HB := Lib.hid hb3
          clear hb2 hb3 hT
          go_wp2_with fail
          exact tok_endg Try.results11 HT.out rfl rfl rfl (nxR_err (HNX.out.trans HN.out) (tokSet_below HB.out (Nat.le_refl _) _ _ _))
      · by_cases hx62 : x = 62
        · subst hx62
          have HN := Lib.hid (show beg tk (62 :: r) = .tok 3 0 [62, 62] r2 by rw [beg, if_neg (by decide), if_neg (by decide), if_neg (by decide), if_pos rfl]; rw [hr0, twice, if_pos rfl])
          have hc2 : (w.alloc (.cells #[.int .i64 0, .int .i64 0, .string ⟨#[]⟩] 25)).cell? ⟨b, off + (q + 1), none⟩ = some (.int .u8 62) := hcx
          have HS2 := Lib.hid hs2
          clear hcx hr0 hs2
          as_aux_lemma =>
            go_wp2_with fail
            exact bodyPost_ret (v := .tuple #[.agg #[.int .i64 3, .int .i64 0, .string ⟨#[62, 62]⟩], .int .i64 (q + 2 : Nat), .int .i64 0]) (by simp [results, Try.results11, go_sem]) rfl (nxR_tok (q := q + 2) (t := [62, 62]) (r := r2) (HNX.out.trans HN.out) HS2.out (by omega) ((Below.refl w.heap.size w).alloc (Nat.le_refl _) _))
        · have HN := Lib.hid (show beg tk (62 :: r) = .err 14 by rw [beg, if_neg (by decide), if_neg (by decide), if_neg (by decide), if_pos rfl]; rw [hr0, twice, if_neg hx62])
          have hbx : ((x.toNat : Int) != 62) = true := by have := beqF (c := x) (k := 62) (fun e => hx62 (UInt8.toNat_inj.1 (e.trans rfl))); simpa [bne] using this
          clear hr0 hs2 hx62
          as_aux_lemma =>
            go_wp2_with fail
            refine (refNone_at 14 _).mono ?_; rintro e w2 ⟨rfl, hb2⟩
            obtain ⟨hT, hb3⟩ := kept_tok hb2
            obtain ⟨t0, t1, t2, g0, g1, g2⟩ := tok_c hT
            have HT := Lib.hid hT
            have HB := Lib.hid hb3
            clear hb2 hb3 hT
            go_wp2_with fail
            exact tok_endg Try.results11 HT.out rfl rfl rfl (nxR_err (HNX.out.trans HN.out) (tokSet_below HB.out (Nat.le_refl _) _ _ _))
    by_cases h47 : c = 47
    · subst h47
      have hc1 : (w.alloc (.cells #[.int .i64 0, .int .i64 0, .string ⟨#[]⟩] 25)).cell? ⟨b, off + q, none⟩ = some (.int .u8 47) := hcell
      clear hcell
      rcases hnext with ⟨hr0, hge⟩ | ⟨x, r2, hr0, hlt2, hs2, hcx⟩
      · have HN := Lib.hid (show beg tk (47 :: r) = nam 4 (l.drop (q + 1)) by rw [beg, if_neg (by decide), if_neg (by decide), if_neg (by decide), if_neg (by decide), if_neg (by decide), if_neg (by decide), if_neg (by decide), if_neg (by decide), if_pos rfl]; rw [HS1.out, hr0]; rfl)
        clear hr0
        have HW := Lib.hid (refWord_at (cap := cap) HRD.out (by omega) (p := q + 1) (by omega))
        unfold tokB at HW
        as_aux_lemma =>
          go_wp2_with fail
          refine HW.out.mono ?_
          rintro e w2 ⟨q2, h1, h2, hdw, rfl, rfl⟩
          have hna := nam_cases (k := 4) hdw h2 h1
          rw [hna] at HN
          clear hdw hna
          go_wp2_with fail
          refine (refName_at 4 HRD.out hcl hl h1 h2).mono ?_
          intro e w3 hnm
          by_cases h127 : 127 < q2 - (q + 1)
          · obtain ⟨rfl, hb2⟩ := name_err hnm h127
            rw [if_pos h127] at HN
            obtain ⟨hT, hb3⟩ := kept_tok hb2
            obtain ⟨t0, t1, t2, g0, g1, g2⟩ := tok_c hT
            have HT := Lib.hid hT
            have HB := Lib.hid hb3
            clear hb2 hb3 hT hnm h127
            go_wp2_with fail
            exact tok_endg Try.results11 HT.out rfl rfl rfl (nxR_err (HNX.out.trans HN.out) (tokSet_below HB.out (Nat.le_refl _) _ _ _))
          · obtain ⟨rfl, hb2⟩ := name_tok hnm h127
            rw [if_neg h127] at HN
            obtain ⟨hT, hb3⟩ := kept_tok hb2
            obtain ⟨t0, t1, t2, g0, g1, g2⟩ := tok_c hT
            have HT := Lib.hid hT
            have HB := Lib.hid hb3
            clear hb2 hb3 hT hnm h127
            go_wp2_with fail
            exact tok_endg Try.results11 HT.out rfl rfl rfl (nxR_tok (HNX.out.trans HN.out) rfl h2 (tokSet_below HB.out (Nat.le_refl _) _ _ _))
      · by_cases hx47 : x = 47
        · subst hx47
          have HN := Lib.hid (show beg tk (47 :: r) = nam 5 (l.drop (q + 2)) by rw [beg, if_neg (by decide), if_neg (by decide), if_neg (by decide), if_neg (by decide), if_neg (by decide), if_neg (by decide), if_neg (by decide), if_neg (by decide), if_pos rfl]; rw [hs2, hr0, sla, if_pos rfl])
          have hc2 : (w.alloc (.cells #[.int .i64 0, .int .i64 0, .string ⟨#[]⟩] 25)).cell? ⟨b, off + (q + 1), none⟩ = some (.int .u8 47) := hcx
          clear hcx hr0 hs2
          have HW := Lib.hid (refWord_at (cap := cap) HRD.out (by omega) (p := q + 2) (by omega))
          unfold tokB at HW
          as_aux_lemma =>
            go_wp2_with fail
            refine HW.out.mono ?_
            rintro e w2 ⟨q2, h1, h2, hdw, rfl, rfl⟩
            have hna := nam_cases (k := 5) hdw h2 h1
            rw [hna] at HN
            clear hdw hna
            go_wp2_with fail
            refine (refName_at 5 HRD.out hcl hl h1 h2).mono ?_
            intro e w3 hnm
            by_cases h127 : 127 < q2 - (q + 2)
            · obtain ⟨rfl, hb2⟩ := name_err hnm h127
              rw [if_pos h127] at HN
              obtain ⟨hT, hb3⟩ := kept_tok hb2
              obtain ⟨t0, t1, t2, g0, g1, g2⟩ := tok_c hT
              have HT := Lib.hid hT
              have HB := Lib.hid hb3
              clear hb2 hb3 hT hnm h127
              go_wp2_with fail
              exact tok_endg Try.results11 HT.out rfl rfl rfl (nxR_err (HNX.out.trans HN.out) (tokSet_below HB.out (Nat.le_refl _) _ _ _))
            · obtain ⟨rfl, hb2⟩ := name_tok hnm h127
              rw [if_neg h127] at HN
              obtain ⟨hT, hb3⟩ := kept_tok hb2
              obtain ⟨t0, t1, t2, g0, g1, g2⟩ := tok_c hT
              have HT := Lib.hid hT
              have HB := Lib.hid hb3
              clear hb2 hb3 hT hnm h127
              go_wp2_with fail
              exact tok_endg Try.results11 HT.out rfl rfl rfl (nxR_tok (HNX.out.trans HN.out) rfl h2 (tokSet_below HB.out (Nat.le_refl _) _ _ _))
        · have HN := Lib.hid (show beg tk (47 :: r) = nam 4 (l.drop (q + 1)) by rw [beg, if_neg (by decide), if_neg (by decide), if_neg (by decide), if_neg (by decide), if_neg (by decide), if_neg (by decide), if_neg (by decide), if_neg (by decide), if_pos rfl]; rw [HS1.out, hr0, sla, if_neg hx47])
          have hbx : ((x.toNat : Int) == 47) = false := beqF (k := 47) (fun e => hx47 (UInt8.toNat_inj.1 (e.trans rfl)))
          clear hr0 hs2 hx47
          have HW := Lib.hid (refWord_at (cap := cap) HRD.out (by omega) (p := q + 1) (by omega))
          unfold tokB at HW
          as_aux_lemma =>
            go_wp2_with fail
            refine HW.out.mono ?_
            rintro e w2 ⟨q2, h1, h2, hdw, rfl, rfl⟩
            have hna := nam_cases (k := 4) hdw h2 h1
            rw [hna] at HN
            clear hdw hna
            go_wp2_with fail
            refine (refName_at 4 HRD.out hcl hl h1 h2).mono ?_
            intro e w3 hnm
            by_cases h127 : 127 < q2 - (q + 1)
            · obtain ⟨rfl, hb2⟩ := name_err hnm h127
              rw [if_pos h127] at HN
              obtain ⟨hT, hb3⟩ := kept_tok hb2
              obtain ⟨t0, t1, t2, g0, g1, g2⟩ := tok_c hT
              have HT := Lib.hid hT
              have HB := Lib.hid hb3
              clear hb2 hb3 hT hnm h127
              go_wp2_with fail
              exact tok_endg Try.results11 HT.out rfl rfl rfl (nxR_err (HNX.out.trans HN.out) (tokSet_below HB.out (Nat.le_refl _) _ _ _))
            · obtain ⟨rfl, hb2⟩ := name_tok hnm h127
              rw [if_neg h127] at HN
              obtain ⟨hT, hb3⟩ := kept_tok hb2
              obtain ⟨t0, t1, t2, g0, g1, g2⟩ := tok_c hT
              have HT := Lib.hid hT
              have HB := Lib.hid hb3
              clear hb2 hb3 hT hnm h127
              go_wp2_with fail
              exact tok_endg Try.results11 HT.out rfl rfl rfl (nxR_tok (HNX.out.trans HN.out) rfl h2 (tokSet_below HB.out (Nat.le_refl _) _ _ _))
    have hreg : regular c = true := by
      have h1 := delim_nat c
      have h2 : delim c = false := by
        rw [h1]; apply decide_eq_false
        intro h
        have u : ∀ k : UInt8, c.toNat = k.toNat → c = k := fun k e => UInt8.toNat_inj.1 e
        rcases h with h | h | h | h | h | h | h | h | h | h
        · exact h40 (u 40 h)
        · exact h41 (u 41 h)
        · exact h60 (u 60 h)
        · exact h62 (u 62 h)
        · exact h91 (u 91 h)
        · exact h93 (u 93 h)
        · exact h123 (u 123 h)
        · exact h125 (u 125 h)
        · exact h47 (u 47 h)
        · exact hb37.2 (u 37 h)
      unfold regular; rw [hb37.1, h2]; rfl
    have HN := Lib.hid (show beg tk (c :: r) = wrd tk (c :: r) by rw [beg, if_pos hreg])
    have n0 : ∀ k : UInt8, c ≠ k → ((c.toNat : Int) == (k.toNat : Int)) = false := fun k hk => beqF (fun e => hk (UInt8.toNat_inj.1 e))
    have b40 : ((c.toNat : Int) == 40) = false := n0 40 h40
    have b60 : ((c.toNat : Int) == 60) = false := n0 60 h60
    have b41 : ((c.toNat : Int) == 41) = false := n0 41 h41
    have b62 : ((c.toNat : Int) == 62) = false := n0 62 h62
    have b123 : ((c.toNat : Int) == 123) = false := n0 123 h123
    have b125 : ((c.toNat : Int) == 125) = false := n0 125 h125
    have b91 : ((c.toNat : Int) == 91) = false := n0 91 h91
    have b93 : ((c.toNat : Int) == 93) = false := n0 93 h93
    have b47 : ((c.toNat : Int) == 47) = false := n0 47 h47
    clear n0 hreg h40 h60 h41 h62 h123 h125 h91 h93 h47 hb37
    rcases hnext with ⟨_, hge⟩ | ⟨x, r2, _, hlt2, _, hcx⟩
    · skip
      have HW := Lib.hid (refWord_at (cap := cap) HRD.out (by omega) (p := q) (by omega))
      unfold tokB at HW
      as_aux_lemma =>
        go_wp2_with fail
        refine HW.out.mono ?_
        rintro e w2 ⟨q2, h1, h2, hdw, rfl, rfl⟩
        obtain ⟨a, ha⟩ : ∃ a, (l.drop q).take (q2 - q) = a := ⟨_, rfl⟩
        have hal : a.length = q2 - q := by rw [← ha]; simp; omega
        have hcv : (convert 22 9 (.slice (some ⟨b, off + q, none⟩) (q2 - q) (cap - q))).run Try.prog (w.alloc (tokB 0 0 ⟨#[]⟩)) = .ok (.string ⟨a.toArray⟩) (w.alloc (tokB 0 0 ⟨#[]⟩)) := by
          have := conv_rd (c := cap - q) (rd_at (p := q) (k := q2 - q) HRD.out)
          rw [ha, hal] at this; exact this
        unfold tokB at hcv
        have hcall := HTk.out a (w.alloc (tokB 0 0 ⟨#[]⟩)) (by omega) HB0.out
        obtain ⟨rr, hrr⟩ : ∃ rr, tk a = rr := ⟨_, rfl⟩
        rw [hrr] at hcall
        obtain ⟨k, n, o, x⟩ := rr
        simp only at hcall
        obtain ⟨hw1, hw2, hw3⟩ := wrd_cases HG.out hdw h2 h1 ha hrr
        rw [HS.out] at hw1 hw2 hw3
        have HW1 := Lib.hid hw1
        have HW2 := Lib.hid hw2
        have HW3 := Lib.hid hw3
        have HCall := Lib.hid hcall
        have HA := Lib.hid ha
        clear hw1 hw2 hw3 hcall hdw hrr ha hal
        go_wp2_with fail
        refine HCall.out.mono ?_; rintro e w3 ⟨rfl, hb2⟩
        obtain ⟨hT, hb3⟩ := kept_tok hb2
        have HT := Lib.hid (tok_alloc hT (tokB k n ⟨#[]⟩))
        have HB := Lib.hid (hb3.alloc hb3.size (tokB k n ⟨#[]⟩))
        obtain ⟨t0, t1, t2, g0, g1, g2⟩ := tok_c hT
        have hTne : w.heap.size < w3.heap.size := lt_of_some hT
        have HT3 := Lib.hid hT
        have HB3 := Lib.hid hb3
        have HRD3 := Lib.hid (show RdB (w3.alloc (tokB k n ⟨#[]⟩)) (w3.alloc (tokB k n ⟨#[]⟩)).heap.size (some ⟨b, off, none⟩) l from (HRD.out.below (hb2.alloc hb2.size _)).up (by have := hb2.size; simp at this ⊢; omega))
        clear hb2 hb3 hT
        by_cases hx : x = 0
        · subst hx
          cases o with
          | true =>
            rw [HW2.out rfl rfl] at HN
            clear HW1 HW2 HW3
            go_wp2_with fail
            refine tok_endga Try.results11 HT3.out rfl rfl rfl ?_
            exact nxR_tok (t := []) (HNX.out.trans HN.out) rfl h2 ((tokSet_below HB3.out (Nat.le_refl _) _ _ _).alloc (by have := HB3.out.size; rw [tokSet_size]; exact this) _)
          | false =>
            rw [HW3.out rfl rfl] at HN
            clear HW1 HW2 HW3 t0 t1 t2 g0 g1 g2
            go_wp2_with fail
            refine (refName_at 3 HRD3.out hcl hl h1 h2).mono ?_
            intro e w4 hnm
            by_cases h127 : 127 < q2 - q
            · obtain ⟨rfl, hb4⟩ := name_err hnm h127
              rw [if_pos h127] at HN
              have hT4 := (hb4.block w.heap.size (lt_of_some HT.out)).trans HT.out
              obtain ⟨t0, t1, t2, g0, g1, g2⟩ := tok_c hT4
              have HT4 := Lib.hid hT4
              have HB4 := Lib.hid (HB.out.trans (hb4.mono HB.out.size))
              clear hb4 hT4 hnm h127
              go_wp2_with fail
              exact tok_endg Try.results11 HT4.out rfl rfl rfl (nxR_err (HNX.out.trans HN.out) (tokSet_below HB4.out (Nat.le_refl _) _ _ _))
            · obtain ⟨rfl, hb4⟩ := name_tok hnm h127
              rw [if_neg h127] at HN
              rw [HA.out]
              have hT4 := (hb4.block w.heap.size (lt_of_some HT.out)).trans HT.out
              obtain ⟨t0, t1, t2, g0, g1, g2⟩ := tok_c hT4
              have HT4 := Lib.hid hT4
              have HB4 := Lib.hid (HB.out.trans (hb4.mono HB.out.size))
              clear hb4 hT4 hnm h127
              go_wp2_with fail
              exact tok_endg Try.results11 HT4.out rfl rfl rfl (nxR_tok (HNX.out.trans HN.out) rfl h2 (tokSet_below HB4.out (Nat.le_refl _) _ _ _))
        · obtain ⟨ho, hwx⟩ := HW1.out hx
          subst ho
          rw [hwx] at HN
          have hx0 : (x != 0) = true := by simp [hx]
          clear HW1 HW2 HW3 hwx hx t0 t1 t2 g0 g1 g2
          go_wp2_with fail
          refine (refNone_at x _).mono ?_; rintro e w4 ⟨rfl, hb4⟩
          have hT4 := (hb4.block w.heap.size (lt_of_some HT.out)).trans HT.out
          obtain ⟨t0, t1, t2, g0, g1, g2⟩ := tok_c hT4
          have HT4 := Lib.hid hT4
          have HB4 := Lib.hid (HB.out.trans (hb4.mono HB.out.size))
          clear hb4 hT4
          go_wp2_with fail
          exact tok_endg Try.results11 HT4.out rfl rfl rfl (nxR_err (HNX.out.trans HN.out) (tokSet_below HB4.out (Nat.le_refl _) _ _ _))
    · skip
      have HW := Lib.hid (refWord_at (cap := cap) HRD.out (by omega) (p := q) (by omega))
      unfold tokB at HW
      as_aux_lemma =>
        go_wp2_with fail
        refine HW.out.mono ?_
        rintro e w2 ⟨q2, h1, h2, hdw, rfl, rfl⟩
        obtain ⟨a, ha⟩ : ∃ a, (l.drop q).take (q2 - q) = a := ⟨_, rfl⟩
        have hal : a.length = q2 - q := by rw [← ha]; simp; omega
        have hcv : (convert 22 9 (.slice (some ⟨b, off + q, none⟩) (q2 - q) (cap - q))).run Try.prog (w.alloc (tokB 0 0 ⟨#[]⟩)) = .ok (.string ⟨a.toArray⟩) (w.alloc (tokB 0 0 ⟨#[]⟩)) := by
          have := conv_rd (c := cap - q) (rd_at (p := q) (k := q2 - q) HRD.out)
          rw [ha, hal] at this; exact this
        unfold tokB at hcv
        have hcall := HTk.out a (w.alloc (tokB 0 0 ⟨#[]⟩)) (by omega) HB0.out
        obtain ⟨rr, hrr⟩ : ∃ rr, tk a = rr := ⟨_, rfl⟩
        rw [hrr] at hcall
        obtain ⟨k, n, o, x⟩ := rr
        simp only at hcall
        obtain ⟨hw1, hw2, hw3⟩ := wrd_cases HG.out hdw h2 h1 ha hrr
        rw [HS.out] at hw1 hw2 hw3
        have HW1 := Lib.hid hw1
        have HW2 := Lib.hid hw2
        have HW3 := Lib.hid hw3
        have HCall := Lib.hid hcall
        have HA := Lib.hid ha
        clear hw1 hw2 hw3 hcall hdw hrr ha hal
        go_wp2_with fail
        refine HCall.out.mono ?_; rintro e w3 ⟨rfl, hb2⟩
        obtain ⟨hT, hb3⟩ := kept_tok hb2
        have HT := Lib.hid (tok_alloc hT (tokB k n ⟨#[]⟩))
        have HB := Lib.hid (hb3.alloc hb3.size (tokB k n ⟨#[]⟩))
        obtain ⟨t0, t1, t2, g0, g1, g2⟩ := tok_c hT
        have hTne : w.heap.size < w3.heap.size := lt_of_some hT
        have HT3 := Lib.hid hT
        have HB3 := Lib.hid hb3
        have HRD3 := Lib.hid (show RdB (w3.alloc (tokB k n ⟨#[]⟩)) (w3.alloc (tokB k n ⟨#[]⟩)).heap.size (some ⟨b, off, none⟩) l from (HRD.out.below (hb2.alloc hb2.size _)).up (by have := hb2.size; simp at this ⊢; omega))
        clear hb2 hb3 hT
        by_cases hx : x = 0
        · subst hx
          cases o with
          | true =>
            rw [HW2.out rfl rfl] at HN
            clear HW1 HW2 HW3
            go_wp2_with fail
            refine tok_endga Try.results11 HT3.out rfl rfl rfl ?_
            exact nxR_tok (t := []) (HNX.out.trans HN.out) rfl h2 ((tokSet_below HB3.out (Nat.le_refl _) _ _ _).alloc (by have := HB3.out.size; rw [tokSet_size]; exact this) _)
          | false =>
            rw [HW3.out rfl rfl] at HN
            clear HW1 HW2 HW3 t0 t1 t2 g0 g1 g2
            go_wp2_with fail
            refine (refName_at 3 HRD3.out hcl hl h1 h2).mono ?_
            intro e w4 hnm
            by_cases h127 : 127 < q2 - q
            · obtain ⟨rfl, hb4⟩ := name_err hnm h127
              rw [if_pos h127] at HN
              have hT4 := (hb4.block w.heap.size (lt_of_some HT.out)).trans HT.out
              obtain ⟨t0, t1, t2, g0, g1, g2⟩ := tok_c hT4
              have HT4 := Lib.hid hT4
              have HB4 := Lib.hid (HB.out.trans (hb4.mono HB.out.size))
              clear hb4 hT4 hnm h127
              go_wp2_with fail
              exact tok_endg Try.results11 HT4.out rfl rfl rfl (nxR_err (HNX.out.trans HN.out) (tokSet_below HB4.out (Nat.le_refl _) _ _ _))
            · obtain ⟨rfl, hb4⟩ := name_tok hnm h127
              rw [if_neg h127] at HN
              rw [HA.out]
              have hT4 := (hb4.block w.heap.size (lt_of_some HT.out)).trans HT.out
              obtain ⟨t0, t1, t2, g0, g1, g2⟩ := tok_c hT4
              have HT4 := Lib.hid hT4
              have HB4 := Lib.hid (HB.out.trans (hb4.mono HB.out.size))
              clear hb4 hT4 hnm h127
              go_wp2_with fail
              exact tok_endg Try.results11 HT4.out rfl rfl rfl (nxR_tok (HNX.out.trans HN.out) rfl h2 (tokSet_below HB4.out (Nat.le_refl _) _ _ _))
        · obtain ⟨ho, hwx⟩ := HW1.out hx
          subst ho
          rw [hwx] at HN
          have hx0 : (x != 0) = true := by simp [hx]
          clear HW1 HW2 HW3 hwx hx t0 t1 t2 g0 g1 g2
          go_wp2_with fail
          refine (refNone_at x _).mono ?_; rintro e w4 ⟨rfl, hb4⟩
          have hT4 := (hb4.block w.heap.size (lt_of_some HT.out)).trans HT.out
          obtain ⟨t0, t1, t2, g0, g1, g2⟩ := tok_c hT4
          have HT4 := Lib.hid hT4
          have HB4 := Lib.hid (HB.out.trans (hb4.mono HB.out.size))
          clear hb4 hT4
          go_wp2_with fail
          exact tok_endg Try.results11 HT4.out rfl rfl rfl (nxR_err (HNX.out.trans HN.out) (tokSet_below HB4.out (Nat.le_refl _) _ _ _))
end Go.Proofs.Ytaebpjcigajolaa
