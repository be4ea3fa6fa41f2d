/-
  Bytes that are read at an address; a copy of two rows of bytes, one behind the other, by two appends.
-/
import Derived.Test.YtioldiibfhcgpaaDoorFonBase
import Derived.Laws.AppendOwnNone
import Derived.Deep.AppendLies
import Derived.Lib.Hide
namespace Go.Proofs.YtioldiibfhcgpaaDoor
open Go.RowKit
def bv (c : UInt8) : Value := .int .u8 c.toNat
/-- bytes that can be read at a slice's address -/
def Src (w : World) (a : Option Addr) (l : List UInt8) : Prop := l = [] ∨ ∃ ad, a = some ad ∧ ∀ j z, l[j]? = some z → w.cell? (ad.add j) = some (bv z)
theorem Src.below {w w' : World} {a : Option Addr} {l : List UInt8} (h : Src w a l) (hb : Below w.heap.size w w') : Src w' a l := by
  rcases h with h | ⟨ad, e, hc⟩
  · exact .inl h
  · exact .inr ⟨ad, e, fun j z hz => (hb.cell (World.block_lt_of_cell? w _ (hc j z hz))).trans (hc j z hz)⟩
namespace Fo
theorem u8_info : (Tryd.prog.info? 5).map (fun i => (i.zero, i.size, i.bytes)) = some (some (.int .u8 0), 1, 1) := by kernel_rfl
theorem info_parts {P : Program} {t : TypeId} {z : Value} {n m : Nat} (h : (P.info? t).map (fun i => (i.zero, i.size, i.bytes)) = some (some z, n, m)) : ∃ i, P.info? t = some i ∧ i.zero = some z ∧ i.size = n ∧ i.bytes = m := by
  cases hq : P.info? t with
  | none => simp [hq] at h
  | some i => simp [hq] at h; exact ⟨i, rfl, h.1, h.2.1, h.2.2⟩
theorem bvs_one (l : List UInt8) : ∀ u ∈ l.map bv, u.oneCell' = true := by
  intro u hu
  obtain ⟨c, _, rfl⟩ := List.mem_map.1 hu
  rfl
theorem src_own {w : World} {base n : Nat} {v : Value} {l : List UInt8} (h : w.ownsRow base 5 1 v n (l.map bv)) {a : Option Addr} {c : Nat} (e : v = .slice a l.length c) : Src w a l := by
  rcases h.2 with ⟨e0, _⟩ | ⟨g, cap, cur, e0, _⟩
  · rw [e] at e0
    injection e0 with _ e1 _
    exact .inl (List.eq_nil_of_length_eq_zero e1)
  · rw [e] at e0
    injection e0 with e1 _ _
    subst e1
    refine .inr ⟨_, rfl, fun j z hz => ?_⟩
    exact h.cells (g := g) (by rw [e]; rfl) j _ (by rw [List.getElem?_map, hz]; rfl)
theorem made_own (w : World) : (w.alloc (.cells #[] 5)).ownsRow w.heap.size 5 1 (.slice (some ⟨w.heap.size, 0, none⟩) 0 0) 0 [] := World.ownsRow_made w #[] 0 (Nat.le_refl _) (by unfold maxLen; omega) (by simp)
/-- a row of one's own, behind the append of bytes -/
theorem app_own {w : World} {base : Nat} {v : Value} {l m : List UInt8} {a : Option Addr} {c : Nat} (hown : w.ownsRow base 5 1 v l.length (l.map bv)) (hb : base ≤ w.heap.size) (hv : v ≠ .slice none 0 0) (h : Src w a m) (hc : a = none → c = 0) (hl : l.length ≤ 3000) (hm : m.length ≤ 3000) (ty : TypeId) :
    ∃ v' w', (Builtin.append_ #[32, 32] ty #[v, .slice a m.length c]).run Tryd.prog w = .ok v' w' ∧ w'.ownsRow base 5 1 v' (l ++ m).length ((l ++ m).map bv) ∧ Below base w w' ∧ v' ≠ .slice none 0 0 := by
  obtain ⟨i0, hi, hz0, hz1, hz2⟩ := info_parts u8_info
  cases a with
  | none =>
    obtain rfl := hc rfl
    obtain rfl : m = [] := by
      rcases h with h | ⟨ad, e, _⟩
      · exact h
      · cases e
    have hr := run_append_owned_none (P := Tryd.prog) (w := w) base 32 ty 5 i0 1 Tryd.underlying32 hi _ _ _ hown
    rw [List.append_nil]
    exact ⟨v, w, hr, hown, Below.refl _ _, hv⟩
  | some ad =>
    have hx : ∀ j z, m[j]? = some z → w.cell? (ad.add j) = some (bv z) := by
      rcases h with h | ⟨ad', e, hx⟩
      · subst h; intro j z hz; simp at hz
      · cases e; exact hx
    obtain ⟨v', w', hr, h2, h3, h4⟩ := run_append_own (P := Tryd.prog) w base 32 ty 5 i0 (.int .u8 0) 1 1 Tryd.underlying32 hi hz0 hz1 hz2 rfl (by decide) _ _ _ hown ad m.length c (m.map bv) (by simp) (fun j u hu => by
      rw [List.getElem?_map] at hu
      cases hz : m[j]? with
      | none => rw [hz] at hu; simp at hu
      | some z =>
        rw [hz] at hu
        have e : bv z = u := by simpa using hu
        rw [← e]
        exact hx j z hz) (bvs_one m) (by unfold maxLen; omega) (by omega) hb
    refine ⟨v', w', hr, by rw [List.length_append, List.map_append]; exact h2, ?_, fun e => hv (h4.1 e).1⟩
    refine Below.grown (Below.refl _ _) h3 hb ?_
    intro k hk
    rcases hown.2 with ⟨e, _⟩ | ⟨g, cap, cur, e, hg, _⟩
    · exact absurd e (by
        intro e
        rw [e] at hk
        simp [Value.ownBlock] at hk)
    · rw [e] at hk
      simp [Value.ownBlock] at hk
      omega
theorem own_slice {w : World} {base n : Nat} {v : Value} {xs : List Value} (h : w.ownsRow base 5 1 v n xs) (hv : v ≠ .slice none 0 0) : ∃ g c, v = .slice (some ⟨g, 0, none⟩) n c := by
  rcases h.2 with ⟨e0, _⟩ | ⟨g, cap, cur, e0, _⟩
  · exact absurd e0 hv
  · exact ⟨g, cap, e0⟩
/-- two rows of bytes, one behind the other, in a row of one's own -/
theorem catted {w : World} {a b : Option Addr} {l m : List UInt8} {c d : Nat} (ha : Src w a l) (hc : a = none → c = 0) (hb : Src w b m) (hd : b = none → d = 0) (hl : l.length ≤ 3000) (hm : m.length ≤ 3000) (ty ty2 : TypeId) :
    ∃ v1 w1, (Builtin.append_ #[32, 32] ty #[.slice (some ⟨w.heap.size, 0, none⟩) 0 0, .slice a l.length c]).run Tryd.prog (w.alloc (.cells #[] 5)) = .ok v1 w1 ∧
      ∃ g k w2, (Builtin.append_ #[32, 32] ty2 #[v1, .slice b m.length d]).run Tryd.prog w1 = .ok (.slice (some ⟨g, 0, none⟩) (l ++ m).length k) w2 ∧ Src w2 (some ⟨g, 0, none⟩) (l ++ m) ∧ Below w.heap.size w w2 := by
  have hb0 := below1 w (.cells #[] 5)
  obtain ⟨v1, w1, r1, o1, b1, n1⟩ := app_own (l := []) (made_own w) (by simp) (by simp) (ha.below hb0) hc (by simp) hl ty
  rw [List.nil_append] at o1
  have hb1 : Below w.heap.size w w1 := hb0.trans b1
  obtain ⟨v2, w2, r2, o2, b2, n2⟩ := app_own o1 hb1.size n1 (hb.below hb1) hd hl hm ty2
  obtain ⟨g, k, rfl⟩ := own_slice o2 n2
  exact ⟨v1, w1, r1, g, k, w2, r2, src_own o2 rfl, hb1.trans b2⟩
/-- an append whose run is known -/
theorem wpList_append_run {P : Program} {w w2 : World} {ops : Array Oper} {rest : List Oper} {o : Oper} {a : Act} {Q : Exit → Act → World → Prop} (hw : Region.wanted o (yielded ops a.tmps) = true) (s x : Operand) (t ty : TypeId) (v : Value)
    (ho : o.op = .call { callee := .builtin .append, args := #[s, x], argTypes := #[t, t] }) (hty : o.type = ty) (us ux : Value) (hs : a.eval s = us) (hx : a.eval x = ux)
    (hr : (Builtin.append_ #[t, t] ty #[us, ux]).run P w = .ok v w2) (h : wpList P ops Q rest (a.put o.dst v) w2) : wpList P ops Q (o :: rest) a w := by
  refine BigFrame.wpList_want hw fun K hK => ?_
  unfold Oper.wp execOp
  simp only [ho, hty, resolve, invoke, builtin, Sem.run_bind, Sem.run_pure, Result.andThen_ok, List.map_toArray, List.map_cons, List.map_nil, hs, hx, hr]
  exact hK _ _ h
end Fo
end Go.Proofs.YtioldiibfhcgpaaDoor
