/-
  Appends of bytes: a copy by an append to an empty row.
-/
import Derived.Test.YtfilbfenpdaahaaGreatDoorStoMk
import Derived.Laws.AppendOwnNone
import Derived.Deep.AppendLies
namespace Go.Proofs.YtfilbfenpdaahaaGreatDoor
open Go.RowKit
open St
namespace Col
theorem src_own {w : World} {n : Nat} {v : Value} {l : List UInt8} (h : w.ownsRow 0 5 1 v n (l.map bv)) {a : Option Addr} {c : Nat} (e : v = .slice a l.length c) : Src w a l := by
  rcases h.2 with ⟨e0, _⟩ | ⟨g, cap, cur, e0, _⟩
  · rw [e] at e0
    injection e0 with _ e1 _
    exact .inl (List.eq_nil_of_length_eq_zero e1)
  · rw [e] at e0
    injection e0 with e1 _ _
    subst e1
    refine .inr ⟨_, rfl, fun j z hz => ?_⟩
    exact h.cells (g := g) (by rw [e]; rfl) j _ (by rw [List.getElem?_map, hz]; rfl)
theorem bvs_one5 (l : List UInt8) : ∀ u ∈ l.map bv, u.oneCell' = true := by
  intro u hu
  obtain ⟨c, _, rfl⟩ := List.mem_map.1 hu
  rfl
theorem made_own5 (w : World) : (w.alloc (.cells #[] 5)).ownsRow w.heap.size 5 1 (.slice (some ⟨w.heap.size, 0, none⟩) 0 0) 0 [] := World.ownsRow_made w #[] 0 (Nat.le_refl _) (by unfold maxLen; omega) (by simp)
theorem own_zero {w : World} {base size n : Nat} {e : TypeId} {v : Value} {xs : List Value} (h : w.ownsRow base e size v n xs) : w.ownsRow 0 e size v n xs := by
  refine ⟨h.1, ?_⟩
  rcases h.2 with h0 | ⟨g, cap, cur, e1, _, hr⟩
  · exact .inl h0
  · exact .inr ⟨g, cap, cur, e1, Nat.zero_le _, hr⟩
theorem cellOld {W : World} {o : Obj} {a : Addr} {v : Value} (h : W.cell? a = some v) : (W.alloc o).cell? a = some v := (World.cell?_of_block (heap_alloc_old W o (World.block_lt_of_cell? W _ h))).trans h
set_option maxHeartbeats 1000000 in
theorem copied5 {w : World} {a : Option Addr} {l : List UInt8} {c : Nat} (h : Src w a l) (hc : a = none → c = 0) (hm : l.length ≤ 100000) (ty : TypeId) :
    ∃ B c2 w2, (Builtin.append_ #[35, 35] ty #[.slice (some ⟨w.heap.size, 0, none⟩) 0 0, .slice a l.length c]).run Tryz.prog (w.alloc (.cells #[] 5)) = .ok (.slice (some ⟨B, 0, none⟩) l.length c2) w2 ∧
      Below w.heap.size w w2 ∧ w.heap.size ≤ B ∧ w2.ownsRow 0 5 1 (.slice (some ⟨B, 0, none⟩) l.length c2) l.length (l.map bv) := by
  obtain ⟨i0, hi, hz0, hz1, hz2⟩ := info_parts u8_info
  cases a with
  | none =>
    obtain rfl := hc rfl
    obtain rfl : l = [] := by
      rcases h with h | ⟨ad, e, _⟩
      · exact h
      · cases e
    have hr := run_append_owned_none (P := Tryz.prog) (w := w.alloc (.cells #[] 5)) w.heap.size 35 ty 5 i0 1 Tryz.underlying35 hi _ 0 [] (made_own5 w)
    exact ⟨w.heap.size, 0, _, hr, below1 _ _, Nat.le_refl _, own_zero (made_own5 w)⟩
  | some ad =>
    have hx : ∀ j z, l[j]? = some z → w.cell? (ad.add j) = some (bv z) := by
      rcases h with h | ⟨ad', e, hx⟩
      · subst h; intro j z hz; simp at hz
      · cases e; exact hx
    obtain ⟨v', w', hr, h2, h3, h4⟩ := run_append_own (P := Tryz.prog) (w.alloc (.cells #[] 5)) w.heap.size 35 ty 5 i0 (.int .u8 0) 1 1 Tryz.underlying35 hi hz0 hz1 hz2 rfl (by decide) _ 0 [] (made_own5 w) ad l.length c (l.map bv) (by simp) (fun j u hu => by
      rw [List.getElem?_map] at hu
      cases hz : l[j]? with
      | none => rw [hz] at hu; simp at hu
      | some z =>
        rw [hz] at hu
        have e : bv z = u := by simpa using hu
        rw [← e]
        exact cellOld (hx j z hz)) (bvs_one5 l) (by unfold maxLen; omega) (by omega) (by simp)
    rw [Nat.zero_add, List.nil_append] at h2
    have hb : Below w.heap.size w w' := Below.grown (w := w.alloc (.cells #[] 5)) ((Below.refl _ _).alloc (Nat.le_refl _) _) h3 (by simp) (by intro k hk; simp [Value.ownBlock] at hk; omega)
    obtain ⟨g, cap, rfl, hgB⟩ : ∃ g cap, v' = .slice (some ⟨g, 0, none⟩) l.length cap ∧ w.heap.size ≤ g := by
      rcases h2.2 with ⟨e, hn⟩ | ⟨g, cap, cur, e, hg, _⟩
      · cases (h4.1 e).1
      · exact ⟨g, cap, e, hg⟩
    exact ⟨g, cap, w', hr, hb, hgB, own_zero h2⟩
/-- an append whose run is known -/
theorem wpList_append_run5 {P : Program} {w w2 : World} {ops : Array Oper} {rest : List Oper} {o : Oper} {a : Act} {Q : Exit → Act → World → Prop} (hw : Region.wanted o (yielded ops a.tmps) = true) (s x : Operand) (t ty : TypeId) (v : Value)
    (ho : o.op = .call { callee := .builtin .append, args := #[s, x], argTypes := #[t, t] }) (hty : o.type = ty) (us ux : Value) (hs : a.eval s = us) (hx : a.eval x = ux)
    (hr : (Builtin.append_ #[t, t] ty #[us, ux]).run P w = .ok v w2) (h : wpList P ops Q rest (a.put o.dst v) w2) : wpList P ops Q (o :: rest) a w := by
  refine BigFrame.wpList_want hw fun K hK => ?_
  unfold Oper.wp execOp
  simp only [ho, hty, resolve, invoke, builtin, Sem.run_bind, Sem.run_pure, Result.andThen_ok, List.map_toArray, List.map_cons, List.map_nil, hs, hx, hr]
  exact hK _ _ h
end Col
end Go.Proofs.YtfilbfenpdaahaaGreatDoor
