/-
  A pair is taken out of a row, by a contract: slices.Delete.
-/
import Derived.Test.YtlflkdmbbomjeaaStoCopy3
import Derived.Lib.AppendZeros
namespace Go.Proofs.Ytlflkdmbbomjeaa
open Go.RowKit
open St
def zeroPair : List Value := [.int .i64 0, .bool false, .int .i64 0, .int .i64 0, .string ⟨#[]⟩, .int .i64 0, .int .i64 0, .int .i64 0, .int .i64 0, .bool false, .int .i64 0, .int .i64 0, .string ⟨#[]⟩, .int .i64 0, .int .i64 0, .int .i64 0, .int .i64 0]
theorem clear_run {W : World} {B off c : Nat} {ty : TypeId} {cur : Array Value} (hg : W.heap[B]? = some (.cells cur 129 (0, 0))) (hfit : off + 17 ≤ cur.size) :
    (Builtin.clear_ #[119] ty #[.slice (some ⟨B, off, none⟩) 1 c]).run Try.prog W = .ok (.tuple #[]) (W.setRow B (cur.toList.take off ++ zeroPair ++ cur.toList.drop (off + 17)).toArray) := by
  obtain ⟨i0, hi, hz0, hz1, hz2⟩ := info_parts pair_infoC
  have hst := run_storeCells_at Try.prog B off 129 zeroPair 0 cur W hg (by simpa [zeroPair] using hfit) (by decide)
  simp only [Nat.add_zero] at hst
  have hl : zeroPair.length = 17 := rfl
  rw [hl] at hst
  have hzc : (Builtin.zeroCells (Value.agg #[.int .i64 0, .bool false, .int .i64 0, .int .i64 0, .string ⟨#[]⟩, .int .i64 0, .int .i64 0, .int .i64 0, .int .i64 0, .bool false, .int .i64 0, .int .i64 0, .string ⟨#[]⟩, .int .i64 0, .int .i64 0, .int .i64 0, .int .i64 0]).cells 1).toList = zeroPair := by kernel_rfl
  simp [Builtin.clear_, run_underlying Try.underlying119, zeroValue, typeInfo, hi, hz0]
  rw [hzc]
  simp [hst]
theorem erase_flatG {α : Type} (f : α → List Value) (hf : ∀ q, (f q).length = 17) (ps : List α) (i : Nat) (h : i < ps.length) : (ps.flatMap f).take (i * 17) ++ (ps.flatMap f).drop ((i + 1) * 17) = (ps.eraseIdx i).flatMap f := by
  have hlen : ∀ l : List α, (l.flatMap f).length = l.length * 17 := fun l => by
    induction l with
    | nil => rfl
    | cons a l ih => rw [List.flatMap_cons, List.length_append, ih, hf, List.length_cons]; omega
  have e : ps = ps.take i ++ ps[i] :: ps.drop (i + 1) := by rw [← List.drop_eq_getElem_cons h, List.take_append_drop]
  have h1 : (ps.flatMap f) = (ps.take i).flatMap f ++ (f ps[i] ++ (ps.drop (i + 1)).flatMap f) := by
    conv => lhs; rw [e]
    rw [List.flatMap_append, List.flatMap_cons]
  have l1 : ((ps.take i).flatMap f).length = i * 17 := by rw [hlen, List.length_take]; congr 1; omega
  have t1 : (ps.flatMap f).take (i * 17) = (ps.take i).flatMap f := by rw [h1, ← l1, List.take_left]
  have t2 : (ps.flatMap f).drop ((i + 1) * 17) = (ps.drop (i + 1)).flatMap f := by
    rw [h1, ← List.append_assoc]
    have l2 : ((ps.take i).flatMap f ++ f ps[i]).length = (i + 1) * 17 := by rw [List.length_append, l1, hf]; omega
    rw [← l2, List.drop_left]
  rw [t1, t2, List.eraseIdx_eq_take_drop_succ, List.flatMap_append]
theorem erase_flat (ps : List (Ob × Ob)) (i : Nat) (h : i < ps.length) : (ps.flatMap pairC).take (i * 17) ++ (ps.flatMap pairC).drop ((i + 1) * 17) = (ps.eraseIdx i).flatMap pairC := erase_flatG pairC pair_len ps i h
/-- what comes to the places behind the one that is taken out -/
theorem app_run {W : World} {B n c i m cx : Nat} {cur : Array Value} {ps : List (Ob × Ob)} {ty : TypeId} {sp : Option Addr} (hl : ps.length = n) (hi : i < n) (hm : m = n - (i + 1)) (hnc : n ≤ c) (hg : W.heap[B]? = some (.cells cur 129 (0, 0))) (hs : cur.size = c * 17) (hx : cur.toList.take (n * 17) = ps.flatMap pairC) (hsp : sp = some ⟨B, (i + 1) * 17, none⟩ ∨ (m = 0 ∧ ∃ a, sp = some a)) :
    (Builtin.append_ #[119, 119] ty #[.slice (some ⟨B, 0, none⟩) i c, .slice sp m cx]).run Try.prog W = .ok (.slice (some ⟨B, 0, none⟩) (i + m) c) (W.setRow B (cur.toList.take (i * 17) ++ (ps.flatMap pairC).drop ((i + 1) * 17) ++ cur.toList.drop ((n - 1) * 17)).toArray) := by
  obtain ⟨i0, hi0, hz0, hz1, hz2⟩ := info_parts pair_infoC
  have hfl : (ps.flatMap pairC).length = n * 17 := by rw [← hx]; simp; omega
  have hnl : ((ps.flatMap pairC).drop ((i + 1) * 17)).length = m * i0.size := by rw [List.length_drop, hfl, hz1, hm, Nat.sub_mul]
  have hone : ∀ u ∈ (ps.flatMap pairC).drop ((i + 1) * 17), u.oneCell' = true := fun u hu => pairs_one ps u (List.mem_of_mem_drop hu)
  have hnews : ∀ a, sp = some a → ∀ j u, ((ps.flatMap pairC).drop ((i + 1) * 17))[j]? = some u → W.cell? (a.add j) = some u := fun a ha j u hu => by
    have hj : j < m * 17 := by have := (List.getElem?_eq_some_iff.1 hu).1; rw [hnl, hz1] at this; exact this
    rcases hsp with e | ⟨e, _⟩
    · rw [ha] at e; cases e
      rw [List.getElem?_drop, ← hx, List.getElem?_take, if_pos (by omega)] at hu
      rw [Addr.add_lit, blk_cell hg]; simpa using hu
    · subst e; omega
  obtain ⟨a, ha⟩ : ∃ a, sp = some a := by
    rcases hsp with e | ⟨_, a, e⟩
    · exact ⟨_, e⟩
    · exact ⟨a, e⟩
  have hr := run_append_room (P := Try.prog) W 119 ty 129 i0 Try.underlying119 hi0 B i c cur hg a m cx ((ps.flatMap pairC).drop ((i + 1) * 17)) hnl (hnews a ha) hone (by omega) (by rw [hnl, hz1, hs]; omega)
  rw [ha, hr, hnl, hz1, show i * 17 + m * 17 = (n - 1) * 17 by omega]
/-- an append whose run is known, at a step of a region that draws its order -/
theorem stepA {ops : Array Oper} {o : Oper} {a : Act} {w : World} {K : Act → World → Prop} {Q : Exit → Act → World → Prop} {E : Prop} (hgd : o.guard = none) (s x : Operand) (t tn : TypeId)
    (ho : o.op = .call { callee := .builtin .append, args := #[s, x], argTypes := #[t, tn] }) (vs vx : Value) (hs : a.eval s = vs) (hx : a.eval x = vx) (v' : Value) (w' : World) (hr : (Builtin.append_ #[t, tn] o.type #[vs, vx]).run Try.prog w = .ok v' w') (h : K (a.put o.dst v') w') :
    if Region.wanted o (yielded ops a.tmps) = true then Oper.wp Try.prog o a w K Q else E := by
  have hw : Region.wanted o (yielded ops a.tmps) = true := by simp [Region.wanted, hgd]
  rw [if_pos hw]
  exact Lib.wp_append_run w s x t tn ho vs vx hs hx v' w' hr h
set_option maxRecDepth 100000 in
set_option maxHeartbeats 400000 in
theorem delete_at {w : World} {B c i n r : Nat} {ps : List (Ob × Ob)} (h : w.ownsRow 0 129 17 (.slice (some ⟨B, 0, none⟩) n c) n (ps.flatMap pairC)) (hl : ps.length = n) (hi : i < n) (hr : n = r + 1) (hn : n ≤ 4096) :
    Calls Try.prog 66 #[.slice (some ⟨B, 0, none⟩) n c, .int .i64 i, .int .i64 ((i : Int) + 1)] w fun e w' => e = .returned (.slice (some ⟨B, 0, none⟩) r c) ∧ w'.ownsRow 0 129 17 (.slice (some ⟨B, 0, none⟩) r c) r ((ps.eraseIdx i).flatMap pairC) ∧ OnlyB B w w' := by
  rcases h.2 with ⟨e0, _⟩ | ⟨g, cap, cur, e0, _, hg, hnc, hcm, hcs, hx⟩
  · cases e0
  cases e0
  have hmax := hcm
  unfold maxLen at hcm
  have hgd : w.drew.heap[B]? = some (.cells cur 129 (0, 0)) := hg
  have hfl : (ps.flatMap pairC).length = n * 17 := by rw [← hx]; simp; omega
  have hA := fun sp hsp => app_run (W := w.drew) (c := c) (cx := c - (i + 1)) (m := n - (i + 1)) (ty := 119) (sp := sp) hl hi rfl hnc hgd hcs hx hsp
  rw [show i + (n - (i + 1)) = r by omega, show n - 1 = r by omega] at hA
  obtain ⟨rw1, hrw1⟩ : ∃ l, l = cur.toList.take (i * 17) ++ (ps.flatMap pairC).drop ((i + 1) * 17) ++ cur.toList.drop (r * 17) := ⟨_, rfl⟩
  rw [← hrw1] at hA
  have hrl : rw1.length = c * 17 := by rw [hrw1]; simp [hfl, hcs]; omega
  have hrow := setRow_heap w.drew B cur rw1.toArray 129 (0, 0) hgd
  have hfar1 : ∀ k, k ≠ B → (w.drew.setRow B rw1.toArray).heap[k]? = w.heap[k]? := fun k hk => setRow_other w.drew B k _ hk
  have hs1 : (w.drew.setRow B rw1.toArray).heap.size = w.heap.size ∧ (w.drew.setRow B rw1.toArray).os = w.os ∧ (w.drew.setRow B rw1.toArray).tape = w.tape ∧ (w.drew.setRow B rw1.toArray).output = w.output := ⟨by simp [World.setRow], rfl, rfl, rfl⟩
  generalize w.drew.setRow B rw1.toArray = w1 at *
  have hclr := clear_run (W := w1) (off := r * 17) (c := c - r) (ty := 0) hrow (by simp only [List.size_toArray]; rw [hrl]; omega)
  have hrow2 := setRow_heap w1 B rw1.toArray (rw1.toArray.toList.take (r * 17) ++ zeroPair ++ rw1.toArray.toList.drop (r * 17 + 17)).toArray 129 (0, 0) hrow
  have hfar2 : ∀ k, k ≠ B → (w1.setRow B (rw1.toArray.toList.take (r * 17) ++ zeroPair ++ rw1.toArray.toList.drop (r * 17 + 17)).toArray).heap[k]? = w.heap[k]? := fun k hk => (setRow_other w1 B k _ hk).trans (hfar1 k hk)
  have hs2 : (w1.setRow B (rw1.toArray.toList.take (r * 17) ++ zeroPair ++ rw1.toArray.toList.drop (r * 17 + 17)).toArray).heap.size = w.heap.size ∧ (w1.setRow B (rw1.toArray.toList.take (r * 17) ++ zeroPair ++ rw1.toArray.toList.drop (r * 17 + 17)).toArray).os = w.os ∧ (w1.setRow B (rw1.toArray.toList.take (r * 17) ++ zeroPair ++ rw1.toArray.toList.drop (r * 17 + 17)).toArray).tape = w.tape ∧ (w1.setRow B (rw1.toArray.toList.take (r * 17) ++ zeroPair ++ rw1.toArray.toList.drop (r * 17 + 17)).toArray).output = w.output := ⟨by simp [World.setRow]; exact hs1.1, hs1.2.1, hs1.2.2.1, hs1.2.2.2⟩
  generalize w1.setRow B (rw1.toArray.toList.take (r * 17) ++ zeroPair ++ rw1.toArray.toList.drop (r * 17 + 17)).toArray = w2 at *
  have hfinal : w2.ownsRow 0 129 17 (.slice (some ⟨B, 0, none⟩) r c) r ((ps.eraseIdx i).flatMap pairC) ∧ OnlyB B w w2 := by
    have hel : ((ps.eraseIdx i).flatMap pairC).length = r * 17 := by
      rw [← erase_flat ps i (by omega), List.length_append, List.length_take, List.length_drop, hfl]; omega
    refine ⟨⟨hel, .inr ⟨B, c, _, rfl, Nat.zero_le _, hrow2, by omega, hmax, by simp [zeroPair, hrl]; omega, ?_⟩⟩, ⟨hs2.2.1, hs2.2.2.1, hs2.2.2.2, by rw [hs2.1]; exact Nat.le_refl _, fun k _ hk => hfar2 k hk⟩⟩
    have hh : rw1 = (ps.eraseIdx i).flatMap pairC ++ cur.toList.drop (r * 17) := by
      rw [hrw1, ← erase_flat ps i (by omega)]
      congr 2
      rw [← hx, List.take_take]
      congr 1
      omega
    simp only [List.append_assoc]
    rw [List.take_append_of_le_length (by simp [hrl]; omega), List.take_take, Nat.min_self, hh, ← hel, List.take_left]
  have HFin := Lib.hid hfinal
  clear hrow hrow2 hfar1 hfar2 hs1 hs2 hrl hrw1 hgd hg h hx hcs hfl hmax hfinal
  have hix : (i : Int) + 1 ≤ (n : Int) := by omega
  have hne : ((i : Int) == (i : Int) + 1) = false := by simp; omega
  have hcn : (n : Int) ≤ (c : Int) := by omega
  have hic : i ≤ c := by omega
  have hicz : (i : Int) ≤ (c : Int) := by omega
  have hp0 : 0 ≤ (i : Int) + 1 := by omega
  have e2 : n - r = 1 := by omega
  have hrn : (r : Int) ≤ (n : Int) := by omega
  have hcr : ¬ c = r := by omega
  have hAc : ∃ sp, (if c = i + 1 then some (⟨B, 0, none⟩ : Addr) else some ⟨B, (i + 1) * 17, none⟩) = sp ∧ (Builtin.append_ #[119, 119] 119 #[.slice (some ⟨B, 0, none⟩) i c, .slice sp (n - (i + 1)) (c - (i + 1))]).run Try.prog w.drew = .ok (.slice (some ⟨B, 0, none⟩) r c) w1 := by
    by_cases hci : c = i + 1
    · exact ⟨_, by rw [if_pos hci], hA _ (.inr ⟨by omega, _, rfl⟩)⟩
    · exact ⟨_, by rw [if_neg hci], hA _ (.inl rfl)⟩
  obtain ⟨sp, hsp, hA1⟩ := hAc
  have HNR := Lib.hid hr
  clear hA hr
  go_enter Try.func66, Try.ntmps66
  go_wp2_with fail
  go_region_law (refine stepA (by rfl) (.tmp 22) (.tmp 25) 119 119 (by rfl) (.slice (some ⟨B, 0, none⟩) i c) (.slice sp (n - (i + 1)) (c - (i + 1))) (by rfl) (by rfl) _ w1 hA1 ?_)
  all_goals go_wp2_with fail
  all_goals go_ret
  all_goals exact ⟨rfl, HFin.out⟩
end Go.Proofs.Ytlflkdmbbomjeaa
