/-
  A key's place in a dictionary, by contracts: the test of a place, first.
-/
import Derived.Test.YtmcopfcmnbhaaaaGreatStoKey
import Derived.Test.YtmcopfcmnbhaaaaGreatStoDict
import Derived.Laws.StructEq
namespace Go.Proofs.YtmcopfcmnbhaaaaGreat
open Go.RowKit
open St
/-- two objects are one and the same -/
def obEq (a b : Ob) : Bool := a.kind == b.kind && (a.exec == b.exec && (a.acc == b.acc && (a.n == b.n && (a.name == b.name && (a.ref == b.ref && (a.frm == b.frm && a.len == b.len))))))
theorem ob_eql (a b : Ob) (w : World) : (Op.equalIn 10000 41 (.agg #[.int .i64 a.kind, .bool a.exec, .int .i64 a.acc, .int .i64 a.n, .string a.name, .int .i64 a.ref, .int .i64 a.frm, .int .i64 a.len]) (.agg #[.int .i64 b.kind, .bool b.exec, .int .i64 b.acc, .int .i64 b.n, .string b.name, .int .i64 b.ref, .int .i64 b.frm, .int .i64 b.len])).run Tryz.prog w = .ok (obEq a b) w := by
  have u3 := Tryz.underlying3
  have a3 := Tryz.isAgg3
  have z3 := Tryz.sizeOf3
  have u4 := Tryz.underlying4
  have a4 := Tryz.isAgg4
  have z4 := Tryz.sizeOf4
  have u9 := Tryz.underlying9
  have a9 := Tryz.isAgg9
  have z9 := Tryz.sizeOf9
  have hf : Tryz.prog.underlying 41 = some (.struct (Tryz.prog.fieldsOf 41)) := by simp [Program.fieldsOf, Tryz.underlying41]
  rw [show (10000 : Nat) = 9999 + 1 from rfl, run_equalIn_struct w 9999 41 _ _ hf (by kernel_rfl)]
  simp only [Program.fieldsOf, Tryz.underlying41]
  unfold obEq
  rw [beq_toListBytes]
  go_simp
  repeat' split
  all_goals simp_all
theorem pair_len (p : Ob × Ob) : (pairC p).length = 17 := rfl
theorem pairs_at (ps : List (Ob × Ob)) : ∀ (p f : Nat) (o : Ob × Ob), ps[p]? = some o → f < 17 → (ps.flatMap pairC)[p * 17 + f]? = (pairC o)[f]? := by
  induction ps with
  | nil => intro p f o h; simp at h
  | cons y ps ih =>
    intro p f o h hf
    rw [List.flatMap_cons]
    cases p with
    | zero =>
      simp at h; subst h
      rw [List.getElem?_append_left (by rw [pair_len]; omega)]; simp
    | succ p =>
      rw [List.getElem?_append_right (by rw [pair_len]; omega)]
      have e : (p + 1) * 17 + f - (pairC y).length = p * 17 + f := by rw [pair_len]; omega
      rw [e]; exact ih p f o (by simpa using h) hf
/-- the world of a search for a key: the dictionary's pairs, the boxes of the thing and of the key -/
structure Ent (w : World) (b1 b2 g t : Nat) (ps : List (Ob × Ob)) (key : Ob) : Prop where
  c1 : w.cell? ⟨b1, 0, none⟩ = some (.pointer (some ⟨g, t * 7, none⟩))
  bx : w.heap[b2]? = some (obC key)
  row : ps = [] ∨ ∃ B c, w.cell? ⟨g, t * 7 + 4, none⟩ = some (.slice (some ⟨B, 0, none⟩) ps.length c) ∧ ∀ (i f : Nat) (p : Ob × Ob), ps[i]? = some p → f < 17 → w.cell? ⟨B, i * 17 + f, none⟩ = (pairC p)[f]?
theorem Ent.draws {w : World} {b1 b2 g t : Nat} {ps : List (Ob × Ob)} {key : Ob} (h : Ent w b1 b2 g t ps key) (q : Nat) : Ent (w.drewN q) b1 b2 g t ps key := ⟨h.c1, h.bx, h.row⟩
set_option maxRecDepth 100000 in
set_option maxHeartbeats 1000000 in
theorem entry1_at {w : World} {b1 b2 g t i : Nat} {ps : List (Ob × Ob)} {key : Ob} {p : Ob × Ob} (h : Ent w b1 b2 g t ps key) (hp : ps[i]? = some p) (hn : ps.length ≤ 4096) :
    Calls Tryz.prog 68 #[.int .i64 i, .pointer (some ⟨b1, 0, none⟩), .pointer (some ⟨b2, 0, none⟩)] w fun e w' => e = .returned (.bool (obEq p.1 key)) ∧ ∃ q, w' = w.drewN q := by
  have hi : i < ps.length := (List.getElem?_eq_some_iff.1 hp).1
  obtain ⟨c1, hbx, hrow⟩ := h
  rcases hrow with rfl | ⟨B, c, hc4, hpr⟩
  · simp at hi
  unfold obC at hbx
  obtain ⟨k0, k1, k2, k3, k4, k5, k6, k7⟩ := cellsOb hbx
  have p0 : w.cell? ⟨B, i * 17, none⟩ = some (.int .i64 p.1.kind) := hpr i 0 p hp (by omega)
  have p1 : w.cell? ⟨B, i * 17 + 1, none⟩ = some (.bool p.1.exec) := hpr i 1 p hp (by omega)
  have p2 : w.cell? ⟨B, i * 17 + 2, none⟩ = some (.int .i64 p.1.acc) := hpr i 2 p hp (by omega)
  have p3 : w.cell? ⟨B, i * 17 + 3, none⟩ = some (.int .i64 p.1.n) := hpr i 3 p hp (by omega)
  have p4 : w.cell? ⟨B, i * 17 + 4, none⟩ = some (.string p.1.name) := hpr i 4 p hp (by omega)
  have p5 : w.cell? ⟨B, i * 17 + 5, none⟩ = some (.int .i64 p.1.ref) := hpr i 5 p hp (by omega)
  have p6 : w.cell? ⟨B, i * 17 + 6, none⟩ = some (.int .i64 p.1.frm) := hpr i 6 p hp (by omega)
  have p7 : w.cell? ⟨B, i * 17 + 7, none⟩ = some (.int .i64 p.1.len) := hpr i 7 p hp (by omega)
  have hiz : (i : Int) < (ps.length : Int) := by omega
  have heq := ob_eql p.1 key
  clear hpr hbx hp
  go_enter Tryz.func68, Tryz.ntmps68
  go_wp2_with fail
  go_quiet (fail)
  go_wp2_with fail
  go_ret
  exact ⟨by simp, _, rfl⟩
/-- the place of a key -/
def idx (ps : List (Ob × Ob)) (key : Ob) : Option Nat := ps.findIdx? fun p => obEq p.1 key
def idxI : Option Nat → Int
  | some i => i
  | none => -1
set_option maxRecDepth 100000 in
set_option maxHeartbeats 1000000 in
theorem first_at {w : World} {b1 b2 g t : Nat} {ps : List (Ob × Ob)} {key : Ob} (h : Ent w b1 b2 g t ps key) (hn : ps.length ≤ 4096) :
    Calls Tryz.prog 67 #[.int .i64 ps.length, .func (.func 68) #[] #[.pointer (some ⟨b1, 0, none⟩), .pointer (some ⟨b2, 0, none⟩)]] w fun e w' => e = .returned (.int .i64 (idxI (idx ps key))) ∧ ∃ q, w' = w.drewN q := by
  have HS := Lib.hid h
  clear h
  go_enter Tryz.func67, Tryz.ntmps67
  go_wp2_with fail
  go_loopw [7] (fun v wr => ∃ k q : Nat, v = .int .i64 k ∧ k ≤ ps.length ∧ (∀ j p, j < k → ps[j]? = some p → obEq p.1 key = false) ∧ wr = w.drewN q) (fun v _ => ps.length - (intOf v).toNat)
  case atStart => exact ⟨0, 0, rfl, Nat.zero_le _, fun j p hj => by omega, rfl⟩
  case round =>
    obtain ⟨k, q, rfl, hk, hno, rfl⟩ := hrel
    have HNo := Lib.hid hno
    clear hno
    by_cases hlt : k < ps.length
    · have hp := List.getElem?_eq_getElem hlt
      have hc := entry1_at (HS.out.draws q) hp hn
      cases he : obEq ps[k].1 key with
      | true =>
        rw [he] at hc
        have HC := Lib.hid hc
        have HI := Lib.hid (show idxI (idx ps key) = (k : Int) by
          have : idx ps key = some k := by
            unfold idx
            rw [List.findIdx?_eq_some_iff_getElem]
            exact ⟨hlt, he, fun j hj => by have := HNo.out j _ hj (List.getElem?_eq_getElem (by omega)); simp [this]⟩
          rw [this]; rfl)
        clear hc hp he
        go_wp2_with fail
        refine HC.out.mono ?_; rintro e w' ⟨rfl, nq, rfl⟩
        go_wp2_with fail
        go_ret
        exact ⟨by rw [HI.out]; rfl, _, rfl⟩
      | false =>
        rw [he] at hc
        have HC := Lib.hid hc
        have HE := Lib.hid he
        have HPk := Lib.hid hp
        clear hc hp he
        go_wp2_with fail
        refine HC.out.mono ?_; rintro e w' ⟨rfl, nq, rfl⟩
        go_wp2_with fail
        go_roundw
        case rel => exact ⟨k + 1, q + nq, by go_num, by omega, fun j p hj hp => by
          rcases Nat.lt_or_ge j k with h1 | h1
          · exact HNo.out j p h1 hp
          · have : j = k := by omega
            subst this
            rw [HPk.out] at hp; cases hp; exact HE.out, rfl⟩
        case measure => simp [intOf]; omega
    · have HI := Lib.hid (show idxI (idx ps key) = (-1 : Int) by
        have : idx ps key = none := by
          unfold idx
          rw [List.findIdx?_eq_none_iff]
          intro p hp
          obtain ⟨j, hj, rfl⟩ := List.getElem_of_mem hp
          exact HNo.out j _ (by omega) (List.getElem?_eq_getElem hj)
        rw [this]; rfl)
      go_wp2_with fail
      go_ret
      exact ⟨by rw [HI.out]; rfl, _, rfl⟩
end Go.Proofs.YtmcopfcmnbhaaaaGreat
