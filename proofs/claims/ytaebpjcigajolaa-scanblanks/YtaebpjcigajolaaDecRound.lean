/-
  The contracts of decimal's methods: digit, rounded.
-/
import Derived.Test.YtaebpjcigajolaaDecDouble
namespace Go.Proofs.Ytaebpjcigajolaa
open Go.RowKit
open Fx Dc
namespace Dc
/-- the digit at a place; 0 beyond those that are written -/
def digAt (xs : List Nat) (i : Int) : Nat := if 0 ≤ i then xs.getD i.toNat 0 else 0
theorem digAt_le {xs : List Nat} (h : digs xs) (i : Int) : digAt xs i ≤ 9 := by
  unfold digAt; split
  · rw [List.getD_eq_getElem?_getD]
    cases hx : xs[i.toNat]? with
    | none => simp
    | some x => exact h x (List.mem_of_getElem? hx)
  · omega
theorem digAt_at {xs : List Nat} {k x : Nat} (h : xs[k]? = some x) : digAt xs (k : Int) = x := by
  unfold digAt; rw [if_pos (by omega), Int.toNat_natCast, List.getD_eq_getElem?_getD, h]; rfl
theorem digAt_neg {xs : List Nat} {i : Int} (h : i < 0) : digAt xs i = 0 := by unfold digAt; rw [if_neg (by omega)]
theorem digAt_big {xs : List Nat} {i : Int} (h : (xs.length : Int) ≤ i) : digAt xs i = 0 := by
  unfold digAt; rw [if_pos (by omega), List.getD_eq_getElem?_getD, List.getElem?_eq_none (by omega)]; rfl
/-- the first k digits as a whole number, as far as 2^32 -/
def whS (xs : List Nat) : Nat → Nat
  | 0 => 0
  | k + 1 => min (whS xs k * 10 + digAt xs k) 4294967296
theorem whS_le (xs : List Nat) (k : Nat) : whS xs k ≤ 4294967296 := by
  cases k with
  | zero => simp [whS]
  | succ k => simp only [whS]; omega
/-- n digits from place p on -/
def fromP (xs : List Nat) (p : Int) (n : Nat) : List Nat := (List.range n).map fun (i : Nat) => digAt xs (p + (i : Int))
theorem fromP_len (xs : List Nat) (p : Int) (n : Nat) : (fromP xs p n).length = n := by simp [fromP]
theorem fromP_succ (xs : List Nat) (p : Int) (n : Nat) : fromP xs p (n + 1) = fromP xs p n ++ [digAt xs (p + n)] := by
  unfold fromP; rw [List.range_succ, List.map_append]; rfl
theorem fromP_digs {xs : List Nat} (h : digs xs) (p : Int) (n : Nat) : digs (fromP xs p n) := by
  intro d hd
  unfold fromP at hd
  obtain ⟨i, _, rfl⟩ := List.mem_map.1 hd
  exact digAt_le h _
/-- k doublings: the digits left, and what went over, as a number -/
def dbls : Nat → List Nat → List Nat × Nat
  | 0, l => (l, 0)
  | k + 1, l => ((dbl (dbls k l).1).1, 2 * (dbls k l).2 + (dbl (dbls k l).1).2)
theorem dbls_len (k : Nat) (l : List Nat) : (dbls k l).1.length = l.length := by
  induction k with
  | zero => rfl
  | succ k ih => simp only [dbls]; rw [dbl_len, ih]
theorem dbls_digs (k : Nat) (l : List Nat) (h : digs l) : digs (dbls k l).1 := by
  cases k with
  | zero => exact h
  | succ k => exact dbl_digs _
theorem dbls_bd (k : Nat) (l : List Nat) (h : digs l) : (dbls k l).2 < 2 ^ k := by
  induction k with
  | zero => simp [dbls]
  | succ k ih =>
    have := dbl_carry _ (dbls_digs k l h)
    simp only [dbls]; rw [Nat.pow_succ]; omega
end Dc
/-- digits that lie in a block -/
def DgAt (w : World) (g : Nat) (xs : List Nat) : Prop := g < w.heap.size ∧ ∀ (k x : Nat), xs[k]? = some x → w.cell? ⟨g, k, none⟩ = some (.int .u8 (x : Int))
theorem DgAt.below {w w' : World} {g : Nat} {xs : List Nat} (h : DgAt w g xs) (hb : Below w.heap.size w w') : DgAt w' g xs :=
  ⟨Nat.lt_of_lt_of_le h.1 hb.size, fun k x hx => by rw [(bcell hb).1 _ _ h.1]; exact h.2 k x hx⟩
theorem digit_any (g cap : Nat) (p i : Int) (xs : List Nat) (w : World) (hd : DgAt w g xs) (_hlen : xs.length ≤ 3000) (_hi : -5000 ≤ i) (_hi2 : i ≤ 5000) :
    Calls Try.prog 78 #[.agg #[.slice (some ⟨g, 0, none⟩) xs.length cap, .int .i64 p], .int .i64 i] w fun e w' => e = .returned (.int .u8 (digAt xs i : Nat)) ∧ Below w.heap.size w w' := by
  by_cases h0 : i < 0
  · rw [digAt_neg h0]
    clear hd
    go_enter Try.func78, Try.ntmps78
    go_wp2_with fail
    go_ret
    exact ⟨rfl, (Below.refl _ _).alloc (Nat.le_refl _) _⟩
  · by_cases h1 : (xs.length : Int) ≤ i
    · rw [digAt_big h1]
      clear hd
      go_enter Try.func78, Try.ntmps78
      go_wp2_with fail
      go_ret
      exact ⟨rfl, (Below.refl _ _).alloc (Nat.le_refl _) _⟩
    · obtain ⟨k, rfl⟩ : ∃ k : Nat, i = k := ⟨i.toNat, by omega⟩
      have hk : k < xs.length := by omega
      obtain ⟨x, hx⟩ : ∃ x, xs[k]? = some x := ⟨_, List.getElem?_eq_getElem hk⟩
      rw [digAt_at hx]
      have hc := hd.2 k x hx
      have hlt := hd.1
      have hc2 : ∀ o, (w.alloc o).cell? ⟨g, k, none⟩ = some (.int .u8 (x : Int)) := fun o => by
        rw [World.cell?_alloc_lt _ _ _ hlt]; exact hc
      clear hd hx hc
      go_enter Try.func78, Try.ntmps78
      go_wp2_with fail
      go_ret
      exact ⟨rfl, (Below.refl _ _).alloc (Nat.le_refl _) _⟩
namespace Dc
/-- the digits behind the point -/
def fracP (xs : List Nat) (p : Int) : List Nat := fromP xs p ((xs.length : Int) - p).toNat
/-- the number in One-th parts -/
def rndD (xs : List Nat) (p : Int) : Nat := whS xs p.toNat * 65536 + (dbls 16 (fracP xs p)).2 + (dbl (dbls 16 (fracP xs p)).1).2
end Dc
def R1 (xs : List Nat) (p : Int) (W : World) (n i : Value) (w' : World) : Prop :=
  ∃ k : Nat, k ≤ p.toNat ∧ i = .int .i64 (k : Int) ∧ n = .int .i64 ((whS xs k : Nat) : Int) ∧ Below W.heap.size W w'
def R2 (xs : List Nat) (p : Int) (B : Nat) (W : World) (v i : Value) (w' : World) : Prop :=
  ∃ (j : Nat) (v' : Value), v' = v ∧ j ≤ ((xs.length : Int) - p).toNat ∧ i = .int .i64 (p + (j : Int)) ∧ w'.ownsRow B 5 1 v' j (u8s (fromP xs p j)) ∧ Below W.heap.size W w'
theorem u8_info : (Try.prog.info? 5).map (fun i => (i.zero, i.size, i.bytes)) = some (some (.int .u8 0), 1, 1) := by kernel_rfl
theorem one_u8 (x : Int) : ∀ u ∈ [Value.int .u8 x], u.oneCell' = true := by
  intro u hu; rw [List.mem_singleton] at hu; subst hu; rfl
theorem src_one (w : World) (x : Value) (t : TypeId) : ∀ j u, ([x] : List Value)[j]? = some u → (w.alloc (Obj.cells #[x] t)).cell? ((⟨w.heap.size, 0, none⟩ : Addr).add j) = some u := by
  intro j u hu
  have hj : j = 0 := by
    rcases j with _ | j
    · rfl
    · simp at hu
  subst hj
  have e : (⟨w.heap.size, 0, none⟩ : Addr).add 0 = ⟨w.heap.size, 0, none⟩ := rfl
  rw [e, World.cell?_alloc_new]
  simpa using hu
theorem fromP_push (xs : List Nat) (p : Int) (j : Nat) : u8s (fromP xs p j) ++ [Value.int .u8 ((digAt xs (p + (j : Int)) : Nat) : Int)] = u8s (fromP xs p (j + 1)) := by
  rw [fromP_succ]; simp [u8s]
def R3 (N : Nat) (F : List Nat) (v : Value) (B : Nat) (w : World) (n i : Value) (w' : World) : Prop :=
  ∃ k : Nat, k ≤ 16 ∧ i = .int .i64 (k : Int) ∧ n = .int .i64 ((N * 2 ^ k + (dbls k F).2 : Nat) : Int) ∧ w'.ownsRow B 5 1 v F.length (u8s (dbls k F).1) ∧ Below w.heap.size w w'
theorem rounded_dec (g cap : Nat) (p : Int) (xs : List Nat) (hx : digs xs) (w : World) (hd : DgAt w g xs) (hlen : xs.length ≤ 100) (hp : -2000 ≤ p) (hp2 : p ≤ 2000) :
    Calls Try.prog 70 #[.agg #[.slice (some ⟨g, 0, none⟩) xs.length cap, .int .i64 p]] w fun e w' => e = .returned (.int .i64 (rndD xs p : Nat)) ∧ Below w.heap.size w w' := by
  have HD := Lib.hid hd
  have hglt := hd.1
  clear hd
  go_enter Try.func70, Try.ntmps70
  go_wp2_with fail
  obtain ⟨W, hW⟩ : ∃ W, W = w.alloc (Obj.cells #[.slice (some ⟨g, 0, none⟩) xs.length cap, .int .i64 p] 81) := ⟨_, rfl⟩
  have hWs : W.heap.size = w.heap.size + 1 := by rw [hW]; simp
  have hW0 : W.cell? ⟨w.heap.size, 0, none⟩ = some (.slice (some ⟨g, 0, none⟩) xs.length cap) := by rw [hW]; simp [go_sem]
  have hW1 : W.cell? ⟨w.heap.size, 1, none⟩ = some (.int .i64 p) := by rw [hW]; simp [go_sem]
  have hWD : DgAt W g xs := by rw [hW]; exact HD.out.below ((Below.refl _ _).alloc (Nat.le_refl _) _)
  have hWB : Below w.heap.size w W := by rw [hW]; exact (Below.refl _ _).alloc (Nat.le_refl _) _
  rw [← hW]
  have HW := Lib.hid (And.intro hWs (And.intro hW0 (And.intro hW1 (And.intro hWD hWB))))
  clear hWs hW0 hW1 hWD hWB hW
  go_loopw [2, 8] (R1 xs p W) (fun _ i _ => p.toNat - (intOf i).toNat)
  case atStart => exact ⟨0, by omega, rfl, rfl, Below.refl _ _⟩
  case round =>
    obtain ⟨k, hk, rfl, rfl, hb⟩ := hrel
    have hwh := whS_le xs k
    by_cases hkp : (k : Int) < p
    · have hd9 := digAt_le hx (k : Int)
      have hsz := hb.size
      have c0 : wr.cell? ⟨w.heap.size, 0, none⟩ = some (.slice (some ⟨g, 0, none⟩) xs.length cap) := by
        rw [(bcell hb).1 _ _ (by rw [HW.out.1]; omega)]; exact HW.out.2.1
      have c1 : wr.cell? ⟨w.heap.size, 1, none⟩ = some (.int .i64 p) := by
        rw [(bcell hb).1 _ _ (by rw [HW.out.1]; omega)]; exact HW.out.2.2.1
      have HDW := Lib.hid (HW.out.2.2.2.1.below hb)
      have HB := Lib.hid hb
      clear hb
      go_wp2_with fail
      refine (digit_any g cap p k xs wr HDW.out (by omega) (by omega) (by omega)).mono ?_
      rintro e w2 ⟨rfl, hb2⟩
      have HB2 := Lib.hid (bthen HB.out hb2)
      clear hb2
      go_wp2_with fail
      go_roundw
      case rel => exact ⟨k + 1, by omega, by go_num, by simp only [whS]; go_num, HB2.out⟩
      case measure => simp [intOf]; omega
    · have HK := Lib.hid (show k = p.toNat by omega)
      have hkb : decide ((k : Int) < p) = false := by simp; omega
      clear hk
      have hsz := hb.size
      have c0 : wr.cell? ⟨w.heap.size, 0, none⟩ = some (.slice (some ⟨g, 0, none⟩) xs.length cap) := by
        rw [(bcell hb).1 _ _ (by rw [HW.out.1]; omega)]; exact HW.out.2.1
      have c1 : wr.cell? ⟨w.heap.size, 1, none⟩ = some (.int .i64 p) := by
        rw [(bcell hb).1 _ _ (by rw [HW.out.1]; omega)]; exact HW.out.2.2.1
      have HB := Lib.hid hb
      obtain ⟨N, hN⟩ : ∃ N, whS xs k = N := ⟨_, rfl⟩
      rw [hN] at hwh ⊢
      have HN : Hid (whS xs p.toNat = N) := by have := HK.out; subst this; exact hN
      clear hb hN
      go_wp2_with fail
      go_loopw [4, 5] (R2 xs p (w.heap.size + 1) W) (fun _ i _ => ((xs.length : Int) - intOf i).toNat)
      case atStart => exact ⟨0, _, rfl, by omega, by simp, World.ownsRow_nil _ _ _ _, HB.out⟩
      case round =>
        obtain ⟨j, v, rfl, hj, rfl, ho, hb⟩ := hrel
        clear c0 c1 hsz HB
        have hsz2 := hb.size
        have c0 : wr.cell? ⟨w.heap.size, 0, none⟩ = some (.slice (some ⟨g, 0, none⟩) xs.length cap) := by
          rw [(bcell hb).1 _ _ (by rw [HW.out.1]; omega)]; exact HW.out.2.1
        have c1 : wr.cell? ⟨w.heap.size, 1, none⟩ = some (.int .i64 p) := by
          rw [(bcell hb).1 _ _ (by rw [HW.out.1]; omega)]; exact HW.out.2.2.1
        by_cases hjl : p + (j : Int) < (xs.length : Int)
        · have hd9 := digAt_le hx (p + (j : Int))
          have HDW := Lib.hid (HW.out.2.2.2.1.below hb)
          have HB := Lib.hid hb
          have HO := Lib.hid ho
          clear hb ho
          go_wp2_with fail
          refine (digit_any g cap p (p + (j : Int)) xs wr HDW.out (by omega) (by omega) (by omega)).mono ?_
          rintro e w2 ⟨rfl, hb2⟩
          obtain ⟨x, hxd⟩ : ∃ x : Nat, digAt xs (p + (j : Int)) = x := ⟨_, rfl⟩
          rw [hxd] at hd9 ⊢
          have HX := Lib.hid hxd
          have HB2 := Lib.hid (bthen HB.out hb2)
          have HO2 : Hid (w2.ownsRow (w.heap.size + 1) 5 1 v j (u8s (fromP xs p j))) := HO.out.kept (row := none) ⟨hb2.os, hb2.tape, hb2.output, hb2.size, fun k hk _ => hb2.block k hk⟩ (by cases v.ownBlock <;> simp)
          obtain ⟨i0, hi, hz0, hz1, hz2⟩ := info_parts u8_info
          have HI := Lib.hid (And.intro hi (And.intro hz0 (And.intro hz1 hz2)))
          have hs2 := HB2.out.size
          clear hb2 hxd hi hz0 hz1 hz2
          go_wp2_with (at_builtin; refine wpList_append_own _ rfl (.tmp 29) (.tmp 33) 22 rfl (w.heap.size + 1) 5 i0 (.int .u8 0) 1 1 Try.underlying22 HI.out.1 HI.out.2.1 HI.out.2.2.1 HI.out.2.2.2 rfl (by decide) v j (u8s (fromP xs p j)) rfl (HO2.out.alloc _) ⟨w2.heap.size, 0, none⟩ 1 1 [.int .u8 (x : Int)] rfl rfl (src_one _ _ _) (one_u8 _) (by unfold maxLen; omega) (by omega) (by have := HW.out.1; simp; omega) ?_)
          intro v2 w3 hown hgr _
          rw [← HX.out, fromP_push] at hown
          have hbel : Below W.heap.size W w3 := (HB2.out.alloc HB2.out.size _).grown hgr (by have := HB2.out.size; simp; omega) (fun k hk => by have := (HO2.out.lt k hk).1; have := HW.out.1; omega)
          have HO3 := Lib.hid hown
          have HB3 := Lib.hid hbel
          clear hown hgr hbel
          go_wp2_with fail
          go_roundw
          case rel =>
            exact ⟨j + 1, _, rfl, by omega, by go_num, HO3.out, HB3.out⟩
          case measure => simp [intOf]; omega
        · obtain ⟨F, hF⟩ : ∃ F, F = fracP xs p := ⟨_, rfl⟩
          have hjm : j = ((xs.length : Int) - p).toNat := by omega
          have hFj : fromP xs p j = F := by rw [hF, hjm]; rfl
          have hFd : digs F := by rw [hF]; exact fromP_digs hx _ _
          have hFl : F.length = j := by rw [← hFj]; exact fromP_len _ _ _
          have hFl2 : F.length ≤ 2100 := by omega
          rw [hFj, ← hFl] at ho
          have HF := Lib.hid hF
          have HO := Lib.hid ho
          have HB := Lib.hid (HW.out.2.2.2.2.trans (hb.mono (by have := HW.out.1; omega)))
          clear hb ho hF hjm hFj hFl hj
          go_wp2_with fail
          go_loopw [2, 35] (R3 N F v (w.heap.size + 1) w) (fun _ i _ => 16 - (intOf i).toNat)
          case atStart => exact ⟨0, by omega, rfl, by simp [dbls], HO.out, HB.out⟩
          case round =>
            clear c0 c1 hsz2 HO HB
            obtain ⟨k, hk, rfl, rfl, ho, hb⟩ := hrel
            have hbd := dbls_bd k F hFd
            have hk2 : 2 ^ k ≤ 2 ^ 16 := Nat.pow_le_pow_right (by omega) hk
            have hNk : N * 2 ^ k ≤ 4294967296 * 65536 := Nat.mul_le_mul hwh hk2
            obtain ⟨M, hM⟩ : ∃ M : Nat, N * 2 ^ k + (dbls k F).2 = M := ⟨_, rfl⟩
            have hMb : M ≤ 4294967296 * 65536 + 65536 := by omega
            have hD := double_own (w.heap.size + 1) v (dbls k F).1 (dbls_digs k F hFd) (by rw [dbls_len]; omega) wr (by rw [dbls_len]; exact ho)
            have hc1 := dbl_carry (dbls k F).1 (dbls_digs k F hFd)
            have hvb : ∀ q, v.ownBlock = some q → w.heap.size ≤ q := fun q hq => by have := (ho.lt q hq).1; omega
            obtain ⟨c, hc⟩ : ∃ c, (dbl (dbls k F).1).2 = c := ⟨_, rfl⟩
            unfold DblPost at hD
            rw [hc] at hD hc1
            rw [hM]
            have HD2 := Lib.hid hD
            have HM := Lib.hid hM
            have HC := Lib.hid hc
            have HB := Lib.hid hb
            have HV := Lib.hid hvb
            clear hD hM hc hb hvb ho hNk hbd hk2
            by_cases hk16 : k < 16
            · go_wp2_with fail
              refine HD2.out.mono ?_
              rintro e w4 ⟨rfl, ho4, hg4⟩
              rw [dbls_len] at ho4
              have HO4 := Lib.hid ho4
              have HB4 := Lib.hid (HB.out.grown hg4 HB.out.size (fun q hq => HV.out q hq))
              clear ho4 hg4
              go_wp2_with fail
              go_roundw
              case rel =>
                refine ⟨k + 1, by omega, by go_num, ?_, HO4.out, HB4.out⟩
                have e1 : N * 2 ^ (k + 1) + (dbls (k + 1) F).2 = M * 2 + c := by
                  simp only [dbls]; rw [HC.out, Nat.pow_succ, ← Nat.mul_assoc, ← HM.out]; omega
                rw [e1]; go_num
              case measure => simp [intOf]; omega
            · obtain rfl : k = 16 := by omega
              have hfin : rndD xs p = M + c := by
                unfold rndD; rw [HN.out, ← HF.out, HC.out, ← HM.out]
              have HFin := Lib.hid hfin
              clear hfin
              go_wp2_with fail
              refine HD2.out.mono ?_
              rintro e w4 ⟨rfl, ho4, hg4⟩
              have HB4 := Lib.hid (HB.out.grown hg4 HB.out.size (fun q hq => HV.out q hq))
              clear ho4 hg4
              go_wp2_with fail
              go_ret
              exact ⟨ret_int (by rw [HFin.out]; omega), HB4.out⟩
end Go.Proofs.Ytaebpjcigajolaa
