/-
  The walk of the law ScanStrings.
-/
import Derived.Test.YtaebpjcigajolaaScanHexd
import Derived.Laws.IdiomCopy
namespace Go.Proofs.Ytaebpjcigajolaa
open Go.RowKit
open Sc
namespace Sc
/-- a string, in its three ways, without its end -/
def wayH (s : List UInt8) : Nat → List UInt8
  | 0 => 40 :: escS true s
  | 1 => 40 :: escS false s
  | _ => 60 :: hexS 0 s
def wayE : Nat → UInt8
  | 0 => 41
  | 1 => 41
  | _ => 62
def wayL (s : List UInt8) (k : Nat) : List UInt8 := wayH s k ++ [wayE k]
theorem way_len (s : List UInt8) (k : Nat) : (wayH s k).length ≤ 4 * s.length + 1 ∧ (wayL s k).length = (wayH s k).length + 1 ∧ 1 ≤ (wayH s k).length := by
  have h1 := escS_len true s
  have h2 := escS_len false s
  have h3 := hexS_len s 0
  refine ⟨?_, by simp [wayL], ?_⟩
  · match k with
    | 0 => simp [wayH]; omega
    | 1 => simp [wayH]; omega
    | _ + 2 => simp [wayH]; omega
  · match k with
    | 0 => simp [wayH]
    | 1 => simp [wayH]
    | _ + 2 => simp [wayH]
theorem nxt_round {tk : List UInt8 → Int × Int × Bool × Int} (r : List UInt8) : nxt tk (40 :: r) = str (rnd 1 r) := by
  have h2 : skp false (40 :: r) = 40 :: r := skp_stop (by decide) (by decide)
  unfold nxt
  rw [h2, beg, if_neg (by decide), if_pos rfl]
theorem nxt_hex {tk : List UInt8 → Int × Int × Bool × Int} (r : List UInt8) (h : ∀ t, r ≠ 60 :: t) : nxt tk (60 :: r) = str (hx none r) := by
  have h2 : skp false (60 :: r) = 60 :: r := skp_stop (by decide) (by decide)
  unfold nxt
  rw [h2, beg, if_neg (by decide), if_neg (by decide), if_pos rfl]
  cases r with
  | nil => rfl
  | cons x t => rw [twice, if_neg (fun e => h t (by rw [e]))]
theorem dig_ne60 : ∀ k : Fin 16, dig k.val ≠ 60 := by decide +kernel
theorem hexS_ne (s r : List UInt8) (hr : ∀ t, r ≠ 60 :: t) : ∀ t, hexS 0 s ++ r ≠ 60 :: t := by
  intro t h
  cases s with
  | nil => exact hr t h
  | cons c s =>
    have hc := UInt8.toNat_lt c
    have e : hexS 0 (c :: s) ++ r = dig (c.toNat / 16) :: (dig (c.toNat % 16) :: ((if 0 % 7 = 3 then [10] else []) ++ hexS (0 + 1) s) ++ r) := by simp [hexS, hexB]
    rw [e] at h
    injection h with h1 _
    exact dig_ne60 ⟨c.toNat / 16, by omega⟩ h1
theorem way_nxt (tk : List UInt8 → Int × Int × Bool × Int) (s m : List UInt8) (k : Nat) : nxt tk (wayL s k ++ m) = .tok 6 0 s m := by
  match k with
  | 0 =>
    show nxt tk (40 :: escS true s ++ [41] ++ m) = _
    have e : 40 :: escS true s ++ [41] ++ m = 40 :: (escS true s ++ (41 :: m)) := by simp
    rw [e, nxt_round, rnd_escS, rnd_done (d := 1) (s := 41 :: m) (r := m) rfl]; simp [str]
  | 1 =>
    show nxt tk (40 :: escS false s ++ [41] ++ m) = _
    have e : 40 :: escS false s ++ [41] ++ m = 40 :: (escS false s ++ (41 :: m)) := by simp
    rw [e, nxt_round, rnd_escS, rnd_done (d := 1) (s := 41 :: m) (r := m) rfl]; simp [str]
  | _ + 2 =>
    show nxt tk (60 :: hexS 0 s ++ [62] ++ m) = _
    have e : 60 :: hexS 0 s ++ [62] ++ m = 60 :: (hexS 0 s ++ (62 :: m)) := by simp
    rw [e, nxt_hex _ (hexS_ne s _ (fun t h => by injection h with h _; revert h; decide)), hx_hexS, hx, if_pos rfl]; simp [str, hlast]
theorem way_cut (tk : List UInt8 → Int × Int × Bool × Int) (s : List UInt8) (k : Nat) : nxt tk (wayH s k) = .err 14 := by
  match k with
  | 0 =>
    show nxt tk (40 :: escS true s) = _
    have h := rnd_escS true s []
    rw [List.append_nil, rnd_fail (d := 1) (s := []) rfl] at h
    rw [nxt_round, h]; rfl
  | 1 =>
    show nxt tk (40 :: escS false s) = _
    have h := rnd_escS false s []
    rw [List.append_nil, rnd_fail (d := 1) (s := []) rfl] at h
    rw [nxt_round, h]; rfl
  | _ + 2 =>
    show nxt tk (60 :: hexS 0 s) = _
    have h := hx_hexS s [] 0
    have hn := hexS_ne s [] (fun t h => by cases h)
    rw [List.append_nil] at h hn
    rw [nxt_hex _ hn, h]; rfl
theorem way_head (s m : List UInt8) (k : Nat) : ∀ c r, skp false (wayH s k ++ m) = c :: r → regular c = true → False := by
  intro c r h1 h2
  have key : ∀ x t, (x = 40 ∨ x = 60) → skp false (x :: t) = c :: r → False := by
    intro x t hx h
    rw [skp_stop (by rcases hx with rfl | rfl <;> decide) (by rcases hx with rfl | rfl <;> decide)] at h
    injection h with e _
    subst e
    rcases hx with rfl | rfl <;> exact absurd h2 (by decide)
  match k, h1 with
  | 0, h1 => exact key 40 _ (.inl rfl) h1
  | 1, h1 => exact key 40 _ (.inl rfl) h1
  | _ + 2, h1 => exact key 60 _ (.inr rfl) h1
end Sc
theorem setCells_size (b : Nat) : ∀ (vs : List Value) (o : Nat) (w : World), (w.setCells b o vs).heap.size = w.heap.size := by
  intro vs
  induction vs with
  | nil => intro o w; rfl
  | cons v vs ih => intro o w; rw [World.setCells, ih]; exact set_size _ _ _
theorem below_setCells (b : Nat) : ∀ (vs : List Value) (o : Nat) (w : World), Below b w (w.setCells b o vs) := by
  intro vs
  induction vs with
  | nil => intro o w; exact Below.refl _ _
  | cons v vs ih => intro o w; rw [World.setCells]; exact ((Below.refl b w).setCell (p := ⟨b, o, none⟩) (Nat.le_refl _) v).trans (ih _ _)
/-- bytes made of a string, and other bytes put behind them -/
theorem appended {W : World} {l m : List UInt8} {ad : Option Addr} {c : Nat} (hin : InRow W ad m c) (hl : l.length ≤ 100000) (hm : m.length ≤ 100000) (ty : TypeId) :
    ∃ (cap : Nat) (W2 : World), (convert 9 22 (.string ⟨l.toArray⟩)).run Try.prog W = .ok (.slice (some ⟨W.heap.size, 0, none⟩) l.length cap) W2 ∧
      ∃ a2 c2 W3, (Builtin.append_ #[22, 22] ty #[.slice (some ⟨W.heap.size, 0, none⟩) l.length cap, .slice ad m.length c]).run Try.prog W2 = .ok (.slice a2 (l ++ m).length c2) W3 ∧
        Below W.heap.size W W3 ∧ (l ++ m).length ≤ c2 ∧ RdB W3 W3.heap.size a2 (l ++ m) := by
  have hr := run_bytes_of_string W 9 22 5 ⟨l.toArray⟩ Try.underlying9 Try.underlying22 Try.underlying5
  rw [size_mkS] at hr
  have hge := grownCap_ge W l.length 0 5
  obtain ⟨cap, hcap⟩ : ∃ c, c = grownCap W l.length 0 5 := ⟨_, rfl⟩
  rw [← hcap] at hr hge
  have hrs : (bytesRow ⟨l.toArray⟩ cap).size = cap := by
    unfold bytesRow
    rw [Array.size_append, Array.size_map, Array.size_replicate]
    have : (⟨l.toArray⟩ : ByteArray).data.size = l.length := by simp
    have h2 : (⟨l.toArray⟩ : ByteArray).size = l.length := size_mkS l
    omega
  rw [hrs] at hr
  obtain ⟨W2, hW2⟩ : ∃ W2, W2 = W.drew.alloc (.cells (bytesRow ⟨l.toArray⟩ cap) 5 (cap, cap + 1)) := ⟨_, rfl⟩
  rw [← hW2] at hr
  have hsz : W2.heap.size = W.heap.size + 1 := by rw [hW2]; simp
  have hb2 : Below W.heap.size W W2 := by rw [hW2]; exact (Below.refl _ W).drew.alloc (Nat.le_refl _) _
  have hcell : ∀ i c, l[i]? = some c → W2.cell? ⟨W.heap.size, i, none⟩ = some (.int .u8 c.toNat) := by
    intro i c hc
    have hj : i < (⟨l.toArray⟩ : ByteArray).data.size := by
      obtain ⟨h1, _⟩ := List.getElem?_eq_some_iff.1 hc
      simpa using h1
    have hs : W.drew.heap.size = W.heap.size := rfl
    rw [hW2, ← hs, World.cell?_alloc_mark, bytesRow_at _ _ i hj]
    have : (⟨l.toArray⟩ : ByteArray).data[i] = c := by
      obtain ⟨h1, h2⟩ := List.getElem?_eq_some_iff.1 hc
      simpa using h2
    simp [this]
  have hheap : W2.heap[W.heap.size]? = some (.cells (bytesRow ⟨l.toArray⟩ cap) 5 (cap, cap + 1)) := by rw [hW2]; exact heap_alloc_new W.drew _
  have hspare : ∀ j, j < cap → (W2.cell? ⟨W.heap.size, j, none⟩).isSome = true ∧ W2.frozen? ⟨W.heap.size, j, none⟩ = false := by
    intro j hj
    constructor
    · rw [cell_of_row _ W.heap.size j _ _ _ hheap]
      rw [Array.getElem?_eq_getElem (by rw [hrs]; exact hj)]; rfl
    · simp [World.frozen?, hheap]; omega
  refine ⟨cap, W2, hr, ?_⟩
  obtain ⟨i0, hi, hz0, hz1, hz2⟩ := info_parts u8_infoS
  have hin2 := hin.below hb2
  rcases hin2.2 with ⟨rfl, rfl, rfl⟩ | ⟨x, rfl, hx⟩
  · refine ⟨some ⟨W.heap.size, 0, none⟩, cap, W2, ?_, hb2, by simpa using hge, ?_⟩
    · rw [List.append_nil]
      simp [Builtin.append_, run_underlying Try.underlying22, sizeOf, typeInfo, hi, Builtin.lenOf, Builtin.firstCells, hge, storeCells]
    · intro i c hc
      rw [List.append_nil] at hc
      exact ⟨W.heap.size, 0, rfl, by omega, by rw [Nat.zero_add]; exact hcell i c hc⟩
  · have hnews : ∀ j u, (m.map bv)[j]? = some u → W2.cell? (x.add j) = some u := by
      intro j u hu
      rw [List.getElem?_map] at hu
      obtain ⟨z, hz, rfl⟩ := Option.map_eq_some_iff.1 hu
      exact hx j z hz
    by_cases hroom : l.length + m.length ≤ cap
    · have hsp : ∀ j, j < (m.map bv).length → (W2.cell? ⟨W.heap.size, 0 + l.length * i0.size + j, none⟩).isSome = true ∧ W2.frozen? ⟨W.heap.size, 0 + l.length * i0.size + j, none⟩ = false := by
        intro j hj
        rw [hz1]
        simp at hj
        exact hspare _ (by omega)
      have hrun := run_append_room_cells (P := Try.prog) W2 22 ty 5 i0 Try.underlying22 hi W.heap.size 0 l.length cap x m.length c (m.map bv) (by rw [hz1]; simp) hnews (bvs_one m) hroom (fun j hj => (hsp j hj).1) (fun j hj => (hsp j hj).2)
      refine ⟨_, _, _, by rw [List.length_append]; exact hrun, ?_, by rw [List.length_append]; exact hroom, ?_⟩
      · have hset : Below W.heap.size W2 (W2.setCells W.heap.size (0 + l.length * i0.size) (m.map bv)) := below_setCells _ _ _ _
        exact hb2.trans hset
      · have hss : (W2.setCells W.heap.size (0 + l.length * i0.size) (m.map bv)).heap.size = W2.heap.size := setCells_size _ _ _ _
        intro i y hy
        refine ⟨W.heap.size, 0, rfl, by rw [hss]; omega, ?_⟩
        have e0 : (⟨W.heap.size, 0 + i, none⟩ : Addr) = ⟨W.heap.size, i, none⟩ := by rw [Nat.zero_add]
        rw [e0]
        by_cases hil : i < l.length
        · rw [World.cell?_setCells_out _ _ _ _ _ (fun _ _ => .inl (by rw [hz1]; show i < 0 + l.length * 1; omega))]
          rw [List.getElem?_append_left hil] at hy
          exact hcell i y hy
        · rw [List.getElem?_append_right (by omega)] at hy
          have hj : i - l.length < (m.map bv).length := by
            have := (List.getElem?_eq_some_iff.1 hy).1
            simpa using this
          have h1 := World.cell?_setCells_in W.heap.size (m.map bv) (0 + l.length * i0.size) W2 (fun j hj => (hsp j hj).1) (i - l.length) hj
          have e : 0 + l.length * i0.size + (i - l.length) = i := by rw [hz1]; omega
          rw [e] at h1
          rw [h1]
          have := (List.getElem?_eq_some_iff.1 hy).2
          simp [bv, this]
    · obtain ⟨v', w', hrun, hown, hgr⟩ := run_append_arg_grows (P := Try.prog) W2 22 ty 5 i0 (.int .u8 0) 1 1 Try.underlying22 hi hz0 hz1 hz2 rfl (by decide) ⟨W.heap.size, 0, none⟩ l.length cap (l.map bv) (by simp) (by
        intro j u hu
        rw [List.getElem?_map] at hu
        obtain ⟨z, hz, rfl⟩ := Option.map_eq_some_iff.1 hu
        have := hcell j z hz
        by_cases h0 : j = 0
        · subst h0; simpa [Addr.add, bv] using this
        · simpa [Addr.add, h0, bv] using this) x m.length c (m.map bv) (by simp) hnews (by omega) (by unfold maxLen; omega) (by omega)
      rw [← List.map_append, ← List.length_append] at hown
      obtain ⟨a2, c2, rfl, hc, hrd⟩ := own_rd hown
      exact ⟨a2, c2, w', hrun, hb2.trans (Below.grown (Below.refl _ _) hgr (by omega) (fun k hk => by cases hk)), hc, hrd⟩
theorem rd_prefix {w : World} {N : Nat} {a : Option Addr} {x y : List UInt8} (h : RdB w N a (x ++ y)) : RdB w N a x := fun i c hc => h i c (by rw [List.getElem?_append_left (List.getElem?_eq_some_iff.1 hc).1]; exact hc)
theorem RdB.mono {w : World} {N M : Nat} {a : Option Addr} {l : List UInt8} (h : RdB w N a l) (hN : N ≤ M) : RdB w M a l := fun i c hc => by
  obtain ⟨b, off, e, hb, hcell⟩ := h i c hc
  exact ⟨b, off, e, by omega, hcell⟩
def StrsRel (l : List UInt8) (w : World) (G : Nat) (i : Value) (wr : World) : Prop :=
  ∃ k : Nat, k ≤ 3 ∧ i = .int .i64 k ∧ wr.heap[G]? = some (.cells #[.string ⟨(wayL l 0).toArray⟩, .string ⟨(wayL l 1).toArray⟩, .string ⟨(wayL l 2).toArray⟩] 9) ∧ Below w.heap.size w wr
theorem ways_cell {wr : World} {G : Nat} {l : List UInt8} (h : wr.heap[G]? = some (.cells #[.string ⟨(wayL l 0).toArray⟩, .string ⟨(wayL l 1).toArray⟩, .string ⟨(wayL l 2).toArray⟩] 9)) {k : Nat} (hk : k < 3) : wr.cell? ⟨G, k, none⟩ = some (.string ⟨(wayL l k).toArray⟩) := by
  rw [cell_of_row _ G k _ _ _ h]
  match k, hk with
  | 0, _ => rfl
  | 1, _ => rfl
  | 2, _ => rfl
set_option maxRecDepth 100000 in
set_option maxHeartbeats 1000000 in
theorem lawScanStrings (ad : Option Addr) (c : Nat) (l : List UInt8) (ad2 : Option Addr) (c2 : Nat) (m : List UInt8) (w : World) (hin : InRow w ad l c) (hin2 : InRow w ad2 m c2) (hm1 : l.length ≤ maxLen) (hm2 : m.length ≤ maxLen) :
    Calls Try.prog 6 #[.slice ad l.length c, .slice ad2 m.length c2] w fun e w' => e = .returned (.bool true) ∧ Below w.heap.size w w' := by
  unfold maxLen at hm1 hm2
  have HIN := Lib.hid hin
  have HIN2 := Lib.hid hin2
  clear hin hin2
  by_cases hs : l.length ≤ 10000 ∧ m.length ≤ 1000
  · obtain ⟨hl, hm⟩ := hs
    have h1 : ¬ 10000 < l.length := by omega
    have h2 : ¬ 1000 < m.length := by omega
    go_enter Try.func6, Try.ntmps6
    go_wp2_with fail
    refine (answers_any _).mono ?_; rintro e w1 ⟨rfl, hb1⟩
    have HB1 := Lib.hid hb1
    have HIN1 := Lib.hid (HIN.out.below hb1)
    clear hb1
    go_wp2_with fail
    refine (escaped4_at true HIN1.out.rd hl).mono ?_; rintro e w3 ⟨rfl, hb3⟩
    have HB3 := Lib.hid (HB1.out.trans (hb3.mono HB1.out.size))
    have HIN3 := Lib.hid (HIN1.out.below hb3)
    clear hb3
    go_wp2_with fail
    refine (escaped4_at false HIN3.out.rd hl).mono ?_; rintro e w4 ⟨rfl, hb4⟩
    have HB4 := Lib.hid (HB3.out.trans (hb4.mono HB3.out.size))
    have HIN4 := Lib.hid (HIN3.out.below hb4)
    clear hb4
    go_wp2_with fail
    refine (hexed4_at HIN4.out.rd hl).mono ?_; rintro e w5 ⟨rfl, hb5⟩
    have HB5 := Lib.hid (HB4.out.trans (hb5.mono HB4.out.size))
    clear hb5
    have e0 : 40 :: (escS true l ++ [41]) = wayL l 0 := rfl
    have e1 : 40 :: (escS false l ++ [41]) = wayL l 1 := rfl
    have e2 : 60 :: (hexS 0 l ++ [62]) = wayL l 2 := rfl
    rw [e0, e1, e2]
    clear e0 e1 e2
    go_wp2_with fail
    go_loopw [6] (fun i wr => StrsRel l w w5.heap.size i wr) (fun i _ => 3 - (intOf i).toNat)
    case atStart => exact ⟨0, by omega, rfl, heap_alloc_new w5 _, HB5.out.alloc HB5.out.size _⟩
    case round =>
      obtain ⟨k, hk, rfl, hG, hb⟩ := hrel
      have HG := Lib.hid hG
      have HB := Lib.hid hb
      have hGlt := lt_of_some hG
      have HINr := Lib.hid (HIN.out.below hb)
      have HIN2r := Lib.hid (HIN2.out.below hb)
      clear hG hb
      by_cases hlt : k < 3
      · have hwc := ways_cell HG.out hlt
        obtain ⟨L1, L2, L3⟩ := way_len l k
        obtain ⟨cap, W2, hcv, a2, c4, W3, hap, hb3, hc4, hrd3⟩ := appended (W := wr) (l := wayL l k) (m := m) HIN2r.out (by omega) (by omega) 22
        have hnx := next_at (w := W3) (p := 0) (tk := tk0) hrd3 hc4 (by rw [List.length_append]; omega) (by omega) (fun c r e1 e2 => (way_head l ([wayE k] ++ m) k c r (by rw [← List.append_assoc]; exact e1) e2).elim)
        rw [List.drop_zero, way_nxt] at hnx
        obtain ⟨n, hn⟩ : ∃ n, n = (wayH l k).length := ⟨_, rfl⟩
        rw [← hn] at L1 L2 L3
        obtain ⟨A, hA⟩ : ∃ A : ByteArray, A = ⟨(wayL l k).toArray⟩ := ⟨_, rfl⟩
        have hAs : A.size = n + 1 := by rw [hA, size_mkS, L2]
        have ev : nextV (wayL l k ++ m) (.tok 6 0 l m) = .tuple #[tokV 6 0 l, .int .i64 ((n + 1 : Nat) : Int), .int .i64 0] := by
          show Value.tuple #[tokV 6 0 l, .int .i64 (((wayL l k ++ m).length - m.length : Nat) : Int), .int .i64 0] = _
          rw [List.length_append, L2, show n + 1 + m.length - m.length = n + 1 by omega]
        rw [← hA] at hwc hcv
        rw [L2] at hcv hap
        rw [List.length_append, L2] at hap hnx
        rw [ev] at hnx
        have HAP := Lib.hid hap
        have HNX := Lib.hid hnx
        have HRD3 := Lib.hid hrd3
        have HB3 := Lib.hid hb3
        have HA := Lib.hid hA
        have HN := Lib.hid hn
        have hc4' : n + 1 + m.length ≤ c4 := by rw [List.length_append, L2] at hc4; exact hc4
        clear ev hA hn hap hnx hrd3 hb3 L2 hc4
        go_wp2_with (at_builtin; refine wpList_append_run rfl (.tmp 42) (.tmp 43) 22 22 (.slice a2 (n + 1 + m.length) c4) rfl rfl _ _ rfl rfl HAP.out ?_)
        refine HNX.out.mono ?_; rintro e w6 ⟨rfl, hb6⟩
        unfold tokV
        have hb7 : Below wr.heap.size wr (w6.alloc (.cells #[.int .i64 6, .int .i64 0, .string ⟨l.toArray⟩] 25)) := (HB3.out.trans (hb6.mono HB3.out.size)).alloc (Nat.le_trans HB3.out.size hb6.size) _
        have hG6 : w6.heap[w5.heap.size]? = _ := ((HB3.out.trans (hb6.mono HB3.out.size)).block _ hGlt).trans HG.out
        have hwc6 := ways_cell hG6 hlt
        rw [← HA.out] at hwc6
        have hG6lt := lt_of_some hG6
        have hcs := conv_rd (c := c) (HINr.out.below hb7).rd
        have hn2 := next_at (w := w6.alloc (.cells #[.int .i64 6, .int .i64 0, .string ⟨l.toArray⟩] 25)) (cap := c4) (p := 0) (l := wayH l k) (tk := tk0) (ba := a2)
          (rd_prefix (y := [wayE k] ++ m) (by
            rw [← List.append_assoc]
            exact (HRD3.out.below (N := W3.heap.size) (hb6.alloc hb6.size _)).mono (Nat.le_trans hb6.size (by simp))))
          (by rw [← HN.out]; omega) (by rw [← HN.out]; omega) (by omega) (fun c r e1 e2 => (way_head l [] k c r (by rw [List.append_nil]; exact e1) e2).elim)
        rw [List.drop_zero, way_cut, ← HN.out] at hn2
        have HN2 := Lib.hid hn2
        have HB7 := Lib.hid hb7
        have HG7 := Lib.hid ((hb7.block _ hGlt).trans HG.out)
        clear hb6 hb7 hG6 hn2
        go_wp2_with fail
        refine HN2.out.mono ?_; rintro e w8 ⟨rfl, hb8⟩
        have HB8 := Lib.hid (HB7.out.trans (hb8.mono HB7.out.size))
        clear hb8
        unfold nextV tokV
        go_wp2_with fail
        go_roundw
        case rel => exact ⟨k + 1, by omega, by go_num, (Below.heap_alloc _ _ _ (by have := HB8.out.size; omega)).trans ((HB8.out.block _ hGlt).trans HG.out), (HB.out.trans (HB8.out.mono HB.out.size)).alloc (Nat.le_trans HB.out.size HB8.out.size) _⟩
        case measure => simp [intOf]; omega
      · go_wp2_with fail
        go_ret
        exact ⟨rfl, HB.out⟩
  · go_enter Try.func6, Try.ntmps6
    go_wp2_with fail
    refine (answers_any _).mono ?_; rintro e w1 ⟨rfl, hb1⟩
    have HB1 := Lib.hid hb1
    clear hb1
    by_cases h1 : l.length ≤ 10000
    · have h1' : ¬ 10000 < l.length := by omega
      have h2 : 1000 < m.length := by omega
      clear hs
      go_wp2_with fail
      refine (answers_any _).mono ?_; rintro e w2 ⟨rfl, hb2⟩
      go_wp2_with fail
      go_ret
      exact ⟨rfl, HB1.out.trans (hb2.mono HB1.out.size)⟩
    · have h2 : 10000 < l.length := by omega
      clear hs
      go_wp2_with fail
      refine (answers_any _).mono ?_; rintro e w2 ⟨rfl, hb2⟩
      go_wp2_with fail
      go_ret
      exact ⟨rfl, HB1.out.trans (hb2.mono HB1.out.size)⟩
end Go.Proofs.Ytaebpjcigajolaa
