/-
  A string in pointed brackets as the law writes it.
-/
import Derived.Test.YtaebpjcigajolaaScanEsc
import Derived.Deep.DeepCutAuto
namespace Go.Proofs.Ytaebpjcigajolaa
open Go.RowKit
open Sc
namespace Sc
def digs : List UInt8 := [48, 49, 50, 51, 52, 53, 54, 55, 56, 57, 97, 98, 99, 100, 101, 102, 65, 66, 67, 68, 69, 70]
def dig (k : Nat) : UInt8 := digs.getD k 0
def hexB (i : Nat) (c : UInt8) : List UInt8 := dig (c.toNat / 16) :: dig (c.toNat % 16) :: (if i % 7 = 3 then [10] else [])
def hexS : Nat → List UInt8 → List UInt8
  | _, [] => []
  | i, c :: s => hexB i c ++ hexS (i + 1) s
theorem hexS_app (a b : List UInt8) : ∀ i, hexS i (a ++ b) = hexS i a ++ hexS (i + a.length) b := by
  induction a with
  | nil => intro i; rfl
  | cons c a ih => intro i; simp [hexS, ih, Nat.add_assoc, Nat.add_comm 1]
theorem hexB_len (i : Nat) (c : UInt8) : (hexB i c).length ≤ 3 := by unfold hexB; split <;> simp
theorem hexS_len (s : List UInt8) : ∀ i, (hexS i s).length ≤ 3 * s.length := by
  induction s with
  | nil => intro i; simp [hexS]
  | cons c s ih => intro i; have := hexB_len i c; have := ih (i + 1); simp [hexS]; omega
theorem dig_all : ∀ k : Fin 16, dig k.val ≠ 62 ∧ blnk (dig k.val) = false ∧ hexd (dig k.val) = some (UInt8.ofNat k.val) := by decide +kernel
theorem dig_of {k : Nat} (h : k < 16) : dig k ≠ 62 ∧ blnk (dig k) = false ∧ hexd (dig k) = some (UInt8.ofNat k) := dig_all ⟨k, h⟩
theorem two_all : ∀ n : Fin 256, UInt8.ofNat (n.val / 16) * 16 + UInt8.ofNat (n.val % 16) = UInt8.ofNat n.val := by decide +kernel
theorem hx_hexB (i : Nat) (c : UInt8) (r : List UInt8) : hx none (hexB i c ++ r) = (hx none r).map fun y => (c :: y.1, y.2) := by
  have hc := UInt8.toNat_lt c
  obtain ⟨a1, a2, a3⟩ := dig_of (k := c.toNat / 16) (by omega)
  obtain ⟨b1, b2, b3⟩ := dig_of (k := c.toNat % 16) (by omega)
  have h2 := two_all ⟨c.toNat, hc⟩
  have e : UInt8.ofNat c.toNat = c := by simp
  simp only [e] at h2
  have hnl : hx none ((if i % 7 = 3 then [10] else []) ++ r) = hx none r := by
    split
    · show hx none (10 :: r) = _
      rw [hx, if_neg (by decide), if_pos (by decide)]
    · rfl
  show hx none (dig (c.toNat / 16) :: dig (c.toNat % 16) :: ((if i % 7 = 3 then [10] else []) ++ r)) = _
  rw [hx, if_neg a1, if_neg (by simp [a2]), if_neg (by rw [a3]; simp), if_pos (show (none : Option UInt8).isNone = true from rfl), a3]
  rw [hx, if_neg b1, if_neg (by simp [b2]), if_neg (by rw [b3]; simp), if_neg (by simp), b3, hnl]
  simp only [Option.getD_some, h2]
theorem hx_hexS (s r : List UInt8) : ∀ i, hx none (hexS i s ++ r) = (hx none r).map fun y => (s ++ y.1, y.2) := by
  induction s with
  | nil => intro i; show hx none r = _; cases hx none r <;> simp
  | cons c s ih =>
    intro i
    have e : hexS i (c :: s) ++ r = hexB i c ++ (hexS (i + 1) s ++ r) := by simp [hexS]
    rw [e, hx_hexB, ih]
    cases hx none r <;> simp
end Sc
theorem step_append_ownS {P : Program} {ops : Array Oper} {o : Oper} {a : Act} {w : World} {K : Act → World → Prop} {Q : Exit → Act → World → Prop} {E : Prop}
    (hg : o.guard = none) (s x : Operand) (t : TypeId) (hop : o.op = Op.call { callee := Callee.builtin Builtin.append, args := #[s, x], argTypes := #[t, t] })
    (base : Nat) (e : TypeId) (i : TypeInfo) (z : Value) (size bytes : Nat) (ht : P.underlying t = some (.slice e)) (hi : P.info? e = some i) (hz : i.zero = some z)
    (hsize : i.size = size) (hby : i.bytes = bytes) (hzs : z.cells.size = size) (hsz : 0 < size)
    (v : Value) (n : Nat) (xs : List Value) (hs : a.eval s = v) (hown : w.ownsRow base e size v n xs)
    (ad : Addr) (m c : Nat) (news : List Value) (hx : a.eval x = .slice (some ad) m c) (hl : news.length = m * size) (hnews : ∀ j u, news[j]? = some u → w.cell? (ad.add j) = some u) (h1 : ∀ u ∈ news, u.oneCell' = true)
    (h63 : n + m ≤ maxLen) (hbytes : (n + m) * bytes ≤ 140737488355328) (hbase : base ≤ w.heap.size)
    (h : ∀ v' w', w'.ownsRow base e size v' (n + m) (xs ++ news) → w.grownBy w' v.ownBlock → K (a.put o.dst v') w') :
    if Region.wanted o (yielded ops a.tmps) = true then Oper.wp P o a w K Q else E := by
  have hw : Region.wanted o (yielded ops a.tmps) = true := by simp [Region.wanted, hg]
  rw [if_pos hw]
  exact wp_append_own w s x t hop base e i z size bytes ht hi hz hsize hby hzs hsz v n xs hs hown ad m c news hx hl hnews h1 h63 hbytes hbase fun v' w' h2 h3 _ => h v' w' h2 h3
theorem digD {D : ByteArray} (hD : (⟨#[48, 49, 50, 51, 52, 53, 54, 55, 56, 57, 97, 98, 99, 100, 101, 102, 65, 66, 67, 68, 69, 70]⟩ : ByteArray) = D) (n : Nat) (h : n < D.size) (h2 : n < 22) : D[n] = dig n := by
  subst hD
  have : ∀ k : Fin 22, (⟨#[48, 49, 50, 51, 52, 53, 54, 55, 56, 57, 97, 98, 99, 100, 101, 102, 65, 66, 67, 68, 69, 70]⟩ : ByteArray)[k.val]'(by have := k.isLt; exact this) = dig k.val := by decide +kernel
  exact this ⟨n, h2⟩
theorem two_one (a b : Int) : ∀ u ∈ [Value.int .u8 a, .int .u8 b], u.oneCell' = true := by
  intro u hu
  simp at hu
  rcases hu with rfl | rfl <;> rfl
def HexdRel (l : List UInt8) (w : World) (v i : Value) (wr : World) : Prop :=
  ∃ k : Nat, k ≤ l.length ∧ i = .int .i64 k ∧ wr.ownsRow w.heap.size 5 1 v (60 :: hexS 0 (l.take k)).length ((60 :: hexS 0 (l.take k)).map bv) ∧ Below w.heap.size w wr
set_option maxRecDepth 100000 in
set_option maxHeartbeats 1000000 in
theorem hexed4_at {w : World} {cap : Nat} {ba : Option Addr} {l : List UInt8} (hrd : RdB w w.heap.size ba l) (hl : l.length ≤ 10000) :
    Calls Try.prog 17 #[.slice ba l.length cap] w fun e w' => e = .returned (.string ⟨(60 :: (hexS 0 l ++ [62])).toArray⟩) ∧ Below w.heap.size w w' := by
  have HR := Lib.hid hrd
  obtain ⟨i0, hi, hz0, hz1, hz2⟩ := info_parts u8_infoS
  have HI := Lib.hid (And.intro hi (And.intro hz0 (And.intro hz1 hz2)))
  have HO1 := Lib.hid (own_one w 60)
  clear hrd hi hz0 hz1 hz2
  obtain ⟨D, hD⟩ : ∃ D : ByteArray, (⟨#[48, 49, 50, 51, 52, 53, 54, 55, 56, 57, 97, 98, 99, 100, 101, 102, 65, 66, 67, 68, 69, 70]⟩ : ByteArray) = D := ⟨_, rfl⟩
  have hDs : D.size = 22 := by rw [← hD]; rfl
  have HDD := Lib.hid hD
  clear hD
  go_enter Try.func17, Try.ntmps17
  go_upto_region 1 with fail
  go_cut [3] (fun s3 wx => s3 = .string D ∧ wx = w)
  case first =>
    go_wp2_with fail
    go_meet
    exact ⟨by rw [← HDD.out], rfl⟩
  case rest =>
  obtain ⟨rfl, hwx⟩ := hcut
  obtain rfl : w = _ := hwx.symm
  go_wp2_with fail
  go_loopw [4, 5] (fun v i wr => HexdRel l w v i wr) (fun _ i _ => l.length - (intOf i).toNat)
  case atStart => exact ⟨0, Nat.zero_le _, rfl, HO1.out, (Below.refl _ _).alloc (Nat.le_refl _) _⟩
  case round =>
    obtain ⟨k, hk, rfl, hown, hb⟩ := hrel
    have HO := Lib.hid hown
    have HB := Lib.hid hb
    have hsz := hb.size
    have hel := hexS_len (l.take k) 0
    have htk : (l.take k).length = k := by simp; omega
    rw [htk] at hel
    have hcl : (60 :: hexS 0 (l.take k)).length ≤ 3 * k + 1 := by simp; omega
    by_cases hlt : k < l.length
    · obtain ⟨c, hc⟩ : ∃ c, l[k]? = some c := ⟨_, List.getElem?_eq_getElem hlt⟩
      obtain ⟨b, off, rfl, hbN, hcell⟩ := (HR.out.below hb) k c hc
      have HTK := Lib.hid (take_next hc)
      clear hown hb hc
      have hclt : c.toNat < 256 := UInt8.toNat_lt c
      obtain ⟨n1, hn1⟩ : ∃ n, n = c.toNat / 16 := ⟨_, rfl⟩
      obtain ⟨n2, hn2⟩ : ∃ n, n = c.toNat % 16 := ⟨_, rfl⟩
      have w1 : IntKind.u8.wrap ((c.toNat : Int) / 16) = (n1 : Int) := by rw [IntKind.wrap_u8]; omega
      have w2 : ((c.toNat : Int)).tmod 16 = (n2 : Int) := by rw [Int.tmod_eq_emod_of_nonneg (by omega)]; omega
      have i3 : (0 : Int) ≤ (n2 : Int) := by omega
      have l1 : n1 < 16 := by omega
      have l2 : n2 < 16 := by omega
      have i1 : (n1 : Int) < 22 := by omega
      have i2 : (n2 : Int) < 22 := by omega
      have s1 : n1 < D.size := by rw [hDs]; omega
      have s2 : n2 < D.size := by rw [hDs]; omega
      have hD1 : D[n1]'s1 = dig n1 := digD HDD.out n1 s1 (by omega)
      have hD2 : D[n2]'s2 = dig n2 := digD HDD.out n2 s2 (by omega)
      obtain ⟨d1, hd1⟩ : ∃ d, dig n1 = d := ⟨_, rfl⟩
      obtain ⟨d2, hd2⟩ : ∃ d, dig n2 = d := ⟨_, rfl⟩
      rw [hd1] at hD1
      rw [hd2] at hD2
      have HD1 := Lib.hid (show dig (c.toNat / 16) = d1 by rw [← hn1]; exact hd1)
      have HD2 := Lib.hid (show dig (c.toNat % 16) = d2 by rw [← hn2]; exact hd2)
      clear hd1 hd2 hn1 hn2
      go_wp2_with fail
      go_region_law ((refine step_append_ownS rfl (.tmp 13) (.tmp 28) 22 rfl w.heap.size 5 i0 (.int .u8 0) 1 1 Try.underlying22 HI.out.1 HI.out.2.1 HI.out.2.2.1 HI.out.2.2.2 rfl (by decide) _ _ _ rfl ((HO.out.alloc _).drew) ⟨wr.heap.size, 0, none⟩ 2 2 [.int .u8 d1.toNat, .int .u8 d2.toNat] rfl rfl (src_litS _ _ _) (two_one _ _) (by unfold maxLen; omega) (by omega) (by simp; omega) ?_; intro v2 w3 hown2 hgr))
      all_goals
        have hb3 : Below w.heap.size w w3 := ((HB.out.alloc HB.out.size _).drew).grown hgr (by simp; omega) (fun k hk => (HO.out.lt k hk).1)
        obtain ⟨X, hX⟩ : ∃ X, X = (60 :: hexS 0 (l.take k)) ++ [d1, d2] := ⟨_, rfl⟩
        have hown3 : w3.ownsRow w.heap.size 5 1 v2 X.length (X.map bv) := by
          rw [hX, List.length_append, List.map_append]; exact hown2
        have HO3 := Lib.hid hown3
        have HB3 := Lib.hid hb3
        have hs3 := hb3.size
        have hcl3 : X.length ≤ 3 * k + 3 := by rw [hX]; simp; simp at hcl; omega
        have e1 : 60 :: hexS 0 (l.take (k + 1)) = X ++ (if k % 7 = 3 then [10] else []) := by
          rw [hX, HTK.out, hexS_app, htk, Nat.zero_add]
          simp [hexS, hexB, HD1.out, HD2.out]
        have HE1 := Lib.hid e1
        clear hown2 hgr hb3 hown3 e1 hX
        by_cases h7 : k % 7 = 3
        · rw [if_pos h7] at HE1
          have h7a : (((k : Int)).tmod 7 == 3) = true := by rw [Int.tmod_eq_emod_of_nonneg (by omega)]; simp; omega
          have h7b : ((k : Int) % 7 == 3) = true := by simp; omega
          clear h7
          go_wp2_with (at_builtin; refine wpList_append_own _ rfl (.tmp 33) (.tmp 34) 22 rfl w.heap.size 5 i0 (.int .u8 0) 1 1 Try.underlying22 HI.out.1 HI.out.2.1 HI.out.2.2.1 HI.out.2.2.2 rfl (by decide) _ _ _ rfl (HO3.out.alloc _) ⟨w3.heap.size, 0, none⟩ 1 1 [.int .u8 10] rfl rfl (src_oneS _ _ _) (one_u8S _) (by unfold maxLen; omega) (by omega) (by simp; omega) ?_)
          intro v4 w4 hown4 hgr4 _
          have hb4 : Below w.heap.size w w4 := (HB3.out.alloc HB3.out.size _).grown hgr4 (by simp; omega) (fun k hk => (HO3.out.lt k hk).1)
          have HO4 : Hid (w4.ownsRow w.heap.size 5 1 v4 (60 :: hexS 0 (l.take (k + 1))).length ((60 :: hexS 0 (l.take (k + 1))).map bv)) := by
            rw [HE1.out, List.length_append, List.map_append]; exact hown4
          have HB4 := Lib.hid hb4
          clear hown4 hgr4 hb4
          go_wp2_with fail
          go_roundw
          case rel => exact ⟨k + 1, by omega, by go_num, HO4.out, HB4.out⟩
          case measure => simp [intOf]; omega
        · rw [if_neg h7, List.append_nil] at HE1
          have h7a : (((k : Int)).tmod 7 == 3) = false := by rw [Int.tmod_eq_emod_of_nonneg (by omega)]; simp; omega
          have h7b : ((k : Int) % 7 == 3) = false := by simp; omega
          clear h7
          go_wp2_with fail
          go_roundw
          case rel => exact ⟨k + 1, by omega, by go_num, by rw [HE1.out]; exact HO3.out, HB3.out⟩
          case measure => simp [intOf]; omega
    · have HN := Lib.hid (show l.take k = l by rw [List.take_of_length_le (by omega)])
      go_wp2_with (at_builtin; refine wpList_append_own _ rfl (.tmp 36) (.tmp 37) 22 rfl w.heap.size 5 i0 (.int .u8 0) 1 1 Try.underlying22 HI.out.1 HI.out.2.1 HI.out.2.2.1 HI.out.2.2.2 rfl (by decide) _ _ _ rfl (HO.out.alloc _) ⟨wr.heap.size, 0, none⟩ 1 1 [.int .u8 62] rfl rfl (src_oneS _ _ _) (one_u8S _) (by unfold maxLen; omega) (by omega) (by simp; omega) ?_)
      intro v2 w3 hown2 hgr _
      have hb3 : Below w.heap.size w w3 := (HB.out.alloc HB.out.size _).grown hgr (by simp; omega) (fun k hk => (HO.out.lt k hk).1)
      obtain ⟨t, ht⟩ : ∃ t, t = 60 :: (hexS 0 l ++ [62]) := ⟨_, rfl⟩
      have hown3 : w3.ownsRow w.heap.size 5 1 v2 t.length (t.map bv) := by
        have e1 : t = (60 :: hexS 0 (l.take k)) ++ [62] := by rw [ht, HN.out]; simp
        rw [e1, List.length_append, List.map_append]; exact hown2
      obtain ⟨va, vc, rfl⟩ := owns_shape hown3
      have hcv := conv_owned hown3
      have HB3 := Lib.hid hb3
      have HTt := Lib.hid ht
      clear hown2 hgr hb3 hown3 ht
      go_wp2_with fail
      go_ret
      refine ⟨?_, HB3.out⟩
      rw [← HTt.out]; rfl
end Go.Proofs.Ytaebpjcigajolaa
