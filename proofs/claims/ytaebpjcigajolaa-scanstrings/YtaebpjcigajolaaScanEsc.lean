/-
  A string in round brackets, each byte by a number or as it is, and a string in pointed brackets, as the law writes them.
-/
import Derived.Test.YtaebpjcigajolaaScanRow
import Derived.ArgAppend
import Derived.Deep.RegionLaw
namespace Go.Proofs.Ytaebpjcigajolaa
open Go.RowKit
open Sc
namespace Sc
/-- a byte that stands as it is -/
def asIs (pl : Bool) (c : UInt8) : Bool := pl && !(c == 40 || c == 41 || c == 92 || c == 13)
def oc1 (c : UInt8) : UInt8 := 48 + c / 64
def oc2 (c : UInt8) : UInt8 := 48 + c / 8 % 8
def oc3 (c : UInt8) : UInt8 := 48 + c % 8
def escB (pl : Bool) (c : UInt8) : List UInt8 := if asIs pl c then [c] else [92, oc1 c, oc2 c, oc3 c]
def escS (pl : Bool) : List UInt8 → List UInt8
  | [] => []
  | c :: s => escB pl c ++ escS pl s
theorem escS_app (pl : Bool) (a b : List UInt8) : escS pl (a ++ b) = escS pl a ++ escS pl b := by
  induction a with
  | nil => rfl
  | cons c a ih => simp [escS, ih]
theorem escB_len (pl : Bool) (c : UInt8) : (escB pl c).length ≤ 4 ∧ 1 ≤ (escB pl c).length := by unfold escB; split <;> simp
theorem escS_len (pl : Bool) (s : List UInt8) : (escS pl s).length ≤ 4 * s.length := by
  induction s with
  | nil => simp [escS]
  | cons c s ih => have := (escB_len pl c).1; simp [escS]; omega
theorem oct_all : ∀ n : Fin 256, (oc1 (UInt8.ofNat n.val) ≠ 110 ∧ oc1 (UInt8.ofNat n.val) ≠ 114 ∧ oc1 (UInt8.ofNat n.val) ≠ 116 ∧ oc1 (UInt8.ofNat n.val) ≠ 98 ∧ oc1 (UInt8.ofNat n.val) ≠ 102 ∧ oc1 (UInt8.ofNat n.val) ≠ 10 ∧ oc1 (UInt8.ofNat n.val) ≠ 13) ∧
    isOct (oc1 (UInt8.ofNat n.val)) = true ∧ isOct (oc2 (UInt8.ofNat n.val)) = true ∧ isOct (oc3 (UInt8.ofNat n.val)) = true ∧
    (((oc1 (UInt8.ofNat n.val) - 48) * 8 + (oc2 (UInt8.ofNat n.val) - 48)) * 8 + (oc3 (UInt8.ofNat n.val) - 48)) = UInt8.ofNat n.val := by decide +kernel
theorem oct_of (c : UInt8) : (oc1 c ≠ 110 ∧ oc1 c ≠ 114 ∧ oc1 c ≠ 116 ∧ oc1 c ≠ 98 ∧ oc1 c ≠ 102 ∧ oc1 c ≠ 10 ∧ oc1 c ≠ 13) ∧ isOct (oc1 c) = true ∧ isOct (oc2 c) = true ∧ isOct (oc3 c) = true ∧ (((oc1 c - 48) * 8 + (oc2 c - 48)) * 8 + (oc3 c - 48)) = c := by
  have h := oct_all ⟨c.toNat, UInt8.toNat_lt c⟩
  have e : UInt8.ofNat c.toNat = c := by simp
  simp only [e] at h
  exact h
theorem stp_escB (pl : Bool) (c : UInt8) (r : List UInt8) : stp 1 (escB pl c ++ r) = .go 1 [c] r := by
  unfold escB
  split
  · rename_i h
    unfold asIs at h
    simp only [Bool.and_eq_true, Bool.not_eq_true', Bool.or_eq_false_iff, beq_eq_false_iff_ne, ne_eq] at h
    obtain ⟨_, ⟨⟨h1, h2⟩, h3⟩, h4⟩ := h
    show stp 1 (c :: r) = _
    rw [stp, if_neg h1, if_neg h2, if_neg h4, if_neg h3]
  · obtain ⟨⟨n1, n2, n3, n4, n5, n6, n7⟩, o1, o2, o3, ev⟩ := oct_of c
    show stp 1 (92 :: oc1 c :: oc2 c :: oc3 c :: r) = _
    have he : esc (oc1 c :: oc2 c :: oc3 c :: r) = some ([c], r) := by
      rw [esc, if_neg n1, if_neg n2, if_neg n3, if_neg n4, if_neg n5, if_neg n6, if_neg n7, if_pos o1, oct_step o2, oct_step o3]
      show some ([_], r) = _
      rw [show (oct 0 (((oc1 c - 48) * 8 + (oc2 c - 48)) * 8 + (oc3 c - 48)) r).1 = c from ev]
    rw [stp, if_neg (by decide), if_neg (by decide), if_neg (by decide), if_pos rfl, he]
theorem rnd_escS (pl : Bool) (s r : List UInt8) : rnd 1 (escS pl s ++ r) = (rnd 1 r).map fun x => (s ++ x.1, x.2) := by
  induction s with
  | nil => show rnd 1 r = _; cases rnd 1 r <;> simp
  | cons c s ih =>
    have e : escS pl (c :: s) ++ r = escB pl c ++ (escS pl s ++ r) := by simp [escS]
    rw [e, rnd_go (stp_escB pl c _), ih]
    cases rnd 1 r <;> simp
end Sc
theorem src_litS (W : World) (cs : List Value) (t : TypeId) : ∀ j u, cs[j]? = some u → (W.alloc (.cells cs.toArray t)).cell? ((⟨W.heap.size, 0, none⟩ : Addr).add j) = some u := by
  intro j u hj
  have hh := heap_alloc_new W (.cells cs.toArray t)
  have ea : (⟨W.heap.size, 0, none⟩ : Addr).add j = ⟨W.heap.size, j, none⟩ := by
    by_cases h0 : j = 0
    · subst h0; rfl
    · simp [Addr.add, h0]
  rw [ea, cell_of_row _ W.heap.size j _ _ _ hh]
  simpa using hj
theorem four_one (a b c d : Int) : ∀ u ∈ [Value.int .u8 a, .int .u8 b, .int .u8 c, .int .u8 d], u.oneCell' = true := by
  intro u hu
  simp at hu
  rcases hu with rfl | rfl | rfl | rfl <;> rfl
theorem oc_all : ∀ n : Fin 256, ((oc1 (UInt8.ofNat n.val)).toNat : Int) = 48 + (n.val : Int) / 64 ∧ ((oc2 (UInt8.ofNat n.val)).toNat : Int) = 48 + (n.val : Int) / 8 % 8 ∧ ((oc3 (UInt8.ofNat n.val)).toNat : Int) = 48 + (n.val : Int) % 8 := by decide +kernel
theorem news4 (c : UInt8) : [92, oc1 c, oc2 c, oc3 c].map bv = [.int .u8 92, .int .u8 (48 + (c.toNat : Int) / 64), .int .u8 (48 + (c.toNat : Int) / 8 % 8), .int .u8 (48 + (c.toNat : Int) % 8)] := by
  have h := oc_all ⟨c.toNat, UInt8.toNat_lt c⟩
  have e : UInt8.ofNat c.toNat = c := by simp
  simp only [e] at h
  simp only [List.map_cons, List.map_nil, bv, h.1, h.2.1, h.2.2]
  rfl
def EscRel (pl : Bool) (l : List UInt8) (w : World) (v i : Value) (wr : World) : Prop :=
  ∃ k : Nat, k ≤ l.length ∧ i = .int .i64 k ∧ wr.ownsRow w.heap.size 5 1 v (40 :: escS pl (l.take k)).length ((40 :: escS pl (l.take k)).map bv) ∧ Below w.heap.size w wr
theorem take_next {l : List UInt8} {k : Nat} {c : UInt8} (h : l[k]? = some c) : l.take (k + 1) = l.take k ++ [c] := by
  rw [List.take_add_one, h]; rfl
theorem own_one (w : World) (c : UInt8) : (w.alloc (.cells #[.int .u8 c.toNat] 5)).ownsRow w.heap.size 5 1 (.slice (some ⟨w.heap.size, 0, none⟩) 1 1) [c].length ([c].map bv) :=
  World.ownsRow_lit (base := w.heap.size) (e := 5) (size := 1) w #[.int .u8 c.toNat] 1 (Nat.le_refl _) (by unfold maxLen; omega) rfl
set_option maxHeartbeats 1000000 in
set_option maxRecDepth 100000 in
theorem escaped4_at {w : World} {cap : Nat} {ba : Option Addr} {l : List UInt8} (pl : Bool) (hrd : RdB w w.heap.size ba l) (hl : l.length ≤ 10000) :
    Calls Try.prog 16 #[.slice ba l.length cap, .bool pl] w fun e w' => e = .returned (.string ⟨(40 :: (escS pl l ++ [41])).toArray⟩) ∧ Below w.heap.size w w' := by
  have HR := Lib.hid hrd
  obtain ⟨i0, hi, hz0, hz1, hz2⟩ := info_parts u8_infoS
  have HI := Lib.hid (And.intro hi (And.intro hz0 (And.intro hz1 hz2)))
  have hO1 := own_one w 40
  have HO1 := Lib.hid hO1
  clear hrd hi hz0 hz1 hz2 hO1
  go_enter Try.func16, Try.ntmps16
  go_wp2_with fail
  go_loopw [5, 6] (fun v i wr => EscRel pl l w v i wr) (fun _ i _ => l.length - (intOf i).toNat)
  case atStart => exact ⟨0, Nat.zero_le _, rfl, HO1.out, (Below.refl _ _).alloc (Nat.le_refl _) _⟩
  case round =>
    obtain ⟨k, hk, rfl, hown, hb⟩ := hrel
    have HO := Lib.hid hown
    have HB := Lib.hid hb
    have hsz := hb.size
    have hel := escS_len pl (l.take k)
    have htk : (l.take k).length = k := by simp; omega
    rw [htk] at hel
    have hcl : (40 :: escS pl (l.take k)).length ≤ 4 * k + 1 := by simp; omega
    by_cases hlt : k < l.length
    · obtain ⟨c, hc⟩ : ∃ c, l[k]? = some c := ⟨_, List.getElem?_eq_getElem hlt⟩
      obtain ⟨b, off, rfl, hbN, hcell⟩ := (HR.out.below hb) k c hc
      have HTK := Lib.hid (take_next hc)
      clear hown hb hc
      have hclt : c.toNat < 256 := UInt8.toNat_lt c
      cases ha : asIs pl c with
      | true =>
        have HE := Lib.hid (show escB pl c = [c] by unfold escB; rw [if_pos ha])
        unfold asIs at ha
        simp only [Bool.and_eq_true, Bool.not_eq_true', Bool.or_eq_false_iff, beq_nat, decide_eq_false_iff_not] at ha
        obtain ⟨hpl, ⟨⟨h1, h2⟩, h3⟩, h4⟩ := ha
        subst hpl
        have b1 : ((c.toNat : Int) != 40) = true := by have := beqF (c := c) (k := 40) h1; simpa [bne] using this
        have b2 : ((c.toNat : Int) != 41) = true := by have := beqF (c := c) (k := 41) h2; simpa [bne] using this
        have b3 : ((c.toNat : Int) != 92) = true := by have := beqF (c := c) (k := 92) h3; simpa [bne] using this
        have b4 : ((c.toNat : Int) != 13) = true := by have := beqF (c := c) (k := 13) h4; simpa [bne] using this
        clear h1 h2 h3 h4
        go_wp2_with (at_builtin; refine wpList_append_own _ rfl (.tmp 36) (.tmp 38) 22 rfl w.heap.size 5 i0 (.int .u8 0) 1 1 Try.underlying22 HI.out.1 HI.out.2.1 HI.out.2.2.1 HI.out.2.2.2 rfl (by decide) _ _ _ rfl (HO.out.alloc _) ⟨wr.heap.size, 0, none⟩ 1 1 [.int .u8 c.toNat] rfl rfl (src_oneS _ _ _) (one_u8S _) (by unfold maxLen; omega) (by omega) (by simp; omega) ?_)
        intro v2 w3 hown2 hgr _
        have hb3 : Below w.heap.size w w3 := (HB.out.alloc HB.out.size _).grown hgr (by simp; omega) (fun k hk => (HO.out.lt k hk).1)
        have e1 : 40 :: escS true (l.take (k + 1)) = (40 :: escS true (l.take k)) ++ [c] := by rw [HTK.out, escS_app]; simp [escS, HE.out]
        have HO2 : Hid (w3.ownsRow w.heap.size 5 1 v2 (40 :: escS true (l.take (k + 1))).length ((40 :: escS true (l.take (k + 1))).map bv)) := by
          rw [e1, List.length_append, List.map_append]; exact hown2
        have HB3 := Lib.hid hb3
        clear hown2 hgr hb3 e1
        go_wp2_with fail
        go_roundw
        case rel => exact ⟨k + 1, by omega, by go_num, HO2.out, HB3.out⟩
        case measure => simp [intOf]; omega
      | false =>
        have HE := Lib.hid (show escB pl c = [92, oc1 c, oc2 c, oc3 c] by unfold escB; rw [if_neg (by simp [ha])])
        cases pl with
        | false =>
          clear ha
          go_wp2_with (at_builtin; refine wpList_append_own _ rfl (.tmp 40) (.tmp 51) 22 rfl w.heap.size 5 i0 (.int .u8 0) 1 1 Try.underlying22 HI.out.1 HI.out.2.1 HI.out.2.2.1 HI.out.2.2.2 rfl (by decide) _ _ _ rfl (HO.out.alloc _) ⟨wr.heap.size, 0, none⟩ 4 4 [.int .u8 92, .int .u8 (48 + (c.toNat : Int) / 64), .int .u8 (48 + (c.toNat : Int) / 8 % 8), .int .u8 (48 + (c.toNat : Int) % 8)] rfl rfl (src_litS _ _ _) (four_one _ _ _ _) (by unfold maxLen; omega) (by omega) (by simp; omega) ?_)
          intro v2 w3 hown2 hgr _
          have hb3 : Below w.heap.size w w3 := (HB.out.alloc HB.out.size _).grown hgr (by simp; omega) (fun k hk => (HO.out.lt k hk).1)
          have e1 : 40 :: escS false (l.take (k + 1)) = (40 :: escS false (l.take k)) ++ [92, oc1 c, oc2 c, oc3 c] := by rw [HTK.out, escS_app]; simp [escS, HE.out]
          have HO2 : Hid (w3.ownsRow w.heap.size 5 1 v2 (40 :: escS false (l.take (k + 1))).length ((40 :: escS false (l.take (k + 1))).map bv)) := by
            rw [e1, List.length_append, List.map_append, news4]; exact hown2
          have HB3 := Lib.hid hb3
          clear hown2 hgr hb3 e1
          go_wp2_with fail
          go_roundw
          case rel => exact ⟨k + 1, by omega, by go_num, HO2.out, HB3.out⟩
          case measure => simp [intOf]; omega
        | true =>
          have hsp : c.toNat = 40 ∨ c.toNat = 41 ∨ c.toNat = 92 ∨ c.toNat = 13 := by
            unfold asIs at ha
            simp only [beq_nat] at ha
            have e1 : (40 : UInt8).toNat = 40 := rfl
            have e2 : (41 : UInt8).toNat = 41 := rfl
            have e3 : (92 : UInt8).toNat = 92 := rfl
            have e4 : (13 : UInt8).toNat = 13 := rfl
            rw [e1, e2, e3, e4] at ha
            simp at ha
            omega
          clear ha
          rcases hsp with h | h | h | h
          · have b0 : ((c.toNat : Int) != 40) = false := by simp [h]
            clear h
            go_wp2_with (at_builtin; refine wpList_append_own _ rfl (.tmp 40) (.tmp 51) 22 rfl w.heap.size 5 i0 (.int .u8 0) 1 1 Try.underlying22 HI.out.1 HI.out.2.1 HI.out.2.2.1 HI.out.2.2.2 rfl (by decide) _ _ _ rfl (HO.out.alloc _) ⟨wr.heap.size, 0, none⟩ 4 4 [.int .u8 92, .int .u8 (48 + (c.toNat : Int) / 64), .int .u8 (48 + (c.toNat : Int) / 8 % 8), .int .u8 (48 + (c.toNat : Int) % 8)] rfl rfl (src_litS _ _ _) (four_one _ _ _ _) (by unfold maxLen; omega) (by omega) (by simp; omega) ?_)
            intro v2 w3 hown2 hgr _
            have hb3 : Below w.heap.size w w3 := (HB.out.alloc HB.out.size _).grown hgr (by simp; omega) (fun k hk => (HO.out.lt k hk).1)
            have e1 : 40 :: escS true (l.take (k + 1)) = (40 :: escS true (l.take k)) ++ [92, oc1 c, oc2 c, oc3 c] := by rw [HTK.out, escS_app]; simp [escS, HE.out]
            have HO2 : Hid (w3.ownsRow w.heap.size 5 1 v2 (40 :: escS true (l.take (k + 1))).length ((40 :: escS true (l.take (k + 1))).map bv)) := by
              rw [e1, List.length_append, List.map_append, news4]; exact hown2
            have HB3 := Lib.hid hb3
            clear hown2 hgr hb3 e1
            go_wp2_with fail
            go_roundw
            case rel => exact ⟨k + 1, by omega, by go_num, HO2.out, HB3.out⟩
            case measure => simp [intOf]; omega
          · have b0 : ((c.toNat : Int) != 40) = true := by have := beqF (c := c) (k := 40) (by omega); simpa [bne] using this
            have b1 : ((c.toNat : Int) != 41) = false := by simp [h]
            clear h
            go_wp2_with (at_builtin; refine wpList_append_own _ rfl (.tmp 40) (.tmp 51) 22 rfl w.heap.size 5 i0 (.int .u8 0) 1 1 Try.underlying22 HI.out.1 HI.out.2.1 HI.out.2.2.1 HI.out.2.2.2 rfl (by decide) _ _ _ rfl (HO.out.alloc _) ⟨wr.heap.size, 0, none⟩ 4 4 [.int .u8 92, .int .u8 (48 + (c.toNat : Int) / 64), .int .u8 (48 + (c.toNat : Int) / 8 % 8), .int .u8 (48 + (c.toNat : Int) % 8)] rfl rfl (src_litS _ _ _) (four_one _ _ _ _) (by unfold maxLen; omega) (by omega) (by simp; omega) ?_)
            intro v2 w3 hown2 hgr _
            have hb3 : Below w.heap.size w w3 := (HB.out.alloc HB.out.size _).grown hgr (by simp; omega) (fun k hk => (HO.out.lt k hk).1)
            have e1 : 40 :: escS true (l.take (k + 1)) = (40 :: escS true (l.take k)) ++ [92, oc1 c, oc2 c, oc3 c] := by rw [HTK.out, escS_app]; simp [escS, HE.out]
            have HO2 : Hid (w3.ownsRow w.heap.size 5 1 v2 (40 :: escS true (l.take (k + 1))).length ((40 :: escS true (l.take (k + 1))).map bv)) := by
              rw [e1, List.length_append, List.map_append, news4]; exact hown2
            have HB3 := Lib.hid hb3
            clear hown2 hgr hb3 e1
            go_wp2_with fail
            go_roundw
            case rel => exact ⟨k + 1, by omega, by go_num, HO2.out, HB3.out⟩
            case measure => simp [intOf]; omega
          · have b0 : ((c.toNat : Int) != 40) = true := by have := beqF (c := c) (k := 40) (by omega); simpa [bne] using this
            have b1 : ((c.toNat : Int) != 41) = true := by have := beqF (c := c) (k := 41) (by omega); simpa [bne] using this
            have b2 : ((c.toNat : Int) != 92) = false := by simp [h]
            clear h
            go_wp2_with (at_builtin; refine wpList_append_own _ rfl (.tmp 40) (.tmp 51) 22 rfl w.heap.size 5 i0 (.int .u8 0) 1 1 Try.underlying22 HI.out.1 HI.out.2.1 HI.out.2.2.1 HI.out.2.2.2 rfl (by decide) _ _ _ rfl (HO.out.alloc _) ⟨wr.heap.size, 0, none⟩ 4 4 [.int .u8 92, .int .u8 (48 + (c.toNat : Int) / 64), .int .u8 (48 + (c.toNat : Int) / 8 % 8), .int .u8 (48 + (c.toNat : Int) % 8)] rfl rfl (src_litS _ _ _) (four_one _ _ _ _) (by unfold maxLen; omega) (by omega) (by simp; omega) ?_)
            intro v2 w3 hown2 hgr _
            have hb3 : Below w.heap.size w w3 := (HB.out.alloc HB.out.size _).grown hgr (by simp; omega) (fun k hk => (HO.out.lt k hk).1)
            have e1 : 40 :: escS true (l.take (k + 1)) = (40 :: escS true (l.take k)) ++ [92, oc1 c, oc2 c, oc3 c] := by rw [HTK.out, escS_app]; simp [escS, HE.out]
            have HO2 : Hid (w3.ownsRow w.heap.size 5 1 v2 (40 :: escS true (l.take (k + 1))).length ((40 :: escS true (l.take (k + 1))).map bv)) := by
              rw [e1, List.length_append, List.map_append, news4]; exact hown2
            have HB3 := Lib.hid hb3
            clear hown2 hgr hb3 e1
            go_wp2_with fail
            go_roundw
            case rel => exact ⟨k + 1, by omega, by go_num, HO2.out, HB3.out⟩
            case measure => simp [intOf]; omega
          · have b0 : ((c.toNat : Int) != 40) = true := by have := beqF (c := c) (k := 40) (by omega); simpa [bne] using this
            have b1 : ((c.toNat : Int) != 41) = true := by have := beqF (c := c) (k := 41) (by omega); simpa [bne] using this
            have b2 : ((c.toNat : Int) != 92) = true := by have := beqF (c := c) (k := 92) (by omega); simpa [bne] using this
            have b3 : ((c.toNat : Int) != 13) = false := by simp [h]
            clear h
            go_wp2_with (at_builtin; refine wpList_append_own _ rfl (.tmp 40) (.tmp 51) 22 rfl w.heap.size 5 i0 (.int .u8 0) 1 1 Try.underlying22 HI.out.1 HI.out.2.1 HI.out.2.2.1 HI.out.2.2.2 rfl (by decide) _ _ _ rfl (HO.out.alloc _) ⟨wr.heap.size, 0, none⟩ 4 4 [.int .u8 92, .int .u8 (48 + (c.toNat : Int) / 64), .int .u8 (48 + (c.toNat : Int) / 8 % 8), .int .u8 (48 + (c.toNat : Int) % 8)] rfl rfl (src_litS _ _ _) (four_one _ _ _ _) (by unfold maxLen; omega) (by omega) (by simp; omega) ?_)
            intro v2 w3 hown2 hgr _
            have hb3 : Below w.heap.size w w3 := (HB.out.alloc HB.out.size _).grown hgr (by simp; omega) (fun k hk => (HO.out.lt k hk).1)
            have e1 : 40 :: escS true (l.take (k + 1)) = (40 :: escS true (l.take k)) ++ [92, oc1 c, oc2 c, oc3 c] := by rw [HTK.out, escS_app]; simp [escS, HE.out]
            have HO2 : Hid (w3.ownsRow w.heap.size 5 1 v2 (40 :: escS true (l.take (k + 1))).length ((40 :: escS true (l.take (k + 1))).map bv)) := by
              rw [e1, List.length_append, List.map_append, news4]; exact hown2
            have HB3 := Lib.hid hb3
            clear hown2 hgr hb3 e1
            go_wp2_with fail
            go_roundw
            case rel => exact ⟨k + 1, by omega, by go_num, HO2.out, HB3.out⟩
            case measure => simp [intOf]; omega
    · have HN := Lib.hid (show l.take k = l by rw [List.take_of_length_le (by omega)])
      go_wp2_with (at_builtin; refine wpList_append_own _ rfl (.tmp 53) (.tmp 54) 22 rfl w.heap.size 5 i0 (.int .u8 0) 1 1 Try.underlying22 HI.out.1 HI.out.2.1 HI.out.2.2.1 HI.out.2.2.2 rfl (by decide) _ _ _ rfl (HO.out.alloc _) ⟨wr.heap.size, 0, none⟩ 1 1 [.int .u8 41] rfl rfl (src_oneS _ _ _) (one_u8S _) (by unfold maxLen; omega) (by omega) (by simp; omega) ?_)
      intro v2 w3 hown2 hgr _
      have hb3 : Below w.heap.size w w3 := (HB.out.alloc HB.out.size _).grown hgr (by simp; omega) (fun k hk => (HO.out.lt k hk).1)
      obtain ⟨t, ht⟩ : ∃ t, t = 40 :: (escS pl l ++ [41]) := ⟨_, rfl⟩
      have hown3 : w3.ownsRow w.heap.size 5 1 v2 t.length (t.map bv) := by
        have e1 : t = (40 :: escS pl (l.take k)) ++ [41] := by rw [ht, HN.out]; simp
        rw [e1, List.length_append, List.map_append]; exact hown2
      obtain ⟨va, vc, rfl⟩ := owns_shape hown3
      have hcv := conv_owned hown3
      have HB3 := Lib.hid hb3
      have HTt := Lib.hid ht
      clear hown2 hgr hb3 hown3 ht
      go_wp2_with fail
      go_ret
      refine ⟨?_, HB3.out⟩
      rw [← HTt.out]; rfl
end Go.Proofs.Ytaebpjcigajolaa
