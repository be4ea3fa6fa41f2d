/-
  The walk of the law DecRadix: a number's digits in any base are read as it.
-/
import Derived.Test.YtibkgkjijhcnoaaDoorDecToken1
import Derived.Test.YtibkgkjijhcnoaaDoorDecRefPrint
import Derived.OpenShut
namespace Go.Proofs.YtibkgkjijhcnoaaDoor
open Go.RowKit
open Fx Dc
namespace Dc
/-- the byte of a digit -/
def chrB (small : Bool) (d : Nat) : Nat := if d ≤ 9 then 48 + d else if small = true then 87 + d else 55 + d
theorem chrB_bd (small : Bool) (d : Nat) (h : d < 36) : 48 ≤ chrB small d ∧ chrB small d ≤ 122 := by
  unfold chrB; split
  · omega
  · split <;> omega
theorem digU_chrB (small : Bool) (d : Nat) (h : d < 36) : digU ((UInt8.ofNat (chrB small d)).toNat : Int) = d := by
  have hb := chrB_bd small d h
  have e : (UInt8.ofNat (chrB small d)).toNat = chrB small d := by simp; omega
  rw [e]
  by_cases h9 : d ≤ 9
  · have e2 : chrB small d = 48 + d := by unfold chrB; rw [if_pos h9]
    rw [e2]; unfold digU
    rw [if_pos (by omega)]; omega
  · cases small
    · have e2 : chrB false d = 55 + d := by unfold chrB; rw [if_neg h9]; rfl
      rw [e2]; unfold digU
      rw [if_neg (by omega), if_neg (by omega), if_pos (by omega)]; omega
    · have e2 : chrB true d = 87 + d := by unfold chrB; rw [if_neg h9]; rfl
      rw [e2]; unfold digU
      rw [if_neg (by omega), if_pos (by omega)]; omega
/-- the digits of u in base b, f of them at most -/
def digB (small : Bool) (b : Nat) : Nat → Nat → List UInt8
  | 0, _ => []
  | f + 1, u => if u < b then [UInt8.ofNat (chrB small u)] else digB small b f (u / b) ++ [UInt8.ofNat (chrB small (u % b))]
theorem digB_small (small : Bool) (b f u : Nat) (h : u < b) : digB small b (f + 1) u = [UInt8.ofNat (chrB small u)] := by rw [digB, if_pos h]
theorem digB_big (small : Bool) (b f u : Nat) (h : ¬ u < b) : digB small b (f + 1) u = digB small b f (u / b) ++ [UInt8.ofNat (chrB small (u % b))] := by rw [digB, if_neg h]
theorem rdD_snoc (base : Int) (c : UInt8) : ∀ (l : List UInt8) (n m : Int), rdD base l n = some m → rdD base (l ++ [c]) n = rdD base [c] m
  | [], n, m, h => by simp [rdD] at h; subst h; rfl
  | x :: l, n, m, h => by
    rw [List.cons_append, rdD_cons]
    rw [rdD_cons] at h
    split
    · rename_i hx; rw [if_pos hx] at h
      exact rdD_snoc base c l _ m h
    · rename_i hx; rw [if_neg hx] at h; cases h
theorem rdD_digB (small : Bool) (b : Nat) (hb : 2 ≤ b) (hb2 : b ≤ 36) : ∀ (f u : Nat), u < 2 ^ f → u < 4294967296 → 0 < f → rdD b (digB small b f u) 0 = some (u : Int)
  | 0, u, h, h2, h0 => by omega
  | f + 1, u, h, h2, h0 => by
    by_cases hu : u < b
    · rw [digB_small _ _ _ _ hu, rdD_cons, digU_chrB small u (by omega), if_pos (by omega)]
      simp [rdD]; omega
    · rw [digB_big _ _ _ _ hu]
      have hdiv : u / b < 2 ^ f := by
        have h3 : u / b ≤ u / 2 := Nat.div_le_div_left hb (by omega)
        rw [Nat.pow_succ] at h; omega
      have hf : 0 < f := by
        rcases Nat.eq_zero_or_pos f with rfl | h3
        · simp at h; omega
        · exact h3
      have hm : u % b < b := Nat.mod_lt _ (by omega)
      have ih := rdD_digB small b hb hb2 f (u / b) hdiv (by have := Nat.div_le_self u b; omega) hf
      rw [rdD_snoc _ _ _ _ _ ih, rdD_cons, digU_chrB small (u % b) (by omega), if_pos (by omega)]
      have he : ((u / b : Nat) : Int) * (b : Int) + ((u % b : Nat) : Int) = (u : Int) := by
        have := Nat.div_add_mod' u b
        exact_mod_cast this
      rw [he]
      simp [rdD]; omega
theorem digB_len (small : Bool) (b : Nat) : ∀ (f u : Nat), (digB small b f u).length ≤ f
  | 0, u => by simp [digB]
  | f + 1, u => by
    unfold digB; split
    · simp
    · have := digB_len small b f (u / b); simp; omega
theorem digB_pos (small : Bool) (b : Nat) (f u : Nat) : digB small b (f + 1) u ≠ [] := by
  unfold digB; split <;> simp
theorem rdD_dig (u : Nat) (h : u < 4294967296) : rdD 10 (Lib.decDigits u) 0 = some (u : Int) := by
  induction u using Nat.strongRecOn with
  | _ u ih =>
    have hdg : ∀ d : Nat, d < 10 → digU ((UInt8.ofNat (48 + d)).toNat : Int) = d := by
      intro d hd
      have e : (UInt8.ofNat (48 + d)).toNat = 48 + d := by simp; omega
      rw [e]; unfold digU; rw [if_pos (by omega)]; omega
    by_cases hu : u < 10
    · rw [decDigits_small u hu, rdD_cons, hdg u hu, if_pos (by omega)]; simp [rdD]; omega
    · rw [decDigits_big u hu, rdD_snoc _ _ _ _ _ (ih (u / 10) (by omega) (by omega)), rdD_cons, hdg _ (by omega), if_pos (by omega)]
      simp [rdD]; omega
theorem indexByte_app {a b : List UInt8} {c : UInt8} (h : ∀ x ∈ a, x ≠ c) : Lib.indexByte (a ++ c :: b) c = a.length := by
  induction a with
  | nil => simp [Lib.indexByte]
  | cons x a ih =>
    have h1 := ih (fun y hy => h y (List.mem_cons_of_mem _ hy))
    have hx : (x == c) = false := by simp; exact h x (List.mem_cons_self ..)
    rw [List.cons_append, Lib.indexByte, hx, h1]
    have h2 : ((a.length : Int) == -1) = false := by simp
    rw [h2]; simp
theorem cut_app {a b : List UInt8} {c : UInt8} (h : ∀ x ∈ a, x ≠ c) : Lib.cut (a ++ c :: b) [c] = (a, b, true) := by
  have h1 : Lib.index (a ++ c :: b) [c] = (a.length : Int) := by rw [Lib.index_one, indexByte_app h]
  unfold Lib.cut
  rw [h1, if_pos (by omega)]
  have h2 : a.length + 1 = a.length + [c].length := by simp
  simp
theorem i32_wrap (N : Nat) (h : N < 4294967296) : IntKind.i32.wrap (N : Int) = if (N : Int) < 2147483648 then (N : Int) else (N : Int) - 4294967296 := by
  simp [IntKind.wrap, IntKind.bits, IntKind.signed]
  split <;> split <;> omega
theorem w64_32 (x : Int) : (wrap32 x == wrap64 (wrap32 x)) = true := by
  simp only [beq_iff_eq]
  unfold wrap64 wrap32
  omega
end Dc
theorem ret_bool {b : Bool} (h : b = true) : Ending.returned (.bool b) = .returned (.bool true) := by rw [h]
def RxRel (small : Bool) (b n : Nat) (w : World) (u s : Value) (w' : World) : Prop :=
  ∃ (f x : Nat) (t : ByteArray), x < 2 ^ f ∧ 0 < f ∧ x < 4294967296 ∧ u = .int .i64 x ∧ s = .string t ∧ digB small b f x ++ t.data.toList = digB small b 33 n ∧ Below w.heap.size w w'
theorem rx_end {small : Bool} {B f x : Nat} {t : ByteArray} {L : List UInt8} {v : Int} (hf : 0 < f) (hq : x / B = 0) (hB : 2 ≤ B) (h : digB small B f x ++ t.data.toList = L) (hv : v.toNat = chrB small (x % B)) : (chr1 v ++ t).data.toList = L := by
  have hx : x < B := (Nat.div_eq_zero_iff_lt (by omega)).1 hq
  obtain ⟨f, rfl⟩ : ∃ g, f = g + 1 := ⟨f - 1, by omega⟩
  rw [data_app, chr1_list, hv, ← h, digB_small _ _ _ _ hx, Nat.mod_eq_of_lt hx]
theorem rx_go {small : Bool} {B f x : Nat} {t : ByteArray} {L : List UInt8} {v : Int} (hf : 0 < f) (hx : x < 2 ^ f) (hq : x / B ≠ 0) (hB : 2 ≤ B) (h : digB small B f x ++ t.data.toList = L) (hv : v.toNat = chrB small (x % B)) :
    ∃ g, x / B < 2 ^ g ∧ 0 < g ∧ digB small B g (x / B) ++ (chr1 v ++ t).data.toList = L := by
  have hx2 : ¬ x < B := fun hh => hq (Nat.div_eq_of_lt hh)
  obtain ⟨f, rfl⟩ : ∃ g, f = g + 1 := ⟨f - 1, by omega⟩
  have hd : x / B ≤ x / 2 := Nat.div_le_div_left hB (by omega)
  rw [Nat.pow_succ] at hx
  refine ⟨f, by omega, ?_, ?_⟩
  · rcases Nat.eq_zero_or_pos f with rfl | h3
    · simp at hx; omega
    · exact h3
  · rw [data_app, chr1_list, hv, ← h, digB_big _ _ _ _ hx2, List.append_assoc]
theorem token_rx (small : Bool) (B N : Nat) (hB : 2 ≤ B) (hB2 : B ≤ 36) (hN : N < 4294967296) (c d : ByteArray) (hc : c.data.toList = Lib.decDigits B) (hd : d.data.toList = digB small B 33 N) (w : World) (hm : Mx w) :
    Calls Tryd.prog 16 #[.string (c ++ ⟨#[35]⟩ ++ d)] w fun e w' => e = .returned (.tuple #[.agg #[.int .i64 1, .int .i64 (IntKind.i32.wrap N), .string ⟨#[]⟩], .bool true, .int .i64 0]) ∧ Below w.heap.size w w' := by
  have hcl : (Lib.decDigits B).length ≤ 2 := decDigits_len 1 B (by omega)
  have hcs : c.size ≤ 2 := len_le hc hcl
  have hds : d.size ≤ 33 := len_le hd (digB_len _ _ _ _)
  have hv : rdV 10 c.data.toList = (B : Int) := by unfold rdV; rw [hc, rdD_dig B (by omega)]; rfl
  have hk : rdOk 10 c.data.toList = true := by
    unfold rdOk; rw [hc, rdD_dig B (by omega)]
    have := decDigits_pos B
    cases h : Lib.decDigits B with
    | nil => rw [h] at this; simp at this
    | cons x l => rfl
  have hv2 : rdV (B : Int) d.data.toList = (N : Int) := by unfold rdV; rw [hd, rdD_digB small B hB hB2 33 N (by omega) hN (by omega)]; rfl
  have hk2 : rdOk (B : Int) d.data.toList = true := by
    unfold rdOk; rw [hd, rdD_digB small B hB hB2 33 N (by omega) hN (by omega)]
    have := digB_pos small B 32 N
    cases h : digB small B 33 N with
    | nil => exact absurd h this
    | cons x l => rfl
  have hx : rxN c.data.toList d.data.toList = (N : Int) := by unfold rxN; rw [hv, hv2]
  have hok : rxOk c.data.toList d.data.toList = true := by
    unfold rxOk; rw [hk, hv, hk2, ← size_list]; simp; omega
  have hR := fun w => readRadix_yes c d (by omega) (by omega) w hok
  have hT : rxT c.data.toList d.data.toList = IntKind.i32.wrap N := by unfold rxT; rw [hx, i32_wrap N hN]
  rw [hx, if_neg (by omega), hT] at hR
  have hcut : Lib.cut (c ++ ⟨#[35]⟩ ++ d).data.toList [35] = (c.data.toList, d.data.toList, true) := by
    rw [data_app, data_app, List.append_assoc]
    apply cut_app
    intro x hx e
    rw [hc] at hx
    have := decDigits_dig B x hx
    subst e; unfold isDig at this; simp at this
  exact token_radix _ c d (by rw [size_app, size_app]; have : (⟨#[35]⟩ : ByteArray).size = 1 := rfl; omega) w hm hcut _ _ _ _ hR
theorem lawDecRadix (n base : Int) (small : Bool) (w0 : (Lit.int .u32 n).wf = true) (w1 : (Lit.int .u8 base).wf = true) (w : World) (ht : Tab w) (hm : Mx w) :
    Calls Tryd.prog 7 #[.int .u32 n, .int .u8 base, .bool small] w fun e w' => e = .returned (.bool true) ∧ Below w.heap.size w w' := by
  have hn := bounds_u32 w0
  have hbs := bounds_u8 w1
  obtain ⟨N, rfl⟩ : ∃ N : Nat, n = N := ⟨n.toNat, by omega⟩
  obtain ⟨B, hB⟩ : ∃ B : Nat, base % 35 + 2 = (B : Int) := ⟨(base % 35 + 2).toNat, by omega⟩
  have hB1 : 2 ≤ B := by omega
  have hB2 : B ≤ 36 := by omega
  have hz : ((B : Int) == 0) = false := by simp; omega
  obtain ⟨hb0, hb1⟩ := hbs
  obtain ⟨hn0, hn1⟩ := hn
  have HT := Lib.hid ht
  have HM := Lib.hid hm
  clear ht hm w0 w1
  go_enter Tryd.func7, Tryd.ntmps7
  go_wp2_with fail
  go_loopw [8, 9] (RxRel small B N w) (fun u _ _ => (intOf u).toNat)
  case atStart => exact ⟨33, N, ⟨#[]⟩, by omega, by omega, by omega, rfl, rfl, by simp, Below.refl _ _⟩
  case round =>
    obtain ⟨f, x, t, hx, hf, hx2, rfl, rfl, hdig, hbel⟩ := hrel
    have hts : t.size ≤ 33 := by
      have h1 := congrArg List.length hdig
      have h2 := digB_len small B 33 N
      rw [List.length_append, ← size_list] at h1; omega
    have hsz := hbel.size
    obtain ⟨d, hd⟩ : ∃ d : Nat, x % B = d := ⟨_, rfl⟩
    obtain ⟨q, hq⟩ : ∃ q : Nat, x / B = q := ⟨_, rfl⟩
    have hdB : d < B := by rw [← hd]; exact Nat.mod_lt _ (by omega)
    have hqx : q ≤ x / 2 := by rw [← hq]; exact Nat.div_le_div_left hB1 (by omega)
    have e1 : (x : Int) % (B : Int) = (d : Int) := by rw [← hd]; rfl
    have e2 : (x : Int) / (B : Int) = (q : Int) := by rw [← hq]; rfl
    by_cases h9 : d ≤ 9
    · have h9' : ¬ 9 < (d : Int) := by omega
      have hvt : (48 + (d : Int) : Int).toNat = chrB small (x % B) := by rw [hd]; unfold chrB; rw [if_pos h9]; omega
      have hcv := run_conv1 wr (48 + (d : Int)) (by omega) (by omega)
      have hc1 := chr1_size (48 + (d : Int))
      have HB2 := Lib.hid (hbel.alloc hsz (.cells #[.int .u8 (48 + (d : Int))] 5))
      by_cases hq0 : q = 0
      · subst hq0
        have HE := Lib.hid (rx_end hf hq hB1 hdig hvt)
        clear hdig hvt hq hd hx hbel
        go_wp2_with fail
        refine (refDec_at _ B (by omega) (by omega) _).mono ?_
        rintro e w2 ⟨c, rfl, hc, hb2⟩
        have hcs : c.size ≤ 2 := len_le hc (decDigits_len 1 _ (by omega))
        have HB3 := Lib.hid (bthen HB2.out hb2)
        have HM3 := Lib.hid (HM.out.below HB3.out)
        have HK := Lib.hid (token_rx small B N hB1 hB2 (by omega) c _ hc HE.out)
        clear hc hb2
        go_wp2_with fail
        refine (HK.out _ HM3.out).mono ?_
        rintro e w3 ⟨rfl, hb3⟩
        have HB4 := Lib.hid (bthen HB3.out hb3)
        clear hb3
        have hsz3 := HB4.out.size
        go_wp2_with fail
        refine (answers2_any _ (by exact HT.out.below (HB4.out.alloc HB4.out.size _))).mono ?_
        rintro e w4 ⟨rfl, hb5⟩
        obtain ⟨hc, hf⟩ := bcell hb5
        have HB5 := Lib.hid (bthen (HB4.out.alloc HB4.out.size _) hb5)
        clear hb5
        go_wp2_with fail
        go_ret
        exact ⟨ret_bool (w64_32 _), HB5.out⟩
      · have hqz : ((q : Int) == 0) = false := by simp; omega
        have HE := Lib.hid (rx_go hf hx (by rw [hq]; exact hq0) hB1 hdig hvt)
        have HQ := Lib.hid hq
        clear hdig hvt hq hd hx hbel
        go_wp2_with fail
        obtain ⟨g, g1, g2, g3⟩ := HE.out
        rw [HQ.out] at g1 g3
        go_roundw
        case rel => exact ⟨g, q, _, g1, g2, by omega, rfl, rfl, g3, HB2.out⟩
        case measure => simp [intOf]; omega

    · have h9' : 9 < (d : Int) := by omega
      cases small
      · have hvt : (65 + (d : Int) - 10 : Int).toNat = chrB false (x % B) := by rw [hd]; unfold chrB; rw [if_neg h9, if_neg (by simp)]; omega
        have hcv := run_conv1 wr (65 + (d : Int) - 10) (by omega) (by omega)
        have hc1 := chr1_size (65 + (d : Int) - 10)
        have HB2 := Lib.hid (hbel.alloc hsz (.cells #[.int .u8 (65 + (d : Int) - 10)] 5))
        by_cases hq0 : q = 0
        · subst hq0
          have HE := Lib.hid (rx_end hf hq hB1 hdig hvt)
          clear hdig hvt hq hd hx hbel
          go_wp2_with fail
          refine (refDec_at _ B (by omega) (by omega) _).mono ?_
          rintro e w2 ⟨c, rfl, hc, hb2⟩
          have hcs : c.size ≤ 2 := len_le hc (decDigits_len 1 _ (by omega))
          have HB3 := Lib.hid (bthen HB2.out hb2)
          have HM3 := Lib.hid (HM.out.below HB3.out)
          have HK := Lib.hid (token_rx false B N hB1 hB2 (by omega) c _ hc HE.out)
          clear hc hb2
          go_wp2_with fail
          refine (HK.out _ HM3.out).mono ?_
          rintro e w3 ⟨rfl, hb3⟩
          have HB4 := Lib.hid (bthen HB3.out hb3)
          clear hb3
          have hsz3 := HB4.out.size
          go_wp2_with fail
          refine (answers2_any _ (by exact HT.out.below (HB4.out.alloc HB4.out.size _))).mono ?_
          rintro e w4 ⟨rfl, hb5⟩
          obtain ⟨hc, hf⟩ := bcell hb5
          have HB5 := Lib.hid (bthen (HB4.out.alloc HB4.out.size _) hb5)
          clear hb5
          go_wp2_with fail
          go_ret
          exact ⟨ret_bool (w64_32 _), HB5.out⟩
        · have hqz : ((q : Int) == 0) = false := by simp; omega
          have HE := Lib.hid (rx_go hf hx (by rw [hq]; exact hq0) hB1 hdig hvt)
          have HQ := Lib.hid hq
          clear hdig hvt hq hd hx hbel
          go_wp2_with fail
          obtain ⟨g, g1, g2, g3⟩ := HE.out
          rw [HQ.out] at g1 g3
          go_roundw
          case rel => exact ⟨g, q, _, g1, g2, by omega, rfl, rfl, g3, HB2.out⟩
          case measure => simp [intOf]; omega

      · have hvt : (97 + (d : Int) - 10 : Int).toNat = chrB true (x % B) := by rw [hd]; unfold chrB; rw [if_neg h9, if_pos rfl]; omega
        have hcv := run_conv1 wr (97 + (d : Int) - 10) (by omega) (by omega)
        have hc1 := chr1_size (97 + (d : Int) - 10)
        have HB2 := Lib.hid (hbel.alloc hsz (.cells #[.int .u8 (97 + (d : Int) - 10)] 5))
        by_cases hq0 : q = 0
        · subst hq0
          have HE := Lib.hid (rx_end hf hq hB1 hdig hvt)
          clear hdig hvt hq hd hx hbel
          go_wp2_with fail
          refine (refDec_at _ B (by omega) (by omega) _).mono ?_
          rintro e w2 ⟨c, rfl, hc, hb2⟩
          have hcs : c.size ≤ 2 := len_le hc (decDigits_len 1 _ (by omega))
          have HB3 := Lib.hid (bthen HB2.out hb2)
          have HM3 := Lib.hid (HM.out.below HB3.out)
          have HK := Lib.hid (token_rx true B N hB1 hB2 (by omega) c _ hc HE.out)
          clear hc hb2
          go_wp2_with fail
          refine (HK.out _ HM3.out).mono ?_
          rintro e w3 ⟨rfl, hb3⟩
          have HB4 := Lib.hid (bthen HB3.out hb3)
          clear hb3
          have hsz3 := HB4.out.size
          go_wp2_with fail
          refine (answers2_any _ (by exact HT.out.below (HB4.out.alloc HB4.out.size _))).mono ?_
          rintro e w4 ⟨rfl, hb5⟩
          obtain ⟨hc, hf⟩ := bcell hb5
          have HB5 := Lib.hid (bthen (HB4.out.alloc HB4.out.size _) hb5)
          clear hb5
          go_wp2_with fail
          go_ret
          exact ⟨ret_bool (w64_32 _), HB5.out⟩
        · have hqz : ((q : Int) == 0) = false := by simp; omega
          have HE := Lib.hid (rx_go hf hx (by rw [hq]; exact hq0) hB1 hdig hvt)
          have HQ := Lib.hid hq
          clear hdig hvt hq hd hx hbel
          go_wp2_with fail
          obtain ⟨g, g1, g2, g3⟩ := HE.out
          rw [HQ.out] at g1 g3
          go_roundw
          case rel => exact ⟨g, q, _, g1, g2, by omega, rfl, rfl, g3, HB2.out⟩
          case measure => simp [intOf]; omega

end Go.Proofs.YtibkgkjijhcnoaaDoor
