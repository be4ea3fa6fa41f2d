/-
  The walk of the law DecRadix: a number's digits in any base are read as it.
-/
import Derived.Test.YtfilbfenpdaahaaGreatDoorDecToken1
import Derived.Test.YtfilbfenpdaahaaGreatDoorDecRefPrint
import Derived.Test.YtfilbfenpdaahaaGreatDoorDecCut
import Derived.OpenShut
namespace Go.Proofs.YtfilbfenpdaahaaGreatDoor
open Go.RowKit
open Fx Dc
namespace Dc
/-- the byte of a digit -/
def chrB (small : Bool) (d : Nat) : Nat := if d ≤ 9 then 48 + d else if small = true then 87 + d else 55 + d
theorem chrB_bd (small : Bool) (d : Nat) (h : d < 36) : 48 ≤ chrB small d ∧ chrB small d ≤ 122 := by
  unfold chrB; split
  · omega
  · split <;> omega
theorem digU_chrB (small : Bool) (d : Nat) (h : d < 36) : digU ((UInt8.ofNat (chrB small d)).toNat : Int) = d := by
  have hb := chrB_bd small d h
  have e : (UInt8.ofNat (chrB small d)).toNat = chrB small d := by simp; omega
  rw [e]
  by_cases h9 : d ≤ 9
  · have e2 : chrB small d = 48 + d := by unfold chrB; rw [if_pos h9]
    rw [e2]; unfold digU
    rw [if_pos (by omega)]; omega
  · cases small
    · have e2 : chrB false d = 55 + d := by unfold chrB; rw [if_neg h9]; rfl
      rw [e2]; unfold digU
      rw [if_neg (by omega), if_neg (by omega), if_pos (by omega)]; omega
    · have e2 : chrB true d = 87 + d := by unfold chrB; rw [if_neg h9]; rfl
      rw [e2]; unfold digU
      rw [if_neg (by omega), if_pos (by omega)]; omega
/-- the digits of u in base b, f of them at most -/
def digB (small : Bool) (b : Nat) : Nat → Nat → List UInt8
  | 0, _ => []
  | f + 1, u => if u < b then [UInt8.ofNat (chrB small u)] else digB small b f (u / b) ++ [UInt8.ofNat (chrB small (u % b))]
theorem digB_small (small : Bool) (b f u : Nat) (h : u < b) : digB small b (f + 1) u = [UInt8.ofNat (chrB small u)] := by rw [digB, if_pos h]
theorem digB_big (small : Bool) (b f u : Nat) (h : ¬ u < b) : digB small b (f + 1) u = digB small b f (u / b) ++ [UInt8.ofNat (chrB small (u % b))] := by rw [digB, if_neg h]
theorem rdD_snoc (base : Int) (c : UInt8) : ∀ (l : List UInt8) (n m : Int), rdD base l n = some m → rdD base (l ++ [c]) n = rdD base [c] m
  | [], n, m, h => by simp [rdD] at h; subst h; rfl
  | x :: l, n, m, h => by
    rw [List.cons_append, rdD_cons]
    rw [rdD_cons] at h
    split
    · rename_i hx; rw [if_pos hx] at h
      exact rdD_snoc base c l _ m h
    · rename_i hx; rw [if_neg hx] at h; cases h
theorem rdD_digB (small : Bool) (b : Nat) (hb : 2 ≤ b) (hb2 : b ≤ 36) : ∀ (f u : Nat), u < 2 ^ f → u < 4294967296 → 0 < f → rdD b (digB small b f u) 0 = some (u : Int)
  | 0, u, h, h2, h0 => by omega
  | f + 1, u, h, h2, h0 => by
    by_cases hu : u < b
    · rw [digB_small _ _ _ _ hu, rdD_cons, digU_chrB small u (by omega), if_pos (by omega)]
      simp [rdD]; omega
    · rw [digB_big _ _ _ _ hu]
      have hdiv : u / b < 2 ^ f := by
        have h3 : u / b ≤ u / 2 := Nat.div_le_div_left hb (by omega)
        rw [Nat.pow_succ] at h; omega
      have hf : 0 < f := by
        rcases Nat.eq_zero_or_pos f with rfl | h3
        · simp at h; omega
        · exact h3
      have hm : u % b < b := Nat.mod_lt _ (by omega)
      have ih := rdD_digB small b hb hb2 f (u / b) hdiv (by have := Nat.div_le_self u b; omega) hf
      rw [rdD_snoc _ _ _ _ _ ih, rdD_cons, digU_chrB small (u % b) (by omega), if_pos (by omega)]
      have he : ((u / b : Nat) : Int) * (b : Int) + ((u % b : Nat) : Int) = (u : Int) := by
        have := Nat.div_add_mod' u b
        exact_mod_cast this
      rw [he]
      simp [rdD]; omega
theorem digB_len (small : Bool) (b : Nat) : ∀ (f u : Nat), (digB small b f u).length ≤ f
  | 0, u => by simp [digB]
  | f + 1, u => by
    unfold digB; split
    · simp
    · have := digB_len small b f (u / b); simp; omega
theorem digB_pos (small : Bool) (b : Nat) (f u : Nat) : digB small b (f + 1) u ≠ [] := by
  unfold digB; split <;> simp
theorem rdD_dig (u : Nat) (h : u < 4294967296) : rdD 10 (Lib.decDigits u) 0 = some (u : Int) := by
  induction u using Nat.strongRecOn with
  | _ u ih =>
    have hdg : ∀ d : Nat, d < 10 → digU ((UInt8.ofNat (48 + d)).toNat : Int) = d := by
      intro d hd
      have e : (UInt8.ofNat (48 + d)).toNat = 48 + d := by simp; omega
      rw [e]; unfold digU; rw [if_pos (by omega)]; omega
    by_cases hu : u < 10
    · rw [decDigits_small u hu, rdD_cons, hdg u hu, if_pos (by omega)]; simp [rdD]; omega
    · rw [decDigits_big u hu, rdD_snoc _ _ _ _ _ (ih (u / 10) (by omega) (by omega)), rdD_cons, hdg _ (by omega), if_pos (by omega)]
      simp [rdD]; omega
theorem i32_wrap (N : Nat) (h : N < 4294967296) : IntKind.i32.wrap (N : Int) = if (N : Int) < 2147483648 then (N : Int) else (N : Int) - 4294967296 := by
  simp [IntKind.wrap, IntKind.bits, IntKind.signed]
  split <;> split <;> omega
theorem w64_32 (x : Int) : (wrap32 x == wrap64 (wrap32 x)) = true := by
  simp only [beq_iff_eq]
  unfold wrap64 wrap32
  omega
end Dc
theorem ret_bool {b : Bool} (h : b = true) : Ending.returned (.bool b) = .returned (.bool true) := by rw [h]
def RxRel (small : Bool) (b n : Nat) (w : World) (u s : Value) (w' : World) : Prop :=
  ∃ (f x : Nat) (t : ByteArray), x < 2 ^ f ∧ 0 < f ∧ x < 4294967296 ∧ u = .int .i64 x ∧ s = .string t ∧ digB small b f x ++ t.data.toList = digB small b 33 n ∧ Below w.heap.size w w'
theorem rx_end {small : Bool} {B f x : Nat} {t : ByteArray} {L : List UInt8} {v : Int} (hf : 0 < f) (hq : x / B = 0) (hB : 2 ≤ B) (h : digB small B f x ++ t.data.toList = L) (hv : v.toNat = chrB small (x % B)) : (chr1 v ++ t).data.toList = L := by
  have hx : x < B := (Nat.div_eq_zero_iff_lt (by omega)).1 hq
  obtain ⟨f, rfl⟩ : ∃ g, f = g + 1 := ⟨f - 1, by omega⟩
  rw [data_app, chr1_list, hv, ← h, digB_small _ _ _ _ hx, Nat.mod_eq_of_lt hx]
theorem rx_go {small : Bool} {B f x : Nat} {t : ByteArray} {L : List UInt8} {v : Int} (hf : 0 < f) (hx : x < 2 ^ f) (hq : x / B ≠ 0) (hB : 2 ≤ B) (h : digB small B f x ++ t.data.toList = L) (hv : v.toNat = chrB small (x % B)) :
    ∃ g, x / B < 2 ^ g ∧ 0 < g ∧ digB small B g (x / B) ++ (chr1 v ++ t).data.toList = L := by
  have hx2 : ¬ x < B := fun hh => hq (Nat.div_eq_of_lt hh)
  obtain ⟨f, rfl⟩ : ∃ g, f = g + 1 := ⟨f - 1, by omega⟩
  have hd : x / B ≤ x / 2 := Nat.div_le_div_left hB (by omega)
  rw [Nat.pow_succ] at hx
  refine ⟨f, by omega, ?_, ?_⟩
  · rcases Nat.eq_zero_or_pos f with rfl | h3
    · simp at hx; omega
    · exact h3
  · rw [data_app, chr1_list, hv, ← h, digB_big _ _ _ _ hx2, List.append_assoc]
theorem token_rx (small : Bool) (B N : Nat) (hB : 2 ≤ B) (hB2 : B ≤ 36) (hN : N < 4294967296) (c d : ByteArray) (hc : c.data.toList = Lib.decDigits B) (hd : d.data.toList = digB small B 33 N) (w : World) (hm : Mx w) :
    Calls Tryz.prog 68 #[.string (c ++ ⟨#[35]⟩ ++ d)] w fun e w' => e = .returned (.tuple #[.agg #[.int .i64 1, .int .i64 (IntKind.i32.wrap N), .string ⟨#[]⟩], .bool true, .int .i64 0]) ∧ Below w.heap.size w w' := by
  have hcl : (Lib.decDigits B).length ≤ 2 := decDigits_len 1 B (by omega)
  have hcs : c.size ≤ 2 := len_le hc hcl
  have hds : d.size ≤ 33 := len_le hd (digB_len _ _ _ _)
  have hv : rdV 10 c.data.toList = (B : Int) := by unfold rdV; rw [hc, rdD_dig B (by omega)]; rfl
  have hk : rdOk 10 c.data.toList = true := by
    unfold rdOk; rw [hc, rdD_dig B (by omega)]
    have := decDigits_pos B
    cases h : Lib.decDigits B with
    | nil => rw [h] at this; simp at this
    | cons x l => rfl
  have hv2 : rdV (B : Int) d.data.toList = (N : Int) := by unfold rdV; rw [hd, rdD_digB small B hB hB2 33 N (by omega) hN (by omega)]; rfl
  have hk2 : rdOk (B : Int) d.data.toList = true := by
    unfold rdOk; rw [hd, rdD_digB small B hB hB2 33 N (by omega) hN (by omega)]
    have := digB_pos small B 32 N
    cases h : digB small B 33 N with
    | nil => exact absurd h this
    | cons x l => rfl
  have hx : rxN c.data.toList d.data.toList = (N : Int) := by unfold rxN; rw [hv, hv2]
  have hok : rxOk c.data.toList d.data.toList = true := by
    unfold rxOk; rw [hk, hv, hk2, ← size_list]; simp; omega
  have hR := fun w => readRadix_yes c d (by omega) (by omega) w hok
  have hT : rxT c.data.toList d.data.toList = IntKind.i32.wrap N := by unfold rxT; rw [hx, i32_wrap N hN]
  rw [hx, if_neg (by omega), hT] at hR
  have hcut : Lib.cut (c ++ ⟨#[35]⟩ ++ d).data.toList [35] = (c.data.toList, d.data.toList, true) := by
    rw [data_app, data_app, List.append_assoc]
    apply cut_app
    intro x hx e
    rw [hc] at hx
    have := decDigits_dig B x hx
    subst e; unfold isDig at this; simp at this
  exact token_radix _ c d (by rw [size_app, size_app]; have : (⟨#[35]⟩ : ByteArray).size = 1 := rfl; omega) w hm hcut _ _ _ _ hR
end Go.Proofs.YtfilbfenpdaahaaGreatDoor
