/-
  The sum of any numbers: the contract of Sum over a row of numbers in memory.
-/
import Derived.Test.YtgclgifjjdpapaaLaw01
namespace Go.Proofs.Ytgclgifjjdpapaa
open Go.RowKit
open Fx
namespace Fx
/-- s, and each number Added, in order: the sum, or the first error -/
def sums : List Int → Int → Int × Int
  | [], s => (s, 0)
  | z :: zs, s => if addE s z = 0 then sums zs (addV s z) else (0, addE s z)
theorem sums_cons (z : Int) (zs : List Int) (s : Int) : sums (z :: zs) s = if addE s z = 0 then sums zs (addV s z) else (0, addE s z) := rfl
theorem drop_at {zs : List Int} {k : Nat} {z : Int} (h : zs[k]? = some z) : zs.drop k = z :: zs.drop (k + 1) := by
  obtain ⟨hk, rfl⟩ := List.getElem?_eq_some_iff.1 h
  exact List.drop_eq_getElem_cons hk
end Fx
/-- a row of numbers that can be read: its cells, one behind the other -/
def RdI (w : World) (a : Option Addr) (zs : List Int) : Prop :=
  zs = [] ∨ ∃ b off, a = some ⟨b, off, none⟩ ∧ ∀ k z, zs[k]? = some z → w.cell? ⟨b, off + k, none⟩ = some (.int .i64 z)
def SumRel (zs : List Int) (t i : Value) : Prop :=
  ∃ (k : Nat) (s : Int), k ≤ zs.length ∧ i = .int .i64 k ∧ t = .int .i64 s ∧ sums zs 0 = sums (zs.drop k) s
theorem ret_two {a b c d : Int} (h : a = c) (h2 : b = d) : Ending.returned (.tuple #[.int .i64 a, .int .i64 b]) = .returned (.tuple #[.int .i64 c, .int .i64 d]) := by rw [h, h2]
theorem fixSum_at (a : Option Addr) (c : Nat) (zs : List Int) (w : World) (hlen : zs.length ≤ 10000) (hr : RdI w a zs) :
    Calls Try.prog 18 #[.slice a zs.length c] w fun e w' => e = .returned (.tuple #[.int .i64 (sums zs 0).1, .int .i64 (sums zs 0).2]) ∧ w = w' := by
  rcases hr with rfl | ⟨b, off, rfl, hcell⟩
  · go_enter Try.func18, Try.ntmps18
    go_wp2_with fail
    go_loop [4, 11] (fun t i => t = .int .i64 0 ∧ i = .int .i64 0) (fun _ i => 0 - (intOf i).toNat)
    case atStart => exact ⟨rfl, rfl⟩
    case round =>
      obtain ⟨rfl, rfl⟩ := hrel
      go_wp2_with fail
      go_ret2
      exact ⟨rfl, rfl⟩
  · have HC := Lib.hid hcell
    clear hcell
    go_enter Try.func18, Try.ntmps18
    go_wp2_with fail
    go_loop [4, 11] (SumRel zs) (fun _ i => zs.length - (intOf i).toNat)
    case atStart => exact ⟨0, 0, Nat.zero_le _, rfl, rfl, rfl⟩
    case round =>
      obtain ⟨k, s, hk, rfl, rfl, hs⟩ := hrel
      by_cases hlt : k < zs.length
      · obtain ⟨z, hz⟩ : ∃ z, zs[k]? = some z := ⟨_, List.getElem?_eq_getElem hlt⟩
        have hc := HC.out k z hz
        rw [drop_at hz, sums_cons] at hs
        have HZ := Lib.hid hz; clear hz
        by_cases he : addE s z = 0
        · rw [if_pos he] at hs
          have hA := fun w => fixAdd_any s z w
          rw [he] at hA
          have HA := Lib.hid hA
          have HS := Lib.hid hs
          clear hA he hs
          go_wp2_with fail
          refine (HA.out _).mono ?_; rintro e w' ⟨rfl, rfl⟩
          go_wp2_with fail
          go_round
          case rel => exact ⟨k + 1, _, by omega, by go_num, rfl, HS.out⟩
          case measure => simp [intOf]; omega
        · rw [if_neg he] at hs
          have hne : (addE s z != 0) = true := by simp [he]
          have HS := Lib.hid hs
          clear he hs
          go_wp2_with fail
          refine (fixAdd_any s z _).mono ?_; rintro e w' ⟨rfl, rfl⟩
          go_wp2_with fail
          go_ret2
          exact ⟨by rw [HS.out]; rfl, rfl⟩
      · have hs2 : sums zs 0 = (s, 0) := by rw [hs, List.drop_of_length_le (by omega)]; rfl
        have HS := Lib.hid hs2
        clear hs hs2
        go_wp2_with fail
        go_ret2
        exact ⟨by rw [HS.out]; rfl, rfl⟩
end Go.Proofs.Ytgclgifjjdpapaa
