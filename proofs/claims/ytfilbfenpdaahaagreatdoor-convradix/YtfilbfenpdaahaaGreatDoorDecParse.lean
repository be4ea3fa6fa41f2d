/-
  The contract of Parse of package dec.
-/
import Derived.Test.YtfilbfenpdaahaaGreatDoorDecRdec
namespace Go.Proofs.YtfilbfenpdaahaaGreatDoor
open Go.RowKit
open Fx Dc
namespace Dc
def allD (l : List UInt8) : Bool := l.all fun (c : UInt8) => decide (48 ≤ c.toNat) && decide (c.toNat ≤ 57)
theorem allD_iff (l : List UInt8) : allD l = true ↔ allDig l := by
  unfold allD allDig isDig; simp [List.all_eq_true]
/-- the bytes ahead of a point, and behind it -/
def manA (l : List UInt8) : List UInt8 := (Lib.cut l [46]).1
def manB (l : List UInt8) : List UInt8 := (Lib.cut l [46]).2.1
def man (l : List UInt8) : List UInt8 := manA l ++ manB l
def manOk (l : List UInt8) : Bool := allD (man l) && !(man l).isEmpty
/-- the number that they are, its point moved by q, in One-th parts -/
def manN (l : List UInt8) (q : Int) : Int := ((rndD (digits (man l)) ((manA l).length + q) : Nat) : Int)
def sgn (b : Bool) (n : Int) : Int := if b = true then -n else n
def numO (l : List UInt8) (q : Int) (b : Bool) : Option Int := if (manOk l && fits (sgn b (manN l q))) = true then some (sgn b (manN l q)) else none
def parseO (l : List UInt8) : Option Int := if l.length ≤ 64 then numO (csL l) 0 (csB l) else none
theorem csL_len (l : List UInt8) : (csL l).length ≤ l.length := by
  unfold csL Lib.trimPrefix; split <;> split <;> simp
theorem cut_len (l : List UInt8) : (Lib.cut l [46]).1.length ≤ l.length ∧ (Lib.cut l [46]).2.1.length ≤ l.length := by
  unfold Lib.cut; split
  · exact ⟨by simp; omega, by simp⟩
  · exact ⟨by simp, by simp⟩
theorem man_len (l : List UInt8) : (manA l).length ≤ l.length ∧ (manB l).length ≤ l.length := cut_len l
theorem man_len2 (l : List UInt8) : (man l).length ≤ l.length := by
  unfold man manA manB Lib.cut; split
  · rw [List.length_append]; simp; omega
  · simp
theorem digits_len (L : List UInt8) : (digits L).length = L.length := by simp [digits]
theorem digits_digs {L : List UInt8} (h : allDig L) : digs (digits L) := by
  intro d hd
  unfold digits at hd
  obtain ⟨c, hc, rfl⟩ := List.mem_map.1 hd
  have := h c hc; unfold isDig at this; omega
theorem rndD_bd {xs : List Nat} (h : digs xs) (p : Int) : rndD xs p ≤ 4294967296 * 65536 + 65536 := by
  have h1 := whS_le xs p.toNat
  have h2 := dbls_bd 16 (fracP xs p) (fromP_digs h _ _)
  have h3 := dbl_carry _ (dbls_digs 16 (fracP xs p) (fromP_digs h _ _))
  have h4 : (2 : Nat) ^ 16 = 65536 := by decide
  unfold rndD; omega
end Dc
theorem decSigned_any (n : Int) (b : Bool) (w : World) (h0 : -9000000000000000000 ≤ n) (h1 : n ≤ 9000000000000000000) : Calls Tryz.prog 106 #[.int .i64 n, .bool b] w fun e w' => e = .returned (.int .i64 (sgn b n)) ∧ w = w' := by
  unfold sgn
  cases b
  · go_enter Tryz.func106, Tryz.ntmps106
    go_wp2_with fail
    go_ret
    exact ⟨rfl, rfl⟩
  · go_enter Tryz.func106, Tryz.ntmps106
    go_wp2_with fail
    go_ret
    exact ⟨rfl, rfl⟩
/-- readDecimal at any text -/
theorem readDec_at (s : ByteArray) (hs : s.size ≤ 64) (w : World) (hm : Mx w) : Calls Tryz.prog 108 #[.string s] w (RdcPost (man s.data.toList) ((manA s.data.toList).length : Int) w) := by
  have h1 := man_len s.data.toList
  rw [← size_list] at h1
  have h := readDecimal_any s ⟨(manA s.data.toList).toArray⟩ ⟨(manB s.data.toList).toArray⟩ (Lib.cut s.data.toList [46]).2.2 hs (by rw [size_mk]; omega) (by rw [size_mk]; omega) w hm rfl
  rw [data_app, size_mk] at h
  exact h
theorem numO_none {l : List UInt8} {q : Int} {b : Bool} (h : manOk l = false) : numO l q b = none := by unfold numO; rw [h]; rfl
theorem numO_nofit {l : List UInt8} {q : Int} {b : Bool} (h : fits (sgn b (manN l q)) = false) : numO l q b = none := by unfold numO; rw [h, Bool.and_false]; rfl
theorem numO_some {l : List UInt8} {q : Int} {b : Bool} (h : manOk l = true) (h2 : fits (sgn b (manN l q)) = true) : numO l q b = some (sgn b (manN l q)) := by unfold numO; rw [h, h2]; rfl
end Go.Proofs.YtfilbfenpdaahaaGreatDoor
