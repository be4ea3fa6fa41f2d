/-
  A string of 60 bytes that a text is laid into, and its part: plain facts.
-/
import Derived.Test.YtfilbfenpdaahaaGreatDoorCnvAsT
import Derived.Test.YtfilbfenpdaahaaGreatDoorCnvRead
import Derived.Test.YtfilbfenpdaahaaGreatDoorCnvTokM
namespace Go.Proofs.YtfilbfenpdaahaaGreatDoor
open Go.RowKit
open St
open Stk
open Col
open Fx Dc
namespace Cv
/-- the store's one string -/
def gB (bs : List UInt8) (l : Lay) : List (Th × Lay) := [(⟨6, bs, [], [], 0, 0⟩, l)]
/-- it, or its part from 0 on -/
def rmO (n : Int) : Ob := ⟨6, false, 0, 0, ⟨#[]⟩, 1, 0, n⟩
def z60 : List UInt8 := List.replicate 60 0
theorem tld_gB {bs : List UInt8} {l : Lay} {n : Int} (hb : bs.length = 60) (h0 : 0 ≤ n) (h1 : n ≤ 60) : tld (gB bs l) (rmO n) 6 = some 0 := by
  have hl : liesB 0 n (bs.length : Int) = true := liesB_iff.2 (by omega)
  unfold tld rmO gB
  simp [Th.length, hl]
theorem part_gB {bs : List UInt8} {l : Lay} {n : Nat} (hb : bs.length = 60) (h1 : n ≤ 60) : partR (gB bs l) (rmO 60) 0 n = (rmO n, 0) := by
  have hl : liesB 0 n 60 = true := liesB_iff.2 (by omega)
  unfold partR
  rw [tld_gB hb (by decide) (by decide)]
  rw [if_neg (by simp), show (rmO 60).len = 60 from rfl, hl, if_pos rfl]
  rfl
theorem writeE_gB {bs : List UInt8} {l : Lay} {n : Nat} (hb : bs.length = 60) (h1 : n ≤ 60) : writeE (gB bs l) (rmO n) 0 n = 0 := by
  have hl : liesB 0 n n = true := liesB_iff.2 (by omega)
  unfold writeE
  rw [tld_gB hb (by omega) (by omega), if_neg (by simp), show (rmO n).len = n from rfl, hl, if_pos rfl]
theorem writeR_gB {bs L : List UInt8} {l : Lay} (hb : bs.length = 60) (h1 : L.length ≤ 60) : writeR (gB bs l) (rmO L.length) 0 L = gB (L ++ bs.drop L.length) l := by
  unfold writeR
  rw [tld_gB hb (by omega) (by omega)]
  simp [wrG, wrF, gB, rmO]
theorem bytes_gB {L R : List UInt8} {l : Lay} (hb : (L ++ R).length = 60) : bytesR (gB (L ++ R) l) (rmO L.length) = L := by
  have : L.length ≤ 60 := by rw [← hb]; simp
  unfold bytesR
  rw [tld_gB hb (by omega) (by omega)]
  simp [gB, rmO]
theorem valid_gB {bs : List UInt8} {l : Lay} {n : Int} (hb : bs.length = 60) (h0 : 0 ≤ n) (h1 : n ≤ 60) : valid (gB bs l) (rmO n) = true := by
  unfold valid
  rw [if_pos (.inl rfl), show (rmO n).kind = 6 from rfl, tld_gB hb h0 h1]; rfl
theorem valid_num (G : List (Th × Lay)) {k n : Int} (h : k = 1 ∨ k = 2) : valid G (numO k n) = true := by
  unfold valid
  rw [if_neg (by unfold numO; simp only; omega)]
theorem txt_num (G : List (Th × Lay)) {k n : Int} (h : k = 1 ∨ k = 2) : Cn.txtL G (numO k n) = if k = 1 then Lib.itoa n else realL n := by
  unfold Cn.txtL
  rw [valid_num G h, if_neg (by simp)]
  unfold numO
  rcases h with rfl | rfl
  · rfl
  · rfl
def txtN (k n : Int) : List UInt8 := if k = 1 then Lib.itoa n else realL n
theorem txtN_len {k n : Int} (h : -2147483648 ≤ n ∧ n ≤ 2147483647) : (txtN k n).length ≤ 60 := by
  unfold txtN
  split
  · exact itoa_len n h
  · exact realL_len n h
theorem txtN_tok {k n : Int} (hk : k = 1 ∨ k = 2) (h : -2147483648 ≤ n ∧ n ≤ 2147483647) : tokR (txtN k n) = (k, n, true, 0) := by
  unfold txtN
  rcases hk with rfl | rfl
  · rw [if_pos rfl]; exact tok_itoa n h
  · rw [if_neg (by decide)]; exact tok_realL n h
/-- what the store has, when the number's text is laid into the string -/
def gL (L : List UInt8) (l : Lay) : List (Th × Lay) := gB (L ++ z60.drop L.length) l
theorem gL_len {L : List UInt8} (h : L.length ≤ 60) : (L ++ z60.drop L.length).length = 60 := by simp [z60]; omega
theorem acs_rm (G : List (Th × Lay)) (n : Int) : acs G (rmO n) = 0 := rfl
theorem room_made (l : Lay) : (([] : List (Th × Lay)) ++ [((⟨6, List.replicate (60 : Int).toNat 0, [], [], 0, 0⟩ : Th), l)]) = gB z60 l ∧ newOb ⟨6, List.replicate (60 : Int).toNat 0, [], [], 0, 0⟩ ([] : List (Th × Lay)).length = rmO 60 := ⟨rfl, rfl⟩
end Cv
end Go.Proofs.YtfilbfenpdaahaaGreatDoor
