/-
  The contract of Parse of package dec.
-/
import Derived.Test.YtibkgkjijhcnoaaDoorDecRdec
namespace Go.Proofs.YtibkgkjijhcnoaaDoor
open Go.RowKit
open Fx Dc
namespace Dc
def allD (l : List UInt8) : Bool := l.all fun (c : UInt8) => decide (48 ≤ c.toNat) && decide (c.toNat ≤ 57)
theorem allD_iff (l : List UInt8) : allD l = true ↔ allDig l := by
  unfold allD allDig isDig; simp [List.all_eq_true]
/-- the bytes ahead of a point, and behind it -/
def manA (l : List UInt8) : List UInt8 := (Lib.cut l [46]).1
def manB (l : List UInt8) : List UInt8 := (Lib.cut l [46]).2.1
def man (l : List UInt8) : List UInt8 := manA l ++ manB l
def manOk (l : List UInt8) : Bool := allD (man l) && !(man l).isEmpty
/-- the number that they are, its point moved by q, in One-th parts -/
def manN (l : List UInt8) (q : Int) : Int := ((rndD (digits (man l)) ((manA l).length + q) : Nat) : Int)
def sgn (b : Bool) (n : Int) : Int := if b = true then -n else n
def numO (l : List UInt8) (q : Int) (b : Bool) : Option Int := if (manOk l && fits (sgn b (manN l q))) = true then some (sgn b (manN l q)) else none
def parseO (l : List UInt8) : Option Int := if l.length ≤ 64 then numO (csL l) 0 (csB l) else none
theorem csL_len (l : List UInt8) : (csL l).length ≤ l.length := by
  unfold csL Lib.trimPrefix; split <;> split <;> simp
theorem cut_len (l : List UInt8) : (Lib.cut l [46]).1.length ≤ l.length ∧ (Lib.cut l [46]).2.1.length ≤ l.length := by
  unfold Lib.cut; split
  · exact ⟨by simp; omega, by simp⟩
  · exact ⟨by simp, by simp⟩
theorem man_len (l : List UInt8) : (manA l).length ≤ l.length ∧ (manB l).length ≤ l.length := cut_len l
theorem man_len2 (l : List UInt8) : (man l).length ≤ l.length := by
  unfold man manA manB Lib.cut; split
  · rw [List.length_append]; simp; omega
  · simp
theorem digits_len (L : List UInt8) : (digits L).length = L.length := by simp [digits]
theorem digits_digs {L : List UInt8} (h : allDig L) : digs (digits L) := by
  intro d hd
  unfold digits at hd
  obtain ⟨c, hc, rfl⟩ := List.mem_map.1 hd
  have := h c hc; unfold isDig at this; omega
theorem rndD_bd {xs : List Nat} (h : digs xs) (p : Int) : rndD xs p ≤ 4294967296 * 65536 + 65536 := by
  have h1 := whS_le xs p.toNat
  have h2 := dbls_bd 16 (fracP xs p) (fromP_digs h _ _)
  have h3 := dbl_carry _ (dbls_digs 16 (fracP xs p) (fromP_digs h _ _))
  have h4 : (2 : Nat) ^ 16 = 65536 := by decide
  unfold rndD; omega
end Dc
theorem decSigned_any (n : Int) (b : Bool) (w : World) (h0 : -9000000000000000000 ≤ n) (h1 : n ≤ 9000000000000000000) : Calls Tryd.prog 27 #[.int .i64 n, .bool b] w fun e w' => e = .returned (.int .i64 (sgn b n)) ∧ w = w' := by
  unfold sgn
  cases b
  · go_enter Tryd.func27, Tryd.ntmps27
    go_wp2_with fail
    go_ret
    exact ⟨rfl, rfl⟩
  · go_enter Tryd.func27, Tryd.ntmps27
    go_wp2_with fail
    go_ret
    exact ⟨rfl, rfl⟩
/-- readDecimal at any text -/
theorem readDec_at (s : ByteArray) (hs : s.size ≤ 64) (w : World) (hm : Mx w) : Calls Tryd.prog 26 #[.string s] w (RdcPost (man s.data.toList) ((manA s.data.toList).length : Int) w) := by
  have h1 := man_len s.data.toList
  rw [← size_list] at h1
  have h := readDecimal_any s ⟨(manA s.data.toList).toArray⟩ ⟨(manB s.data.toList).toArray⟩ (Lib.cut s.data.toList [46]).2.2 hs (by rw [size_mk]; omega) (by rw [size_mk]; omega) w hm rfl
  rw [data_app, size_mk] at h
  exact h
/-- what Parse answers -/
def ParPost (o : Option Int) (w : World) (e : Ending) (w' : World) : Prop := e = .returned (.tuple #[.int .i64 (o.getD 0), .bool o.isSome]) ∧ Below w.heap.size w w'
theorem decParse_long (s : ByteArray) (hs : 64 < s.size) (hs2 : s.size ≤ 3000) (w : World) : Calls Tryd.prog 14 #[.string s] w (ParPost none w) := by
  go_enter Tryd.func14, Tryd.ntmps14
  go_wp2_with fail
  go_ret2
  exact ⟨rfl, Below.refl _ _⟩
theorem numO_none {l : List UInt8} {q : Int} {b : Bool} (h : manOk l = false) : numO l q b = none := by unfold numO; rw [h]; rfl
theorem numO_nofit {l : List UInt8} {q : Int} {b : Bool} (h : fits (sgn b (manN l q)) = false) : numO l q b = none := by unfold numO; rw [h, Bool.and_false]; rfl
theorem numO_some {l : List UInt8} {q : Int} {b : Bool} (h : manOk l = true) (h2 : fits (sgn b (manN l q)) = true) : numO l q b = some (sgn b (manN l q)) := by unfold numO; rw [h, h2]; rfl
theorem decParse_short (s : ByteArray) (hs : s.size ≤ 64) (w : World) (hm : Mx w) : Calls Tryd.prog 14 #[.string s] w (ParPost (parseO s.data.toList) w) := by
  have hp : parseO s.data.toList = numO (csL s.data.toList) 0 (csB s.data.toList) := by unfold parseO; rw [if_pos (by rw [← size_list]; exact hs)]
  rw [hp]
  have HS := Lib.hid (cutSign_any s w)
  have HM := Lib.hid hm
  obtain ⟨l, hl⟩ : ∃ l, csL s.data.toList = l := ⟨_, rfl⟩
  obtain ⟨b, hb⟩ : ∃ b, csB s.data.toList = b := ⟨_, rfl⟩
  have hll : l.length ≤ 64 := by rw [← hl]; have := csL_len s.data.toList; rw [← size_list] at this; omega
  rw [hl, hb]
  rw [hl, hb] at HS
  clear hp hl hb hm
  go_enter Tryd.func14, Tryd.ntmps14
  go_wp2_with fail
  refine HS.out.mono ?_
  rintro e w' ⟨r, rfl, hr, rfl⟩
  have hrs : r.size ≤ 64 := len_le hr hll
  have hRD := readDec_at r hrs w HM.out
  rw [hr] at hRD
  have HRD := Lib.hid hRD
  clear hRD hr
  go_wp2_with fail
  refine HRD.out.mono ?_
  rintro e w1 (⟨g, cap, rfl, hdg, hall, hb1⟩ | ⟨rfl, hno, hb1⟩)
  · by_cases h0 : 0 < (man l).length
    · have hz : decide (0 < (man l).length) = true := by simpa using h0
      rw [hz]
      obtain ⟨n, hn⟩ : ∃ n, (man l).length = n := ⟨_, rfl⟩
      have hn64 : n ≤ 64 := by rw [← hn]; have := man_len2 l; omega
      obtain ⟨p, hp⟩ : ∃ p : Nat, (manA l).length = p := ⟨_, rfl⟩
      have hp64 : p ≤ 64 := by rw [← hp]; have := (man_len l).1; omega
      have hok : manOk l = true := by
        unfold manOk; rw [(allD_iff _).2 hall]
        cases hm : man l with
        | nil => rw [hm] at h0; simp at h0
        | cons x y => rfl
      have hR := fun w2 (hd : DgAt w2 g (digits (man l))) => rounded_dec g cap (p : Int) (digits (man l)) (digits_digs hall) w2 hd (by rw [digits_len]; omega) (by omega) (by omega)
      have hRb := rndD_bd (digits_digs hall) (p : Int)
      have hmn : manN l 0 = ((rndD (digits (man l)) (p : Int) : Nat) : Int) := by unfold manN; rw [hp]; simp
      rw [digits_len, hn] at hR
      rw [hn, hp]
      obtain ⟨N, hN⟩ : ∃ N : Nat, rndD (digits (man l)) (p : Int) = N := ⟨_, rfl⟩
      rw [hN] at hR hRb hmn
      have HR := Lib.hid hR
      have HN := Lib.hid (And.intro hok hmn)
      have HDG := Lib.hid hdg
      have HB1 := Lib.hid hb1
      have hsz1 := hb1.size
      clear hR hok hmn hdg hb1 hall h0 hz hn hp hN HRD
      go_wp2_with fail
      refine (HR.out _ (by exact HDG.out.below ((Below.refl _ _).alloc (Nat.le_refl _) _))).mono ?_
      rintro e w2 ⟨rfl, hb2⟩
      have HB2 := Lib.hid (bthen (HB1.out.alloc HB1.out.size _) hb2)
      clear hb2
      go_wp2_with fail
      refine (decSigned_any _ b _ (by omega) (by omega)).mono ?_
      rintro e w3 ⟨rfl, rfl⟩
      obtain ⟨V, hV⟩ : ∃ V, sgn b (N : Int) = V := ⟨_, rfl⟩
      rw [hV]
      cases hf : fits V
      · have HF := Lib.hid (fun w => fixFits_no V w hf)
        have HO : Hid (numO l 0 b = none) := numO_nofit (by rw [HN.out.2, hV]; exact hf)
        clear hf hV
        go_wp2_with fail
        refine (HF.out _).mono ?_
        rintro e w3 ⟨rfl, rfl⟩
        go_wp2_with fail
        go_ret2
        exact ⟨by rw [HO.out]; rfl, HB2.out⟩
      · have HF := Lib.hid (fun w => fixFits_yes V w hf)
        have HO : Hid (numO l 0 b = some V) := by
          have := numO_some (b := b) HN.out.1 (by rw [HN.out.2, hV]; exact hf)
          rw [HN.out.2, hV] at this; exact this
        clear hf hV
        go_wp2_with fail
        refine (HF.out _).mono ?_
        rintro e w3 ⟨rfl, rfl⟩
        go_wp2_with fail
        go_ret2
        exact ⟨by rw [HO.out]; rfl, HB2.out⟩
    · have hz : decide (0 < (man l).length) = false := by simpa using h0
      rw [hz]
      have hok : manOk l = false := by
        unfold manOk
        cases hm : man l with
        | nil => simp
        | cons x y => rw [hm] at h0; simp at h0
      have HO := Lib.hid (numO_none (q := 0) (b := b) hok)
      obtain ⟨n, hn⟩ : ∃ n, (man l).length = n := ⟨_, rfl⟩
      rw [hn]
      have HB1 := Lib.hid hb1
      clear hok hdg hb1 hall h0 hz hn HRD
      go_wp2_with fail
      go_ret2
      exact ⟨by rw [HO.out]; rfl, HB1.out.alloc HB1.out.size _⟩
  · have hok : manOk l = false := by
      unfold manOk
      cases h : allD (man l)
      · rfl
      · exact absurd ((allD_iff _).1 h) hno
    have HO := Lib.hid (numO_none (q := 0) (b := b) hok)
    have HB1 := Lib.hid hb1
    clear hok hno hb1 HRD
    go_wp2_with fail
    go_ret2
    exact ⟨by rw [HO.out]; rfl, HB1.out.alloc HB1.out.size _⟩
theorem decParse_any (s : ByteArray) (hs : s.size ≤ 3000) (w : World) (hm : Mx w) : Calls Tryd.prog 14 #[.string s] w (ParPost (parseO s.data.toList) w) := by
  by_cases h : s.size ≤ 64
  · exact decParse_short s h w hm
  · have hp : parseO s.data.toList = none := by unfold parseO; rw [if_neg (by rw [← size_list]; exact h)]
    rw [hp]
    exact decParse_long s (by omega) hs w
end Go.Proofs.YtibkgkjijhcnoaaDoor
