/-
  The walk of FontNames.
-/
import Derived.Test.YtioldiibfhcgpaaDoorFonFont
namespace Go.Proofs.YtioldiibfhcgpaaDoor
open Go.RowKit
namespace Fo
theorem nm_full : ∀ k, k < 14 → (nmS k).data.toList.isEmpty = false := by decide +kernel
set_option maxRecDepth 100000 in
set_option maxHeartbeats 1000000 in
theorem nms_in (k : Nat) (hk : k < 14) (s : ByteArray) (w : World) (ht : NmT w) :
    Calls Tryd.prog 4 #[.int .i64 k, .string s] w fun e w' => e = .returned (.bool true) ∧ Below w.heap.size w w' := by
  have HFw := Lib.hid (fun (v : World) (h : NmT v) => find_at (nmS k) v h)
  rw [fnd_own k hk] at HFw
  have e0 : fndV (some k) = .tuple #[.int .i64 k, .bool true] := rfl
  rw [e0] at HFw
  have HNm := Lib.hid (fun (v : World) (h : NmT v) => name_at k hk v h)
  have hfull := nm_full k hk
  rw [← ByteArray.toList_eq] at hfull
  obtain ⟨S, hS⟩ : ∃ S, nmS k = S := ⟨_, rfl⟩
  rw [hS] at HFw HNm hfull
  have hk' : (k : Int) < 14 := by omega
  have hk0 : (0 : Int) ≤ k := by omega
  have HT := Lib.hid ht
  have HF := Lib.hid (fun (v : World) (h : NmT v) => find_at s v h)
  have HZ := Lib.hid (fun (v : World) => font_at s v)
  have HA := Lib.hid (fun (v : World) (h : NmT v) => fonAns_at v h)
  have hlt := fnd_lt s 14 0
  change ∀ j, fndA s = some j → _ at hlt
  generalize fndA s = o at *
  clear ht
  go_enter Tryd.func4, Tryd.ntmps4
  go_wp2_with fail
  refine (names_at _).mono ?_; rintro e w1 ⟨rfl, hn, hb1⟩
  have HN := Lib.hid hn
  have HB1 := Lib.hid hb1
  have HT1 := Lib.hid (HT.out.below hb1)
  generalize w.heap.size = B at HN ⊢
  clear hn hb1
  have hcell := HN.out.at k hk
  rw [hS] at hcell
  go_wp2_with fail
  refine (HF.out _ HT1.out).mono ?_; rintro e w2 ⟨rfl, rfl⟩
  clear hcell
  cases o with
  | none =>
    have e1 : fndV none = .tuple #[.int .i64 0, .bool false] := rfl
    rw [e1]
    go_wp2_with fail
    refine (HZ.out _).mono ?_; rintro e w3 ⟨rfl, hb3⟩
    have HB3 := Lib.hid (HB1.out.trans (hb3.mono HB1.out.size))
    have HT3 := Lib.hid (HT1.out.below hb3)
    have e2 : fndZ none = -1 := rfl
    rw [e2]
    clear hb3
    go_wp2_with fail
    refine (HA.out _ HT3.out).mono ?_; rintro e w4 ⟨rfl, hb4⟩
    have HB4 := Lib.hid (HB3.out.trans (hb4.mono HB3.out.size))
    have HT4 := Lib.hid (HT3.out.below hb4)
    clear hb4
    go_wp2_with fail
    refine (HNm.out _ HT4.out).mono ?_; rintro e w5 ⟨rfl, rfl⟩
    go_wp2_with fail
    refine (HFw.out _ HT4.out).mono ?_; rintro e w6 ⟨rfl, rfl⟩
    go_wp2_with fail
    go_ret
    exact ⟨rfl, HB4.out⟩
  | some j =>
    have hj := hlt j rfl
    have e1 : fndV (some j) = .tuple #[.int .i64 j, .bool true] := rfl
    rw [e1]
    have hj0 : (0 : Int) ≤ j := by omega
    go_wp2_with fail
    refine (HZ.out _).mono ?_; rintro e w3 ⟨rfl, hb3⟩
    have HB3 := Lib.hid (HB1.out.trans (hb3.mono HB1.out.size))
    have HT3 := Lib.hid (HT1.out.below hb3)
    have e2 : fndZ (some j) = j := rfl
    rw [e2]
    clear hb3
    go_wp2_with fail
    refine (HA.out _ HT3.out).mono ?_; rintro e w4 ⟨rfl, hb4⟩
    have HB4 := Lib.hid (HB3.out.trans (hb4.mono HB3.out.size))
    have HT4 := Lib.hid (HT3.out.below hb4)
    clear hb4
    go_wp2_with fail
    refine (HNm.out _ HT4.out).mono ?_; rintro e w5 ⟨rfl, rfl⟩
    go_wp2_with fail
    refine (HFw.out _ HT4.out).mono ?_; rintro e w6 ⟨rfl, rfl⟩
    go_wp2_with fail
    go_ret
    exact ⟨rfl, HB4.out⟩
theorem fnd_empty : fndA ⟨#[]⟩ = none := by
  have h : ∀ i : Fin 14, ((nmS i.1).data.toList == (⟨#[]⟩ : ByteArray).data.toList) = false := by decide +kernel
  have h2 : ∀ n m, n + m = 14 → fnd ⟨#[]⟩ n m = none := by
    intro n
    induction n with
    | zero => intro m h1; rfl
    | succ n ih =>
      intro m h1
      rw [fnd_no (by rw [ByteArray.toList_eq, ByteArray.toList_eq]; exact h ⟨m, by omega⟩)]
      exact ih (m + 1) (by omega)
  exact h2 14 0 rfl
set_option maxRecDepth 100000 in
set_option maxHeartbeats 1000000 in
theorem nms_low (i : Int) (hi : i < 0) (s : ByteArray) (w : World) (ht : NmT w) :
    Calls Tryd.prog 4 #[.int .i64 i, .string s] w fun e w' => e = .returned (.bool true) ∧ Below w.heap.size w w' := by
  have HFw := Lib.hid (fun (v : World) (h : NmT v) => find_at ⟨#[]⟩ v h)
  have e00 := fnd_empty
  rw [e00] at HFw
  have e0 : fndV none = .tuple #[.int .i64 0, .bool false] := rfl
  rw [e0] at HFw
  have HNm := Lib.hid (fun (v : World) => name_no i (.inl hi) v)
  have HT := Lib.hid ht
  have HF := Lib.hid (fun (v : World) (h : NmT v) => find_at s v h)
  have HZ := Lib.hid (fun (v : World) => font_at s v)
  have HA := Lib.hid (fun (v : World) (h : NmT v) => fonAns_at v h)
  have hlt := fnd_lt s 14 0
  change ∀ j, fndA s = some j → _ at hlt
  generalize fndA s = o at *
  clear ht
  go_enter Tryd.func4, Tryd.ntmps4
  go_wp2_with fail
  refine (names_at _).mono ?_; rintro e w1 ⟨rfl, hn, hb1⟩
  have HN := Lib.hid hn
  have HB1 := Lib.hid hb1
  have HT1 := Lib.hid (HT.out.below hb1)
  generalize w.heap.size = B at HN ⊢
  clear hn hb1
  go_wp2_with fail
  refine (HF.out _ HT1.out).mono ?_; rintro e w2 ⟨rfl, rfl⟩
  cases o with
  | none =>
    have e1 : fndV none = .tuple #[.int .i64 0, .bool false] := rfl
    rw [e1]
    go_wp2_with fail
    refine (HZ.out _).mono ?_; rintro e w3 ⟨rfl, hb3⟩
    have HB3 := Lib.hid (HB1.out.trans (hb3.mono HB1.out.size))
    have HT3 := Lib.hid (HT1.out.below hb3)
    have e2 : fndZ none = -1 := rfl
    rw [e2]
    clear hb3
    go_wp2_with fail
    refine (HA.out _ HT3.out).mono ?_; rintro e w4 ⟨rfl, hb4⟩
    have HB4 := Lib.hid (HB3.out.trans (hb4.mono HB3.out.size))
    have HT4 := Lib.hid (HT3.out.below hb4)
    clear hb4
    go_wp2_with fail
    refine (HNm.out _).mono ?_; rintro e w5 ⟨rfl, rfl⟩
    go_wp2_with fail
    refine (HFw.out _ HT4.out).mono ?_; rintro e w6 ⟨rfl, rfl⟩
    go_wp2_with fail
    go_ret
    exact ⟨rfl, HB4.out⟩
  | some j =>
    have hj := hlt j rfl
    have e1 : fndV (some j) = .tuple #[.int .i64 j, .bool true] := rfl
    rw [e1]
    have hj0 : (0 : Int) ≤ j := by omega
    go_wp2_with fail
    refine (HZ.out _).mono ?_; rintro e w3 ⟨rfl, hb3⟩
    have HB3 := Lib.hid (HB1.out.trans (hb3.mono HB1.out.size))
    have HT3 := Lib.hid (HT1.out.below hb3)
    have e2 : fndZ (some j) = j := rfl
    rw [e2]
    clear hb3
    go_wp2_with fail
    refine (HA.out _ HT3.out).mono ?_; rintro e w4 ⟨rfl, hb4⟩
    have HB4 := Lib.hid (HB3.out.trans (hb4.mono HB3.out.size))
    have HT4 := Lib.hid (HT3.out.below hb4)
    clear hb4
    go_wp2_with fail
    refine (HNm.out _).mono ?_; rintro e w5 ⟨rfl, rfl⟩
    go_wp2_with fail
    refine (HFw.out _ HT4.out).mono ?_; rintro e w6 ⟨rfl, rfl⟩
    go_wp2_with fail
    go_ret
    exact ⟨rfl, HB4.out⟩
set_option maxRecDepth 100000 in
set_option maxHeartbeats 1000000 in
theorem nms_high (i : Int) (hi : 14 ≤ i) (s : ByteArray) (w : World) (ht : NmT w) :
    Calls Tryd.prog 4 #[.int .i64 i, .string s] w fun e w' => e = .returned (.bool true) ∧ Below w.heap.size w w' := by
  have HFw := Lib.hid (fun (v : World) (h : NmT v) => find_at ⟨#[]⟩ v h)
  have e00 := fnd_empty
  rw [e00] at HFw
  have e0 : fndV none = .tuple #[.int .i64 0, .bool false] := rfl
  rw [e0] at HFw
  have HNm := Lib.hid (fun (v : World) => name_no i (.inr hi) v)
  have HT := Lib.hid ht
  have HF := Lib.hid (fun (v : World) (h : NmT v) => find_at s v h)
  have HZ := Lib.hid (fun (v : World) => font_at s v)
  have HA := Lib.hid (fun (v : World) (h : NmT v) => fonAns_at v h)
  have hlt := fnd_lt s 14 0
  change ∀ j, fndA s = some j → _ at hlt
  generalize fndA s = o at *
  clear ht
  go_enter Tryd.func4, Tryd.ntmps4
  go_wp2_with fail
  refine (names_at _).mono ?_; rintro e w1 ⟨rfl, hn, hb1⟩
  have HN := Lib.hid hn
  have HB1 := Lib.hid hb1
  have HT1 := Lib.hid (HT.out.below hb1)
  generalize w.heap.size = B at HN ⊢
  clear hn hb1
  go_wp2_with fail
  refine (HF.out _ HT1.out).mono ?_; rintro e w2 ⟨rfl, rfl⟩
  cases o with
  | none =>
    have e1 : fndV none = .tuple #[.int .i64 0, .bool false] := rfl
    rw [e1]
    go_wp2_with fail
    refine (HZ.out _).mono ?_; rintro e w3 ⟨rfl, hb3⟩
    have HB3 := Lib.hid (HB1.out.trans (hb3.mono HB1.out.size))
    have HT3 := Lib.hid (HT1.out.below hb3)
    have e2 : fndZ none = -1 := rfl
    rw [e2]
    clear hb3
    go_wp2_with fail
    refine (HA.out _ HT3.out).mono ?_; rintro e w4 ⟨rfl, hb4⟩
    have HB4 := Lib.hid (HB3.out.trans (hb4.mono HB3.out.size))
    have HT4 := Lib.hid (HT3.out.below hb4)
    clear hb4
    go_wp2_with fail
    refine (HNm.out _).mono ?_; rintro e w5 ⟨rfl, rfl⟩
    go_wp2_with fail
    refine (HFw.out _ HT4.out).mono ?_; rintro e w6 ⟨rfl, rfl⟩
    go_wp2_with fail
    go_ret
    exact ⟨rfl, HB4.out⟩
  | some j =>
    have hj := hlt j rfl
    have e1 : fndV (some j) = .tuple #[.int .i64 j, .bool true] := rfl
    rw [e1]
    have hj0 : (0 : Int) ≤ j := by omega
    go_wp2_with fail
    refine (HZ.out _).mono ?_; rintro e w3 ⟨rfl, hb3⟩
    have HB3 := Lib.hid (HB1.out.trans (hb3.mono HB1.out.size))
    have HT3 := Lib.hid (HT1.out.below hb3)
    have e2 : fndZ (some j) = j := rfl
    rw [e2]
    clear hb3
    go_wp2_with fail
    refine (HA.out _ HT3.out).mono ?_; rintro e w4 ⟨rfl, hb4⟩
    have HB4 := Lib.hid (HB3.out.trans (hb4.mono HB3.out.size))
    have HT4 := Lib.hid (HT3.out.below hb4)
    clear hb4
    go_wp2_with fail
    refine (HNm.out _).mono ?_; rintro e w5 ⟨rfl, rfl⟩
    go_wp2_with fail
    refine (HFw.out _ HT4.out).mono ?_; rintro e w6 ⟨rfl, rfl⟩
    go_wp2_with fail
    go_ret
    exact ⟨rfl, HB4.out⟩
theorem nms_walk (i : Int) (s : ByteArray) (w : World) (ht : NmT w) :
    Calls Tryd.prog 4 #[.int .i64 i, .string s] w fun e w' => e = .returned (.bool true) ∧ Below w.heap.size w w' := by
  by_cases h : i < 0 ∨ 14 ≤ i
  · rcases h with h | h
    · exact nms_low i h s w ht
    · exact nms_high i h s w ht
  · obtain ⟨k, rfl⟩ : ∃ k : Nat, i = k := ⟨i.toNat, by omega⟩
    exact nms_in k (by omega) s w ht
end Fo
end Go.Proofs.YtioldiibfhcgpaaDoor
