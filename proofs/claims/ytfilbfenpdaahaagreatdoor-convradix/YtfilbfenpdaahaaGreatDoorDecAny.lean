/-
  The library's IndexAny at the two bytes e and E, for every text of at most 64 bytes.
-/
import Derived.Test.YtfilbfenpdaahaaGreatDoorDecToken1
import Derived.Shelf.Strings.IndexAnyAll
import Derived.Laws.RangeAny
import Derived.Deep.LoopGhost
import Derived.WalkMore
import Derived.Lib.RuneCount
import Derived.Lib.OthersKept
import Derived.Lib.TrimU
namespace Go.Proofs.YtfilbfenpdaahaaGreatDoor
open Go.RowKit
open Fx Dc
namespace Dc
def Ee : ByteArray := ⟨#[101, 69]⟩
theorem enc_forms (r : Int) (h0 : 128 ≤ r) (h1 : r ≤ 1114111) : (∃ b0 b1 : UInt8, Utf8.encode r = ⟨#[b0, b1]⟩ ∧ 128 ≤ b1.toNat) ∨ (∃ b0 b1 b2 : UInt8, Utf8.encode r = ⟨#[b0, b1, b2]⟩) ∨ (∃ b0 b1 b2 b3 : UInt8, Utf8.encode r = ⟨#[b0, b1, b2, b3]⟩) := by
  obtain ⟨c, hc⟩ : ∃ c, (if Utf8.valid r = true then r.toNat else Utf8.runeError) = c := ⟨_, rfl⟩
  have hc0 : 128 ≤ c := by
    rw [← hc]; split
    · omega
    · unfold Utf8.runeError; omega
  unfold Utf8.encode
  rw [hc]
  simp only
  rw [if_neg (by omega)]
  split
  · left; exact ⟨_, _, rfl, by simp; omega⟩
  · split
    · right; left; exact ⟨_, _, _, rfl⟩
    · right; right; exact ⟨_, _, _, _, rfl⟩
end Dc
theorem quiet_add_same {P : Program} {f : FuncId} {args : Array Value} {w : World} {a n : Nat} {v : Value}
    (h : Calls P f args (w.drewN (a + n)) fun e w' => e = .returned v ∧ w' = w.drewN (a + n)) :
    Calls P f args (w.drewN (a + n)) fun e w'' => e = .returned v ∧ ∃ m, w'' = w.drewN (a + m) :=
  h.mono fun _ _ ⟨he, hm⟩ => ⟨he, n, hm⟩
set_option maxRecDepth 100000 in
set_option maxHeartbeats 1000000 in
theorem indexRune_err (w : World) : Calls Tryz.prog 143 #[.string ⟨#[101, 69]⟩, .int .i32 65533] w fun e w' => e = .returned (.int .i64 (-1)) ∧ Below w.heap.size w w' := by
  go_enter Tryz.func143, Tryz.ntmps143
  go_wp2_with fail
  go_loopg [5, 6] 2 (fun g _ _ wx => ∃ i : Nat, i + g = 2 ∧ wx = w.iter ⟨#[101, 69]⟩ i)
  case atStart => exact ⟨0, by omega, rfl⟩
  case round =>
    obtain ⟨i, hig, rfl⟩ := hrel
    cases gk with
    | zero =>
      obtain rfl : i = 2 := by omega
      have hnx := fun ty => run_next_end (P := Tryz.prog) w ⟨#[101, 69]⟩ 2 ty (by decide)
      go_wp2_with fail
      go_ret
      exact ⟨rfl, (Below.refl _ _).alloc (Nat.le_refl _) _⟩
    | succ g =>
      cases g with
      | zero =>
        obtain rfl : i = 1 := by omega
        have hnx := fun ty => run_next_ascii (P := Tryz.prog) w ⟨#[101, 69]⟩ 1 ty (by decide) (by decide)
        go_wp2_with fail
        go_roundg 0
        case measure => omega
        case rel => exact ⟨2, by omega, rfl⟩
      | succ g =>
        obtain ⟨rfl, rfl⟩ : i = 0 ∧ g = 0 := by omega
        have hnx := fun ty => run_next_ascii (P := Tryz.prog) w ⟨#[101, 69]⟩ 0 ty (by decide) (by decide)
        go_wp2_with fail
        go_roundg 1
        case measure => omega
        case rel => exact ⟨1, by omega, rfl⟩
set_option maxRecDepth 100000 in
set_option maxHeartbeats 1000000 in
theorem indexRune_bad (r : Int) (h0 : 128 ≤ r) (hne : r ≠ 65533) (hv : Lib.validRune r = false) (w : World) : Calls Tryz.prog 143 #[.string ⟨#[101, 69]⟩, .int .i32 r] w fun e w' => e = .returned (.int .i64 (-1)) ∧ Below w.heap.size w w' := by
  have H := Lib.hid (fun w => Tryz.utf8_ValidRune r w)
  have g1 : decide (r < 128) = false := decide_eq_false (by omega)
  have g2 : (r == 65533) = false := by rw [beq_eq_false_iff_ne]; exact hne
  have HV := Lib.hid hv
  clear hne hv
  go_enter Tryz.func143, Tryz.ntmps143
  go_wp2_with fail
  refine (H.out _).mono ?_
  rintro e w' ⟨rfl, rfl⟩
  rw [HV.out]
  go_wp2_with fail
  go_ret
  exact ⟨rfl, Below.refl _ _⟩
set_option maxRecDepth 100000 in
set_option maxHeartbeats 1000000 in
theorem indexRune_good (r : Int) (h0 : 128 ≤ r) (h1 : r ≤ 1114111) (hne : r ≠ 65533) (hv : Lib.validRune r = true) (w : World) : Calls Tryz.prog 143 #[.string ⟨#[101, 69]⟩, .int .i32 r] w fun e w' => e = .returned (.int .i64 (-1)) ∧ Below w.heap.size w w' := by
  have H := Lib.hid (fun w => Tryz.utf8_ValidRune r w)
  have g1 : decide (r < 128) = false := decide_eq_false (by omega)
  have g2 : (r == 65533) = false := by rw [beq_eq_false_iff_ne]; exact hne
  have HV := Lib.hid hv
  have hE := enc_forms r h0 h1
  clear hne hv
  rcases hE with ⟨b0, b1, hE, hb⟩ | ⟨b0, b1, b2, hE⟩ | ⟨b0, b1, b2, b3, hE⟩
  · have g3 : ((((⟨#[101, 69]⟩ : ByteArray)[1]'(by decide)).toNat : Int) != (((⟨#[b0, b1]⟩ : ByteArray)[1]'(by show 1 < 2; omega)).toNat : Int)) = true := by
      show ((69 : Int) != (b1.toNat : Int)) = true
      rw [bne_iff_ne]; omega
    go_enter Tryz.func143, Tryz.ntmps143
    go_wp2_with fail
    refine (H.out _).mono ?_
    rintro e w' ⟨rfl, rfl⟩
    rw [HV.out]
    go_wp2_with fail
    go_step3
    go_wp2_with fail
    go_loop [9, 10] (fun i f => i = .int .i64 1 ∧ f = .int .i64 0) (fun _ _ => 0)
    case atStart => exact ⟨rfl, rfl⟩
    case round =>
      obtain ⟨rfl, rfl⟩ := hrel
      go_wp2_with fail
      go_step3
      go_wp2_with fail
      go_quiet (fail)
      go_wp2_with fail
      go_quiet ((go_at_call 148; exact quiet_add_same (Tryz.strings_IndexByte _ _ _)))
      go_wp2_with fail
      rw [Exit.noGoto_ret]
      go_wp2_with fail
      try rw [Exit.noGoto_ret]
      go_ret
      exact ⟨rfl, below_draws _ _⟩
  · go_enter Tryz.func143, Tryz.ntmps143
    go_wp2_with fail
    refine (H.out _).mono ?_
    rintro e w' ⟨rfl, rfl⟩
    rw [HV.out]
    go_wp2_with fail
    go_step3
    go_wp2_with fail
    go_loop [9, 10] (fun i f => i = .int .i64 2 ∧ f = .int .i64 0) (fun _ _ => 0)
    case atStart => exact ⟨rfl, rfl⟩
    case round =>
      obtain ⟨rfl, rfl⟩ := hrel
      go_wp2_with fail
      try rw [Exit.noGoto_ret]
      go_ret
      exact ⟨rfl, Below.refl _ _⟩
  · go_enter Tryz.func143, Tryz.ntmps143
    go_wp2_with fail
    refine (H.out _).mono ?_
    rintro e w' ⟨rfl, rfl⟩
    rw [HV.out]
    go_wp2_with fail
    go_step3
    go_wp2_with fail
    go_loop [9, 10] (fun i f => i = .int .i64 3 ∧ f = .int .i64 0) (fun _ _ => 0)
    case atStart => exact ⟨rfl, rfl⟩
    case round =>
      obtain ⟨rfl, rfl⟩ := hrel
      go_wp2_with fail
      try rw [Exit.noGoto_ret]
      go_ret
      exact ⟨rfl, Below.refl _ _⟩
theorem indexRune_high (r : Int) (h0 : 128 ≤ r) (h1 : r ≤ 1114111) (w : World) : Calls Tryz.prog 143 #[.string ⟨#[101, 69]⟩, .int .i32 r] w fun e w' => e = .returned (.int .i64 (-1)) ∧ Below w.heap.size w w' := by
  by_cases hne : r = 65533
  · subst hne; exact indexRune_err w
  · cases hv : Lib.validRune r
    · exact indexRune_bad r h0 hne hv w
    · exact indexRune_good r h0 h1 hne hv w
theorem getElem_at (s : ByteArray) (k : Nat) (h : k < s.size) : s.data.toList[k]? = some s[k] := by
  rw [List.getElem?_eq_getElem (by simpa using h)]; rfl
namespace Dc
theorem get_list (s : ByteArray) (j : Nat) (b : UInt8) (h : s.data.toList[j]? = some b) : s.get! j = b := by
  obtain ⟨h1, h2⟩ := List.getElem?_eq_some_iff.1 h
  have h3 : j < s.size := by rw [size_list]; exact h1
  have e := get_at s j h3
  rw [Nat.add_zero] at e
  rw [e]
  rw [← h2]; rfl
/-- what a code point's first byte leads are bytes from 128 on -/
theorem decode_skip (s : ByteArray) (pos j : Nat) (b : UInt8) (hj : pos < j) (hj2 : j < pos + (Utf8.decode s pos).2) (hb : s.data.toList[j]? = some b) : 128 ≤ b.toNat := by
  have hc : ∀ k, j = pos + k → (s.get! (pos + k)).toNat / 64 = 2 → 128 ≤ b.toNat := by
    intro k hk h
    rw [← hk, get_list s j b hb] at h; omega
  unfold Utf8.decode at hj2
  simp only at hj2
  repeat' split at hj2
  all_goals simp only [Bool.and_eq_true, beq_iff_eq, decide_eq_true_eq] at *
  all_goals first
    | (exfalso; omega)
    | (obtain ⟨k, rfl⟩ : ∃ k, j = pos + k := ⟨j - pos, by omega⟩
       have hk : k = 1 ∨ k = 2 ∨ k = 3 := by omega
       rcases hk with rfl | rfl | rfl
       all_goals first | (exact hc _ rfl (by omega)) | (exfalso; omega))
theorem not_Ee {b : UInt8} (h : 128 ≤ b.toNat) : ([101, 69] : List UInt8).contains b = false := by
  have h1 : b ≠ 101 := by rintro rfl; simp at h
  have h2 : b ≠ 69 := by rintro rfl; simp at h
  simp [h1, h2]
theorem noAny_skip {s : ByteArray} {pos : Nat} {x : UInt8} (h : Lib.NoAny s.data.toList [101, 69] pos) (hx : s.data.toList[pos]? = some x) (hhi : 128 ≤ x.toNat) : Lib.NoAny s.data.toList [101, 69] (pos + (Utf8.decode s pos).2) := by
  intro j b hj hb
  rcases Nat.lt_trichotomy j pos with h1 | h1 | h1
  · exact h j b h1 hb
  · subst h1
    obtain rfl : x = b := Option.some.inj (hx.symm.trans hb)
    exact not_Ee hhi
  · exact not_Ee (decode_skip s pos j b h1 hj hb)
theorem noAny_end {s : ByteArray} {i : Nat} (h : Lib.NoAny s.data.toList [101, 69] i) (hi : s.size ≤ i) : Lib.indexAny s.data.toList [101, 69] = -1 :=
  Lib.indexAny_none (fun j b hj hb => h j b (by rw [← size_list] at hj; omega) hb)
end Dc
def AnyRel (s : ByteArray) (w : World) (g : Nat) (wx : World) : Prop :=
  ∃ i : Nat, s.size ≤ i + g ∧ wx.heap[w.heap.size]? = some (.stringIter s i) ∧ Below w.heap.size w wx ∧ Lib.NoAny s.data.toList [101, 69] i
set_option maxRecDepth 100000 in
set_option maxHeartbeats 1000000 in
theorem indexEe_short (s : ByteArray) (h8 : s.size ≤ 8) (w : World) : Calls Tryz.prog 130 #[.string s, .string ⟨#[101, 69]⟩] w fun e w' => e = .returned (.int .i64 (Lib.indexAny s.data.toList [101, 69])) ∧ Below w.heap.size w w' := by
  have h8z : decide ((8 : Int) < (s.size : Int)) = false := decide_eq_false (by omega)
  have HS := Lib.hid (fun w => Tryz.strings_shouldUseASCIISet (s.size : Int) w)
  go_enter Tryz.func130, Tryz.ntmps130
  go_wp2_with fail
  refine (HS.out _).mono ?_
  rintro e w' ⟨rfl, rfl⟩
  rw [h8z]
  go_wp2_with fail
  go_loopg [9, 10] s.size (fun g _ _ wx => AnyRel s w' g wx)
  case atStart => exact ⟨0, by omega, World.iter_heap _ _ _, (Below.refl _ _).alloc (Nat.le_refl _) _, Lib.NoAny.zero _ _⟩
  case round =>
    obtain ⟨i, hig, hit, hbel, hno⟩ := hrel
    have HN := Lib.hid hno
    have HI := Lib.hid hit
    have HB := Lib.hid hbel
    clear hno hit hbel
    by_cases hi : i < s.size
    · obtain ⟨x, hx⟩ : ∃ x : UInt8, s.data.toList[i]? = some x := ⟨_, getElem_at s i hi⟩
      have hx2 : s[i]'hi = x := Option.some.inj ((getElem_at s i hi).symm.trans hx)
      obtain ⟨g, rfl⟩ : ∃ g, gk = g + 1 := ⟨gk - 1, by omega⟩
      by_cases h128 : x.toNat < 128
      · have hnx := fun ty => Lib.run_next_ascii_at (P := Tryz.prog) wr w'.heap.size s i ty HI.out hi (by rw [hx2]; exact h128)
        rw [hx2] at hnx
        have hcon := Lib.contains_iff_indexByte [101, 69] x
        have HX := Lib.hid hx
        obtain ⟨q, hq⟩ : ∃ q : Int, Lib.indexByte [101, 69] x = q := ⟨_, rfl⟩
        have HR : Hid (∀ w, Calls Tryz.prog 143 #[.string ⟨#[101, 69]⟩, .int .i32 (x.toNat : Int)] w fun e w' => e = .returned (.int .i64 q) ∧ w = w') := by
          intro w
          refine (Tryz.strings_IndexRune_ascii ⟨#[101, 69]⟩ (x.toNat : Int) w (by omega) (by omega)).mono ?_
          rintro e w2 ⟨rfl, rfl⟩
          have hback : ((x.toNat : Int)).toNat.toUInt8 = x := by simp
          exact ⟨by rw [hback, ← hq], rfl⟩
        have HB2 := Lib.hid (Lib.below_iterAt HB.out (Nat.le_refl _) s (i + 1))
        have HI2 := Lib.hid (Lib.iterAt_heap wr w'.heap.size s i (i + 1) HI.out)
        rw [hq] at hcon
        cases hin : ([101, 69] : List UInt8).contains x
        · rw [hin] at hcon
          have hlt : decide ((0 : Int) ≤ q) = false := hcon.symm
          have HN2 := Lib.hid (HN.out.succ hx hin)
          clear hcon hin hx hx2 hq
          go_wp2_with fail
          refine (HR.out _).mono ?_
          rintro e w2 ⟨rfl, rfl⟩
          go_wp2_with fail
          go_roundg g
          case measure => omega
          case rel => exact ⟨i + 1, by omega, HI2.out, HB2.out, HN2.out⟩
        · rw [hin] at hcon
          have hlt : decide ((0 : Int) ≤ q) = true := hcon.symm
          have HH := Lib.hid (Lib.indexAny_hit HN.out hx hin)
          clear hcon hin hx hx2 hq
          go_wp2_with fail
          refine (HR.out _).mono ?_
          rintro e w2 ⟨rfl, rfl⟩
          go_wp2_with fail
          go_ret
          exact ⟨ret_int HH.out.symm, HB2.out⟩
      · have hnx := fun ty => Lib.run_next_any_at (P := Tryz.prog) wr w'.heap.size s i ty HI.out hi
        have hhi := (decode_high s i hi (by rw [hx2]; omega)).1
        have hle := Lib.rune_le s i
        have hwd := Lib.decode_width_pos s i hi
        obtain ⟨r, hr⟩ : ∃ r, (Utf8.decode s i).1 = r := ⟨_, rfl⟩
        have HN2 := Lib.hid (noAny_skip HN.out hx (by omega))
        obtain ⟨d, hd⟩ : ∃ d, (Utf8.decode s i).2 = d := ⟨_, rfl⟩
        rw [hr, hd] at hnx
        rw [hr] at hhi hle
        rw [hd] at hwd HN2
        have HB2 := Lib.hid (Lib.below_iterAt HB.out (Nat.le_refl _) s (i + d))
        have HI2 := Lib.hid (Lib.iterAt_heap wr w'.heap.size s i (i + d) HI.out)
        have HS2 := Lib.hid (Lib.iterAt_size wr w'.heap.size s (i + d))
        have HSW := Lib.hid (Array.getElem?_eq_some_iff.1 HI.out).1
        clear hr hd hx hx2
        go_wp2_with fail
        refine (indexRune_high r (by omega) (by omega) _).mono ?_
        rintro e w2 ⟨rfl, hb2⟩
        have HB3 := Lib.hid (HB2.out.trans (hb2.mono (by rw [HS2.out]; exact HB.out.size)))
        have HI3 := Lib.hid ((hb2.block w'.heap.size (by rw [HS2.out]; exact HSW.out)).trans HI2.out)
        clear hb2
        go_wp2_with fail
        go_roundg g
        case measure => omega
        case rel => exact ⟨i + d, by omega, HI3.out, HB3.out, HN2.out⟩
    · have hnx := fun ty => Lib.run_next_end_at (P := Tryz.prog) wr w'.heap.size s i ty HI.out hi
      go_wp2_with fail
      go_ret
      exact ⟨by rw [noAny_end HN.out (by omega)]; rfl, HB.out⟩
theorem set_zero : ∀ w, (zeroValue 211).run Tryz.prog w = .ok (.agg (Array.replicate 256 (.bool false))) w :=
  (zero_of_info (P := Tryz.prog) (by kernel_rfl : (Tryz.prog.info? 211).map (fun i => (i.zero, i.size)) = some (some (.agg (Array.replicate 256 (.bool false))), 256))).1
theorem indexEe_any (s : ByteArray) (hs : s.size ≤ 64) (w : World) : Calls Tryz.prog 130 #[.string s, .string ⟨#[101, 69]⟩] w fun e w' => e = .returned (.int .i64 (Lib.indexAny s.data.toList [101, 69])) ∧ Below w.heap.size w w' := by
  by_cases h8 : s.size ≤ 8
  · exact indexEe_short s h8 w
  · refine (Tryz.strings_IndexAny_long set_zero s ⟨#[101, 69]⟩ w (by decide) (by omega) (by omega) (by decide) ?_).mono ?_
    · intro j b hb
      have hm : b ∈ ([101, 69] : List UInt8) := List.mem_of_getElem? hb
      rcases List.mem_cons.1 hm with rfl | hm
      · decide
      · rw [List.mem_singleton] at hm; subst hm; decide
    · rintro e w' ⟨rfl, rfl⟩
      exact ⟨rfl, ((Below.refl _ _).alloc (Nat.le_refl _) _).alloc (by simp) _⟩
end Go.Proofs.YtfilbfenpdaahaaGreatDoor
