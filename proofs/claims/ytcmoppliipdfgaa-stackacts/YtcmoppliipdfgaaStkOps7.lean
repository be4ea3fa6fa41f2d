/-
  A stack's calls, by contracts: ToMark, isOf, Need.
-/
import Derived.Test.YtcmoppliipdfgaaStkOps6
namespace Go.Proofs.Ytcmoppliipdfgaa
open Go.RowKit
open St Stk
/-- how many are ahead of the first mark -/
def mkAt : List Ob → Option Nat
  | [] => none
  | o :: r => if o.kind = 4 then some 0 else (mkAt r).map (· + 1)
theorem mkAt_some : ∀ {r : List Ob} {k : Nat} {o : Ob}, r[k]? = some o → o.kind = 4 → (∀ j p, j < k → r[j]? = some p → p.kind ≠ 4) → mkAt r = some k
  | [], k, o, h, _, _ => by simp at h
  | x :: r, 0, o, h, h4, _ => by
    simp at h
    rw [mkAt, h, if_pos h4]
  | x :: r, k + 1, o, h, h4, hn => by
    rw [mkAt, if_neg (hn 0 x (by omega) rfl), mkAt_some (k := k) (by simpa using h) h4 (fun j p hj hp => hn (j + 1) p (by omega) (by simpa using hp))]
    rfl
theorem mkAt_none : ∀ {r : List Ob}, (∀ j p, j < r.length → r[j]? = some p → p.kind ≠ 4) → mkAt r = none
  | [], _ => rfl
  | x :: r, hn => by
    rw [mkAt, if_neg (hn 0 x (by simp) rfl), mkAt_none (fun j p hj hp => hn (j + 1) p (by simp; omega) (by simpa using hp))]
    rfl
def mkR (l : List Ob) : Int × Int := match mkAt l.reverse with
  | some k => (k, 0)
  | none => (0, 19)
/-- none of the first k is a mark -/
def NoMk (l : List Ob) (k : Nat) : Prop := ∀ j p, j < k → l.reverse[j]? = some p → p.kind ≠ 4
theorem NoMk.next {l : List Ob} {k : Nat} {o : Ob} (h : NoMk l k) (hk : k < l.length) (ho : l[l.length - 1 - k]? = some o) (h4 : o.kind ≠ 4) : NoMk l (k + 1) := by
  intro j p hj hp
  by_cases e : j = k
  · subst e
    rw [List.getElem?_reverse hk] at hp
    rw [ho] at hp
    cases hp
    exact h4
  · exact h j p (by omega) hp
theorem mkR_yes {l : List Ob} {k : Nat} {o : Ob} (h : NoMk l k) (hk : k < l.length) (ho : l[l.length - 1 - k]? = some o) (h4 : o.kind = 4) : mkR l = ((k : Int), 0) := by
  unfold mkR
  rw [mkAt_some (k := k) (o := o) (by rw [List.getElem?_reverse hk]; exact ho) h4 h]
theorem mkR_no {l : List Ob} (h : NoMk l l.length) : mkR l = (0, 19) := by
  unfold mkR
  rw [mkAt_none (fun j p hj hp => h j p (by simpa using hj) hp)]
/-- is an object of that kind? -/
def fitB (o : Ob) (k : Int) : Bool := if k = -1 then (o.kind == 1) || (o.kind == 2) else if k = -2 then true else if k = -3 then (o.kind == 6) || (o.kind == 7) else if k = -4 then (o.kind == 7) && o.exec else (o.kind == k)
section
variable {O : Nat → Prop} {w : World} {s : Nat} {most ov un : Int} {l : List Ob}
set_option maxRecDepth 100000
set_option maxHeartbeats 1000000
theorem toMark_at (h : Sk O w s most ov un l) : Calls Try.prog 59 #[.pointer (some ⟨s, 0, none⟩)] w fun e w' => e = .returned (.tuple #[.int .i64 (mkR l).1, .int .i64 (mkR l).2]) ∧ Below w.heap.size w w' := by
  obtain ⟨la, lc, hk, hl, hO, _, hcap⟩ := h.skc
  have hfew := h.few
  have HK := Lib.hid hk
  have HL := Lib.hid hl
  obtain ⟨c0, c1, c2, c3, cf⟩ := hk.cells
  clear h hk hl hO
  go_enter Try.func59, Try.ntmps59
  go_wp2_with fail
  clear c0 c1 c2 c3 cf
  go_loopw [12] (fun v wr => ∃ k : Nat, v = .int .i64 k ∧ k ≤ l.length ∧ NoMk l k ∧ Below w.heap.size w wr) (fun v _ => l.length - (intOf v).toNat)
  case atStart => exact ⟨0, rfl, Nat.zero_le _, fun j p hj => by omega, Below.refl _ _⟩
  case round =>
    obtain ⟨k, rfl, hk, hno, hb⟩ := hrel
    have HNo := Lib.hid hno
    have HB := Lib.hid hb
    clear hno hb
    by_cases hlt : k < l.length
    · obtain ⟨g, rfl⟩ := yes_row HL.out hlt
      obtain ⟨m, hm⟩ : ∃ m, l.length - 1 - k = m := ⟨_, rfl⟩
      have hml : m < l.length := by omega
      obtain ⟨o, ho⟩ : ∃ o, l[m]? = some o := ⟨_, List.getElem?_eq_getElem hml⟩
      have HO := Lib.hid (show l[l.length - 1 - k]? = some o by rw [hm]; exact ho)
      obtain ⟨c0, _, _, _, _⟩ := (HK.out.below HB.out).cells
      obtain ⟨o0, _⟩ := (HL.out.below HB.out).obAt ho
      have e1 : (l.length : Int) - 1 - (k : Int) = m := by omega
      by_cases h4 : o.kind = 4
      · have HR := Lib.hid (mkR_yes HNo.out hlt HO.out h4)
        rw [h4] at o0
        clear ho hm h4
        go_wp2_with fail
        go_quiet (fail)
        go_wp2_with fail
        go_ret2
        rw [HR.out]
        exact ⟨rfl, below_draw HB.out _⟩
      · have HR := Lib.hid (HNo.out.next hlt HO.out h4)
        have h4b : (o.kind == 4) = false := by simp [h4]
        clear ho hm h4
        go_wp2_with fail
        go_quiet (fail)
        go_wp2_with fail
        go_roundw
        case rel => exact ⟨k + 1, by go_num, by omega, HR.out, below_draw HB.out _⟩
        case measure => simp [intOf]; omega
    · have hkl : k = l.length := by omega
      subst hkl
      have HR := Lib.hid (mkR_no HNo.out)
      go_wp2_with fail
      go_ret2
      rw [HR.out]
      exact ⟨rfl, HB.out⟩
theorem toMark_nil (w : World) : Calls Try.prog 59 #[.pointer none] w fun e w' => e = .returned (.tuple #[.int .i64 0, .int .i64 21]) ∧ w' = w := by
  go_enter Try.func59, Try.ntmps59
  go_wp2_with fail
  go_ret2
  exact ⟨rfl, rfl⟩
theorem isOf_at (o : Ob) (k : Int) (w : World) : Calls Try.prog 98 #[o.val, .int .i64 k] w fun e w' => e = .returned (.bool (fitB o k)) ∧ Below w.heap.size w w' := by
  unfold Ob.val
  by_cases h1 : k = -1
  · have HR := Lib.hid (show fitB o k = ((o.kind == 1) || (o.kind == 2)) by unfold fitB; rw [if_pos h1])
    subst h1
    rw [HR.out]
    clear HR
    go_enter Try.func98, Try.ntmps98
    go_wp2_with fail
    all_goals go_ret
    all_goals exact ⟨by simp_all, below1 w _⟩
  by_cases h2 : k = -2
  · have HR := Lib.hid (show fitB o k = true by unfold fitB; rw [if_neg h1, if_pos h2])
    subst h2
    rw [HR.out]
    clear HR
    go_enter Try.func98, Try.ntmps98
    go_wp2_with fail
    go_ret
    exact ⟨rfl, below1 w _⟩
  by_cases h3 : k = -3
  · have HR := Lib.hid (show fitB o k = ((o.kind == 6) || (o.kind == 7)) by unfold fitB; rw [if_neg h1, if_neg h2, if_pos h3])
    subst h3
    rw [HR.out]
    clear HR h1 h2
    go_enter Try.func98, Try.ntmps98
    go_wp2_with fail
    all_goals go_ret
    all_goals exact ⟨by simp_all, below1 w _⟩
  by_cases h4 : k = -4
  · have HR := Lib.hid (show fitB o k = ((o.kind == 7) && o.exec) by unfold fitB; rw [if_neg h1, if_neg h2, if_neg h3, if_pos h4])
    subst h4
    rw [HR.out]
    clear HR h1 h2 h3
    go_enter Try.func98, Try.ntmps98
    go_wp2_with fail
    all_goals go_ret
    all_goals exact ⟨by simp_all, below1 w _⟩
  have HR := Lib.hid (show fitB o k = (o.kind == k) by unfold fitB; rw [if_neg h1, if_neg h2, if_neg h3, if_neg h4])
  rw [HR.out]
  clear HR
  have g1 : (k == -1) = false := by simp [h1]
  have g2 : (k == -2) = false := by simp [h2]
  have g3 : (k == -3) = false := by simp [h3]
  have g4 : (k == -4) = false := by simp [h4]
  clear h1 h2 h3 h4
  go_enter Try.func98, Try.ntmps98
  go_wp2_with fail
  go_ret
  exact ⟨rfl, below1 w _⟩
end
end Go.Proofs.Ytcmoppliipdfgaa
