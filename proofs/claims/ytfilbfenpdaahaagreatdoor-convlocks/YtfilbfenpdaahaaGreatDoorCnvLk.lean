/-
  conv.Do of what locks and asks, over a thing that is being locked; law10.access; by contracts.
-/
import Derived.Test.YtfilbfenpdaahaaGreatDoorCnvOps
import Derived.Test.YtfilbfenpdaahaaGreatDoorCnvDo
namespace Go.Proofs.YtfilbfenpdaahaaGreatDoor
open Go.RowKit
open St
open Stk
open Col
namespace Cv
theorem Lk.same {O : Nat → Prop} {s : Nat} {k a : Int} {o : Ob} {w w' : World} (h : Lk O s k a o w) (hz : w.heap.size ≤ w'.heap.size) (hk : ∀ k, k < w.heap.size → O k → w'.heap[k]? = w.heap[k]?) : Lk O s k a o w' := by
  refine ⟨h.1, ?_⟩
  rcases h.2 with h | h
  · obtain ⟨fr, G, hr, hv⟩ := h.rep
    exact .inl ⟨h.kd, h.ok, h.oa, fr, G, hr.same hz hk, hv⟩
  · obtain ⟨fr, n, l, ex, hr, ho⟩ := h.rep
    exact .inr ⟨h.kd, fr, n, l, ex, hr.same hz hk, ho⟩
theorem Lk.olt {O : Nat → Prop} {s : Nat} {k a : Int} {o : Ob} {w : World} (h : Lk O s k a o w) : ∀ q, O q → q < w.heap.size := by
  obtain ⟨fr, G, hr, _⟩ := h.out
  exact hr.olt
theorem accessL_at {O : Nat → Prop} {w : World} {s : Nat} {k a : Int} {o : Ob} (hL : Lk O s k a o w) :
    Calls Tryz.prog 14 #[.pointer (some ⟨s, 0, none⟩), o.val] w fun e w' => e = .returned (.int .i64 a) ∧ Below w.heap.size w w' := by
  obtain ⟨fr, G, h, hv, hac, hkd, hhl⟩ := hL.out
  have hb := below1 w (obC o)
  have HA := Lib.hid (access_at (h.below hb) o)
  have HB := Lib.hid hb
  unfold obC at HB HA
  unfold Ob.val at HA
  unfold Ob.val
  clear hL h hb hv hkd hhl
  by_cases h8 : o.kind = 8
  · have e : a = accV (dicT G o) := by rw [← hac]; unfold acs; rw [if_pos h8]
    rw [e]
    rw [h8] at HA HB ⊢
    clear h8 e hac
    go_enter Tryz.func14, Tryz.ntmps14
    go_wp2_with fail
    refine HA.out.mono ?_; rintro e w2 ⟨rfl, hb2⟩
    have HB2 := Lib.hid (bthen HB.out hb2)
    clear hb2
    go_wp2_with fail
    go_ret
    exact ⟨rfl, HB2.out⟩
  · have e : a = o.acc := by rw [← hac]; unfold acs; rw [if_neg h8]
    have e8 : (o.kind == 8) = false := by simp [h8]
    rw [e]
    clear h8 e hac
    go_enter Tryz.func14, Tryz.ntmps14
    go_wp2_with fail
    go_ret
    exact ⟨rfl, HB.out⟩
def barN (b : Nat) : ByteArray := if b = 0 then s_readonly else if b = 1 then s_executeonly else s_noaccess
def BarD (O : Nat → Prop) (s : Nat) (k a b : Int) (o : Ob) (w : World) (e : Ending) (w' : World) : Prop :=
  Frm O w w' ∧ ((∃ er, er ≠ 0 ∧ e = .returned (.tuple #[.slice none 0 0, .int .i64 er]) ∧ Lk O s k a o w') ∨ (∃ o' p', e = .returned (.tuple #[.slice p' 1 1, .int .i64 0]) ∧ Lk O s k (max a b) o' w' ∧ Hnd w.heap.size p' [o'] w'))
theorem bar_do1 {O : Nat → Prop} {s c : Nat} {k a b : Int} {o : Ob} {w : World} {p : Option Addr} {nm : ByteArray} (h : Lk O s k a o w) (hl : SrcO w p [o])
    (hK : ∀ w, Calls Tryz.prog 17 #[.string nm] w fun e w' => e = .returned (.tuple #[.int .i64 1, .bool true]) ∧ w' = w)
    (hD : ∀ w2, Lk O s k a o w2 → (∀ q, O q → q < w2.heap.size) → SrcO w2 p [o] → Calls Tryz.prog 19 #[cw s, .string nm, .slice p 1 c] w2 (BarP O s k a b o w2)) :
    Calls Tryz.prog 8 #[.pointer (some ⟨s, 0, none⟩), .string nm, .slice p 1 c] w (BarD O s k a b o w) := by
  obtain ⟨fr, G, hr, hv, hac, hk, hhl⟩ := h.out
  refine (do_at (c := c) hr hl (by simp) (by simp) (by intro x hx; simp at hx; rw [hx]; exact hv) hK (fun ob er w' => (er ≠ 0 ∧ Lk O s k a o w') ∨ (er = 0 ∧ Lk O s k (max a b) ob w')) ?_ ?_).mono ?_
  · intro w2 hb
    refine (hD w2 (h.below hb) (fun q hq => Nat.lt_of_lt_of_le (hr.olt q hq) hb.size) (hl.below hb)).mono ?_
    rintro e w3 ⟨hF, ⟨hne, rfl, hl3⟩ | ⟨h0, o', rfl, hl3⟩⟩
    · exact ⟨nul, _, rfl, hF, .inl ⟨hne, hl3⟩⟩
    · exact ⟨o', 0, rfl, hF, .inr ⟨rfl, hl3⟩⟩
  · rintro ob er w1 w2 (⟨h1, h2⟩ | ⟨h1, h2⟩) hb
    · exact .inl ⟨h1, h2.below hb⟩
    · exact .inr ⟨h1, h2.below hb⟩
  · rintro e w' ⟨hF, ob, er, hq, ⟨hne, rfl⟩ | ⟨rfl, p', rfl, hh⟩⟩
    · rcases hq with ⟨_, h2⟩ | ⟨h1, _⟩
      · exact ⟨hF, .inl ⟨er, hne, rfl, h2⟩⟩
      · exact absurd h1 hne
    · rcases hq with ⟨h1, _⟩ | ⟨_, h2⟩
      · exact absurd rfl h1
      · exact ⟨hF, .inr ⟨ob, p', rfl, h2, hh⟩⟩
theorem bar_do {O : Nat → Prop} {s c : Nat} {k a : Int} {o : Ob} {w : World} {p : Option Addr} (i : Nat) (hi : i < 3) (h : Lk O s k a o w) (hl : SrcO w p [o]) :
    Calls Tryz.prog 8 #[.pointer (some ⟨s, 0, none⟩), .string (barN i), .slice p 1 c] w (BarD O s k a (i + 1) o w) := by
  match i, hi with
  | 0, _ => exact bar_do1 h hl known_readonly (fun _ h2 hO h3 => do_readonly h2 hO h3)
  | 1, _ => exact bar_do1 h hl known_executeonly (fun _ h2 hO h3 => do_executeonly h2 hO h3)
  | 2, _ => exact bar_do1 h hl known_noaccess (fun _ h2 hO h3 => do_noaccess h2 hO h3)
def ChkD (O : Nat → Prop) (s : Nat) (k a : Int) (o : Ob) (d : Bool) (w : World) (e : Ending) (w' : World) : Prop :=
  Frm O w w' ∧ Lk O s k a o w' ∧ ∃ p', e = .returned (.tuple #[.slice p' 1 1, .int .i64 0]) ∧ Hnd w.heap.size p' [boolC d] w'
theorem chk_do {O : Nat → Prop} {s c : Nat} {k a : Int} {o : Ob} {w : World} {p : Option Addr} {nm : ByteArray} {d : Bool} (h : Lk O s k a o w) (hl : SrcO w p [o])
    (hK : ∀ w, Calls Tryz.prog 17 #[.string nm] w fun e w' => e = .returned (.tuple #[.int .i64 1, .bool true]) ∧ w' = w)
    (hD : ∀ w2, Lk O s k a o w2 → (∀ q, O q → q < w2.heap.size) → SrcO w2 p [o] → Calls Tryz.prog 19 #[cw s, .string nm, .slice p 1 c] w2 (fun e w' => e = .returned (.tuple #[(boolC d).val, .int .i64 0]) ∧ Below w2.heap.size w2 w')) :
    Calls Tryz.prog 8 #[.pointer (some ⟨s, 0, none⟩), .string nm, .slice p 1 c] w (ChkD O s k a o d w) := by
  obtain ⟨fr, G, hr, hv, hac, hk, hhl⟩ := h.out
  refine (do_at (c := c) hr hl (by simp) (by simp) (by intro x hx; simp at hx; rw [hx]; exact hv) hK (fun ob er w' => er = 0 ∧ ob = boolC d ∧ Lk O s k a o w') ?_ ?_).mono ?_
  · intro w2 hb
    refine (hD w2 (h.below hb) (fun q hq => Nat.lt_of_lt_of_le (hr.olt q hq) hb.size) (hl.below hb)).mono ?_
    rintro e w3 ⟨rfl, hb3⟩
    exact ⟨_, 0, rfl, Frm.of_below hb3, rfl, rfl, (h.below hb).below hb3⟩
  · rintro ob er w1 w2 ⟨h1, h2, h3⟩ hb
    exact ⟨h1, h2, h3.below hb⟩
  · rintro e w' ⟨hF, ob, er, ⟨rfl, rfl, hl'⟩, ⟨hne, _⟩ | ⟨_, p', rfl, hh⟩⟩
    · exact absurd rfl hne
    · exact ⟨hF, hl', p', rfl, hh⟩
theorem rcheck_do {O : Nat → Prop} {s c : Nat} {k a : Int} {o : Ob} {w : World} {p : Option Addr} (h : Lk O s k a o w) (hl : SrcO w p [o]) :
    Calls Tryz.prog 8 #[.pointer (some ⟨s, 0, none⟩), .string s_rcheck, .slice p 1 c] w (ChkD O s k a o (a == 0 || a == 1) w) :=
  chk_do h hl known_rcheck (fun _ h2 hO h3 => do_rcheck h2 hO h3)
theorem wcheck_do {O : Nat → Prop} {s c : Nat} {k a : Int} {o : Ob} {w : World} {p : Option Addr} (h : Lk O s k a o w) (hl : SrcO w p [o]) :
    Calls Tryz.prog 8 #[.pointer (some ⟨s, 0, none⟩), .string s_wcheck, .slice p 1 c] w (ChkD O s k a o (a == 0) w) :=
  chk_do h hl known_wcheck (fun _ h2 hO h3 => do_wcheck h2 hO h3)
end Cv
end Go.Proofs.YtfilbfenpdaahaaGreatDoor
