/-
  ArithDoes where it says no more than that: too many operands, too long a name; and where the operands are not so many.
-/
import Derived.Test.YtgbpldfcahajeaaDoorAriDoC
import Derived.Test.YtgbpldfcahajeaaDoorAriRow
import Derived.Test.YtgbpldfcahajeaaDoorAriKn
import Derived.BigQuiet
import Derived.OwnWalk
namespace Go.Proofs.YtgbpldfcahajeaaDoor
open Go.RowKit
open Fx
namespace Ari
theorem wpList_append_run8 {P : Program} {w w2 : World} {ops : Array Oper} {rest : List Oper} {o : Oper} {a : Act} {Q : Exit → Act → World → Prop} (hw : Region.wanted o (yielded ops a.tmps) = true) (s x : Operand) (t u ty : TypeId) (v : Value)
    (ho : o.op = .call { callee := .builtin .append, args := #[s, x], argTypes := #[t, u] }) (hty : o.type = ty) (us ux : Value) (hs : a.eval s = us) (hx : a.eval x = ux)
    (hr : (Builtin.append_ #[t, u] ty #[us, ux]).run P w = .ok v w2) (h : wpList P ops Q rest (a.put o.dst v) w2) : wpList P ops Q (o :: rest) a w := by
  refine BigFrame.wpList_want hw fun K hK => ?_
  unfold Oper.wp execOp
  simp only [ho, hty, resolve, invoke, builtin, Sem.run_bind, Sem.run_pure, Result.andThen_ok, List.map_toArray, List.map_cons, List.map_nil, hs, hx, hr]
  exact hK _ _ h
set_option maxHeartbeats 2000000 in
set_option maxRecDepth 100000 in
theorem does_far (nm : ByteArray) (c : Int) (hk : OpsN nm c) (a : Option Addr) (n cap : Nat) (w : World) (h : 1000 < nm.size ∨ 100 < n) (hc : c = 0 ∨ c = 1 ∨ c = 2) : Calls Tryd.prog 3 #[.string nm, .slice a n cap] w fun e w' => e = .returned (.bool true) ∧ Below w.heap.size w w' := by
  have hA := fun W => answers_at W
  obtain ⟨hK, hN⟩ := hk
  by_cases h1 : 1000 < nm.size
  · rcases hc with rfl | rfl | rfl
    all_goals
      go_enter Tryd.func3, Tryd.ntmps3
      go_wp2_with fail
      refine (hK _).mono ?_; rintro e w1 ⟨rfl, rfl⟩
      go_wp2_with fail
      refine (hA _).mono ?_; rintro e w2 ⟨rfl, hb2⟩
      have HB2 := Lib.hid hb2
      clear hb2
      go_wp2_with fail
      refine (hA _).mono ?_; rintro e w3 ⟨rfl, hb3⟩
      go_wp2_with fail
      go_ret
      exact ⟨rfl, bthen HB2.out hb3⟩
  · have h2 : 100 < n := by omega
    rcases hc with rfl | rfl | rfl
    all_goals
      go_enter Tryd.func3, Tryd.ntmps3
      go_wp2_with fail
      refine (hK _).mono ?_; rintro e w1 ⟨rfl, rfl⟩
      go_wp2_with fail
      refine (hA _).mono ?_; rintro e w2 ⟨rfl, hb2⟩
      have HB2 := Lib.hid hb2
      clear hb2
      go_wp2_with fail
      refine (hA _).mono ?_; rintro e w3 ⟨rfl, hb3⟩
      go_wp2_with fail
      go_ret
      exact ⟨rfl, bthen HB2.out hb3⟩
set_option maxHeartbeats 2000000 in
set_option maxRecDepth 100000 in
theorem does_nil0 (nm : ByteArray) (hk : OpsN nm 0) (a : Option Addr) (cap : Nat) (w : World) (h1 : nm.size ≤ 1000) (hn : a = none → cap = 0) (HD : ∀ W v, SLO W v [] → SinT W → Calls Tryd.prog 10 #[.string nm, v] W fun e w' => DoP W (noO 21) e w') (hT : SinT w) : Calls Tryd.prog 3 #[.string nm, .slice a 0 cap] w fun e w' => e = .returned (.bool true) ∧ Below w.heap.size w w' := by
  have hA := fun W => answers_at W
  obtain ⟨hK, hN⟩ := hk
  have HS := Lib.hid (show SrcO w a [] from .inl rfl)
  have HT := Lib.hid hT
  have HDO := Lib.hid HD
  clear hT HD
  cases a with
  | none =>
    obtain rfl := hn rfl
    clear hn
    go_enter Tryd.func3, Tryd.ntmps3
    go_wp2_with fail
    refine (hK _).mono ?_; rintro e w1 ⟨rfl, rfl⟩
    go_wp2_with fail
    refine (hA _).mono ?_; rintro e w2 ⟨rfl, hb2⟩
    have HB2 := Lib.hid hb2
    have HS2 := Lib.hid (HS.out.below hb2)
    have HT2 := Lib.hid ((HT.out.below hb2).below (below1 w2 (.cells #[] 38)))
    clear hb2
    go_wp2_with fail
    refine (hN _).mono ?_; rintro e w3 ⟨rfl, rfl⟩
    go_wp2_with fail
    refine (HDO.out _ _ (freshO w2) HT2.out).mono ?_; rintro e w4 hD
    obtain rfl := hD.no (by decide)
    have HB4 := Lib.hid (bthen HB2.out (bthen (below1 _ _) hD.below))
    clear hD
    go_wp2_with fail
    go_ret
    exact ⟨rfl, HB4.out⟩
  | some ad =>
    clear hn
    go_enter Tryd.func3, Tryd.ntmps3
    go_wp2_with fail
    refine (hK _).mono ?_; rintro e w1 ⟨rfl, rfl⟩
    go_wp2_with fail
    refine (hA _).mono ?_; rintro e w2 ⟨rfl, hb2⟩
    have HB2 := Lib.hid hb2
    have HS2 := Lib.hid (HS.out.below hb2)
    have HT2 := Lib.hid ((HT.out.below hb2).below (below1 w2 (.cells #[] 38)))
    clear hb2
    go_wp2_with fail
    refine (hN _).mono ?_; rintro e w3 ⟨rfl, rfl⟩
    go_wp2_with fail
    refine (HDO.out _ _ (freshO w2) HT2.out).mono ?_; rintro e w4 hD
    obtain rfl := hD.no (by decide)
    have HB4 := Lib.hid (bthen HB2.out (bthen (below1 _ _) hD.below))
    clear hD
    go_wp2_with fail
    go_ret
    exact ⟨rfl, HB4.out⟩
set_option maxHeartbeats 2000000 in
set_option maxRecDepth 100000 in
theorem does_err0 (nm : ByteArray) (hk : OpsN nm 0) (ad : Addr) (l : List Ob) (n cap : Nat) (hl : l.length = n) (hn0 : 0 < n) (hnc : n ≠ 0) (w : World) (h1 : nm.size ≤ 1000) (h2 : n ≤ 100) (hs : SrcO w (some ad) l) (HD : ∀ W v, SLO W v l → SinT W → Calls Tryd.prog 10 #[.string nm, v] W fun e w' => DoP W (noO 21) e w') (hT : SinT w) : Calls Tryd.prog 3 #[.string nm, .slice (some ad) n cap] w fun e w' => e = .returned (.bool true) ∧ Below w.heap.size w w' := by
  have hA := fun W => answers_at W
  obtain ⟨hK, hN⟩ := hk
  have HS := Lib.hid hs
  have HT := Lib.hid hT
  have HDO := Lib.hid HD
  have hnc' : ((0 : Int) == (n : Int)) = false := by simp; omega
  have hnd' : ((n : Int) == (0 : Int)) = false := by simp; omega
  clear hT HD hs
  have HL := Lib.hid hl
  clear hl hnc
  go_enter Tryd.func3, Tryd.ntmps3
  go_wp2_with fail
  refine (hK _).mono ?_; rintro e w1 ⟨rfl, rfl⟩
  go_wp2_with fail
  refine (hA _).mono ?_; rintro e w2 ⟨rfl, hb2⟩
  have HB2 := Lib.hid hb2
  have HS2 := Lib.hid (HS.out.below hb2)
  have HT2 := Lib.hid ((HT.out.below hb2).below (below1 w2 (.cells #[] 38)))
  clear hb2
  go_wp2_with fail
  refine (hN _).mono ?_; rintro e w3 ⟨rfl, rfl⟩
  obtain ⟨v3, w3, hr3, hrow3, hg3, hi3⟩ := SLO.append (freshO w2) (HS2.out.below (below1 _ _)) (fun e => by cases e) (show ([] : List Ob).length + l.length ≤ 100000 by have := HL.out; simp; omega) 22
  have HR3 := Lib.hid (show SLO w3 v3 l by simpa using hrow3)
  have HB3 := Lib.hid (show Below w2.heap.size w2 w3 from (below1 w2 _).grown hg3 (by simp) (fun k hk => by simp [Value.ownBlock] at hk; omega))
  rw [HL.out] at hr3
  have HRn := Lib.hid hr3
  clear hrow3 hg3 hi3 hr3
  go_wp2_with (at_builtin; refine wpList_append_run8 rfl (.tmp 56) (.tmp 57) 22 22 22 v3 rfl rfl _ _ rfl rfl HRn.out ?_)
  refine (HDO.out _ _ HR3.out ((HT.out.below HB2.out).below HB3.out)).mono ?_; rintro e w4 hD
  obtain rfl := hD.no (by decide)
  have HB4 := Lib.hid (bthen (bthen HB2.out HB3.out) hD.below)
  clear hD
  go_wp2_with fail
  go_ret
  exact ⟨rfl, HB4.out⟩
set_option maxHeartbeats 2000000 in
set_option maxRecDepth 100000 in
theorem does_nil1 (nm : ByteArray) (hk : OpsN nm 1) (a : Option Addr) (cap : Nat) (w : World) (h1 : nm.size ≤ 1000) (hn : a = none → cap = 0) (HD : ∀ W v, SLO W v [] → SinT W → Calls Tryd.prog 10 #[.string nm, v] W fun e w' => DoP W (noO 21) e w') (hT : SinT w) : Calls Tryd.prog 3 #[.string nm, .slice a 0 cap] w fun e w' => e = .returned (.bool true) ∧ Below w.heap.size w w' := by
  have hA := fun W => answers_at W
  obtain ⟨hK, hN⟩ := hk
  have HS := Lib.hid (show SrcO w a [] from .inl rfl)
  have HT := Lib.hid hT
  have HDO := Lib.hid HD
  clear hT HD
  cases a with
  | none =>
    obtain rfl := hn rfl
    clear hn
    go_enter Tryd.func3, Tryd.ntmps3
    go_wp2_with fail
    refine (hK _).mono ?_; rintro e w1 ⟨rfl, rfl⟩
    go_wp2_with fail
    refine (hA _).mono ?_; rintro e w2 ⟨rfl, hb2⟩
    have HB2 := Lib.hid hb2
    have HS2 := Lib.hid (HS.out.below hb2)
    have HT2 := Lib.hid ((HT.out.below hb2).below (below1 w2 (.cells #[] 38)))
    clear hb2
    go_wp2_with fail
    refine (hN _).mono ?_; rintro e w3 ⟨rfl, rfl⟩
    go_wp2_with fail
    refine (HDO.out _ _ (freshO w2) HT2.out).mono ?_; rintro e w4 hD
    obtain rfl := hD.no (by decide)
    have HB4 := Lib.hid (bthen HB2.out (bthen (below1 _ _) hD.below))
    clear hD
    go_wp2_with fail
    go_ret
    exact ⟨rfl, HB4.out⟩
  | some ad =>
    clear hn
    go_enter Tryd.func3, Tryd.ntmps3
    go_wp2_with fail
    refine (hK _).mono ?_; rintro e w1 ⟨rfl, rfl⟩
    go_wp2_with fail
    refine (hA _).mono ?_; rintro e w2 ⟨rfl, hb2⟩
    have HB2 := Lib.hid hb2
    have HS2 := Lib.hid (HS.out.below hb2)
    have HT2 := Lib.hid ((HT.out.below hb2).below (below1 w2 (.cells #[] 38)))
    clear hb2
    go_wp2_with fail
    refine (hN _).mono ?_; rintro e w3 ⟨rfl, rfl⟩
    go_wp2_with fail
    refine (HDO.out _ _ (freshO w2) HT2.out).mono ?_; rintro e w4 hD
    obtain rfl := hD.no (by decide)
    have HB4 := Lib.hid (bthen HB2.out (bthen (below1 _ _) hD.below))
    clear hD
    go_wp2_with fail
    go_ret
    exact ⟨rfl, HB4.out⟩
set_option maxHeartbeats 2000000 in
set_option maxRecDepth 100000 in
theorem does_err1 (nm : ByteArray) (hk : OpsN nm 1) (ad : Addr) (l : List Ob) (n cap : Nat) (hl : l.length = n) (hn0 : 0 < n) (hnc : n ≠ 1) (w : World) (h1 : nm.size ≤ 1000) (h2 : n ≤ 100) (hs : SrcO w (some ad) l) (HD : ∀ W v, SLO W v l → SinT W → Calls Tryd.prog 10 #[.string nm, v] W fun e w' => DoP W (noO 21) e w') (hT : SinT w) : Calls Tryd.prog 3 #[.string nm, .slice (some ad) n cap] w fun e w' => e = .returned (.bool true) ∧ Below w.heap.size w w' := by
  have hA := fun W => answers_at W
  obtain ⟨hK, hN⟩ := hk
  have HS := Lib.hid hs
  have HT := Lib.hid hT
  have HDO := Lib.hid HD
  have hnc' : ((1 : Int) == (n : Int)) = false := by simp; omega
  have hnd' : ((n : Int) == (1 : Int)) = false := by simp; omega
  clear hT HD hs
  have HL := Lib.hid hl
  clear hl hnc
  go_enter Tryd.func3, Tryd.ntmps3
  go_wp2_with fail
  refine (hK _).mono ?_; rintro e w1 ⟨rfl, rfl⟩
  go_wp2_with fail
  refine (hA _).mono ?_; rintro e w2 ⟨rfl, hb2⟩
  have HB2 := Lib.hid hb2
  have HS2 := Lib.hid (HS.out.below hb2)
  have HT2 := Lib.hid ((HT.out.below hb2).below (below1 w2 (.cells #[] 38)))
  clear hb2
  go_wp2_with fail
  refine (hN _).mono ?_; rintro e w3 ⟨rfl, rfl⟩
  obtain ⟨v3, w3, hr3, hrow3, hg3, hi3⟩ := SLO.append (freshO w2) (HS2.out.below (below1 _ _)) (fun e => by cases e) (show ([] : List Ob).length + l.length ≤ 100000 by have := HL.out; simp; omega) 22
  have HR3 := Lib.hid (show SLO w3 v3 l by simpa using hrow3)
  have HB3 := Lib.hid (show Below w2.heap.size w2 w3 from (below1 w2 _).grown hg3 (by simp) (fun k hk => by simp [Value.ownBlock] at hk; omega))
  rw [HL.out] at hr3
  have HRn := Lib.hid hr3
  clear hrow3 hg3 hi3 hr3
  go_wp2_with (at_builtin; refine wpList_append_run8 rfl (.tmp 56) (.tmp 57) 22 22 22 v3 rfl rfl _ _ rfl rfl HRn.out ?_)
  refine (HDO.out _ _ HR3.out ((HT.out.below HB2.out).below HB3.out)).mono ?_; rintro e w4 hD
  obtain rfl := hD.no (by decide)
  have HB4 := Lib.hid (bthen (bthen HB2.out HB3.out) hD.below)
  clear hD
  go_wp2_with fail
  go_ret
  exact ⟨rfl, HB4.out⟩
set_option maxHeartbeats 2000000 in
set_option maxRecDepth 100000 in
theorem does_nil2 (nm : ByteArray) (hk : OpsN nm 2) (a : Option Addr) (cap : Nat) (w : World) (h1 : nm.size ≤ 1000) (hn : a = none → cap = 0) (HD : ∀ W v, SLO W v [] → SinT W → Calls Tryd.prog 10 #[.string nm, v] W fun e w' => DoP W (noO 21) e w') (hT : SinT w) : Calls Tryd.prog 3 #[.string nm, .slice a 0 cap] w fun e w' => e = .returned (.bool true) ∧ Below w.heap.size w w' := by
  have hA := fun W => answers_at W
  obtain ⟨hK, hN⟩ := hk
  have HS := Lib.hid (show SrcO w a [] from .inl rfl)
  have HT := Lib.hid hT
  have HDO := Lib.hid HD
  clear hT HD
  cases a with
  | none =>
    obtain rfl := hn rfl
    clear hn
    go_enter Tryd.func3, Tryd.ntmps3
    go_wp2_with fail
    refine (hK _).mono ?_; rintro e w1 ⟨rfl, rfl⟩
    go_wp2_with fail
    refine (hA _).mono ?_; rintro e w2 ⟨rfl, hb2⟩
    have HB2 := Lib.hid hb2
    have HS2 := Lib.hid (HS.out.below hb2)
    have HT2 := Lib.hid ((HT.out.below hb2).below (below1 w2 (.cells #[] 38)))
    clear hb2
    go_wp2_with fail
    refine (hN _).mono ?_; rintro e w3 ⟨rfl, rfl⟩
    go_wp2_with fail
    refine (HDO.out _ _ (freshO w2) HT2.out).mono ?_; rintro e w4 hD
    obtain rfl := hD.no (by decide)
    have HB4 := Lib.hid (bthen HB2.out (bthen (below1 _ _) hD.below))
    clear hD
    go_wp2_with fail
    go_ret
    exact ⟨rfl, HB4.out⟩
  | some ad =>
    clear hn
    go_enter Tryd.func3, Tryd.ntmps3
    go_wp2_with fail
    refine (hK _).mono ?_; rintro e w1 ⟨rfl, rfl⟩
    go_wp2_with fail
    refine (hA _).mono ?_; rintro e w2 ⟨rfl, hb2⟩
    have HB2 := Lib.hid hb2
    have HS2 := Lib.hid (HS.out.below hb2)
    have HT2 := Lib.hid ((HT.out.below hb2).below (below1 w2 (.cells #[] 38)))
    clear hb2
    go_wp2_with fail
    refine (hN _).mono ?_; rintro e w3 ⟨rfl, rfl⟩
    go_wp2_with fail
    refine (HDO.out _ _ (freshO w2) HT2.out).mono ?_; rintro e w4 hD
    obtain rfl := hD.no (by decide)
    have HB4 := Lib.hid (bthen HB2.out (bthen (below1 _ _) hD.below))
    clear hD
    go_wp2_with fail
    go_ret
    exact ⟨rfl, HB4.out⟩
set_option maxHeartbeats 2000000 in
set_option maxRecDepth 100000 in
theorem does_err2 (nm : ByteArray) (hk : OpsN nm 2) (ad : Addr) (l : List Ob) (n cap : Nat) (hl : l.length = n) (hn0 : 0 < n) (hnc : n ≠ 2) (w : World) (h1 : nm.size ≤ 1000) (h2 : n ≤ 100) (hs : SrcO w (some ad) l) (HD : ∀ W v, SLO W v l → SinT W → Calls Tryd.prog 10 #[.string nm, v] W fun e w' => DoP W (noO 21) e w') (hT : SinT w) : Calls Tryd.prog 3 #[.string nm, .slice (some ad) n cap] w fun e w' => e = .returned (.bool true) ∧ Below w.heap.size w w' := by
  have hA := fun W => answers_at W
  obtain ⟨hK, hN⟩ := hk
  have HS := Lib.hid hs
  have HT := Lib.hid hT
  have HDO := Lib.hid HD
  have hnc' : ((2 : Int) == (n : Int)) = false := by simp; omega
  have hnd' : ((n : Int) == (2 : Int)) = false := by simp; omega
  clear hT HD hs
  have HL := Lib.hid hl
  clear hl hnc
  go_enter Tryd.func3, Tryd.ntmps3
  go_wp2_with fail
  refine (hK _).mono ?_; rintro e w1 ⟨rfl, rfl⟩
  go_wp2_with fail
  refine (hA _).mono ?_; rintro e w2 ⟨rfl, hb2⟩
  have HB2 := Lib.hid hb2
  have HS2 := Lib.hid (HS.out.below hb2)
  have HT2 := Lib.hid ((HT.out.below hb2).below (below1 w2 (.cells #[] 38)))
  clear hb2
  go_wp2_with fail
  refine (hN _).mono ?_; rintro e w3 ⟨rfl, rfl⟩
  obtain ⟨v3, w3, hr3, hrow3, hg3, hi3⟩ := SLO.append (freshO w2) (HS2.out.below (below1 _ _)) (fun e => by cases e) (show ([] : List Ob).length + l.length ≤ 100000 by have := HL.out; simp; omega) 22
  have HR3 := Lib.hid (show SLO w3 v3 l by simpa using hrow3)
  have HB3 := Lib.hid (show Below w2.heap.size w2 w3 from (below1 w2 _).grown hg3 (by simp) (fun k hk => by simp [Value.ownBlock] at hk; omega))
  rw [HL.out] at hr3
  have HRn := Lib.hid hr3
  clear hrow3 hg3 hi3 hr3
  go_wp2_with (at_builtin; refine wpList_append_run8 rfl (.tmp 56) (.tmp 57) 22 22 22 v3 rfl rfl _ _ rfl rfl HRn.out ?_)
  refine (HDO.out _ _ HR3.out ((HT.out.below HB2.out).below HB3.out)).mono ?_; rintro e w4 hD
  obtain rfl := hD.no (by decide)
  have HB4 := Lib.hid (bthen (bthen HB2.out HB3.out) hD.below)
  clear hD
  go_wp2_with fail
  go_ret
  exact ⟨rfl, HB4.out⟩
end Ari
end Go.Proofs.YtgbpldfcahajeaaDoor
