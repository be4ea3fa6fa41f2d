/-
  The reader's small methods, by contracts: what the reader holds (its bytes, the place, what it has of a string), its end, taking a byte.
-/
import Derived.Test.YtaebpjcigajolaaScanMath
import Derived.Test.YtaebpjcigajolaaChecked
import Derived.WalkKit
import Derived.WalkLawsBesides
import Derived.Deep.QuietTactic
import Derived.BigQuiet
import Derived.Lib.Hide
namespace Go.Proofs.Ytaebpjcigajolaa
open Go.RowKit
open Sc
/-- the panic by which a reader gives up -/
def gaveUp (e : Int) : Ending := .panicked [{ v := .iface 39 (.agg #[.int .i64 e]), recovered := false }]
theorem giveUp_at (e : Int) (w : World) : Calls Try.prog 38 #[.int .i64 e] w fun x w' => x = gaveUp e ∧ w' = w := by
  unfold gaveUp
  go_enter Try.func38, Try.ntmps38
  go_wp2
  exact ⟨rfl, rfl, rfl⟩
/-- a byte as a value -/
def bv (c : UInt8) : Value := .int .u8 c.toNat
/-- bytes that can be read at ba, below block N -/
def RdB (w : World) (N : Nat) (ba : Option Addr) (l : List UInt8) : Prop :=
  ∀ i c, l[i]? = some c → ∃ b off, ba = some ⟨b, off, none⟩ ∧ b < N ∧ w.cell? ⟨b, off + i, none⟩ = some (.int .u8 c.toNat)
theorem RdB.below {w w' : World} {N : Nat} {ba : Option Addr} {l : List UInt8} (h : RdB w N ba l) (hb : Below N w w') : RdB w' N ba l := by
  intro i c hc
  obtain ⟨b, off, e, hlt, hcell⟩ := h i c hc
  exact ⟨b, off, e, hlt, (hb.cell (by exact hlt)).trans hcell⟩
/-- what the reader at block R holds: bytes l at ba, the place p, the text tx -/
structure St (w : World) (N R : Nat) (ba : Option Addr) (cap : Nat) (l : List UInt8) (p : Nat) (tx : List UInt8) : Prop where
  ge : N ≤ R
  lt : R < w.heap.size
  le : p ≤ l.length
  cl : l.length ≤ cap
  c0 : w.cell? ⟨R, 0, none⟩ = some (.slice ba l.length cap)
  c1 : w.cell? ⟨R, 1, none⟩ = some (.int .i64 p)
  c2 : ∃ v, w.cell? ⟨R, 2, none⟩ = some v ∧ w.ownsRow (R + 1) 5 1 v tx.length (tx.map bv)
  fz : ∀ o, w.frozen? ⟨R, o, none⟩ = false
  rd : RdB w N ba l
section
variable {w w' : World} {N R cap p : Nat} {ba : Option Addr} {l tx : List UInt8}
theorem St.kept (h : St w N R ba cap l p tx) (hR : w'.heap[R]? = w.heap[R]?) (ho : ∀ v n xs, w.ownsRow (R + 1) 5 1 v n xs → w'.ownsRow (R + 1) 5 1 v n xs) (hb : Below N w w') : St w' N R ba cap l p tx := by
  obtain ⟨v, hv, hw⟩ := h.c2
  exact ⟨h.ge, Nat.lt_of_lt_of_le h.lt hb.size, h.le, h.cl, (World.cell?_of_block (w := w) hR).trans h.c0, (World.cell?_of_block (w := w) hR).trans h.c1, ⟨v, (World.cell?_of_block (w := w) hR).trans hv, ho _ _ _ hw⟩, fun o => (World.frozen?_of_block (w := w) hR).trans (h.fz o), h.rd.below hb⟩
theorem St.drewN (h : St w N R ba cap l p tx) (k : Nat) : St (w.drewN k) N R ba cap l p tx :=
  h.kept rfl (fun _ _ _ x => x) ⟨rfl, rfl, rfl, Nat.le_refl _, fun _ _ => rfl⟩
theorem St.alloc (h : St w N R ba cap l p tx) (o : Obj) : St (w.alloc o) N R ba cap l p tx :=
  h.kept (Below.heap_alloc _ _ _ h.lt) (fun _ _ _ x => x.alloc o) ((Below.refl N w).alloc (Nat.le_trans h.ge (Nat.le_of_lt h.lt)) o)
theorem belowDrewN (N : Nat) (w : World) (k : Nat) : Below N w (w.drewN k) := ⟨rfl, rfl, rfl, Nat.le_refl _, fun _ _ => rfl⟩
/-- the place has moved -/
theorem St.move (h : St w N R ba cap l p tx) {q : Nat} (hq : q ≤ l.length) : St (w.setCell ⟨R, 1, none⟩ (.int .i64 q)) N R ba cap l q tx := by
  obtain ⟨v, hv, hw⟩ := h.c2
  refine ⟨h.ge, by simpa [World.setCell] using h.lt, hq, h.cl, ?_, World.cell?_setCell_same _ _ _ h.c1, ⟨v, ?_, ownsRow_setCell_below hw (by simp) _⟩, fun o => by simpa using h.fz o, ?_⟩
  · simpa [go_sem] using h.c0
  · simpa [go_sem] using hv
  · exact h.rd.below ((Below.refl N w).setCell h.ge _)
theorem St.byte (h : St w N R ba cap l p tx) {i : Nat} {c : UInt8} (hc : l[i]? = some c) : ∃ b off, ba = some ⟨b, off, none⟩ ∧ b < N ∧ b ≠ R ∧ w.cell? ⟨b, off + i, none⟩ = some (.int .u8 c.toNat) := by
  obtain ⟨b, off, e, hlt, hcell⟩ := h.rd i c hc
  exact ⟨b, off, e, hlt, by have := h.ge; omega, hcell⟩
end
/-- nothing has turned but the reader's own block R, and rows of bytes behind it -/
structure Fr (R : Nat) (w w' : World) : Prop where
  os : w'.os = w.os
  tape : w'.tape = w.tape
  output : w'.output = w.output
  size : w.heap.size ≤ w'.heap.size
  block : ∀ k, k < w.heap.size → k ≠ R → (k < R ∨ ∀ cur f, w.heap[k]? ≠ some (.cells cur 5 f)) → w'.heap[k]? = w.heap[k]?
theorem Fr.refl (R : Nat) (w : World) : Fr R w w := ⟨rfl, rfl, rfl, Nat.le_refl _, fun _ _ _ _ => rfl⟩
theorem Fr.trans {R : Nat} {a b c : World} (h : Fr R a b) (k : Fr R b c) : Fr R a c :=
  ⟨k.os.trans h.os, k.tape.trans h.tape, k.output.trans h.output, Nat.le_trans h.size k.size, fun i hi hR ho => by
    have e := h.block i hi hR ho
    rw [k.block i (Nat.lt_of_lt_of_le hi h.size) hR (by rw [e]; exact ho), e]⟩
theorem Fr.drewN {R : Nat} {a b : World} (h : Fr R a b) (k : Nat) : Fr R a (b.drewN k) := h.trans ⟨rfl, rfl, rfl, Nat.le_refl _, fun _ _ _ _ => rfl⟩
theorem Fr.alloc {R : Nat} {a b : World} (h : Fr R a b) (o : Obj) : Fr R a (b.alloc o) :=
  h.trans ⟨rfl, rfl, rfl, by simp, fun k hk _ _ => Below.heap_alloc _ _ _ hk⟩
theorem Fr.put {R : Nat} {a b : World} (h : Fr R a b) (o : Nat) (x : Value) : Fr R a (b.setCell ⟨R, o, none⟩ x) :=
  h.trans ⟨rfl, rfl, rfl, by simp [World.setCell], fun k _ hR _ => Below.heap_setCell _ _ _ _ hR⟩
/-- a store into a block that was made since -/
theorem Fr.own {R : Nat} {a b : World} (h : Fr R a b) {p : Addr} (hp : a.heap.size ≤ p.block) (x : Value) : Fr R a (b.setCell p x) :=
  ⟨h.os, h.tape, h.output, by simpa [World.setCell] using h.size, fun k hk hR ho => by rw [Below.heap_setCell _ _ _ _ (by omega)]; exact h.block k hk hR ho⟩
theorem Fr.below {R N : Nat} {a b : World} (h : Fr R a b) (hN : N ≤ R) (hR : R < a.heap.size) : Below N a b :=
  ⟨h.os, h.tape, h.output, h.size, fun k hk => h.block k (by omega) (by omega) (.inl (by omega))⟩
theorem Fr.cell {R : Nat} {a b : World} (h : Fr R a b) {k : Nat} (hk : k < R) (hR : R < a.heap.size) : ∀ o, b.cell? ⟨k, o, none⟩ = a.cell? ⟨k, o, none⟩ :=
  fun _ => World.cell?_of_block (w := a) (h.block k (by omega) (by omega) (.inl hk))
theorem Fr.keeps {R : Nat} {a b : World} (h : Fr R a b) {k : Nat} (hR : k ≠ R) {xs : Array Value} {t : TypeId} {f : Nat × Nat} (hb : a.heap[k]? = some (.cells xs t f)) (ht : t ≠ 5) : b.heap[k]? = some (.cells xs t f) := by
  have hk : k < a.heap.size := (Array.getElem?_eq_some_iff.1 hb).1
  rw [h.block k hk hR (.inr (fun cur g e => by rw [hb] at e; injection e with e; injection e with _ e; exact ht e)), hb]
/-- the reader has gone to p with the text tx, and answers v -/
def Went (N R : Nat) (ba : Option Addr) (cap : Nat) (l : List UInt8) (p : Nat) (tx : List UInt8) (v : Value) (w : World) (e : Ending) (w' : World) : Prop :=
  e = .returned v ∧ St w' N R ba cap l p tx ∧ Fr R w w'
def Gave (R : Nat) (x : Int) (w : World) (e : Ending) (w' : World) : Prop := e = gaveUp x ∧ Fr R w w'
theorem eqb (a b : Nat) : ((a : Int) == (b : Int)) = decide (a = b) := by
  by_cases h : a = b
  · subst h; simp
  · have : ¬ (a : Int) = (b : Int) := by omega
    simp [h, this]
theorem atEnd_at {w : World} {N R cap p : Nat} {ba : Option Addr} {l tx : List UInt8} (h : St w N R ba cap l p tx) :
    Calls Try.prog 30 #[.pointer (some ⟨R, 0, none⟩)] w fun e w' => e = .returned (.bool (decide (p = l.length))) ∧ ∃ k, w' = w.drewN k := by
  have c0 := h.c0
  have c1 := h.c1
  have he := eqb p l.length
  clear h
  go_enter Try.func30, Try.ntmps30
  go_wp2_with fail
  go_quiet (fail)
  go_wp2_with fail
  go_ret
  exact ⟨rfl, _, rfl⟩
theorem take_yes {w : World} {N R cap p : Nat} {ba : Option Addr} {l tx : List UInt8} (h : St w N R ba cap l p tx) (hl : l.length ≤ 100000) {c : UInt8} (hc : l[p]? = some c) :
    Calls Try.prog 33 #[.pointer (some ⟨R, 0, none⟩)] w (Went N R ba cap l (p + 1) tx (bv c) w) := by
  obtain ⟨b, off, rfl, hbN, hbR, hcell⟩ := h.byte hc
  have hp : p < l.length := (List.getElem?_eq_some_iff.1 hc).1
  have c0 := h.c0
  have c1 := h.c1
  have f1 := h.fz 1
  have HA := Lib.hid (atEnd_at h)
  have HS := Lib.hid h
  have hd : decide (p = l.length) = false := decide_eq_false (by omega)
  rw [hd] at HA
  clear h hc hd
  unfold Went bv
  go_enter Try.func33, Try.ntmps33
  go_wp2_with fail
  refine HA.out.mono ?_; rintro e w1 ⟨rfl, k, rfl⟩
  go_wp2_with fail
  go_quiet (fail)
  go_wp2_with fail
  go_ret
  refine ⟨rfl, ?_, ?_⟩
  · exact (HS.out.drewN _).move (q := p + 1) (by omega)
  · exact ((Fr.refl _ _).drewN _).put _ _
theorem take_no {w : World} {N R cap p : Nat} {ba : Option Addr} {l tx : List UInt8} (h : St w N R ba cap l p tx) (hc : p = l.length) :
    Calls Try.prog 33 #[.pointer (some ⟨R, 0, none⟩)] w (Gave R 14 w) := by
  have HA := Lib.hid (atEnd_at h)
  rw [decide_eq_true hc] at HA
  have HB := Lib.hid ((Fr.refl R w).drewN)
  clear h hc
  unfold Gave
  go_enter Try.func33, Try.ntmps33
  go_wp2_with fail
  refine HA.out.mono ?_; rintro e w1 ⟨rfl, k, rfl⟩
  go_wp2_with fail
  refine (giveUp_at _ _).mono ?_; rintro e w2 ⟨rfl, rfl⟩
  unfold gaveUp
  go_wp2_with fail
  exact ⟨rfl, rfl, HB.out _⟩
theorem atEnd_drew {w : World} {N R cap p : Nat} {ba : Option Addr} {l tx : List UInt8} (h : St w N R ba cap l p tx) (n : Nat) :
    Calls Try.prog 30 #[.pointer (some ⟨R, 0, none⟩)] (w.drewN n) fun e w' => e = .returned (.bool (decide (p = l.length))) ∧ ∃ k, w' = (w.drewN n).drewN k :=
  atEnd_at (h.drewN n)
theorem takeIf_end {w : World} {N R cap p : Nat} {ba : Option Addr} {l tx : List UInt8} (h : St w N R ba cap l p tx) (hp : p = l.length) (c : Nat) :
    Calls Try.prog 35 #[.pointer (some ⟨R, 0, none⟩), .int .u8 c] w (Went N R ba cap l p tx (.bool false) w) := by
  have HA := Lib.hid (atEnd_drew h)
  rw [decide_eq_true hp] at HA
  have HS := Lib.hid h
  have c0 := h.c0
  have c1 := h.c1
  clear h hp
  unfold Went
  go_enter Try.func35, Try.ntmps35
  go_wp2_with fail
  go_quiet (first | (go_at_call 30; exact Calls.quiet_of (HA.out _)))
  go_wp2_with fail
  go_ret
  exact ⟨rfl, HS.out.drewN _, (Fr.refl _ _).drewN _⟩
theorem takeIf_at {w : World} {N R cap p : Nat} {ba : Option Addr} {l tx : List UInt8} (h : St w N R ba cap l p tx) (hl : l.length ≤ 100000) {x : UInt8} (hc : l[p]? = some x) (c : Nat) :
    Calls Try.prog 35 #[.pointer (some ⟨R, 0, none⟩), .int .u8 c] w (Went N R ba cap l (if x.toNat = c then p + 1 else p) tx (.bool (decide (x.toNat = c))) w) := by
  obtain ⟨b, off, rfl, hbN, hbR, hcell⟩ := h.byte hc
  have hp : p < l.length := (List.getElem?_eq_some_iff.1 hc).1
  have c0 := h.c0
  have c1 := h.c1
  have f1 := h.fz 1
  have HA := Lib.hid (atEnd_drew h)
  have HS := Lib.hid h
  rw [decide_eq_false (by omega)] at HA
  clear h hc
  unfold Went
  have hx : ((x.toNat : Int) == (c : Int)) = decide (x.toNat = c) := eqb _ _
  by_cases hxc : x.toNat = c
  · rw [if_pos hxc, decide_eq_true hxc]
    have hne : ((x.toNat : Int) != (c : Int)) = false := by simp [hxc]
    clear hx
    have HX := Lib.hid hxc
    clear hxc
    go_enter Try.func35, Try.ntmps35
    go_wp2_with fail
    go_quiet (first | (go_at_call 30; exact Calls.quiet_of (HA.out _)))
    go_wp2_with fail
    go_ret
    exact ⟨rfl, (HS.out.drewN _).move (q := p + 1) (by omega), ((Fr.refl _ _).drewN _).put _ _⟩
  · rw [if_neg hxc, decide_eq_false hxc]
    have hne : ((x.toNat : Int) != (c : Int)) = true := by simp [bne, hx, hxc]
    clear hx hxc
    go_enter Try.func35, Try.ntmps35
    go_wp2_with fail
    go_quiet (first | (go_at_call 30; exact Calls.quiet_of (HA.out _)))
    go_wp2_with fail
    go_ret
    exact ⟨rfl, HS.out.drewN _, (Fr.refl _ _).drewN _⟩
end Go.Proofs.Ytaebpjcigajolaa
