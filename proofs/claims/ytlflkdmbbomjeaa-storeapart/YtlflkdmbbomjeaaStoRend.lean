/-
  The law's text of an object, plainly; and of one that is no thing, by a contract: render.
-/
import Derived.Test.YtlflkdmbbomjeaaStoPair
import Derived.Test.YtlflkdmbbomjeaaStoItems2
import Derived.Test.YtlflkdmbbomjeaaStoAns
import Derived.Test.YtlflkdmbbomjeaaDecUdec
import Derived.Deep.RegionHeld3
import Derived.Laws.BytesArg
namespace Go.Proofs.Ytlflkdmbbomjeaa
open Go.RowKit
open St
/-- a number's digits -/
def dg (n : Nat) : ByteArray := ⟨(Lib.decDigits n).toArray⟩
def b1 (c : UInt8) : ByteArray := ⟨#[c]⟩
/-- an object as the law makes them -/
structure Good (o : Ob) : Prop where
  k0 : 0 ≤ o.kind
  k1 : o.kind ≤ 10
  a0 : 0 ≤ o.acc
  a1 : o.acc ≤ 3
  n0 : 0 ≤ o.n
  n1 : o.n ≤ 10000000
  nm : o.name.size ≤ 127
/-- things as the law makes them -/
structure GoodT (t : Th) : Prop where
  it : ∀ o ∈ t.items, Good o
  pr : ∀ p ∈ t.pairs, Good p.1 ∧ Good p.2
  li : t.items.length ≤ 300
  lp : t.pairs.length ≤ 300
  lb : t.bytes.length ≤ 1000
  a0 : 0 ≤ t.acc
  a1 : t.acc ≤ 3
  lm : t.most ≤ 300
def Gd (G : List (Th × Lay)) : Prop := ∀ (i : Nat) (x : Th × Lay), G[i]? = some x → GoodT x.1
def rhead (o : Ob) : ByteArray := if o.exec = true then dg o.kind.toNat ++ b1 120 else dg o.kind.toNat
/-- items, one by one -/
def rItems (f : Ob → ByteArray) (t : ByteArray) (l : List Ob) : ByteArray := l.foldl (fun t x => (t ++ f x) ++ b1 32) t
def rPairs (f : Ob → ByteArray) (t : ByteArray) (l : List (Ob × Ob)) : ByteArray := l.foldl (fun t p => (((t ++ f p.1) ++ b1 61) ++ f p.2) ++ b1 32) t
def dPairs (d : Option Th) : List (Ob × Ob) := match d with
  | some y => y.pairs
  | none => []
def dMost (d : Option Th) : Int := match d with
  | some y => y.most
  | none => 0
/-- an object's text, things by what they have, so deep at most -/
def rend (G : List (Th × Lay)) : Nat → Ob → ByteArray
  | d, o =>
    if o.kind = 6 then ((((rhead o ++ b1 46) ++ dg o.acc.toNat) ++ b1 40) ++ ⟨(bytesR G o).toArray⟩) ++ b1 41
    else if o.kind = 7 then (match d with
      | 0 => ((((rhead o ++ b1 46) ++ dg o.acc.toNat) ++ b1 91) ++ dg (itemsR G o).length) ++ b1 93
      | d + 1 => (rItems (rend G d) (((rhead o ++ b1 46) ++ dg o.acc.toNat) ++ b1 91) (itemsR G o) ++ dg (itemsR G o).length) ++ b1 93)
    else if o.kind = 8 then (match d with
      | 0 => (((((((rhead o ++ b1 46) ++ dg (accV (dicT G o)).toNat) ++ b1 60) ++ dg (dPairs (dicT G o)).length) ++ b1 47) ++ dg (dMost (dicT G o)).toNat)) ++ b1 62
      | d + 1 => (((rPairs (rend G d) (((rhead o ++ b1 46) ++ dg (accV (dicT G o)).toNat) ++ b1 60) (dPairs (dicT G o)) ++ dg (dPairs (dicT G o)).length) ++ b1 47) ++ dg (dMost (dicT G o)).toNat) ++ b1 62)
    else ((rhead o ++ b1 58) ++ dg o.n.toNat) ++ o.name
theorem dg_size (n : Nat) (h : n ≤ 10000000) : (dg n).size ≤ 8 := by
  unfold dg
  rw [size_mk]
  exact Dc.decDigits_len 7 n (by omega)
theorem b1_size (c : UInt8) : (b1 c).size = 1 := rfl
theorem rhead_size {o : Ob} (h : Good o) : (rhead o).size ≤ 9 := by
  have := dg_size o.kind.toNat (by have := h.k0; have := h.k1; omega)
  unfold rhead
  split
  · rw [ByteArray.size_append, b1_size]; omega
  · omega
theorem bytesR_le {G : List (Th × Lay)} (hG : Gd G) (o : Ob) : (bytesR G o).length ≤ 1000 := by
  unfold bytesR
  split
  · rename_i t ht
    obtain ⟨_, _, x, hx, _⟩ := tld_some ht
    have := (hG t x hx).lb
    simp [hx]
    omega
  · simp
/-- where the walk is behind the head: the text so far, the object's box -/
def RHd (w : World) (o : Ob) (v : Value) (wx : World) : Prop := v = .string (rhead o) ∧ wx.heap[w.heap.size]? = some (obC o) ∧ Below w.heap.size w wx
theorem cat_ok (a b : ByteArray) (h : a.size + b.size ≤ 9223372036854775807) : ∀ W : World, (Op.stringOp .add a b).run Try.prog W = .ok (.string (a ++ b)) W := fun W => run_string_add_sum W a b h
theorem cat_size (a b : ByteArray) : (a ++ b).size = a.size + b.size := ByteArray.size_append
theorem one_size (c : UInt8) : (⟨#[c]⟩ : ByteArray).size = 1 := rfl
theorem conv_nil (W : World) : (convert 36 9 (.slice none 0 0)).run Try.prog W = .ok (.string ⟨#[]⟩) W := run_convert_bytes_nil W 36 5 Try.underlying36 Try.underlying5 0 0 9 Try.underlying9
theorem dg_mk (n : Nat) (h : n ≤ 10000000) : (⟨(Lib.decDigits n).toArray⟩ : ByteArray).size ≤ 8 := dg_size n h
set_option maxRecDepth 100000 in
set_option maxHeartbeats 1000000 in
theorem render_plain {w : World} {s d : Nat} {G : List (Th × Lay)} (o : Ob) (ho : Good o) (h6 : o.kind ≠ 6) (h7 : o.kind ≠ 7) (h8 : o.kind ≠ 8) :
    Calls Try.prog 32 #[.pointer (some ⟨s, 0, none⟩), o.val, .int .i64 d] w fun e w' => e = .returned (.string (rend G d o)) ∧ Below w.heap.size w w' := by
  have hr : rend G d o = ((rhead o ++ b1 58) ++ dg o.n.toNat) ++ o.name := by
    unfold rend
    rw [if_neg h6, if_neg h7, if_neg h8]
  rw [hr]
  obtain ⟨N, hN⟩ : ∃ N : Nat, o.n = N := ⟨o.n.toNat, by have := ho.n0; omega⟩
  have hn1 := ho.n1
  have HD2 := Lib.hid (fun w => refDec_nat N w (by omega))
  have s2 := dg_mk N (by omega)
  have s3 := ho.nm
  rw [show o.n.toNat = N by omega]
  obtain ⟨K, hK⟩ : ∃ K : Nat, o.kind = K := ⟨o.kind.toNat, by have := ho.k0; omega⟩
  have hk10 := ho.k1
  have e6 : ((K : Int) == 6) = false := by simp; omega
  have e7 : ((K : Int) == 7) = false := by simp; omega
  have e8 : ((K : Int) == 8) = false := by simp; omega
  have HD1 := Lib.hid (refDec_nat K (w.alloc (obC o)) (by omega))
  have HDg := Lib.hid (show dg o.kind.toNat = ⟨(Lib.decDigits K).toArray⟩ by rw [show o.kind.toNat = K by omega]; rfl)
  have cx := cat_ok ⟨(Lib.decDigits K).toArray⟩ ⟨#[120]⟩ (by have := dg_size K (by omega); unfold dg at this; show _ + 1 ≤ _; omega)
  have s1 := rhead_size ho
  have HO := Lib.hid ho
  obtain ⟨kd, ex, ac, nn, nm, rf, fm, ln⟩ := o
  simp only at hK
  subst hK
  unfold obC at HD1
  unfold Ob.val
  simp only at hN s3
  subst hN
  clear hr h6 h7 h8 ho hn1 hk10
  go_enter Try.func32, Try.ntmps32
  go_wp2_with fail
  refine HD1.out.mono ?_; rintro e w1 ⟨rfl, hb⟩
  have hbx := box1 hb
  have HBx := Lib.hid hbx
  have HB1 := Lib.hid (bthen (below1 w _) hb)
  obtain ⟨x0, x1, x2, x3, x4, x5, x6, x7⟩ := cellsOb hbx
  clear hb hbx
  go_upto_if 24 with (fail)
  go_cut [7] (fun s7 wx => RHd w ⟨K, ex, ac, N, nm, rf, fm, ln⟩ s7 wx)
  case first =>
    cases ex with
    | true =>
      go_wp2_with fail
      go_meet
      exact ⟨by unfold rhead; rw [if_pos rfl, HDg.out]; rfl, HBx.out, HB1.out⟩
    | false =>
      go_wp2_with fail
      go_meet
      exact ⟨by unfold rhead; rw [if_neg (by simp), HDg.out], HBx.out, HB1.out⟩
  case rest =>
  obtain ⟨rfl, hbx, hb⟩ := hcut
  clear x0 x1 x2 x3 x4 x5 x6 x7 HBx HB1 HDg cx HD1
  unfold obC at hbx
  obtain ⟨x0, x1, x2, x3, x4, x5, x6, x7⟩ := cellsOb hbx
  obtain ⟨H, hH⟩ : ∃ H, rhead ⟨K, ex, ac, N, nm, rf, fm, ln⟩ = H := ⟨_, rfl⟩
  rw [hH] at s1 ⊢
  have HH := Lib.hid hH
  clear hH
  have y3 : wc.drew.cell? ⟨w.heap.size, 3, none⟩ = some (.int .i64 N) := x3
  have y4 : wc.drew.cell? ⟨w.heap.size, 4, none⟩ = some (.string nm) := x4
  have hlt : w.heap.size < wc.drew.heap.size := (Array.getElem?_eq_some_iff.1 hbx).1
  have HB := Lib.hid hb
  have c1 := cat_ok H ⟨#[58]⟩ (by rw [one_size]; omega)
  have c2 := cat_ok (H ++ ⟨#[58]⟩) ⟨(Lib.decDigits N).toArray⟩ (by rw [cat_size, one_size]; omega)
  have c3 := cat_ok (H ++ ⟨#[58]⟩ ++ ⟨(Lib.decDigits N).toArray⟩) nm (by rw [cat_size, cat_size, one_size]; omega)
  clear hb hbx x1 x2 x3 x4 x5 x6 x7 s1 s2 s3
  go_wp2_with fail
  go_region_held3 (fun w' => w'.cell? ⟨w.heap.size, 3, none⟩ = some (.int .i64 N) ∧ w'.cell? ⟨w.heap.size, 4, none⟩ = some (.string nm)) (first | with_reducible exact ⟨y3, y4⟩ | with_reducible exact ⟨z3, z4⟩) (first | (go_at_call 77; refine (HD2.out _).mono ?_; rintro e w3 ⟨rfl, hb3⟩; have z3 : w3.cell? ⟨w.heap.size, 3, none⟩ = some (.int .i64 N) := (hb3.cell hlt).trans y3; have z4 : w3.cell? ⟨w.heap.size, 4, none⟩ = some (.string nm) := (hb3.cell hlt).trans y4))
  all_goals go_wp2_with fail
  all_goals go_ret
  all_goals exact ⟨by rw [HH.out]; rfl, bthen (below_draw HB.out 1) hb3⟩
end Go.Proofs.Ytlflkdmbbomjeaa
