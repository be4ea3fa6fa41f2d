/-
  Bytes are written into a string, by a contract: Write.
-/
import Derived.Test.YtfilbfenpdaahaaGreatDoorStoLock
import Derived.Test.YtfilbfenpdaahaaGreatDoorStoBytes
namespace Go.Proofs.YtfilbfenpdaahaaGreatDoor
open Go.RowKit
open St
def wrF (p : Nat) (b : List UInt8) (y : Th × Lay) : Th × Lay := (⟨y.1.kind, y.1.bytes.take p ++ b ++ y.1.bytes.drop (p + b.length), y.1.items, y.1.pairs, y.1.most, y.1.acc⟩, y.2)
def wrG (G : List (Th × Lay)) (t p : Nat) (b : List UInt8) : List (Th × Lay) := G.modify t (wrF p b)
theorem wrF_head (p : Nat) (b : List UInt8) : SameHead (wrF p b) := ⟨fun _ => rfl, fun _ => rfl, fun _ => rfl, fun _ => rfl⟩
theorem isB_type {w : World} {base n size B : Nat} {e t : TypeId} {v : Value} {xs : List Value} {cs : Array Value} {fr : Nat × Nat} (h : w.ownsRow base e size v n xs) (hB : w.heap[B]? = some (.cells cs t fr)) (hne : t ≠ e) : ¬ isB v B := fun k => own_ne hB h hne k.symm
/-- what a copy into a string's row leaves -/
theorem rep_write {O : Nat → Prop} {w w' : World} {s i B c p : Nat} {fr : Int} {G : List (Th × Lay)} {y : Th × Lay} {cur : Array Value} {b : List UInt8} (h : Rep O w s fr G) (hy : G[i]? = some y) (e : y.2.b = .slice (some ⟨B, 0, none⟩) y.1.bytes.length c) (hB : w.heap[B]? = some (.cells cur 5 (0, 0))) (hp : p + b.length ≤ y.1.bytes.length)
    (hg : w'.heap[B]? = some (.cells (cur.toList.take p ++ b.map bv ++ cur.toList.drop (p + b.length)).toArray 5 (0, 0))) (hfar : ∀ k, k ≠ B → w'.heap[k]? = w.heap[k]?) (hsz : w'.heap.size = w.heap.size) : Rep O w' s fr (wrG G i p b) := by
  have hr := h.row i y hy
  have hrb := hr.rb
  rw [e] at hrb
  obtain ⟨hl0, hor⟩ := hrb
  rcases hor with ⟨e0, _⟩ | ⟨g, cap, cur2, e0, _, hg2, hnc, hcm, hcs, htk⟩
  · cases e0
  cases e0
  rw [hB] at hg2
  cases hg2
  have ni := isB_type hr.ri hB (by decide)
  have np := isB_type hr.rp hB (by decide)
  have hcl : cur.toList.length = c := by simpa using hcs
  have hlen : (y.1.bytes.take p ++ b ++ y.1.bytes.drop (p + b.length)).length = y.1.bytes.length := by simp; omega
  refine rep_modify h (wrF_head p b) hy hB ⟨by decide, by decide⟩ hfar hsz (.inl (by rw [e]; rfl)) ⟨fun _ => rfl, fun k => absurd k ni, fun k => absurd k np⟩ ?_
  refine ⟨?_, owns_same hr.ri (fun k hk => hfar k (fun e1 => ni (e1 ▸ hk))), owns_same hr.rp (fun k hk => hfar k (fun e1 => np (e1 ▸ hk))), hr.ob, hr.oi, hr.op, by simp only [wrF]; rw [hlen]; exact hr.nb, hr.ni, hr.np, hr.nm⟩
  simp only [wrF]
  rw [hlen, e]
  refine ⟨by simp; omega, .inr ⟨B, c, _, rfl, Nat.zero_le _, hg, hnc, hcm, by simp; omega, ?_⟩⟩
  have hbm : cur.toList.take y.1.bytes.length = y.1.bytes.map bv := by simpa using htk
  have hcur : cur.toList = y.1.bytes.map bv ++ cur.toList.drop y.1.bytes.length := by rw [← hbm, List.take_append_drop]
  rw [hcur]
  generalize cur.toList.drop y.1.bytes.length = R
  simp only [Nat.mul_one]
  have t1 : (y.1.bytes.map bv ++ R).take p = (y.1.bytes.map bv).take p := List.take_append_of_le_length (by simp; omega)
  have t2 : (y.1.bytes.map bv ++ R).drop (p + b.length) = (y.1.bytes.map bv).drop (p + b.length) ++ R := List.drop_append_of_le_length (by simp; omega)
  rw [t1, t2, ← List.append_assoc]
  have hl2 : ((y.1.bytes.map bv).take p ++ b.map bv ++ (y.1.bytes.map bv).drop (p + b.length)).length = y.1.bytes.length := by simp; omega
  rw [← hl2, List.take_left]
  simp [List.map_take, List.map_drop]
def writeE (G : List (Th × Lay)) (o : Ob) (at_ : Int) (n : Nat) : Int := if tld G o 6 = none then 21 else if liesB at_ n o.len = true then 0 else 11
def writeR (G : List (Th × Lay)) (o : Ob) (at_ : Int) (b : List UInt8) : List (Th × Lay) := match tld G o 6 with
  | some t => wrG G t (o.frm + at_).toNat b
  | none => G
theorem wr_nil {G : List (Th × Lay)} {t p : Nat} : wrG G t p [] = G := by
  unfold wrG
  apply List.ext_getElem?
  intro j
  rw [List.getElem?_modify]
  by_cases h : t = j
  · simp [h, wrF]
  · simp [h]
set_option maxRecDepth 100000 in
set_option maxHeartbeats 1000000 in
theorem write_at {O : Nat → Prop} {w : World} {s c0 : Nat} {fr : Int} {G : List (Th × Lay)} {a : Option Addr} {b : List UInt8} (h : Rep O w s fr G) (hS : Src w a b) (o : Ob) (at_ : Int) :
    Calls Tryz.prog 71 #[.pointer (some ⟨s, 0, none⟩), o.val, .int .i64 at_, .slice a b.length c0] w (Turn O w s fr (writeE G o at_ b.length) (writeR G o at_ b)) := by
  have h2 := h.below (below1 w (obC o))
  obtain ⟨tv, hv⟩ := Rep.vw h2
  have HT := Lib.hid (told_rep h2 hv o 6)
  have HV := Lib.hid (fun w3 hb => hv.below (w' := w3) hb)
  have HR := Lib.hid (fun w3 hb => h2.below (w' := w3) hb)
  have HBX := Lib.hid (fun w2 hb => box1 (w := w) (w2 := w2) (a := obC o) hb)
  have HSr := Lib.hid (fun w3 (hb : Below w.heap.size w w3) => hS.below hb)
  have hle : writeE G o at_ b.length = if tld G o 6 = none then 21 else if liesB at_ b.length o.len = true then 0 else 11 := rfl
  have hlr : writeR G o at_ b = match tld G o 6 with
    | some t => wrG G t (o.frm + at_).toNat b
    | none => G := rfl
  unfold obC at HT HV HR
  simp only [obC] at HBX
  unfold Ob.val at HT ⊢
  cases ht : tld G o 6 with
  | none =>
    rw [ht, if_pos rfl] at hle
    rw [hle]
    rw [ht] at HT
    simp only [thP, Option.map_none] at HT
    clear ht h h2 hv HV HR hle hlr HBX
    go_enter Tryz.func71, Tryz.ntmps71
    go_wp2_with fail
    refine HT.out.mono ?_; rintro e w3 ⟨rfl, hb⟩
    have HB := Lib.hid (bthen (below1 w _) hb)
    clear hb
    go_wp2_with fail
    go_ret
    exact ⟨rfl, .inl ⟨by decide, HB.out⟩⟩
  | some t =>
    rw [ht, if_neg (by simp)] at hle
    rw [ht] at hlr
    simp only at hlr
    rw [ht] at HT
    simp only [thP, Option.map_some] at HT
    obtain ⟨b1, b2, b3, y, hy, hyk, hyl, hyL⟩ := tld_bounds h ht
    have hil := bytes_len6 hyk
    obtain ⟨L, hL⟩ : ∃ L : Nat, o.len = L := ⟨o.len.toNat, by omega⟩
    obtain ⟨F, hF⟩ : ∃ F : Nat, o.frm = F := ⟨o.frm.toNat, by omega⟩
    have HLen := Lib.hid hL
    have HFrm := Lib.hid hF
    have hLb : L ≤ 65535 := by omega
    have HLi := Lib.hid (fun w => lies_at at_ b.length L hLb w)
    rw [hL] at hle
    cases hl : liesB at_ b.length L with
    | false =>
      rw [hl, if_neg (by decide)] at hle
      rw [hl] at HLi
      rw [hle]
      clear ht h h2 hv HV HR hle hlr hy hyk hL hF b1 b2 b3 hyl hyL hil hl
      go_enter Tryz.func71, Tryz.ntmps71
      go_wp2_with fail
      refine HT.out.mono ?_; rintro e w3 ⟨rfl, hb⟩
      obtain ⟨_, _, _, _, _, _, o6, o7⟩ := cellsOb (HBX.out w3 hb)
      rw [HLen.out] at o7
      have HB := Lib.hid (bthen (below1 w _) hb)
      clear hb
      go_wp2_with fail
      refine (HLi.out _).mono ?_; rintro e w5 ⟨rfl, rfl⟩
      go_wp2_with fail
      go_ret
      exact ⟨rfl, .inl ⟨by decide, HB.out⟩⟩
    | true =>
      have hlb := liesB_iff.1 hl
      rw [hl, if_pos rfl] at hle
      rw [hl] at HLi
      obtain ⟨I, rfl⟩ : ∃ I : Nat, at_ = I := ⟨at_.toNat, by omega⟩
      rw [show (o.frm + (I : Int)).toNat = F + I by omega] at hlr
      rw [hle, hlr]
      have hfit : F + I + b.length ≤ y.1.bytes.length := by omega
      have hyL2 : y.1.bytes.length ≤ 65535 := by omega
      have hix0 : 0 ≤ (F : Int) + (I : Int) := by omega
      have hix1 : (F : Int) + (I : Int) ≤ (y.1.bytes.length : Int) := by omega
      have HV2 := Lib.hid (fun w3 hb => vw_cells (HV.out w3 hb) hy)
      have HTh := Lib.hid (fun w3 hb => (HR.out w3 hb).row t y hy)
      have HY := Lib.hid hy
      clear ht h h2 hv HV hle hlr hy hyk hL hF b1 b2 b3 hyl hyL hil hl hlb
      go_enter Tryz.func71, Tryz.ntmps71
      go_wp2_with fail
      refine HT.out.mono ?_; rintro e w3 ⟨rfl, hb⟩
      obtain ⟨_, _, _, _, _, _, o6, o7⟩ := cellsOb (HBX.out w3 hb)
      rw [HLen.out] at o7
      rw [HFrm.out] at o6
      obtain ⟨_, _, c2, _⟩ := HV2.out w3 hb
      have hth := HTh.out w3 hb
      have HR3 := Lib.hid (HR.out w3 hb)
      have HB := Lib.hid (bthen (below1 w _) hb)
      have hS3 := HSr.out w3 (bthen (below1 w _) hb)
      have HS3 := Lib.hid hS3
      by_cases hb0 : b = []
      · subst hb0
        have hcp : ∀ d dl dc W, (Builtin.copy_ #[35, 35] 3 #[.slice d dl dc, .slice a 0 c0]).run Tryz.prog W = .ok (.int .i64 0) W := fun d dl dc W => run_copy_none W _ _ _ 5 d a dl dc 0 c0 Tryz.underlying35 (by kernel_rfl) (by simp)
        simp only [List.length_nil] at *
        rcases hth.rb.2 with ⟨ei, hn0⟩ | ⟨Bi, ci, cur, ei, _, hBi, hnc, hcm, hcs, _⟩
        · have hF0 : F = 0 := by omega
          have hI0 : I = 0 := by omega
          subst hF0 hI0
          rw [ei] at c2
          clear hb hth ei hS3
          go_wp2_with fail
          refine (HLi.out _).mono ?_; rintro e w5 ⟨rfl, rfl⟩
          go_wp2_with fail
          go_region
          all_goals go_wp2_with fail
          all_goals go_ret
          all_goals exact ⟨rfl, .inr ⟨rfl, by rw [wr_nil]; exact HR3.out.below (below_draw (Below.refl _ _) 1), Frm.of_below (below_draw HB.out 1)⟩⟩
        · rw [ei] at c2
          unfold maxLen at hcm
          clear hb hth ei hBi hS3 hcs
          go_wp2_with fail
          refine (HLi.out _).mono ?_; rintro e w5 ⟨rfl, rfl⟩
          go_wp2_with fail
          go_region
          all_goals go_wp2_with fail
          all_goals go_ret
          all_goals exact ⟨rfl, .inr ⟨rfl, by rw [wr_nil]; exact HR3.out.below (below_draw (Below.refl _ _) 1), Frm.of_below (below_draw HB.out 1)⟩⟩
      · have hbl : 0 < b.length := List.length_pos_iff.2 hb0
        rcases hth.rb.2 with ⟨ei, hn0⟩ | ⟨Bi, ci, cur, ei, _, hBi, hnc, hcm, hcs, _⟩
        · omega
        · have hOB := hth.ob Bi (by rw [ei]; rfl)
          rw [ei] at c2
          unfold maxLen at hcm
          have hcs2 : cur.size = ci := by simpa using hcs
          have hciF : ¬ ci = F + I := by omega
          obtain ⟨wz, hrun, hgz, hfarz, hszz, z1, z2, z3⟩ := copy_run (W := w3.drew) (c := c0) (o := F + I) (dl := y.1.bytes.length - (F + I)) (dc := ci - (F + I)) hS3 hBi (by omega) (by omega)
          have HFin := Lib.hid (rep_write (w := w3.drew) (HR3.out.below (below_draw (Below.refl _ _) 1)) HY.out ei hBi hfit hgz hfarz hszz)
          have HFrm2 := Lib.hid (show Frm O w wz from ⟨z1.trans HB.out.os, z2.trans HB.out.tape, z3.trans HB.out.output, by rw [hszz]; exact HB.out.size, fun k hk hkO => (hfarz k (fun e => hkO (by rw [e]; exact hOB))).trans (HB.out.block k hk)⟩)
          clear hb hth ei hBi hS3 hcs hgz hfarz hszz z1 z2 z3 hb0
          go_wp2_with fail
          refine (HLi.out _).mono ?_; rintro e w5 ⟨rfl, rfl⟩
          go_wp2_with fail
          go_region
          all_goals go_wp2_with fail
          all_goals go_ret
          all_goals exact ⟨rfl, .inr ⟨rfl, HFin.out, HFrm2.out⟩⟩
end Go.Proofs.YtfilbfenpdaahaaGreatDoor
