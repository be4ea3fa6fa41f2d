/-
  conv's read, number, asInt, asReal, of a string that is a number and of a number; by contracts.
-/
import Derived.Test.YtfilbfenpdaahaaGreatDoorCnvNum
import Derived.Test.YtfilbfenpdaahaaGreatDoorCnvLay
import Derived.Test.YtfilbfenpdaahaaGreatDoorDecToken2
import Derived.Laws.IdiomStrings
namespace Go.Proofs.YtfilbfenpdaahaaGreatDoor
open Go.RowKit
open St
open Stk
open Col
open Fx Dc
namespace Cv
theorem cvt_all {w : World} {B : Nat} {l : List UInt8} (h : w.heap[B]? = some (.cells (l.map bv).toArray 5 (0, 0))) (c : Nat) : (convert 35 9 (.slice (some ⟨B, 0, none⟩) l.length c)).run Tryz.prog w = .ok (.string ⟨l.toArray⟩) w :=
  run_convert_bytes_back (P := Tryz.prog) w 35 9 5 ⟨B, 0, none⟩ c l Tryz.underlying35 Tryz.underlying5 Tryz.underlying9 (fun j hj => by
    rw [Addr.add_lit, Nat.zero_add, blk_cell h j]
    simp [bv, hj])
set_option maxRecDepth 100000 in
theorem read_at {O : Nat → Prop} {w : World} {s : Nat} {fr : Int} {G : List (Th × Lay)} {o : Ob} (h : Rep O w s fr G) (h6 : o.kind = 6) (hac : acs G o = 0) (ht : tld G o 6 ≠ none) :
    Calls Tryz.prog 55 #[cw s, o.val] w fun e w' => e = .returned (.tuple #[.string ⟨(bytesR G o).toArray⟩, .int .i64 0]) ∧ Below w.heap.size w w' := by
  have HBX := Lib.hid (bx2 (O := fun _ => False) w (cwC s) (obC o) (fun _ h => h.elim))
  have H2 := Lib.hid (below2 w (cwC s) (obC o))
  have HA := Lib.hid (fun w2 (hb : Below w.heap.size w w2) => mayRead_at (h.below hb) o)
  have HB := Lib.hid (fun w2 (hb : Below w.heap.size w w2) => bytes_at (h.below hb) o)
  have HT := Lib.hid ht
  rw [hac] at HA
  unfold cwC obC at H2 HBX
  unfold Ob.val at HA HB
  unfold cw at HA
  unfold cw Ob.val
  rw [h6] at H2 HA HB HBX ⊢
  clear h hac ht
  go_enter Tryz.func55, Tryz.ntmps55
  go_wp2_with fail
  refine (HA.out _ H2.out).mono ?_; rintro e w2 ⟨rfl, hb2⟩
  have K2 := HBX.out.below hb2
  have c0 := cellCv K2.b1
  obtain ⟨x0, x1, x2, x3, x4, x5, x6, x7⟩ := cellsOb K2.b0
  have HB2 := Lib.hid (bthen H2.out hb2)
  clear hb2 K2
  go_wp2_with fail
  refine (HB.out _ HB2.out).mono ?_; rintro e w3 ⟨hb3, ⟨hn, _⟩ | ⟨B, hB, hne, rfl, hcs⟩⟩
  · exact absurd hn HT.out
  have HB3 := Lib.hid (bthen HB2.out hb3)
  have hcv := cvt_all hcs (bytesR G o).length
  clear hb3 c0 x0 x1 x2 x3 x4 x5 x6 x7 hB hne hcs
  go_wp2_with fail
  go_ret2
  exact ⟨rfl, HB3.out⟩
/-- an object and no error -/
def NumP (ob : Ob) (w : World) (e : Ending) (w' : World) : Prop := e = .returned (.tuple #[ob.val, .int .i64 0]) ∧ Below w.heap.size w w'
def numO (k n : Int) : Ob := ⟨k, false, 0, n, ⟨#[]⟩, 0, 0, 0⟩
set_option maxRecDepth 100000 in
set_option maxHeartbeats 1000000 in
theorem number_num {s : Nat} {o : Ob} {w : World} (hn : numB o = true) :
    Calls Tryz.prog 52 #[cw s, o.val] w (NumP (numO o.kind o.n) w) := by
  have HBX := Lib.hid (bx3 (O := fun _ => False) w (cwC s) (obC o) (obC nul) (fun _ h => h.elim))
  have H3 : Hid (Below w.heap.size w (((w.alloc (cwC s)).alloc (obC o)).alloc (obC nul))) := Lib.hid (bthen (below2 w _ _) (below1 _ _))
  have HN := Lib.hid (fun w2 => isNumC_at o w2)
  rw [hn] at HN
  unfold cwC obC nul at H3 HBX
  unfold Ob.val at HN
  unfold NumP numO cw Ob.val
  clear hn
  go_enter Tryz.func52, Tryz.ntmps52
  go_wp2_with fail
  refine (HN.out _).mono ?_; rintro e w2 ⟨rfl, hb2⟩
  have K2 := HBX.out.below hb2
  obtain ⟨x0, x1, x2, x3, x4, x5, x6, x7⟩ := cellsOb K2.b1
  have HZ := Lib.hid K2.b0
  have zf := blk_free K2.b0
  obtain ⟨z0, z1, z2, z3, z4, z5, z6, z7⟩ := cellsOb K2.b0
  have HB2 := Lib.hid (bthen H3.out hb2)
  clear hb2 K2
  go_wp2_with fail
  have hp := put8 HZ.out (.int .i64 o.kind) (.bool false) (.int .i64 0) (.int .i64 o.n) (.string ⟨#[]⟩) (.int .i64 0) (.int .i64 0) (.int .i64 0)
  exact bodyPost_ret (results_ob2 Tryz.results52 _ _ (w.heap.size + 1 + 1) rfl rfl hp.blk) rfl ⟨rfl, below_put8 HB2.out (by omega) hp⟩
set_option maxRecDepth 100000 in
set_option maxHeartbeats 1000000 in
theorem number_str {O : Nat → Prop} {w : World} {s : Nat} {fr k v : Int} {G : List (Th × Lay)} {o : Ob} (h : Rep O w s fr G) (h6 : o.kind = 6) (hac : acs G o = 0) (ht : tld G o 6 ≠ none) (hm : Mx w) (hl : (bytesR G o).length ≤ 3000) (hk : k = 1 ∨ k = 2) (hT : tokR (bytesR G o) = (k, v, true, 0)) :
    Calls Tryz.prog 52 #[cw s, o.val] w (NumP (numO k v) w) := by
  have HBX := Lib.hid (bx3 (O := fun _ => False) w (cwC s) (obC o) (obC nul) (fun _ h => h.elim))
  have H3 : Hid (Below w.heap.size w (((w.alloc (cwC s)).alloc (obC o)).alloc (obC nul))) := Lib.hid (bthen (below2 w _ _) (below1 _ _))
  have HN := Lib.hid (fun w2 => isNumC_at o w2)
  rw [numB_str h6] at HN
  have HR := Lib.hid (fun w2 (hb : Below w.heap.size w w2) => read_at (h.below hb) h6 hac ht)
  have HD := Lib.hid (fun w2 (hb : Below w.heap.size w w2) => decToken_any ⟨(bytesR G o).toArray⟩ (by simpa [ByteArray.size] using hl) w2 (Mx.below hm hb))
  have e2 : (⟨(bytesR G o).toArray⟩ : ByteArray).data.toList = bytesR G o := by simp
  rw [e2, hT] at HD
  unfold cwC obC nul at H3 HBX
  unfold Ob.val at HN HR
  unfold cw at HR
  unfold TokPost tokOf at HD
  simp only at HD
  unfold NumP numO cw Ob.val
  rw [h6] at H3 HN HR HBX ⊢
  generalize (⟨(bytesR G o).toArray⟩ : ByteArray) = L at *
  clear h hac ht hm hl hT e2
  go_enter Tryz.func52, Tryz.ntmps52
  go_wp2_with fail
  refine (HN.out _).mono ?_; rintro e w2 ⟨rfl, hb2⟩
  have K2 := HBX.out.below hb2
  have c0 := cellCv K2.b2
  obtain ⟨x0, x1, x2, x3, x4, x5, x6, x7⟩ := cellsOb K2.b1
  have HK2 := Lib.hid K2
  have HB2 := Lib.hid (bthen H3.out hb2)
  clear hb2 K2
  go_wp2_with fail
  refine (HR.out _ HB2.out).mono ?_; rintro e w3 ⟨rfl, hb3⟩
  have HK3 := Lib.hid (HK2.out.below hb3)
  have HB3 := Lib.hid (bthen HB2.out hb3)
  clear hb3 c0 x0 x1 x2 x3 x4 x5 x6 x7
  go_wp2_with fail
  refine (HD.out _ HB3.out).mono ?_; rintro e w4 ⟨rfl, hb4⟩
  have hz := (HK3.out.below hb4).b0
  have HZ := Lib.hid hz
  have HB4 := Lib.hid (bthen HB3.out hb4)
  have zf := blk_free hz
  obtain ⟨z0, z1, z2, z3, z4, z5, z6, z7⟩ := cellsOb hz
  have hlt : w.heap.size + 1 + 1 < w4.heap.size := (Array.getElem?_eq_some_iff.1 hz).1
  clear hz hb4 HD HK3
  rcases hk with rfl | rfl
  · go_wp2_with fail
    have hp := put8 HZ.out (.int .i64 1) (.bool false) (.int .i64 0) (.int .i64 v) (.string ⟨#[]⟩) (.int .i64 0) (.int .i64 0) (.int .i64 0)
    exact bodyPost_ret (results_ob2 Tryz.results52 _ _ (w.heap.size + 1 + 1) rfl rfl (((below1 _ _).block _ (by rw [hp.size]; exact hlt)).trans hp.blk)) rfl ⟨rfl, bthen (below_put8 HB4.out (by omega) hp) (below1 _ _)⟩
  · go_wp2_with fail
    have hp := put8 HZ.out (.int .i64 2) (.bool false) (.int .i64 0) (.int .i64 v) (.string ⟨#[]⟩) (.int .i64 0) (.int .i64 0) (.int .i64 0)
    exact bodyPost_ret (results_ob2 Tryz.results52 _ _ (w.heap.size + 1 + 1) rfl rfl (((below1 _ _).block _ (by rw [hp.size]; exact hlt)).trans hp.blk)) rfl ⟨rfl, bthen (below_put8 HB4.out (by omega) hp) (below1 _ _)⟩
set_option maxRecDepth 100000 in
set_option maxHeartbeats 1000000 in
theorem asInt_of {s : Nat} {o : Ob} {v : Int} {w : World} (hN : ∀ w2, Below w.heap.size w w2 → Calls Tryz.prog 52 #[cw s, o.val] w2 (NumP (numO 1 v) w2)) :
    Calls Tryz.prog 36 #[cw s, o.val] w (NumP (numO 1 v) w) := by
  have HBX := Lib.hid (bx3 (O := fun _ => False) w (cwC s) (obC o) (obC nul) (fun _ h => h.elim))
  have H3 : Hid (Below w.heap.size w (((w.alloc (cwC s)).alloc (obC o)).alloc (obC nul))) := Lib.hid (bthen (below2 w _ _) (below1 _ _))
  have HN := Lib.hid (hN _ H3.out)
  unfold cwC obC nul at H3 HBX HN
  unfold NumP numO Ob.val at HN
  unfold cw at HN
  unfold NumP numO cw Ob.val
  clear hN
  go_enter Tryz.func36, Tryz.ntmps36
  go_wp2_with fail
  refine HN.out.mono ?_; rintro e w2 ⟨rfl, hb2⟩
  have hz := (HBX.out.below hb2).b0
  have HZ := Lib.hid hz
  have HB2 := Lib.hid (bthen H3.out hb2)
  have zf := blk_free hz
  obtain ⟨z0, z1, z2, z3, z4, z5, z6, z7⟩ := cellsOb hz
  have hlt : w.heap.size + 1 + 1 < w2.heap.size := (Array.getElem?_eq_some_iff.1 hz).1
  clear hz hb2
  go_wp2_with fail
  have hp := put8 HZ.out (.int .i64 1) (.bool false) (.int .i64 0) (.int .i64 v) (.string ⟨#[]⟩) (.int .i64 0) (.int .i64 0) (.int .i64 0)
  exact bodyPost_ret (results_ob2 Tryz.results36 _ _ (w.heap.size + 1 + 1) rfl rfl (((below1 _ _).block _ (by rw [hp.size]; exact hlt)).trans hp.blk)) rfl ⟨rfl, bthen (below_put8 HB2.out (by omega) hp) (below1 _ _)⟩
set_option maxRecDepth 100000 in
set_option maxHeartbeats 1000000 in
theorem asReal_of {s : Nat} {o : Ob} {v : Int} {w : World} (hN : ∀ w2, Below w.heap.size w w2 → Calls Tryz.prog 52 #[cw s, o.val] w2 (NumP (numO 2 v) w2)) :
    Calls Tryz.prog 37 #[cw s, o.val] w (NumP (numO 2 v) w) := by
  have HBX := Lib.hid (bx3 (O := fun _ => False) w (cwC s) (obC o) (obC nul) (fun _ h => h.elim))
  have H3 : Hid (Below w.heap.size w (((w.alloc (cwC s)).alloc (obC o)).alloc (obC nul))) := Lib.hid (bthen (below2 w _ _) (below1 _ _))
  have HN := Lib.hid (hN _ H3.out)
  unfold cwC obC nul at H3 HBX HN
  unfold NumP numO Ob.val at HN
  unfold cw at HN
  unfold NumP numO cw Ob.val
  clear hN
  go_enter Tryz.func37, Tryz.ntmps37
  go_wp2_with fail
  refine HN.out.mono ?_; rintro e w2 ⟨rfl, hb2⟩
  have hz := (HBX.out.below hb2).b0
  have HZ := Lib.hid hz
  have HB2 := Lib.hid (bthen H3.out hb2)
  have zf := blk_free hz
  obtain ⟨z0, z1, z2, z3, z4, z5, z6, z7⟩ := cellsOb hz
  have hlt : w.heap.size + 1 + 1 < w2.heap.size := (Array.getElem?_eq_some_iff.1 hz).1
  clear hz hb2
  go_wp2_with fail
  have hp := put8 HZ.out (.int .i64 2) (.bool false) (.int .i64 0) (.int .i64 v) (.string ⟨#[]⟩) (.int .i64 0) (.int .i64 0) (.int .i64 0)
  exact bodyPost_ret (results_ob2 Tryz.results37 _ _ (w.heap.size + 1 + 1) rfl rfl (((below1 _ _).block _ (by rw [hp.size]; exact hlt)).trans hp.blk)) rfl ⟨rfl, bthen (below_put8 HB2.out (by omega) hp) (below1 _ _)⟩
end Cv
end Go.Proofs.YtfilbfenpdaahaaGreatDoor
