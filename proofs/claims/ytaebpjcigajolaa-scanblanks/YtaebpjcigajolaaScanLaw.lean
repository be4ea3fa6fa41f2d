/-
  What the laws of programs as tokens share: bytes as strings and back, whether the program answers at all; strings within whose brackets brackets stand.
-/
import Derived.Test.YtaebpjcigajolaaScanDoor
import Derived.Laws.Concat
import Derived.Lib.SlBytesConst
namespace Go.Proofs.Ytaebpjcigajolaa
open Go.RowKit
open Sc
theorem data_appS (a b : ByteArray) : (a ++ b).data.toList = a.data.toList ++ b.data.toList := by
  rw [ByteArray.data_append, Array.toList_append]
theorem mk_listS (b : ByteArray) (l : List UInt8) (h : b.data.toList = l) : b = ⟨l.toArray⟩ := by subst h; rfl
theorem size_mkS (l : List UInt8) : (⟨l.toArray⟩ : ByteArray).size = l.length := by show l.toArray.size = _; simp
theorem bytes_madeS (W : World) (l : List UInt8) : ∃ (cap : Nat) (W2 : World), (convert 9 22 (.string ⟨l.toArray⟩)).run Try.prog W = .ok (.slice (some ⟨W.heap.size, 0, none⟩) l.length cap) W2 ∧
    Below W.heap.size W W2 ∧ W2.heap.size = W.heap.size + 1 ∧ l.length ≤ cap ∧ ∀ N, W.heap.size < N → RdB W2 N (some ⟨W.heap.size, 0, none⟩) l := by
  have hr := run_bytes_of_string W 9 22 5 ⟨l.toArray⟩ Try.underlying9 Try.underlying22 Try.underlying5
  rw [size_mkS] at hr
  refine ⟨_, _, hr, ?_, by simp, ?_, ?_⟩
  · exact (Below.refl _ W).drew.alloc (Nat.le_refl _) _
  · exact grownCap_ge W l.length 0 5
  · intro N hN i c hc
    have hj : i < (⟨l.toArray⟩ : ByteArray).data.size := by
      obtain ⟨h1, _⟩ := List.getElem?_eq_some_iff.1 hc
      simpa using h1
    refine ⟨W.heap.size, 0, rfl, hN, ?_⟩
    have hs : W.drew.heap.size = W.heap.size := rfl
    rw [Nat.zero_add, ← hs, World.cell?_alloc_mark, bytesRow_at _ _ i hj]
    have : (⟨l.toArray⟩ : ByteArray).data[i] = c := by
      obtain ⟨h1, h2⟩ := List.getElem?_eq_some_iff.1 hc
      simpa using h2
    simp [this]
theorem ans_nxt (tk : List UInt8 → Int × Int × Bool × Int) : nxt tk [40, 97, 41, 32, 98] = .tok 6 0 [97] [32, 98] := by
  have h1 : rnd 1 [97, 41, 32, 98] = some ([97], [32, 98]) := by
    rw [rnd_go (d' := 1) (p := [97]) (r := [41, 32, 98]) rfl, rnd_done (r := [32, 98]) rfl]; rfl
  have h2 : skp false [40, 97, 41, 32, 98] = [40, 97, 41, 32, 98] := rfl
  unfold nxt
  rw [h2, beg, if_neg (by decide), if_pos rfl, h1]; rfl
theorem rd_row (W : World) (l : List UInt8) (N : Nat) (f : Nat × Nat) (hN : W.heap.size < N) : RdB (W.alloc (.cells (l.map bv).toArray 5 f)) N (some ⟨W.heap.size, 0, none⟩) l := by
  intro i c hc
  refine ⟨W.heap.size, 0, rfl, hN, ?_⟩
  have hh := heap_alloc_new W (.cells (l.map bv).toArray 5 f)
  rw [cell_of_row _ W.heap.size (0 + i) _ _ _ hh]
  simp [hc, bv]
def tk0 : List UInt8 → Int × Int × Bool × Int := fun _ => (0, 0, false, 0)
set_option maxRecDepth 100000 in
theorem answers_any (w : World) : Calls Try.prog 9 #[] w fun e w' => e = .returned (.bool true) ∧ Below w.heap.size w w' := by
  have hrd := rd_row w [40, 97, 41, 32, 98] (w.heap.size + 1) (5, 6) (by omega)
  have hn := next_at (w := w.alloc (.cells ([40, 97, 41, 32, 98].map bv).toArray 5 (5, 6))) (cap := 5) (p := 0) (ba := some ⟨w.heap.size, 0, none⟩) (l := [40, 97, 41, 32, 98]) (tk := tk0) (by simpa using hrd) (by simp) (by simp) (by simp) (fun c r h1 h2 => by cases h1; exact absurd h2 (by decide))
  rw [List.drop_zero, ans_nxt] at hn
  have HN := Lib.hid hn
  have HB := Lib.hid ((Below.refl w.heap.size w).alloc (Nat.le_refl _) (.cells ([40, 97, 41, 32, 98].map bv).toArray 5 (5, 6)))
  have hcs := fun (w : World) (C : Array Value) (n c : Nat) => Lib.run_convert_bytes_const (P := Try.prog) w 22 5 C n c Try.underlying22 Try.underlying5
  clear hrd hn
  go_enter Try.func9, Try.ntmps9
  go_wp2_with fail
  refine HN.out.mono ?_; rintro e w1 ⟨rfl, hb⟩
  have HB1 := Lib.hid (HB.out.trans (hb.mono (by simp)))
  clear hb
  unfold nextV tkV
  go_wp2_with fail
  go_ret
  exact ⟨rfl, HB1.out.alloc HB1.out.size _⟩
end Go.Proofs.Ytaebpjcigajolaa
