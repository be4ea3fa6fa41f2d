/-
  A thing that is made in both, of any kind: law10.build, by a contract.
-/
import Derived.Test.YtfilbfenpdaahaaGreatDoorCnvBld0
import Derived.Test.YtfilbfenpdaahaaGreatDoorCnvBld8
import Derived.Test.YtfilbfenpdaahaaGreatDoorCnvBldN
namespace Go.Proofs.YtfilbfenpdaahaaGreatDoor
open Go.RowKit
open St
open Col
open Mm
namespace Cn
theorem build_at {O : Nat → Prop} {w : World} {s M : Nat} (h : Rep O w s 500 []) (hM : w.heap[M]? = some (memC 500 0 (.slice none 0 0) (.slice none 0 0) (.slice none 0 0) 0)) (hMO : ¬ O M) (t : Tg) :
    Calls Tryz.prog 13 #[.pointer (some ⟨s, 0, none⟩), .pointer (some ⟨M, 0, none⟩), t.val] w (Bld O w s M t) := by
  cases hb : t.bad with
  | true => exact build_bad h hM hMO t hb
  | false =>
    by_cases h6 : t.kind = 6
    · exact build_6 h hM hMO t hb h6
    by_cases h7 : t.kind = 7
    · by_cases h0 : t.n < 0
      · exact build_n7a h hM hMO t hb h7 h0
      by_cases h20 : 20 < t.n
      · exact build_n7b h hM hMO t hb h7 h20
      exact build_7 h hM hMO t hb h7 (by omega) (by omega)
    by_cases h8 : t.kind = 8
    · by_cases h0 : t.n < 0
      · exact build_n8a h hM hMO t hb h8 h0
      by_cases h20 : 20 < t.n
      · exact build_n8b h hM hMO t hb h8 h20
      exact build_8 h hM hMO t hb h8 (by omega) (by omega)
    exact build_0 h hM hMO t hb h6 h7 h8
end Cn
end Go.Proofs.YtfilbfenpdaahaaGreatDoor
