/-
  The law's text of any object, by a contract: render.
-/
import Derived.Test.YtlflkdmbbomjeaaStoRendD
namespace Go.Proofs.Ytlflkdmbbomjeaa
open Go.RowKit
open St
theorem render_at {O : Nat → Prop} {s : Nat} {fr : Int} {G : List (Th × Lay)} (hG : Gd G) : ∀ (d : Nat), d ≤ 3 → ∀ (o : Ob) (w : World), Good o → Rep O w s fr G →
    Calls Try.prog 32 #[.pointer (some ⟨s, 0, none⟩), o.val, .int .i64 d] w fun e w' => e = .returned (.string (rend G d o)) ∧ Below w.heap.size w w' := by
  intro d
  induction d with
  | zero =>
    intro hd o w ho h
    by_cases h6 : o.kind = 6
    · exact render_str h hG o ho h6
    · by_cases h7 : o.kind = 7
      · exact render_arr h hG o ho h7 hd (fun m e => by omega)
      · by_cases h8 : o.kind = 8
        · exact render_dic h hG o ho h8 hd (fun m e => by omega)
        · exact render_plain o ho h6 h7 h8
  | succ d ih =>
    intro hd o w ho h
    have hih : ∀ m, d + 1 = m + 1 → ∀ (x : Ob) (w : World), Good x → Rep O w s fr G → Calls Try.prog 32 #[.pointer (some ⟨s, 0, none⟩), x.val, .int .i64 m] w fun e w' => e = .returned (.string (rend G m x)) ∧ Below w.heap.size w w' := fun m e x w hx hr => by
      obtain rfl : d = m := by omega
      exact ih (by omega) x w hx hr
    by_cases h6 : o.kind = 6
    · exact render_str h hG o ho h6
    · by_cases h7 : o.kind = 7
      · exact render_arr h hG o ho h7 hd hih
      · by_cases h8 : o.kind = 8
        · exact render_dic h hG o ho h8 hd hih
        · exact render_plain o ho h6 h7 h8
end Go.Proofs.Ytlflkdmbbomjeaa
