/-
  All operators, both sides; ArithDoes for any name and any operands (made by genend.py).
-/
import Derived.Test.YtgbpldfcahajeaaDoorAriDofA
import Derived.Test.YtgbpldfcahajeaaDoorAriDofB
import Derived.Test.YtgbpldfcahajeaaDoorAriDofC
import Derived.Test.YtgbpldfcahajeaaDoorAriRfGt
import Derived.Test.YtgbpldfcahajeaaDoorAriRfGe
import Derived.Test.YtgbpldfcahajeaaDoorAriRfLt
import Derived.Test.YtgbpldfcahajeaaDoorAriRfLe
import Derived.Test.YtgbpldfcahajeaaDoorAriRfAdd
import Derived.Test.YtgbpldfcahajeaaDoorAriRfSub
import Derived.Test.YtgbpldfcahajeaaDoorAriRfMul
import Derived.Test.YtgbpldfcahajeaaDoorAriRfDiv
import Derived.Test.YtgbpldfcahajeaaDoorAriRfI
import Derived.Test.YtgbpldfcahajeaaDoorAriRfB
import Derived.Test.YtgbpldfcahajeaaDoorAriRfU1
import Derived.Test.YtgbpldfcahajeaaDoorAriRfU2
import Derived.Test.YtgbpldfcahajeaaDoorAriRfU3
import Derived.Test.YtgbpldfcahajeaaDoorAriRfU4
namespace Go.Proofs.YtgbpldfcahajeaaDoor
open Go.RowKit
open Fx
namespace Ari
structure UnK (nm : ByteArray) (R : Ob → Out) : Prop where
  kn : OpsN nm 1
  d1 : ∀ (a : Ob) (W : World), SinT W → Calls Tryd.prog 16 #[.string nm, a.val] W fun e w' => e = .returned (R a).val ∧ Below W.heap.size W w'
  d2 : ∀ (a b : Ob) (W : World), Calls Tryd.prog 17 #[.string nm, a.val, b.val] W fun e w' => e = .returned (noO 21).val ∧ Below W.heap.size W w'
  rf : ∀ (a : Ob) (B c : Nat) (W : World), At10 W B 0 a → Calls Tryd.prog 12 #[.string nm, .slice (some ⟨B, 0, none⟩) 1 c] W fun e w' => RefO W (R a) e w'
structure BiK (nm : ByteArray) (R : Ob → Ob → Out) : Prop where
  kn : OpsN nm 2
  d1 : ∀ (a : Ob) (W : World), Calls Tryd.prog 16 #[.string nm, a.val] W fun e w' => e = .returned (noO 21).val ∧ Below W.heap.size W w'
  d2 : ∀ (a b : Ob) (W : World), Calls Tryd.prog 17 #[.string nm, a.val, b.val] W fun e w' => e = .returned (R a b).val ∧ Below W.heap.size W w'
  rf : ∀ (a b : Ob) (B c : Nat) (W : World), At10 W B 0 a → At10 W B 10 b → Calls Tryd.prog 12 #[.string nm, .slice (some ⟨B, 0, none⟩) 2 c] W fun e w' => RefO W (R a b) e w'
structure NoK (nm : ByteArray) : Prop where
  kn : OpsN nm 0
  d1 : ∀ (a : Ob) (W : World), Calls Tryd.prog 16 #[.string nm, a.val] W fun e w' => e = .returned (noO 21).val ∧ Below W.heap.size W w'
  d2 : ∀ (a b : Ob) (W : World), Calls Tryd.prog 17 #[.string nm, a.val, b.val] W fun e w' => e = .returned (noO 21).val ∧ Below W.heap.size W w'
theorem neq_list {nm : ByteArray} {l : List UInt8} (h : nm ≠ ⟨l.toArray⟩) : (nm.toList == l) = false := by
  cases hb : (nm.toList == l)
  · rfl
  · exfalso
    apply h
    have e : nm.data.toList = l := by rw [← ByteArray.toList_eq]; simpa using hb
    subst e
    simp
theorem unk_neg : UnK ⟨#[110, 101, 103]⟩ negO := ⟨kn_neg, fun a W _ => one_neg a W, fun a b W => two_none _ (by rw [ByteArray.toList_eq]; decide) a b W, fun a B c W h => ref_neg h⟩
theorem unk_abs : UnK ⟨#[97, 98, 115]⟩ absO := ⟨kn_abs, fun a W _ => one_abs a W, fun a b W => two_none _ (by rw [ByteArray.toList_eq]; decide) a b W, fun a B c W h => ref_abs h⟩
theorem unk_ceiling : UnK ⟨#[99, 101, 105, 108, 105, 110, 103]⟩ (wholeO ceilV ceilE) := ⟨kn_ceiling, fun a W _ => one_ceiling a W, fun a b W => two_none _ (by rw [ByteArray.toList_eq]; decide) a b W, fun a B c W h => ref_ceiling h⟩
theorem unk_floor : UnK ⟨#[102, 108, 111, 111, 114]⟩ (wholeO floV (fun _ => 0)) := ⟨kn_floor, fun a W _ => one_floor a W, fun a b W => two_none _ (by rw [ByteArray.toList_eq]; decide) a b W, fun a B c W h => ref_floor h⟩
theorem unk_round : UnK ⟨#[114, 111, 117, 110, 100]⟩ (wholeO rouV rouE) := ⟨kn_round, fun a W _ => one_round a W, fun a b W => two_none _ (by rw [ByteArray.toList_eq]; decide) a b W, fun a B c W h => ref_round h⟩
theorem unk_truncate : UnK ⟨#[116, 114, 117, 110, 99, 97, 116, 101]⟩ (wholeO truV (fun _ => 0)) := ⟨kn_truncate, fun a W _ => one_truncate a W, fun a b W => two_none _ (by rw [ByteArray.toList_eq]; decide) a b W, fun a B c W h => ref_truncate h⟩
theorem unk_sqrt : UnK ⟨#[115, 113, 114, 116]⟩ (realO sqV sqE) := ⟨kn_sqrt, fun a W _ => one_sqrt a W, fun a b W => two_none _ (by rw [ByteArray.toList_eq]; decide) a b W, fun a B c W h => ref_sqrt h⟩
theorem unk_sin : UnK ⟨#[115, 105, 110]⟩ (realO sinV (fun _ => 0)) := ⟨kn_sin, fun a W hT => one_sin a W hT, fun a b W => two_none _ (by rw [ByteArray.toList_eq]; decide) a b W, fun a B c W h => ref_sin h⟩
theorem unk_cos : UnK ⟨#[99, 111, 115]⟩ (realO cosV (fun _ => 0)) := ⟨kn_cos, fun a W hT => one_cos a W hT, fun a b W => two_none _ (by rw [ByteArray.toList_eq]; decide) a b W, fun a B c W h => ref_cos h⟩
theorem unk_not : UnK ⟨#[110, 111, 116]⟩ notO := ⟨kn_not, fun a W _ => one_not a W, fun a b W => two_none _ (by rw [ByteArray.toList_eq]; decide) a b W, fun a B c W h => ref_not h⟩
theorem bik_add : BiK ⟨#[97, 100, 100]⟩ (numO (fun x y => x + y) addV addE) := ⟨kn_add, fun a W => one_none _ (by rw [ByteArray.toList_eq]; decide) a W, fun a b W => two_add a b W, fun a b B c W h h2 => ref_add h h2⟩
theorem bik_sub : BiK ⟨#[115, 117, 98]⟩ (numO (fun x y => x - y) subV subE) := ⟨kn_sub, fun a W => one_none _ (by rw [ByteArray.toList_eq]; decide) a W, fun a b W => two_sub a b W, fun a b B c W h h2 => ref_sub h h2⟩
theorem bik_mul : BiK ⟨#[109, 117, 108]⟩ (numO (fun x y => x * y) mulV mulE) := ⟨kn_mul, fun a W => one_none _ (by rw [ByteArray.toList_eq]; decide) a W, fun a b W => two_mul a b W, fun a b B c W h h2 => ref_mul h h2⟩
theorem bik_div : BiK ⟨#[100, 105, 118]⟩ (realsO divV divE) := ⟨kn_div, fun a W => one_none _ (by rw [ByteArray.toList_eq]; decide) a W, fun a b W => two_div a b W, fun a b B c W h h2 => ref_div h h2⟩
theorem bik_idiv : BiK ⟨#[105, 100, 105, 118]⟩ (intsO quoV quoE) := ⟨kn_idiv, fun a W => one_none _ (by rw [ByteArray.toList_eq]; decide) a W, fun a b W => two_idiv a b W, fun a b B c W h h2 => ref_idiv h h2⟩
theorem bik_mod : BiK ⟨#[109, 111, 100]⟩ (intsO remV remE) := ⟨kn_mod, fun a W => one_none _ (by rw [ByteArray.toList_eq]; decide) a W, fun a b W => two_mod a b W, fun a b B c W h h2 => ref_mod h h2⟩
theorem bik_and : BiK ⟨#[97, 110, 100]⟩ (bitO (fun x y => bits .and .i64 x y)) := ⟨kn_and, fun a W => one_none _ (by rw [ByteArray.toList_eq]; decide) a W, fun a b W => two_and a b W, fun a b B c W h h2 => ref_and h h2⟩
theorem bik_or : BiK ⟨#[111, 114]⟩ (bitO (fun x y => bits .or .i64 x y)) := ⟨kn_or, fun a W => one_none _ (by rw [ByteArray.toList_eq]; decide) a W, fun a b W => two_or a b W, fun a b B c W h h2 => ref_or h h2⟩
theorem bik_xor : BiK ⟨#[120, 111, 114]⟩ (bitO (fun x y => bits .xor .i64 x y)) := ⟨kn_xor, fun a W => one_none _ (by rw [ByteArray.toList_eq]; decide) a W, fun a b W => two_xor a b W, fun a b B c W h h2 => ref_xor h h2⟩
theorem bik_bitshift : BiK ⟨#[98, 105, 116, 115, 104, 105, 102, 116]⟩ (intsO shiV (fun _ _ => 0)) := ⟨kn_bitshift, fun a W => one_none _ (by rw [ByteArray.toList_eq]; decide) a W, fun a b W => two_bitshift a b W, fun a b B c W h h2 => ref_bitshift h h2⟩
theorem bik_gt : BiK ⟨#[103, 116]⟩ (cmpO (fun x y => decide (y < x))) := ⟨kn_gt, fun a W => one_none _ (by rw [ByteArray.toList_eq]; decide) a W, fun a b W => two_gt a b W, fun a b B c W h h2 => ref_gt h h2⟩
theorem bik_ge : BiK ⟨#[103, 101]⟩ (cmpO (fun x y => decide (y ≤ x))) := ⟨kn_ge, fun a W => one_none _ (by rw [ByteArray.toList_eq]; decide) a W, fun a b W => two_ge a b W, fun a b B c W h h2 => ref_ge h h2⟩
theorem bik_lt : BiK ⟨#[108, 116]⟩ (cmpO (fun x y => decide (x < y))) := ⟨kn_lt, fun a W => one_none _ (by rw [ByteArray.toList_eq]; decide) a W, fun a b W => two_lt a b W, fun a b B c W h h2 => ref_lt h h2⟩
theorem bik_le : BiK ⟨#[108, 101]⟩ (cmpO (fun x y => decide (x ≤ y))) := ⟨kn_le, fun a W => one_none _ (by rw [ByteArray.toList_eq]; decide) a W, fun a b W => two_le a b W, fun a b B c W h h2 => ref_le h h2⟩
theorem ops_all (nm : ByteArray) : (∃ R, UnK nm R) ∨ (∃ R, BiK nm R) ∨ NoK nm := by
  by_cases h0 : nm = ⟨#[110, 101, 103]⟩
  · subst h0; exact .inl ⟨_, unk_neg⟩
  by_cases h1 : nm = ⟨#[97, 98, 115]⟩
  · subst h1; exact .inl ⟨_, unk_abs⟩
  by_cases h2 : nm = ⟨#[99, 101, 105, 108, 105, 110, 103]⟩
  · subst h2; exact .inl ⟨_, unk_ceiling⟩
  by_cases h3 : nm = ⟨#[102, 108, 111, 111, 114]⟩
  · subst h3; exact .inl ⟨_, unk_floor⟩
  by_cases h4 : nm = ⟨#[114, 111, 117, 110, 100]⟩
  · subst h4; exact .inl ⟨_, unk_round⟩
  by_cases h5 : nm = ⟨#[116, 114, 117, 110, 99, 97, 116, 101]⟩
  · subst h5; exact .inl ⟨_, unk_truncate⟩
  by_cases h6 : nm = ⟨#[115, 113, 114, 116]⟩
  · subst h6; exact .inl ⟨_, unk_sqrt⟩
  by_cases h7 : nm = ⟨#[115, 105, 110]⟩
  · subst h7; exact .inl ⟨_, unk_sin⟩
  by_cases h8 : nm = ⟨#[99, 111, 115]⟩
  · subst h8; exact .inl ⟨_, unk_cos⟩
  by_cases h9 : nm = ⟨#[110, 111, 116]⟩
  · subst h9; exact .inl ⟨_, unk_not⟩
  by_cases h10 : nm = ⟨#[97, 100, 100]⟩
  · subst h10; exact .inr (.inl ⟨_, bik_add⟩)
  by_cases h11 : nm = ⟨#[115, 117, 98]⟩
  · subst h11; exact .inr (.inl ⟨_, bik_sub⟩)
  by_cases h12 : nm = ⟨#[109, 117, 108]⟩
  · subst h12; exact .inr (.inl ⟨_, bik_mul⟩)
  by_cases h13 : nm = ⟨#[100, 105, 118]⟩
  · subst h13; exact .inr (.inl ⟨_, bik_div⟩)
  by_cases h14 : nm = ⟨#[105, 100, 105, 118]⟩
  · subst h14; exact .inr (.inl ⟨_, bik_idiv⟩)
  by_cases h15 : nm = ⟨#[109, 111, 100]⟩
  · subst h15; exact .inr (.inl ⟨_, bik_mod⟩)
  by_cases h16 : nm = ⟨#[97, 110, 100]⟩
  · subst h16; exact .inr (.inl ⟨_, bik_and⟩)
  by_cases h17 : nm = ⟨#[111, 114]⟩
  · subst h17; exact .inr (.inl ⟨_, bik_or⟩)
  by_cases h18 : nm = ⟨#[120, 111, 114]⟩
  · subst h18; exact .inr (.inl ⟨_, bik_xor⟩)
  by_cases h19 : nm = ⟨#[98, 105, 116, 115, 104, 105, 102, 116]⟩
  · subst h19; exact .inr (.inl ⟨_, bik_bitshift⟩)
  by_cases h20 : nm = ⟨#[103, 116]⟩
  · subst h20; exact .inr (.inl ⟨_, bik_gt⟩)
  by_cases h21 : nm = ⟨#[103, 101]⟩
  · subst h21; exact .inr (.inl ⟨_, bik_ge⟩)
  by_cases h22 : nm = ⟨#[108, 116]⟩
  · subst h22; exact .inr (.inl ⟨_, bik_lt⟩)
  by_cases h23 : nm = ⟨#[108, 101]⟩
  · subst h23; exact .inr (.inl ⟨_, bik_le⟩)
  have g1 : ∀ l ∈ names1, (nm.toList == l) = false := by
    unfold names1
    simp only [List.mem_cons, List.not_mem_nil, or_false, forall_eq_or_imp, forall_eq]
    exact ⟨neq_list h0, neq_list h1, neq_list h2, neq_list h3, neq_list h4, neq_list h5, neq_list h6, neq_list h7, neq_list h8, neq_list h9⟩
  have g2 : ∀ l ∈ names2, (nm.toList == l) = false := by
    unfold names2
    simp only [List.mem_cons, List.not_mem_nil, or_false, forall_eq_or_imp, forall_eq]
    exact ⟨neq_list h10, neq_list h11, neq_list h12, neq_list h13, neq_list h14, neq_list h15, neq_list h16, neq_list h17, neq_list h18, neq_list h19, neq_list h20, neq_list h21, neq_list h22, neq_list h23⟩
  exact .inr (.inr ⟨kn_none nm g1 g2, fun a W => one_none nm g1 a W, fun a b W => two_none nm g2 a b W⟩)
theorem slo_nil {W : World} {v : Value} (h : SLO W v []) : ∃ a c, v = .slice a 0 c := by
  rcases h with ⟨rfl, _⟩ | ⟨g, cap, cur, rfl, _⟩
  · exact ⟨_, _, rfl⟩
  · exact ⟨_, _, rfl⟩
theorem slo_len {W : World} {v : Value} {l : List Ob} (h : SLO W v l) : ∃ a c, v = .slice a l.length c := by
  rcases h with ⟨rfl, rfl⟩ | ⟨g, cap, cur, rfl, _⟩
  · exact ⟨_, _, rfl⟩
  · exact ⟨_, _, rfl⟩
theorem slo_one {W : World} {v : Value} {a : Ob} (h : SLO W v [a]) : ∃ g c, v = .slice (some ⟨g, 0, none⟩) 1 c ∧ At8 W g 0 a := by
  rcases h with ⟨rfl, e⟩ | ⟨g, cap, cur, rfl, h2⟩
  · cases e
  · have hc := SLO.cellAt (l := [a]) (n := 1) (.inr ⟨g, cap, cur, rfl, h2⟩)
    exact ⟨g, cap, rfl, ⟨hc 0 (by simp), hc 1 (by simp), hc 2 (by simp), hc 3 (by simp), hc 4 (by simp), hc 5 (by simp), hc 6 (by simp), hc 7 (by simp)⟩⟩
theorem slo_two {W : World} {v : Value} {a b : Ob} (h : SLO W v [a, b]) : ∃ g c, v = .slice (some ⟨g, 0, none⟩) 2 c ∧ At8 W g 0 a ∧ At8 W g 8 b := by
  rcases h with ⟨rfl, e⟩ | ⟨g, cap, cur, rfl, h2⟩
  · cases e
  · have hc := SLO.cellAt (l := [a, b]) (n := 2) (.inr ⟨g, cap, cur, rfl, h2⟩)
    exact ⟨g, cap, rfl, ⟨hc 0 (by simp), hc 1 (by simp), hc 2 (by simp), hc 3 (by simp), hc 4 (by simp), hc 5 (by simp), hc 6 (by simp), hc 7 (by simp)⟩, ⟨hc 8 (by simp), hc 9 (by simp), hc 10 (by simp), hc 11 (by simp), hc 12 (by simp), hc 13 (by simp), hc 14 (by simp), hc 15 (by simp)⟩⟩
theorem slv_one {W : World} {v : Value} {a : Ob} (h : SLV W v [a]) : ∃ g c, v = .slice (some ⟨g, 0, none⟩) 1 c ∧ At10 W g 0 a := by
  rcases h with ⟨rfl, e⟩ | ⟨g, cap, cur, rfl, h2⟩
  · cases e
  · have hc := SLV.cellAt (l := [a]) (n := 1) (.inr ⟨g, cap, cur, rfl, h2⟩)
    exact ⟨g, cap, rfl, ⟨hc 0 (by simp), hc 1 (by simp), hc 2 (by simp), hc 3 (by simp), hc 4 (by simp), hc 5 (by simp), hc 6 (by simp), hc 7 (by simp), hc 8 (by simp), hc 9 (by simp)⟩⟩
theorem slv_two {W : World} {v : Value} {a b : Ob} (h : SLV W v [a, b]) : ∃ g c, v = .slice (some ⟨g, 0, none⟩) 2 c ∧ At10 W g 0 a ∧ At10 W g 10 b := by
  rcases h with ⟨rfl, e⟩ | ⟨g, cap, cur, rfl, h2⟩
  · cases e
  · have hc := SLV.cellAt (l := [a, b]) (n := 2) (.inr ⟨g, cap, cur, rfl, h2⟩)
    exact ⟨g, cap, rfl, ⟨hc 0 (by simp), hc 1 (by simp), hc 2 (by simp), hc 3 (by simp), hc 4 (by simp), hc 5 (by simp), hc 6 (by simp), hc 7 (by simp), hc 8 (by simp), hc 9 (by simp)⟩, ⟨hc 10 (by simp), hc 11 (by simp), hc 12 (by simp), hc 13 (by simp), hc 14 (by simp), hc 15 (by simp), hc 16 (by simp), hc 17 (by simp), hc 18 (by simp), hc 19 (by simp)⟩⟩
def DoQ (nm : ByteArray) (l : List Ob) (r : Out) : Prop := ∀ W v, SLO W v l → SinT W → Calls Tryd.prog 10 #[.string nm, v] W fun e w' => DoP W r e w'
theorem doq_nil (nm : ByteArray) : DoQ nm [] (noO 21) := fun W v h _ => by
  obtain ⟨a, c, rfl⟩ := slo_nil h
  exact do_many (.inl rfl) W
theorem doq_many (nm : ByteArray) {l : List Ob} (hl : 3 ≤ l.length) : DoQ nm l (noO 21) := fun W v h _ => by
  obtain ⟨a, c, rfl⟩ := slo_len h
  exact do_many (.inr hl) W
theorem doq_one {nm : ByteArray} {a : Ob} {r : Out} (hd : ∀ W, SinT W → Calls Tryd.prog 16 #[.string nm, a.val] W fun e w' => e = .returned r.val ∧ Below W.heap.size W w') : DoQ nm [a] r := fun W v h hT => by
  obtain ⟨g, c, rfl, h8⟩ := slo_one h
  exact do_oneC hT hd h8
theorem doq_two {nm : ByteArray} {a b : Ob} {r : Out} (hd : ∀ W, Calls Tryd.prog 17 #[.string nm, a.val, b.val] W fun e w' => e = .returned r.val ∧ Below W.heap.size W w') : DoQ nm [a, b] r := fun W v h _ => by
  obtain ⟨g, c, rfl, h8, h9⟩ := slo_two h
  exact do_twoC hd h8 h9
theorem src_some {w : World} {a : Option Addr} {x : Ob} {l : List Ob} (h : SrcO w a (x :: l)) : ∃ ad, a = some ad := by
  rcases h with h | ⟨ad, e, _⟩
  · cases h
  · exact ⟨ad, e⟩
theorem does_walk (nm : ByteArray) (a : Option Addr) (l : List Ob) (cap : Nat) (w : World) (hs : SrcO w a l) (hn : a = none → cap = 0) (hT : SinT w) : Calls Tryd.prog 3 #[.string nm, .slice a l.length cap] w fun e w' => e = .returned (.bool true) ∧ Below w.heap.size w w' := by
  by_cases hfar : 1000 < nm.size ∨ 100 < l.length
  · rcases ops_all nm with ⟨R, h⟩ | ⟨R, h⟩ | h
    · exact does_far nm 1 h.kn a _ cap w hfar (by simp)
    · exact does_far nm 2 h.kn a _ cap w hfar (by simp)
    · exact does_far nm 0 h.kn a _ cap w hfar (by simp)
  have s1 : nm.size ≤ 1000 := by omega
  have s2 : l.length ≤ 100 := by omega
  match l, hs, s2 with
  | [], hs, _ =>
    rcases ops_all nm with ⟨R, h⟩ | ⟨R, h⟩ | h
    · exact does_nil1 nm h.kn a cap w s1 hn (doq_nil nm) hT
    · exact does_nil2 nm h.kn a cap w s1 hn (doq_nil nm) hT
    · exact does_nil0 nm h.kn a cap w s1 hn (doq_nil nm) hT
  | [x], hs, s2 =>
    obtain ⟨ad, rfl⟩ := src_some hs
    rcases ops_all nm with ⟨R, h⟩ | ⟨R, h⟩ | h
    · have hA : ∀ W v, SLV W v [x] → Calls Tryd.prog 12 #[.string nm, v] W fun e w' => RefO W (R x) e w' := fun W v hv => by
        obtain ⟨g, c, rfl, h10⟩ := slv_one hv
        exact h.rf x g c W h10
      by_cases hz : (R x).e = 0
      · exact full1ok nm h.kn ad x cap (R x) w s1 hs (doq_one (fun W hW => h.d1 x W hW)) hA hT hz
      · exact full1er nm h.kn ad x cap (R x) w s1 hs (doq_one (fun W hW => h.d1 x W hW)) hA hT hz
    · exact does_err2 nm h.kn ad [x] 1 cap rfl (by omega) (by omega) w s1 (by omega) hs (doq_one (fun W _ => h.d1 x W)) hT
    · exact does_err0 nm h.kn ad [x] 1 cap rfl (by omega) (by omega) w s1 (by omega) hs (doq_one (fun W _ => h.d1 x W)) hT
  | [x, y], hs, s2 =>
    obtain ⟨ad, rfl⟩ := src_some hs
    rcases ops_all nm with ⟨R, h⟩ | ⟨R, h⟩ | h
    · exact does_err1 nm h.kn ad [x, y] 2 cap rfl (by omega) (by omega) w s1 (by omega) hs (doq_two (fun W => h.d2 x y W)) hT
    · have hA : ∀ W v, SLV W v [x, y] → Calls Tryd.prog 12 #[.string nm, v] W fun e w' => RefO W (R x y) e w' := fun W v hv => by
        obtain ⟨g, c, rfl, h10, h11⟩ := slv_two hv
        exact h.rf x y g c W h10 h11
      by_cases hz : (R x y).e = 0
      · exact full2ok nm h.kn ad x y cap (R x y) w s1 hs (doq_two (fun W => h.d2 x y W)) hA hT hz
      · exact full2er nm h.kn ad x y cap (R x y) w s1 hs (doq_two (fun W => h.d2 x y W)) hA hT hz
    · exact does_err0 nm h.kn ad [x, y] 2 cap rfl (by omega) (by omega) w s1 (by omega) hs (doq_two (fun W => h.d2 x y W)) hT
  | x :: y :: z :: t, hs, s2 =>
    obtain ⟨ad, rfl⟩ := src_some hs
    have h3 : 3 ≤ (x :: y :: z :: t).length := by simp
    generalize x :: y :: z :: t = L at *
    rcases ops_all nm with ⟨R, h⟩ | ⟨R, h⟩ | h
    · exact does_err1 nm h.kn ad L _ cap rfl (by omega) (by omega) w s1 s2 hs (doq_many nm h3) hT
    · exact does_err2 nm h.kn ad L _ cap rfl (by omega) (by omega) w s1 s2 hs (doq_many nm h3) hT
    · exact does_err0 nm h.kn ad L _ cap rfl (by omega) (by omega) w s1 s2 hs (doq_many nm h3) hT
end Ari
end Go.Proofs.YtgbpldfcahajeaaDoor
