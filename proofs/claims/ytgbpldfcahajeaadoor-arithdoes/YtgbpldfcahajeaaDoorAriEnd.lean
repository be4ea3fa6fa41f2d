/-
  All operators, both sides; ArithDoes for any name and any operands (made by genend.py).
-/
import Derived.Test.YtgbpldfcahajeaaDoorAriDofA
import Derived.Test.YtgbpldfcahajeaaDoorAriDofB
import Derived.Test.YtgbpldfcahajeaaDoorAriDofC
import Derived.Test.YtgbpldfcahajeaaDoorAriRfP
import Derived.Test.YtgbpldfcahajeaaDoorAriRfQ
import Derived.Test.YtgbpldfcahajeaaDoorAriRfR
import Derived.Test.YtgbpldfcahajeaaDoorAriRfS
import Derived.Test.YtgbpldfcahajeaaDoorAriRfU
import Derived.ProofKit
import Derived.OpenShut
import Derived.Deep.Slices
import Derived.Deep.Fields
import Derived.ChangeSame
namespace Go.Proofs.YtgbpldfcahajeaaDoor
open Go.RowKit
open Fx
namespace Ari
structure UnK (nm : ByteArray) (R : Ob → Out) : Prop where
  kn : OpsN nm 1
  d1 : ∀ (a : Ob) (W : World), SinT W → Calls Tryd.prog 16 #[.string nm, a.val] W fun e w' => e = .returned (R a).val ∧ Below W.heap.size W w'
  d2 : ∀ (a b : Ob) (W : World), Calls Tryd.prog 17 #[.string nm, a.val, b.val] W fun e w' => e = .returned (noO 21).val ∧ Below W.heap.size W w'
  rf : ∀ (a : Ob) (B c : Nat) (W : World), At10 W B 0 a → Calls Tryd.prog 12 #[.string nm, .slice (some ⟨B, 0, none⟩) 1 c] W fun e w' => RefO W (R a) e w'
structure BiK (nm : ByteArray) (R : Ob → Ob → Out) : Prop where
  kn : OpsN nm 2
  d1 : ∀ (a : Ob) (W : World), Calls Tryd.prog 16 #[.string nm, a.val] W fun e w' => e = .returned (noO 21).val ∧ Below W.heap.size W w'
  d2 : ∀ (a b : Ob) (W : World), Calls Tryd.prog 17 #[.string nm, a.val, b.val] W fun e w' => e = .returned (R a b).val ∧ Below W.heap.size W w'
  rf : ∀ (a b : Ob) (B c : Nat) (W : World), At10 W B 0 a → At10 W B 10 b → Calls Tryd.prog 12 #[.string nm, .slice (some ⟨B, 0, none⟩) 2 c] W fun e w' => RefO W (R a b) e w'
structure NoK (nm : ByteArray) : Prop where
  kn : OpsN nm 0
  d1 : ∀ (a : Ob) (W : World), Calls Tryd.prog 16 #[.string nm, a.val] W fun e w' => e = .returned (noO 21).val ∧ Below W.heap.size W w'
  d2 : ∀ (a b : Ob) (W : World), Calls Tryd.prog 17 #[.string nm, a.val, b.val] W fun e w' => e = .returned (noO 21).val ∧ Below W.heap.size W w'
theorem neq_list {nm : ByteArray} {l : List UInt8} (h : nm ≠ ⟨l.toArray⟩) : (nm.toList == l) = false := by
  cases hb : (nm.toList == l)
  · rfl
  · exfalso
    apply h
    have e : nm.data.toList = l := by rw [← ByteArray.toList_eq]; simpa using hb
    subst e
    simp
theorem unk_neg : UnK ⟨#[110, 101, 103]⟩ negO := ⟨kn_neg, fun a W _ => one_neg a W, fun a b W => two_none _ (by rw [ByteArray.toList_eq]; decide) a b W, fun a B c W h => ref_neg h⟩
theorem unk_abs : UnK ⟨#[97, 98, 115]⟩ absO := ⟨kn_abs, fun a W _ => one_abs a W, fun a b W => two_none _ (by rw [ByteArray.toList_eq]; decide) a b W, fun a B c W h => ref_abs h⟩
theorem unk_ceiling : UnK ⟨#[99, 101, 105, 108, 105, 110, 103]⟩ (wholeO ceilV ceilE) := ⟨kn_ceiling, fun a W _ => one_ceiling a W, fun a b W => two_none _ (by rw [ByteArray.toList_eq]; decide) a b W, fun a B c W h => ref_ceiling h⟩
theorem unk_floor : UnK ⟨#[102, 108, 111, 111, 114]⟩ (wholeO floV (fun _ => 0)) := ⟨kn_floor, fun a W _ => one_floor a W, fun a b W => two_none _ (by rw [ByteArray.toList_eq]; decide) a b W, fun a B c W h => ref_floor h⟩
theorem unk_round : UnK ⟨#[114, 111, 117, 110, 100]⟩ (wholeO rouV rouE) := ⟨kn_round, fun a W _ => one_round a W, fun a b W => two_none _ (by rw [ByteArray.toList_eq]; decide) a b W, fun a B c W h => ref_round h⟩
theorem unk_truncate : UnK ⟨#[116, 114, 117, 110, 99, 97, 116, 101]⟩ (wholeO truV (fun _ => 0)) := ⟨kn_truncate, fun a W _ => one_truncate a W, fun a b W => two_none _ (by rw [ByteArray.toList_eq]; decide) a b W, fun a B c W h => ref_truncate h⟩
theorem unk_sqrt : UnK ⟨#[115, 113, 114, 116]⟩ (realO sqV sqE) := ⟨kn_sqrt, fun a W _ => one_sqrt a W, fun a b W => two_none _ (by rw [ByteArray.toList_eq]; decide) a b W, fun a B c W h => ref_sqrt h⟩
theorem unk_sin : UnK ⟨#[115, 105, 110]⟩ (realO sinV (fun _ => 0)) := ⟨kn_sin, fun a W hT => one_sin a W hT, fun a b W => two_none _ (by rw [ByteArray.toList_eq]; decide) a b W, fun a B c W h => ref_sin h⟩
theorem unk_cos : UnK ⟨#[99, 111, 115]⟩ (realO cosV (fun _ => 0)) := ⟨kn_cos, fun a W hT => one_cos a W hT, fun a b W => two_none _ (by rw [ByteArray.toList_eq]; decide) a b W, fun a B c W h => ref_cos h⟩
theorem unk_not : UnK ⟨#[110, 111, 116]⟩ notO := ⟨kn_not, fun a W _ => one_not a W, fun a b W => two_none _ (by rw [ByteArray.toList_eq]; decide) a b W, fun a B c W h => ref_not h⟩
theorem bik_add : BiK ⟨#[97, 100, 100]⟩ (numO (fun x y => x + y) addV addE) := ⟨kn_add, fun a W => one_none _ (by rw [ByteArray.toList_eq]; decide) a W, fun a b W => two_add a b W, fun a b B c W h h2 => ref_add h h2⟩
theorem bik_sub : BiK ⟨#[115, 117, 98]⟩ (numO (fun x y => x - y) subV subE) := ⟨kn_sub, fun a W => one_none _ (by rw [ByteArray.toList_eq]; decide) a W, fun a b W => two_sub a b W, fun a b B c W h h2 => ref_sub h h2⟩
theorem bik_mul : BiK ⟨#[109, 117, 108]⟩ (numO (fun x y => x * y) mulV mulE) := ⟨kn_mul, fun a W => one_none _ (by rw [ByteArray.toList_eq]; decide) a W, fun a b W => two_mul a b W, fun a b B c W h h2 => ref_mul h h2⟩
theorem bik_div : BiK ⟨#[100, 105, 118]⟩ (realsO divV divE) := ⟨kn_div, fun a W => one_none _ (by rw [ByteArray.toList_eq]; decide) a W, fun a b W => two_div a b W, fun a b B c W h h2 => ref_div h h2⟩
theorem bik_idiv : BiK ⟨#[105, 100, 105, 118]⟩ (intsO quoV quoE) := ⟨kn_idiv, fun a W => one_none _ (by rw [ByteArray.toList_eq]; decide) a W, fun a b W => two_idiv a b W, fun a b B c W h h2 => ref_idiv h h2⟩
theorem bik_mod : BiK ⟨#[109, 111, 100]⟩ (intsO remV remE) := ⟨kn_mod, fun a W => one_none _ (by rw [ByteArray.toList_eq]; decide) a W, fun a b W => two_mod a b W, fun a b B c W h h2 => ref_mod h h2⟩
theorem bik_and : BiK ⟨#[97, 110, 100]⟩ (bitO (fun x y => bits .and .i64 x y)) := ⟨kn_and, fun a W => one_none _ (by rw [ByteArray.toList_eq]; decide) a W, fun a b W => two_and a b W, fun a b B c W h h2 => ref_and h h2⟩
theorem bik_or : BiK ⟨#[111, 114]⟩ (bitO (fun x y => bits .or .i64 x y)) := ⟨kn_or, fun a W => one_none _ (by rw [ByteArray.toList_eq]; decide) a W, fun a b W => two_or a b W, fun a b B c W h h2 => ref_or h h2⟩
theorem bik_xor : BiK ⟨#[120, 111, 114]⟩ (bitO (fun x y => bits .xor .i64 x y)) := ⟨kn_xor, fun a W => one_none _ (by rw [ByteArray.toList_eq]; decide) a W, fun a b W => two_xor a b W, fun a b B c W h h2 => ref_xor h h2⟩
theorem bik_bitshift : BiK ⟨#[98, 105, 116, 115, 104, 105, 102, 116]⟩ (intsO shiV (fun _ _ => 0)) := ⟨kn_bitshift, fun a W => one_none _ (by rw [ByteArray.toList_eq]; decide) a W, fun a b W => two_bitshift a b W, fun a b B c W h h2 => ref_bitshift h h2⟩
theorem bik_gt : BiK ⟨#[103, 116]⟩ (cmpO (fun x y => decide (y < x))) := ⟨kn_gt, fun a W => one_none _ (by rw [ByteArray.toList_eq]; decide) a W, fun a b W => two_gt a b W, fun a b B c W h h2 => ref_gt h h2⟩
theorem bik_ge : BiK ⟨#[103, 101]⟩ (cmpO (fun x y => decide (y ≤ x))) := ⟨kn_ge, fun a W => one_none _ (by rw [ByteArray.toList_eq]; decide) a W, fun a b W => two_ge a b W, fun a b B c W h h2 => ref_ge h h2⟩
theorem bik_lt : BiK ⟨#[108, 116]⟩ (cmpO (fun x y => decide (x < y))) := ⟨kn_lt, fun a W => one_none _ (by rw [ByteArray.toList_eq]; decide) a W, fun a b W => two_lt a b W, fun a b B c W h h2 => ref_lt h h2⟩
theorem bik_le : BiK ⟨#[108, 101]⟩ (cmpO (fun x y => decide (x ≤ y))) := ⟨kn_le, fun a W => one_none _ (by rw [ByteArray.toList_eq]; decide) a W, fun a b W => two_le a b W, fun a b B c W h h2 => ref_le h h2⟩
theorem ops_all (nm : ByteArray) : (∃ R, UnK nm R) ∨ (∃ R, BiK nm R) ∨ NoK nm := by
  by_cases h0 : nm = ⟨#[110, 101, 103]⟩
  · subst h0; exact .inl ⟨_, unk_neg⟩
  by_cases h1 : nm = ⟨#[97, 98, 115]⟩
  · subst h1; exact .inl ⟨_, unk_abs⟩
  by_cases h2 : nm = ⟨#[99, 101, 105, 108, 105, 110, 103]⟩
  · subst h2; exact .inl ⟨_, unk_ceiling⟩
  by_cases h3 : nm = ⟨#[102, 108, 111, 111, 114]⟩
  · subst h3; exact .inl ⟨_, unk_floor⟩
  by_cases h4 : nm = ⟨#[114, 111, 117, 110, 100]⟩
  · subst h4; exact .inl ⟨_, unk_round⟩
  by_cases h5 : nm = ⟨#[116, 114, 117, 110, 99, 97, 116, 101]⟩
  · subst h5; exact .inl ⟨_, unk_truncate⟩
  by_cases h6 : nm = ⟨#[115, 113, 114, 116]⟩
  · subst h6; exact .inl ⟨_, unk_sqrt⟩
  by_cases h7 : nm = ⟨#[115, 105, 110]⟩
  · subst h7; exact .inl ⟨_, unk_sin⟩
  by_cases h8 : nm = ⟨#[99, 111, 115]⟩
  · subst h8; exact .inl ⟨_, unk_cos⟩
  by_cases h9 : nm = ⟨#[110, 111, 116]⟩
  · subst h9; exact .inl ⟨_, unk_not⟩
  by_cases h10 : nm = ⟨#[97, 100, 100]⟩
  · subst h10; exact .inr (.inl ⟨_, bik_add⟩)
  by_cases h11 : nm = ⟨#[115, 117, 98]⟩
  · subst h11; exact .inr (.inl ⟨_, bik_sub⟩)
  by_cases h12 : nm = ⟨#[109, 117, 108]⟩
  · subst h12; exact .inr (.inl ⟨_, bik_mul⟩)
  by_cases h13 : nm = ⟨#[100, 105, 118]⟩
  · subst h13; exact .inr (.inl ⟨_, bik_div⟩)
  by_cases h14 : nm = ⟨#[105, 100, 105, 118]⟩
  · subst h14; exact .inr (.inl ⟨_, bik_idiv⟩)
  by_cases h15 : nm = ⟨#[109, 111, 100]⟩
  · subst h15; exact .inr (.inl ⟨_, bik_mod⟩)
  by_cases h16 : nm = ⟨#[97, 110, 100]⟩
  · subst h16; exact .inr (.inl ⟨_, bik_and⟩)
  by_cases h17 : nm = ⟨#[111, 114]⟩
  · subst h17; exact .inr (.inl ⟨_, bik_or⟩)
  by_cases h18 : nm = ⟨#[120, 111, 114]⟩
  · subst h18; exact .inr (.inl ⟨_, bik_xor⟩)
  by_cases h19 : nm = ⟨#[98, 105, 116, 115, 104, 105, 102, 116]⟩
  · subst h19; exact .inr (.inl ⟨_, bik_bitshift⟩)
  by_cases h20 : nm = ⟨#[103, 116]⟩
  · subst h20; exact .inr (.inl ⟨_, bik_gt⟩)
  by_cases h21 : nm = ⟨#[103, 101]⟩
  · subst h21; exact .inr (.inl ⟨_, bik_ge⟩)
  by_cases h22 : nm = ⟨#[108, 116]⟩
  · subst h22; exact .inr (.inl ⟨_, bik_lt⟩)
  by_cases h23 : nm = ⟨#[108, 101]⟩
  · subst h23; exact .inr (.inl ⟨_, bik_le⟩)
  have g1 : ∀ l ∈ names1, (nm.toList == l) = false := by
    unfold names1
    simp only [List.mem_cons, List.not_mem_nil, or_false, forall_eq_or_imp, forall_eq]
    exact ⟨neq_list h0, neq_list h1, neq_list h2, neq_list h3, neq_list h4, neq_list h5, neq_list h6, neq_list h7, neq_list h8, neq_list h9⟩
  have g2 : ∀ l ∈ names2, (nm.toList == l) = false := by
    unfold names2
    simp only [List.mem_cons, List.not_mem_nil, or_false, forall_eq_or_imp, forall_eq]
    exact ⟨neq_list h10, neq_list h11, neq_list h12, neq_list h13, neq_list h14, neq_list h15, neq_list h16, neq_list h17, neq_list h18, neq_list h19, neq_list h20, neq_list h21, neq_list h22, neq_list h23⟩
  exact .inr (.inr ⟨kn_none nm g1 g2, fun a W => one_none nm g1 a W, fun a b W => two_none nm g2 a b W⟩)
theorem slo_nil {W : World} {v : Value} (h : SLO W v []) : ∃ a c, v = .slice a 0 c := by
  rcases h with ⟨rfl, _⟩ | ⟨g, cap, cur, rfl, _⟩
  · exact ⟨_, _, rfl⟩
  · exact ⟨_, _, rfl⟩
theorem slo_len {W : World} {v : Value} {l : List Ob} (h : SLO W v l) : ∃ a c, v = .slice a l.length c := by
  rcases h with ⟨rfl, rfl⟩ | ⟨g, cap, cur, rfl, _⟩
  · exact ⟨_, _, rfl⟩
  · exact ⟨_, _, rfl⟩
theorem slo_one {W : World} {v : Value} {a : Ob} (h : SLO W v [a]) : ∃ g c, v = .slice (some ⟨g, 0, none⟩) 1 c ∧ At8 W g 0 a := by
  rcases h with ⟨rfl, e⟩ | ⟨g, cap, cur, rfl, h2⟩
  · cases e
  · have hc := SLO.cellAt (l := [a]) (n := 1) (.inr ⟨g, cap, cur, rfl, h2⟩)
    exact ⟨g, cap, rfl, ⟨hc 0 (by simp), hc 1 (by simp), hc 2 (by simp), hc 3 (by simp), hc 4 (by simp), hc 5 (by simp), hc 6 (by simp), hc 7 (by simp)⟩⟩
theorem slo_two {W : World} {v : Value} {a b : Ob} (h : SLO W v [a, b]) : ∃ g c, v = .slice (some ⟨g, 0, none⟩) 2 c ∧ At8 W g 0 a ∧ At8 W g 8 b := by
  rcases h with ⟨rfl, e⟩ | ⟨g, cap, cur, rfl, h2⟩
  · cases e
  · have hc := SLO.cellAt (l := [a, b]) (n := 2) (.inr ⟨g, cap, cur, rfl, h2⟩)
    exact ⟨g, cap, rfl, ⟨hc 0 (by simp), hc 1 (by simp), hc 2 (by simp), hc 3 (by simp), hc 4 (by simp), hc 5 (by simp), hc 6 (by simp), hc 7 (by simp)⟩, ⟨hc 8 (by simp), hc 9 (by simp), hc 10 (by simp), hc 11 (by simp), hc 12 (by simp), hc 13 (by simp), hc 14 (by simp), hc 15 (by simp)⟩⟩
theorem slv_one {W : World} {v : Value} {a : Ob} (h : SLV W v [a]) : ∃ g c, v = .slice (some ⟨g, 0, none⟩) 1 c ∧ At10 W g 0 a := by
  rcases h with ⟨rfl, e⟩ | ⟨g, cap, cur, rfl, h2⟩
  · cases e
  · have hc := SLV.cellAt (l := [a]) (n := 1) (.inr ⟨g, cap, cur, rfl, h2⟩)
    exact ⟨g, cap, rfl, ⟨hc 0 (by simp), hc 1 (by simp), hc 2 (by simp), hc 3 (by simp), hc 4 (by simp), hc 5 (by simp), hc 6 (by simp), hc 7 (by simp), hc 8 (by simp), hc 9 (by simp)⟩⟩
theorem slv_two {W : World} {v : Value} {a b : Ob} (h : SLV W v [a, b]) : ∃ g c, v = .slice (some ⟨g, 0, none⟩) 2 c ∧ At10 W g 0 a ∧ At10 W g 10 b := by
  rcases h with ⟨rfl, e⟩ | ⟨g, cap, cur, rfl, h2⟩
  · cases e
  · have hc := SLV.cellAt (l := [a, b]) (n := 2) (.inr ⟨g, cap, cur, rfl, h2⟩)
    exact ⟨g, cap, rfl, ⟨hc 0 (by simp), hc 1 (by simp), hc 2 (by simp), hc 3 (by simp), hc 4 (by simp), hc 5 (by simp), hc 6 (by simp), hc 7 (by simp), hc 8 (by simp), hc 9 (by simp)⟩, ⟨hc 10 (by simp), hc 11 (by simp), hc 12 (by simp), hc 13 (by simp), hc 14 (by simp), hc 15 (by simp), hc 16 (by simp), hc 17 (by simp), hc 18 (by simp), hc 19 (by simp)⟩⟩
def DoQ (nm : ByteArray) (l : List Ob) (r : Out) : Prop := ∀ W v, SLO W v l → SinT W → Calls Tryd.prog 10 #[.string nm, v] W fun e w' => DoP W r e w'
theorem doq_nil (nm : ByteArray) : DoQ nm [] (noO 21) := fun W v h _ => by
  obtain ⟨a, c, rfl⟩ := slo_nil h
  exact do_many (.inl rfl) W
theorem doq_many (nm : ByteArray) {l : List Ob} (hl : 3 ≤ l.length) : DoQ nm l (noO 21) := fun W v h _ => by
  obtain ⟨a, c, rfl⟩ := slo_len h
  exact do_many (.inr hl) W
theorem doq_one {nm : ByteArray} {a : Ob} {r : Out} (hd : ∀ W, SinT W → Calls Tryd.prog 16 #[.string nm, a.val] W fun e w' => e = .returned r.val ∧ Below W.heap.size W w') : DoQ nm [a] r := fun W v h hT => by
  obtain ⟨g, c, rfl, h8⟩ := slo_one h
  exact do_oneC hT hd h8
theorem doq_two {nm : ByteArray} {a b : Ob} {r : Out} (hd : ∀ W, Calls Tryd.prog 17 #[.string nm, a.val, b.val] W fun e w' => e = .returned r.val ∧ Below W.heap.size W w') : DoQ nm [a, b] r := fun W v h _ => by
  obtain ⟨g, c, rfl, h8, h9⟩ := slo_two h
  exact do_twoC hd h8 h9
theorem src_some {w : World} {a : Option Addr} {x : Ob} {l : List Ob} (h : SrcO w a (x :: l)) : ∃ ad, a = some ad := by
  rcases h with h | ⟨ad, e, _⟩
  · cases h
  · exact ⟨ad, e⟩
theorem does_walk (nm : ByteArray) (a : Option Addr) (l : List Ob) (cap : Nat) (w : World) (hs : SrcO w a l) (hn : a = none → cap = 0) (hT : SinT w) : Calls Tryd.prog 3 #[.string nm, .slice a l.length cap] w fun e w' => e = .returned (.bool true) ∧ Below w.heap.size w w' := by
  by_cases hfar : 1000 < nm.size ∨ 100 < l.length
  · rcases ops_all nm with ⟨R, h⟩ | ⟨R, h⟩ | h
    · exact does_far nm 1 h.kn a _ cap w hfar (by simp)
    · exact does_far nm 2 h.kn a _ cap w hfar (by simp)
    · exact does_far nm 0 h.kn a _ cap w hfar (by simp)
  have s1 : nm.size ≤ 1000 := by omega
  have s2 : l.length ≤ 100 := by omega
  match l, hs, s2 with
  | [], hs, _ =>
    rcases ops_all nm with ⟨R, h⟩ | ⟨R, h⟩ | h
    · exact does_nil1 nm h.kn a cap w s1 hn (doq_nil nm) hT
    · exact does_nil2 nm h.kn a cap w s1 hn (doq_nil nm) hT
    · exact does_nil0 nm h.kn a cap w s1 hn (doq_nil nm) hT
  | [x], hs, s2 =>
    obtain ⟨ad, rfl⟩ := src_some hs
    rcases ops_all nm with ⟨R, h⟩ | ⟨R, h⟩ | h
    · have hA : ∀ W v, SLV W v [x] → Calls Tryd.prog 12 #[.string nm, v] W fun e w' => RefO W (R x) e w' := fun W v hv => by
        obtain ⟨g, c, rfl, h10⟩ := slv_one hv
        exact h.rf x g c W h10
      by_cases hz : (R x).e = 0
      · exact full1ok nm h.kn ad x cap (R x) w s1 hs (doq_one (fun W hW => h.d1 x W hW)) hA hT hz
      · exact full1er nm h.kn ad x cap (R x) w s1 hs (doq_one (fun W hW => h.d1 x W hW)) hA hT hz
    · exact does_err2 nm h.kn ad [x] 1 cap rfl (by omega) (by omega) w s1 (by omega) hs (doq_one (fun W _ => h.d1 x W)) hT
    · exact does_err0 nm h.kn ad [x] 1 cap rfl (by omega) (by omega) w s1 (by omega) hs (doq_one (fun W _ => h.d1 x W)) hT
  | [x, y], hs, s2 =>
    obtain ⟨ad, rfl⟩ := src_some hs
    rcases ops_all nm with ⟨R, h⟩ | ⟨R, h⟩ | h
    · exact does_err1 nm h.kn ad [x, y] 2 cap rfl (by omega) (by omega) w s1 (by omega) hs (doq_two (fun W => h.d2 x y W)) hT
    · have hA : ∀ W v, SLV W v [x, y] → Calls Tryd.prog 12 #[.string nm, v] W fun e w' => RefO W (R x y) e w' := fun W v hv => by
        obtain ⟨g, c, rfl, h10, h11⟩ := slv_two hv
        exact h.rf x y g c W h10 h11
      by_cases hz : (R x y).e = 0
      · exact full2ok nm h.kn ad x y cap (R x y) w s1 hs (doq_two (fun W => h.d2 x y W)) hA hT hz
      · exact full2er nm h.kn ad x y cap (R x y) w s1 hs (doq_two (fun W => h.d2 x y W)) hA hT hz
    · exact does_err0 nm h.kn ad [x, y] 2 cap rfl (by omega) (by omega) w s1 (by omega) hs (doq_two (fun W => h.d2 x y W)) hT
  | x :: y :: z :: t, hs, s2 =>
    obtain ⟨ad, rfl⟩ := src_some hs
    have h3 : 3 ≤ (x :: y :: z :: t).length := by simp
    generalize x :: y :: z :: t = L at *
    rcases ops_all nm with ⟨R, h⟩ | ⟨R, h⟩ | h
    · exact does_err1 nm h.kn ad L _ cap rfl (by omega) (by omega) w s1 s2 hs (doq_many nm h3) hT
    · exact does_err2 nm h.kn ad L _ cap rfl (by omega) (by omega) w s1 s2 hs (doq_many nm h3) hT
    · exact does_err0 nm h.kn ad L _ cap rfl (by omega) (by omega) w s1 s2 hs (doq_many nm h3) hT
end Ari
end Go.Proofs.YtgbpldfcahajeaaDoor
namespace Go.Proofs.YtgbpldfcahajeaaDoor
open Go.ChangeShapes Go.WideShapes Go.ChangeAt Go.RowKit Go.Deep
open Fx
namespace Ari
section
variable {H : Type} {enc : TypeId × Value → H} {w : World} {base : Nat} {spare : Nat → Bool} {held : Bool}
theorem atO (its : List Ob) : ∀ (p f : Nat) (o : Ob), its[p]? = some o → f < 8 → (its.flatMap Ob.cells)[p * 8 + f]? = o.cells[f]? := by
  induction its with
  | nil => intro p f o h; simp at h
  | cons y its ih =>
    intro p f o h hf
    rw [List.flatMap_cons]
    cases p with
    | zero =>
      simp at h; subst h
      rw [List.getElem?_append_left (by simp [Ob.cells]; omega)]; simp
    | succ p =>
      rw [List.getElem?_append_right (by simp [Ob.cells]; omega)]
      have e : (p + 1) * 8 + f - y.cells.length = p * 8 + f := by simp [Ob.cells]; omega
      rw [e]; exact ih p f o (by simpa using h) hf
/-- a list is being copied: k of it are there -/
def Cpy (B n k : Nat) (l : List Ob) (w2 wr : World) : Prop := Below w2.heap.size w2 wr ∧ ∃ xs : List Ob, xs.length = n ∧ (∀ j, j < k → xs[j]? = l[j]?) ∧ wr.ownsRow 0 38 8 (.slice (some ⟨B, 0, none⟩) n n) n (xs.flatMap Ob.cells)
theorem exists_listO {α : Type} {P : Nat → α → Prop} : ∀ (n : Nat), (∀ i, i < n → ∃ x, P i x) → ∃ L : List α, L.length = n ∧ ∀ i x, L[i]? = some x → P i x
  | 0, _ => ⟨[], rfl, fun i x h => by simp at h⟩
  | n + 1, h => by
    obtain ⟨L, hl, hL⟩ := exists_listO n (fun i hi => h i (by omega))
    obtain ⟨x, hx⟩ := h n (by omega)
    refine ⟨L ++ [x], by simp [hl], fun i y hy => ?_⟩
    rcases Nat.lt_or_ge i L.length with hi | hi
    · rw [List.getElem?_append_left hi] at hy
      exact hL i y hy
    · rw [List.getElem?_append_right hi] at hy
      have h1 := (List.getElem?_eq_some_iff.1 hy).1
      have h2 : i - L.length = 0 := by simp at h1; omega
      rw [h2] at hy
      have e : x = y := by simpa using hy
      have e2 : i = n := by omega
      rw [← e, e2]
      exact hx
theorem list8O {α : Type} (l : List α) (h : l.length = 8) : ∃ a b c d e f g i, l = [a, b, c, d, e, f, g, i] := by
  match l, h with
  | [a, b, c, d, e, f, g, i], _ => exact ⟨a, b, c, d, e, f, g, i, rfl⟩
theorem cells_obO : Tryd.prog.cellsOf 38 = 8 := by kernel_rfl
theorem cells_intO : Tryd.prog.cellsOf 3 = 1 := by kernel_rfl
theorem cells_boolO : Tryd.prog.cellsOf 4 = 1 := by kernel_rfl
theorem cells_strO : Tryd.prog.cellsOf 9 = 1 := by kernel_rfl
theorem bytes_obO : Tryd.prog.bytesOf 38 = 72 := by kernel_rfl
set_option maxRecDepth 100000 in
theorem open_obC {n : Nat} {d : DataW H × List MemPlace} {cs : List Value} (hl : cs.length = 8) (hf : DataW.trod enc Tryd.prog w base spare held n 38 cs = some d) : ∃ o : Ob, cs = o.cells := by
  obtain ⟨c0, c1, c2, c3, c4, c5, c6, c7, rfl⟩ := list8O cs hl
  obtain ⟨xs, m, _, hx, _, hlen, hg⟩ := DataW.trod_struct Tryd.underlying38 hf
  obtain ⟨y0, y1, y2, y3, y4, y5, y6, y7, rfl⟩ := list8O xs (by simpa using hlen)
  have g0 := hg 0 _ rfl
  have g1 := hg 1 _ rfl
  have g2 := hg 2 _ rfl
  have g3 := hg 3 _ rfl
  have g4 := hg 4 _ rfl
  have g5 := hg 5 _ rfl
  have g6 := hg 6 _ rfl
  have g7 := hg 7 _ rfl
  simp [cells_intO, cells_boolO, cells_strO] at g0 g1 g2 g3 g4 g5 g6 g7
  obtain ⟨z0, e0, _, _⟩ := DataW.trod_int Tryd.underlying3 g0
  obtain ⟨z1, e1, _⟩ := DataW.trod_bool Tryd.underlying4 g1
  obtain ⟨z2, e2, _, _⟩ := DataW.trod_int Tryd.underlying3 g2
  obtain ⟨z3, e3, _, _⟩ := DataW.trod_int Tryd.underlying3 g3
  obtain ⟨z4, e4, _, _⟩ := DataW.trod_string Tryd.underlying9 g4
  obtain ⟨z5, e5, _, _⟩ := DataW.trod_int Tryd.underlying3 g5
  obtain ⟨z6, e6, _, _⟩ := DataW.trod_int Tryd.underlying3 g6
  obtain ⟨z7, e7, _, _⟩ := DataW.trod_int Tryd.underlying3 g7
  simp at e0 e1 e2 e3 e4 e5 e6 e7
  subst e0 e1 e2 e3 e4 e5 e6 e7
  exact ⟨⟨z0, z1, z2, z3, z4, z5, z6, z7⟩, rfl⟩
/-- objects that came in -/
theorem open_obs {fuel : Nat} {cs : List Value} {x : DataW H × List MemPlace} (h : DataW.trod enc Tryd.prog w base spare held fuel 22 cs = some x) :
    ∃ (a : Option Addr) (l : List Ob) (c : Nat), cs = [.slice a l.length c] ∧ SrcO w a l ∧ (a = none → c = 0) ∧ l.length ≤ c ∧ c ≤ maxLen ∧ (l = [] ∨ ∃ es sp, x.1 = .slice es sp ∧ es.length = l.length) := by
  rcases open_slice Tryd.underlying22 h with ⟨hcs, _⟩ | ⟨ad, len, cap, m, n, D, Pl, hcs, hb, hl, hm, hmm, hx, hi⟩
  · exact ⟨none, [], 0, hcs, .inl rfl, fun _ => rfl, Nat.le_refl _, by unfold maxLen; omega, .inl rfl⟩
  · rw [cells_obO] at hi
    have hlm : len ≤ m := by rw [hmm]; split <;> omega
    obtain ⟨L, hL, hP⟩ := exists_listO (P := fun i (o : Ob) => ∀ f, f < 8 → w.cell? (ad.add (i * 8 + f)) = o.cells[f]?) len (fun i hlt => by
      obtain ⟨cs', hc, ht⟩ := hi i (by omega)
      obtain ⟨_, hcl, hat⟩ := World.cells?_some hc
      obtain ⟨o, rfl⟩ := open_obC hcl ht
      refine ⟨o, fun f hf => ?_⟩
      have := hat f hf
      have e : (ad.add (i * 8)).add f = ad.add (i * 8 + f) := by
        unfold Addr.add
        by_cases h1 : i * 8 = 0 <;> by_cases h2 : f = 0 <;> simp_all <;> omega
      rw [e] at this
      exact this)
    refine ⟨some ad, L, cap, by rw [hL]; exact hcs, .inr ⟨ad, rfl, fun j z hz => ?_⟩, fun e => (by cases e), by rw [hL]; exact hl, hm, .inr ⟨_, _, by rw [hx], by simp [hL]⟩⟩
    have hj := (List.getElem?_eq_some_iff.1 hz).1
    rw [lenO] at hj
    have e1 : j / 8 < L.length := by omega
    have e2 : j / 8 * 8 + j % 8 = j := by omega
    have hf : j % 8 < 8 := by omega
    have h3 := hP (j / 8) _ (List.getElem?_eq_getElem e1) (j % 8) hf
    have h4 := atO L (j / 8) (j % 8) _ (List.getElem?_eq_getElem e1) hf
    rw [e2] at h3 h4
    rw [h3, ← h4, hz]
end
end Ari
end Go.Proofs.YtgbpldfcahajeaaDoor
