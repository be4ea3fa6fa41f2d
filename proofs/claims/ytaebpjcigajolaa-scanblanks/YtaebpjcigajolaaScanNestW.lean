/-
  The walk of the law ScanNested.
-/
import Derived.Test.YtaebpjcigajolaaScanLaw
namespace Go.Proofs.Ytaebpjcigajolaa
open Go.RowKit
open Sc
namespace Sc
/-- brackets within brackets, d deep -/
def nst : Nat → List UInt8
  | 0 => []
  | d + 1 => 40 :: (nst d ++ [41, 120])
theorem nst_len (d : Nat) : (nst d).length = 3 * d := by
  induction d with
  | zero => rfl
  | succ d ih => simp [nst, ih]; omega
theorem rnd_nst (d : Nat) : ∀ (e : Nat) (r : List UInt8), 1 ≤ e → rnd e (nst d ++ r) = (rnd e r).map fun x => (nst d ++ x.1, x.2) := by
  induction d with
  | zero => intro e r _; show rnd e r = _; cases rnd e r <;> simp [nst]
  | succ d ih =>
    intro e r he
    have e1 : nst (d + 1) ++ r = 40 :: (nst d ++ (41 :: 120 :: r)) := by simp [nst]
    have h2 : stp (e + 1) (41 :: 120 :: r) = .go e [41] (120 :: r) := by rw [stp, if_neg (by decide), if_pos rfl, if_neg (by omega)]; rfl
    rw [e1, rnd_go (d' := e + 1) (p := [40]) (r := nst d ++ (41 :: 120 :: r)) rfl, ih (e + 1) _ (by omega), rnd_go h2, rnd_go (d' := e) (p := [120]) (r := r) rfl]
    cases rnd e r <;> simp [nst]
theorem nst_closed (tk : List UInt8 → Int × Int × Bool × Int) (d : Nat) : nxt tk (40 :: (nst d ++ [41])) = .tok 6 0 (nst d) [] := by
  have h : rnd 1 (nst d ++ [41]) = some (nst d, []) := by
    rw [rnd_nst d 1 [41] (Nat.le_refl _), rnd_done (d := 1) (s := [41]) (r := []) rfl]; simp
  have h2 : skp false (40 :: (nst d ++ [41])) = 40 :: (nst d ++ [41]) := skp_stop (by decide) (by decide)
  unfold nxt
  rw [h2, beg, if_neg (by decide), if_pos rfl, h]; rfl
theorem nst_open (tk : List UInt8 → Int × Int × Bool × Int) (d : Nat) : nxt tk (40 :: 40 :: (nst d ++ [41])) = .err 14 := by
  have h3 : stp 2 [41] = .go 1 [41] [] := rfl
  have h : rnd 1 (40 :: (nst d ++ [41])) = none := by
    rw [rnd_go (d' := 2) (p := [40]) (r := nst d ++ [41]) rfl, rnd_nst d 2 [41] (by omega), rnd_go h3, rnd_fail (d := 1) (s := []) rfl]; rfl
  have h2 : skp false (40 :: 40 :: (nst d ++ [41])) = 40 :: 40 :: (nst d ++ [41]) := skp_stop (by decide) (by decide)
  unfold nxt
  rw [h2, beg, if_neg (by decide), if_pos rfl, h]; rfl
theorem str_nst (i : Nat) : ((⟨#[40]⟩ : ByteArray) ++ ⟨(nst i).toArray⟩) ++ ⟨#[41, 120]⟩ = ⟨(nst (i + 1)).toArray⟩ := by
  apply mk_listS; rw [data_appS, data_appS]; simp [nst]
theorem str_closed (i : Nat) : ((⟨#[40]⟩ : ByteArray) ++ ⟨(nst i).toArray⟩) ++ ⟨#[41]⟩ = ⟨(40 :: (nst i ++ [41])).toArray⟩ := by
  apply mk_listS; rw [data_appS, data_appS]; simp
theorem str_open (i : Nat) : ((⟨#[40, 40]⟩ : ByteArray) ++ ⟨(nst i).toArray⟩) ++ ⟨#[41]⟩ = ⟨(40 :: 40 :: (nst i ++ [41])).toArray⟩ := by
  apply mk_listS; rw [data_appS, data_appS]; simp
end Sc
theorem u8_wf {z : Int} (h : (Lit.int .u8 z).wf = true) : 0 ≤ z ∧ z ≤ 255 := by
  simpa [Lit.wf, IntKind.min, IntKind.max, IntKind.signed, IntKind.bits] using h
def NestRel (s i : Value) : Prop := ∃ k : Nat, k ≤ 255 ∧ i = .int .i64 k ∧ s = .string ⟨(nst k).toArray⟩
/-- Next at the beginning of a string's bytes -/
theorem next_str {w : World} (l : List UInt8) (hl : l.length ≤ 65535) {tk : List UInt8 → Int × Int × Bool × Int} (htk : ∀ c r, skp false l = c :: r → regular c = true → TkAt w tk) :
    ∃ (cap : Nat) (W2 : World), (convert 9 22 (.string ⟨l.toArray⟩)).run Try.prog w = .ok (.slice (some ⟨w.heap.size, 0, none⟩) l.length cap) W2 ∧
      Calls Try.prog 10 #[.slice (some ⟨w.heap.size, 0, none⟩) l.length cap, .int .i64 0] W2 fun e w' => e = .returned (nextV l (nxt tk l)) ∧ Below w.heap.size w w' := by
  obtain ⟨cap, W2, hcv, hb, hs, hcap, hrd⟩ := bytes_madeS w l
  refine ⟨cap, W2, hcv, ?_⟩
  have hn := next_at (w := W2) (cap := cap) (p := 0) (l := l) (tk := tk) (hrd _ (by omega)) hcap hl (by omega) (fun c r h1 h2 s w' hs' hbb => htk c r h1 h2 s w' hs' (hb.trans (hbb.mono (by omega))))
  rw [List.drop_zero] at hn
  exact hn.mono fun e w' ⟨h1, h2⟩ => ⟨h1, hb.trans (h2.mono (by omega))⟩
theorem tokA_text {w w' : World} {k n : Int} {t : ByteArray} (hb : Below (w.alloc (.cells #[.int .i64 k, .int .i64 n, .string t] 25)).heap.size (w.alloc (.cells #[.int .i64 k, .int .i64 n, .string t] 25)) w') :
    w'.cell? ⟨w.heap.size, 0, none⟩ = some (.int .i64 k) ∧ w'.cell? ⟨w.heap.size, 1, none⟩ = some (.int .i64 n) ∧ w'.cell? ⟨w.heap.size, 2, none⟩ = some (.string t) := by
  have h := tok_new w k n t
  have hk : w'.heap[w.heap.size]? = some (tokB k n t) := (hb.block w.heap.size (by simp)).trans h
  obtain ⟨a, b, c, _⟩ := tok_c hk
  exact ⟨a, b, c⟩
set_option maxRecDepth 100000 in
theorem lawScanNested (z : Int) (o : Bool) (hz0 : 0 ≤ z) (hz1 : z ≤ 255) (w : World) : Calls Try.prog 7 #[.int .u8 z, .bool o] w fun e w' => e = .returned (.bool true) ∧ Below w.heap.size w w' := by
  obtain ⟨d, rfl⟩ : ∃ d : Nat, z = d := ⟨z.toNat, by omega⟩
  go_enter Try.func7, Try.ntmps7
  go_wp2_with fail
  go_loop [5, 6] (fun s i => NestRel s i) (fun _ i => d - (intOf i).toNat)
  case atStart => exact ⟨0, by omega, rfl, rfl⟩
  case round =>
    obtain ⟨k, hk, rfl, rfl⟩ := hrel
    by_cases hlt : k < d
    · have hsz := size_mkS (nst k)
      rw [nst_len] at hsz
      have HST := Lib.hid (str_nst k)
      go_wp2_with fail
      go_round
      case rel => exact ⟨k + 1, by omega, by go_num, by rw [HST.out]⟩
      case measure => simp [intOf]; omega
    · have hkd : decide ((k : Int) < (d : Int)) = false := decide_eq_false (by omega)
      have hsz := size_mkS (nst k)
      have hln := nst_len k
      rw [hln] at hsz
      cases o with
      | false =>
        obtain ⟨l, hl⟩ : ∃ l, l = 40 :: (nst k ++ [41]) := ⟨_, rfl⟩
        have hlen : l.length = 3 * k + 2 := by rw [hl]; simp [hln]
        have hnx : nxt tk0 l = .tok 6 0 (nst k) [] := by rw [hl]; exact nst_closed tk0 k
        obtain ⟨cap, W2, hcv, hcall⟩ := next_str (w := w) l (by omega) (tk := tk0) (fun c r h1 h2 => by
          have : skp false l = l := by rw [hl]; exact skp_stop (by decide) (by decide)
          rw [this, hl] at h1
          cases h1
          exact absurd h2 (by decide))
        have hst := str_closed k
        rw [← hl] at hst
        obtain ⟨L, hL⟩ : ∃ L : ByteArray, L = ⟨l.toArray⟩ := ⟨_, rfl⟩
        have hLs : L.size = 3 * k + 2 := by rw [hL, size_mkS, hlen]
        rw [← hL] at hst hcv
        have ev : nextV l (nxt tk0 l) = .tuple #[tkV 6 0 (nst k), .int .i64 ((3 * k + 2 : Nat) : Int), .int .i64 0] := by rw [hnx]; unfold nextV; rw [hlen]; rfl
        rw [ev, hlen] at hcall
        rw [hlen] at hcv
        have HC := Lib.hid hcall
        clear hcall ev hL hnx hl hlen hln
        go_wp2_with fail
        refine HC.out.mono ?_; rintro e w1 ⟨rfl, hb⟩
        have HB := Lib.hid hb
        clear hb
        unfold tkV
        go_wp2_with (first | (go_at_call 9; refine (answers_any _).mono ?_; rintro e w2 ⟨rfl, hb2⟩; have hc2 := tokA_text hb2))
        go_ret
        exact ⟨rfl, (HB.out.alloc HB.out.size _).trans (hb2.mono (by have := HB.out.size; simp; omega))⟩
      | true =>
        obtain ⟨l, hl⟩ : ∃ l, l = 40 :: 40 :: (nst k ++ [41]) := ⟨_, rfl⟩
        have hlen : l.length = 3 * k + 3 := by rw [hl]; simp [hln]
        have hnx : nxt tk0 l = .err 14 := by rw [hl]; exact nst_open tk0 k
        obtain ⟨cap, W2, hcv, hcall⟩ := next_str (w := w) l (by omega) (tk := tk0) (fun c r h1 h2 => by
          have : skp false l = l := by rw [hl]; exact skp_stop (by decide) (by decide)
          rw [this, hl] at h1
          cases h1
          exact absurd h2 (by decide))
        have hst := str_open k
        rw [← hl] at hst
        obtain ⟨L, hL⟩ : ∃ L : ByteArray, L = ⟨l.toArray⟩ := ⟨_, rfl⟩
        rw [← hL] at hst hcv
        have ev : nextV l (nxt tk0 l) = .tuple #[tkV 0 0 [], .int .i64 0, .int .i64 14] := by rw [hnx]; rfl
        rw [ev, hlen] at hcall
        rw [hlen] at hcv
        have HC := Lib.hid hcall
        clear hcall ev hL hnx hl hln hlen
        go_wp2_with fail
        refine HC.out.mono ?_; rintro e w1 ⟨rfl, hb⟩
        have HB := Lib.hid hb
        clear hb
        unfold tkV
        go_wp2_with (first | (go_at_call 9; refine (answers_any _).mono ?_; rintro e w2 ⟨rfl, hb2⟩))
        go_ret
        exact ⟨rfl, (HB.out.alloc HB.out.size _).trans (hb2.mono (by have := HB.out.size; simp; omega))⟩
end Go.Proofs.Ytaebpjcigajolaa
