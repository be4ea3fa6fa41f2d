/-
  The contracts of cutSign and readDecimal.
-/
import Derived.Test.YtaebpjcigajolaaDecRound
namespace Go.Proofs.Ytaebpjcigajolaa
open Go.RowKit
open Fx Dc
namespace Dc
def csB (l : List UInt8) : Bool := Lib.hasPrefix l [45]
def csL (l : List UInt8) : List UInt8 := if csB l = true then Lib.trimPrefix l [45] else Lib.trimPrefix l [43]
/-- digits alone -/
def allDig (l : List UInt8) : Prop := ∀ c ∈ l, isDig c
end Dc
def StrBool (l : List UInt8) (b : Bool) (w : World) (e : Ending) (w' : World) : Prop := ∃ s : ByteArray, e = .returned (.tuple #[.string s, .bool b]) ∧ s.data.toList = l ∧ w = w'
theorem cutSign_any (s : ByteArray) (w : World) : Calls Try.prog 66 #[.string s] w (StrBool (csL s.data.toList) (csB s.data.toList) w) := by
  have H1 := Lib.hid (fun w => Try.strings_CutPrefix s ⟨#[45]⟩ w)
  have H2 := Lib.hid (fun w => Try.strings_TrimPrefix s ⟨#[43]⟩ w)
  unfold csL
  cases hb : csB s.data.toList
  · have HB : Hid (Lib.hasPrefix s.data.toList (⟨#[45]⟩ : ByteArray).data.toList = false) := hb
    rw [if_neg (by simp)]
    clear hb
    go_enter Try.func66, Try.ntmps66
    go_wp2_with fail
    refine (H1.out _).mono ?_; rintro e w' ⟨rfl, rfl⟩
    rw [HB.out]
    go_wp2_with fail
    refine (H2.out _).mono ?_; rintro e w' ⟨rfl, rfl⟩
    go_wp2_with fail
    go_ret2
    exact ⟨_, rfl, rfl, rfl⟩
  · have HB : Hid (Lib.hasPrefix s.data.toList (⟨#[45]⟩ : ByteArray).data.toList = true) := hb
    rw [if_pos rfl]
    clear hb
    go_enter Try.func66, Try.ntmps66
    go_wp2_with fail
    refine (H1.out _).mono ?_; rintro e w' ⟨rfl, rfl⟩
    rw [HB.out]
    go_wp2_with fail
    go_ret2
    exact ⟨_, rfl, rfl, rfl⟩
/-- bytes of a row, the first k of them made digits -/
def MixAt (w : World) (G : Nat) (L : List UInt8) (k : Nat) : Prop :=
  ∀ (j : Nat) (c : UInt8), L[j]? = some c → w.cell? ⟨G, j, none⟩ = some (.int .u8 (if j < k then (c.toNat : Int) - 48 else (c.toNat : Int))) ∧ w.frozen? ⟨G, j, none⟩ = false
theorem bytes_made (W : World) (s : ByteArray) : ∃ (cap : Nat) (W2 : World), (convert 9 22 (.string s)).run Try.prog W = .ok (.slice (some ⟨W.heap.size, 0, none⟩) s.size cap) W2 ∧
    Below W.heap.size W W2 ∧ W2.heap.size = W.heap.size + 1 ∧ MixAt W2 W.heap.size s.data.toList 0 := by
  refine ⟨_, _, run_bytes_of_string W 9 22 5 s Try.underlying9 Try.underlying22 Try.underlying5, ?_, by simp, ?_⟩
  · exact (Below.refl _ W).drew.alloc (Nat.le_refl _) _
  · intro j c hc
    have hj : j < s.data.size := by
      obtain ⟨h1, _⟩ := List.getElem?_eq_some_iff.1 hc
      simpa using h1
    have hs : W.drew.heap.size = W.heap.size := rfl
    constructor
    · rw [← hs, World.cell?_alloc_mark, bytesRow_at s _ j hj]
      have : s.data[j] = c := by
        obtain ⟨h1, h2⟩ := List.getElem?_eq_some_iff.1 hc
        simpa using h2
      simp [this]
    · rw [← hs, World.frozen?_alloc_mark]
      have : j < (bytesRow s (grownCap W s.size 0 5)).size := by
        have h1 : s.size = s.data.size := rfl
        have h2 := grownCap_ge W s.size 0 5
        unfold bytesRow; rw [Array.size_append, Array.size_map, Array.size_replicate]; omega
      simp; omega
theorem MixAt.keep {w w' : World} {G k : Nat} {L : List UInt8} (h : MixAt w G L k) (hc : ∀ o, w'.cell? ⟨G, o, none⟩ = w.cell? ⟨G, o, none⟩) (hf : ∀ o, w'.frozen? ⟨G, o, none⟩ = w.frozen? ⟨G, o, none⟩) : MixAt w' G L k :=
  fun j c hj => by rw [hc, hf]; exact h j c hj
theorem addr_ne (b i j : Nat) (h : i ≠ j) : (⟨b, i, none⟩ : Addr) ≠ ⟨b, j, none⟩ := by intro e; injection e; contradiction
theorem MixAt.step {w : World} {G k : Nat} {L : List UInt8} {c : UInt8} (h : MixAt w G L k) (hk : L[k]? = some c) : MixAt (w.setCell ⟨G, k, none⟩ (.int .u8 ((c.toNat : Int) - 48))) G L (k + 1) := by
  intro j d hj
  obtain ⟨h1, h2⟩ := h j d hj
  refine ⟨?_, by rw [World.frozen?_setCell]; exact h2⟩
  by_cases e : j = k
  · subst e
    obtain rfl : c = d := Option.some.inj (hk.symm.trans hj)
    rw [World.cell?_setCell_same _ _ _ h1, if_pos (by omega)]
  · rw [World.cell?_setCell_other _ _ _ _ (addr_ne G k j (Ne.symm e)), h1]
    by_cases e2 : j < k
    · rw [if_pos e2, if_pos (by omega)]
    · rw [if_neg e2, if_neg (by omega)]
theorem DgAt.far {w : World} {g : Nat} {xs : List Nat} (h : DgAt w g xs) {p : Addr} (hp : p.block ≠ g) (u : Value) : DgAt (w.setCell p u) g xs :=
  ⟨by simpa using h.1, fun k x hx => by rw [World.cell?_setCell_other _ _ _ _ (by intro e; apply hp; rw [e])]; exact h.2 k x hx⟩
/-- what readDecimal's loop holds -/
def RdcRel (w : World) (G : Nat) (L : List UInt8) (n cap : Nat) (p : Int) (i : Value) (w' : World) : Prop :=
  ∃ k : Nat, k ≤ n ∧ i = .int .i64 (k : Int) ∧ (∀ (j : Nat) (c : UInt8), j < k → L[j]? = some c → isDig c) ∧ MixAt w' G L k ∧ G < w'.heap.size ∧
    w'.cell? ⟨w.heap.size, 0, none⟩ = some (.slice (some ⟨G, 0, none⟩) n cap) ∧ w'.cell? ⟨w.heap.size, 1, none⟩ = some (.int .i64 p) ∧
    w'.frozen? ⟨w.heap.size, 0, none⟩ = false ∧ w'.frozen? ⟨w.heap.size, 1, none⟩ = false ∧ Below w.heap.size w w'
def digits (L : List UInt8) : List Nat := L.map fun (c : UInt8) => c.toNat - 48
/-- what readDecimal answers of bytes L, p of them ahead of the point -/
def RdcPost (L : List UInt8) (p : Int) (w : World) (e : Ending) (w' : World) : Prop :=
  (∃ g cap : Nat, e = .returned (.tuple #[.agg #[.slice (some ⟨g, 0, none⟩) L.length cap, .int .i64 p], .bool (decide (0 < L.length))]) ∧ DgAt w' g (digits L) ∧ allDig L ∧ Below w.heap.size w w') ∨
  (e = .returned (.tuple #[.agg #[.slice none 0 0, .int .i64 0], .bool false]) ∧ ¬ allDig L ∧ Below w.heap.size w w')
theorem readDecimal_any (s a b : ByteArray) (f : Bool) (hs : s.size ≤ 64) (ha : a.size ≤ 64) (hb : b.size ≤ 64) (w : World) (hm : Mx w) (hcut : Lib.cut s.data.toList [46] = (a.data.toList, b.data.toList, f)) :
    Calls Try.prog 69 #[.string s] w (RdcPost (a ++ b).data.toList a.size w) := by
  have HC : Hid (∀ w, Mx w → Calls Try.prog 59 #[.string s, .string ⟨#[46]⟩] w fun e w' => e = .returned (.tuple #[.string a, .string b, .bool f]) ∧ ∃ n, w' = w.drewN n) := by
    intro w hm
    have := cut_any s 46 (by omega) w hm
    rw [hcut] at this
    exact this
  have HM := Lib.hid (hm.below ((Below.refl _ w).alloc (Nat.le_refl _) (Obj.cells #[Value.slice none 0 0, Value.int .i64 0] 81)))
  obtain ⟨T, hT⟩ : ∃ T, T = a ++ b := ⟨_, rfl⟩
  have hTs : T.size ≤ 128 := by rw [hT, size_app]; omega
  rw [← hT]
  clear hcut hm
  go_enter Try.func69, Try.ntmps69
  go_wp2_with fail
  refine (HC.out _ HM.out).mono ?_; rintro e w' ⟨rfl, q, rfl⟩
  obtain ⟨W, hW⟩ : ∃ W, W = (w.alloc (Obj.cells #[Value.slice none 0 0, Value.int .i64 0] 81)).drewN q := ⟨_, rfl⟩
  obtain ⟨cap, W2, hrun, hb2, hsz2, hmix⟩ := bytes_made W T
  have hWs : W.heap.size = w.heap.size + 1 := by rw [hW]; simp
  rw [hWs] at hrun hmix hsz2
  rw [hW] at hrun
  have c0 : W2.cell? ⟨w.heap.size, 0, none⟩ = some (.slice none 0 0) := by rw [(bcell hb2).1 _ _ (by rw [hWs]; omega), hW]; simp [go_sem]
  have c1 : W2.cell? ⟨w.heap.size, 1, none⟩ = some (.int .i64 0) := by rw [(bcell hb2).1 _ _ (by rw [hWs]; omega), hW]; simp [go_sem]
  have f0 : ∀ o, W2.frozen? ⟨w.heap.size, o, none⟩ = false := fun o => by rw [(bcell hb2).2 _ _ (by rw [hWs]; omega), hW]; simp [go_sem]
  have HB : Hid (Below w.heap.size w W2) := by
    rw [hW] at hb2; exact below_made w _ q hb2
  obtain ⟨n, hn⟩ : ∃ n, n = T.size := ⟨_, rfl⟩
  have hn1 : n ≤ 128 := by omega
  have HL : Hid (T.data.toList.length = n) := by rw [hn]; exact (size_list T).symm
  rw [← hn, hT] at hrun
  have HMix := Lib.hid hmix
  have HT := Lib.hid hT
  have HS := Lib.hid hsz2
  clear hb2 hsz2 hmix hWs hT
  rw [← hW]
  rw [← hW] at hrun
  clear hW hn
  go_wp2_with fail
  go_loopw [25] (RdcRel w (w.heap.size + 1) T.data.toList n cap a.size) (fun i _ => n - (intOf i).toNat)
  case atStart =>
    refine ⟨0, by omega, rfl, fun j c h => absurd h (by omega), ?_, by simp [HS.out], ?_, ?_, by simp [f0], by simp [f0], (HB.out.setCell (Nat.le_refl _) _).setCell (Nat.le_refl _) _⟩
    · exact HMix.out.keep (fun o => by rw [World.cell?_setCell_other _ _ _ _ (by intro e; injection e; omega), World.cell?_setCell_other _ _ _ _ (by intro e; injection e; omega)]) (fun o => by simp)
    · rw [World.cell?_setCell_other _ _ _ _ (by intro e; injection e; omega), World.cell?_setCell_same _ _ _ c0]
    · rw [World.cell?_setCell_same (u := .int .i64 0)]
      rw [World.cell?_setCell_other _ _ _ _ (by intro e; injection e; omega)]; exact c1
  case round =>
    obtain ⟨k, hk, rfl, hdig, hmx, hGs, d0, d1, g0, g1, hbel⟩ := hrel
    clear c0 c1 f0 hrun HMix HB HS
    by_cases hkn : k < n
    · obtain ⟨c, hc⟩ : ∃ c, T.data.toList[k]? = some c := ⟨_, List.getElem?_eq_getElem (by rw [HL.out]; exact hkn)⟩
      have hcc := (hmx k c hc).1
      have hcf := (hmx k c hc).2
      rw [if_neg (by omega)] at hcc
      have hcb : (c.toNat : Int) ≤ 255 := by have := UInt8.toNat_lt c; omega
      obtain ⟨z, hz⟩ : ∃ z : Int, z = (c.toNat : Int) := ⟨_, rfl⟩
      rw [← hz] at hcc hcb
      by_cases h1 : z < 48
      · have hno : ¬ allDig T.data.toList := fun h => by
          have := h c (List.mem_of_getElem? hc); unfold isDig at this; omega
        have HNo := Lib.hid hno
        have HBl := Lib.hid hbel
        clear hmx hdig hbel hz hc hno
        go_wp2_with fail
        refine bodyPost_ret (v := .tuple #[.agg #[.slice none 0 0, .int .i64 0], .bool false]) (by simp [results, Try.results69, go_sem, d0, d1]) rfl (Or.inr ⟨rfl, HNo.out, ?_⟩)
        exact (HBl.out.setCell (Nat.le_refl _) _).setCell (Nat.le_refl _) _
      · by_cases h2 : 57 < z
        · have hno : ¬ allDig T.data.toList := fun h => by
            have := h c (List.mem_of_getElem? hc); unfold isDig at this; omega
          have HNo := Lib.hid hno
          have HBl := Lib.hid hbel
          clear hmx hdig hbel hz hc hno
          go_wp2_with fail
          refine bodyPost_ret (v := .tuple #[.agg #[.slice none 0 0, .int .i64 0], .bool false]) (by simp [results, Try.results69, go_sem, d0, d1]) rfl (Or.inr ⟨rfl, HNo.out, ?_⟩)
          exact (HBl.out.setCell (Nat.le_refl _) _).setCell (Nat.le_refl _) _
        · have HMx := Lib.hid hmx
          have HDg := Lib.hid hdig
          have HBl := Lib.hid hbel
          have HZ := Lib.hid hz
          have HCk := Lib.hid hc
          have HD := Lib.hid (And.intro d0 (And.intro d1 (And.intro g0 g1)))
          clear hmx hdig hbel hz hc
          go_wp2_with fail
          refine ⟨⟨k + 1, by omega, by go_num, ?_, ?_, by simpa using hGs, ?_, ?_, by simpa using g0, by simpa using g1, HBl.out.setCell (by show w.heap.size ≤ w.heap.size + 1; omega) _⟩, by simp [intOf]; omega⟩
          · intro j d hj hd
            by_cases e : j = k
            · subst e
              obtain rfl : c = d := Option.some.inj (HCk.out.symm.trans hd)
              have := HZ.out; unfold isDig; omega
            · exact HDg.out j d (by omega) hd
          · rw [HZ.out]; exact HMx.out.step HCk.out
          · rw [World.cell?_setCell_other _ _ _ _ (by intro e; injection e; omega)]; exact HD.out.1
          · rw [World.cell?_setCell_other _ _ _ _ (by intro e; injection e; omega)]; exact HD.out.2.1
    · obtain rfl : k = n := by omega
      have hall : allDig T.data.toList := by
        intro c hc
        obtain ⟨j, hj⟩ := List.getElem?_of_mem hc
        have hjl : j < T.data.toList.length := (List.getElem?_eq_some_iff.1 hj).1
        exact hdig j c (by rw [HL.out] at hjl; exact hjl) hj
      have hdg : DgAt wr (w.heap.size + 1) (digits T.data.toList) := by
        refine ⟨hGs, fun j x hj => ?_⟩
        unfold digits at hj
        rw [List.getElem?_map] at hj
        obtain ⟨c, hc, rfl⟩ := Option.map_eq_some_iff.1 hj
        have hjl : j < T.data.toList.length := (List.getElem?_eq_some_iff.1 hc).1
        rw [(hmx j c hc).1, if_pos (by rw [HL.out] at hjl; exact hjl)]
        have hd := hall c (List.mem_of_getElem? hc)
        unfold isDig at hd
        have e : ((c.toNat - 48 : Nat) : Int) = (c.toNat : Int) - 48 := by omega
        rw [e]
      have HA := Lib.hid (And.intro hall (And.intro hdg hbel))
      clear hall hdg hmx hdig hbel
      go_wp2_with fail
      refine bodyPost_ret (v := .tuple #[.agg #[.slice (some ⟨w.heap.size + 1, 0, none⟩) k cap, .int .i64 a.size], .bool (decide (0 < k))]) (by simp [results, Try.results69, go_sem, d0, d1]) rfl (Or.inl ⟨w.heap.size + 1, cap, ?_, ?_, HA.out.1, ?_⟩)
      · rw [HL.out]
      · exact (HA.out.2.1.far (by show w.heap.size ≠ _; omega) _).far (by show w.heap.size ≠ _; omega) _
      · exact (HA.out.2.2.setCell (Nat.le_refl _) _).setCell (Nat.le_refl _) _
end Go.Proofs.Ytaebpjcigajolaa
