/-
  The walk of the law MatBacks.
-/
import Derived.Test.YtlgjlnbdfpncmaaMatInvR
import Derived.Test.YtlgjlnbdfpncmaaMatScale
namespace Go.Proofs.Ytlgjlnbdfpncmaa
open Go.RowKit
open Fx
set_option maxHeartbeats 1000000 in
theorem lawMatBacks (m0 m1 m2 m3 m4 m5 : Int) (w : World) :
    Calls Try.prog 5 #[.agg #[.int .i64 m0, .int .i64 m1, .int .i64 m2, .int .i64 m3, .int .i64 m4, .int .i64 m5]] w fun e w' => e = .returned (.bool true) ∧ Below w.heap.size w w' := by
  have h1 := fun w => matInvert_at m0 m1 m2 m3 m4 m5 w
  have h2 := fun w => refInvert_at m0 m1 m2 m3 m4 m5 w
  obtain ⟨V, S, hz, hs1, hs2⟩ := sqrt_both (if crsV m0 m3 m1 m2 < 0 then subV 0 (crsV m0 m3 m1 m2) else crsV m0 m3 m1 m2)
  have h3 := fun w => matScale_at m0 m1 m2 m3 m4 m5 V S w hs1
  have h4 := fun w => refScale_at m0 m1 m2 m3 m4 m5 V S w hz hs2
  clear hz hs1 hs2
  unfold InvE MatE at h1 h2
  unfold IntE at h3 h4
  generalize sel (kE (kE (crsE m0 m3 m1 m2) (if crsV m0 m3 m1 m2 < 0 then subE 0 (crsV m0 m3 m1 m2) else 0)) S) V = P at h3 h4
  generalize kE (kE (crsE m0 m3 m1 m2) (if crsV m0 m3 m1 m2 < 0 then subE 0 (crsV m0 m3 m1 m2) else 0)) S = G at h3 h4
  generalize invE (crsV m0 m3 m1 m2) (crsE m0 m3 m1 m2) m0 m1 m2 m3 m4 m5 = E at h1 h2
  generalize crsV m0 m3 m1 m2 = D at h1 h2
  generalize sel E (divV m3 D) = v0 at h1 h2
  generalize sel E (divV (subV 0 m1) D) = v1 at h1 h2
  generalize sel E (divV (subV 0 m2) D) = v2 at h1 h2
  generalize sel E (divV m0 D) = v3 at h1 h2
  generalize sel E (divV (crsV m2 m5 m3 m4) D) = v4 at h1 h2
  generalize sel E (divV (crsV m1 m4 m0 m5) D) = v5 at h1 h2
  have H1 := Lib.hid h1
  have H2 := Lib.hid h2
  have H3 := Lib.hid h3
  have H4 := Lib.hid h4
  clear h1 h2 h3 h4
  go_enter Try.func5, Try.ntmps5
  go_wp2_with fail
  refine (H1.out _).mono ?_; rintro e w1 ⟨rfl, hb1⟩
  have HA1 := Lib.hid ((r6_new w m0 m1 m2 m3 m4 m5 22).below hb1)
  have HB1 := Lib.hid (nextB (Below.refl _ w) hb1)
  clear hb1
  obtain ⟨s1, _, a0, a1, a2, a3, a4, a5⟩ := HA1.out
  go_wp2_with fail
  refine (H2.out _).mono ?_; clear a0 a1 a2 a3 a4 a5 s1; rintro e w2 ⟨rfl, hb2⟩
  have HA2 := Lib.hid ((HA1.out.alloc _).below hb2)
  have HX2 := Lib.hid ((r6_new w1 v0 v1 v2 v3 v4 v5 22).below hb2)
  have HB2 := Lib.hid (nextB HB1.out hb2)
  clear hb2 HA1 HB1
  obtain ⟨s1, _, a0, a1, a2, a3, a4, a5⟩ := HA2.out
  go_wp2_with fail
  refine (H3.out _).mono ?_; clear a0 a1 a2 a3 a4 a5 s1; rintro e w3 ⟨rfl, hb3⟩
  have HA3 := Lib.hid ((HA2.out.alloc _).below hb3)
  have HX3 := Lib.hid ((HX2.out.alloc _).below hb3)
  have HY3 := Lib.hid ((r6_new w2 v0 v1 v2 v3 v4 v5 22).below hb3)
  have HB3 := Lib.hid (nextB HB2.out hb3)
  clear hb3 HA2 HX2 HB2
  obtain ⟨s1, _, a0, a1, a2, a3, a4, a5⟩ := HA3.out
  go_wp2_with fail
  refine (H4.out _).mono ?_; clear a0 a1 a2 a3 a4 a5 s1; rintro e w4 ⟨rfl, hb4⟩
  have HX4 := Lib.hid (HX3.out.below hb4)
  have HY4 := Lib.hid (HY3.out.below hb4)
  have HB4 := Lib.hid (mthen HB3.out hb4)
  clear hb4 HA3 HX3 HY3 HB3
  go_wp2_with fail
  refine (answers_at _).mono ?_; rintro e w5 ⟨rfl, hb5⟩
  obtain ⟨_, _, x0, x1, x2, x3, x4, x5⟩ := HX4.out.below hb5
  obtain ⟨_, _, y0, y1, y2, y3, y4, y5⟩ := HY4.out.below hb5
  have HB5 := Lib.hid (mthen HB4.out hb5)
  clear hb5 HX4 HY4 HB4
  have hq := eq6_same
  go_wp2_with fail
  go_ret
  exact ⟨rfl, HB5.out⟩
end Go.Proofs.Ytlgjlnbdfpncmaa
