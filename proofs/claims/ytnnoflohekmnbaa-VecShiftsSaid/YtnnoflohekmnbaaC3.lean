/-
  vec.Bin over the translated program, at the ops that there are. Nothing is assumed.
-/
import Derived.Test.YtnnoflohekmnbaaProg
import Derived.WalkKit
import Derived.WalkSpells
import Derived.WalkLawsBesides
import Derived.LoopN
import Derived.IntWalk
import Derived.Lib.Hide
import Derived.Test.YtnnoflohekmnbaaC2
import Derived.Laws.BitsAllLaws
import Derived.Laws.Externs
import Derived.BigQuiet
import Derived.BigRegion
import Derived.Deep.QuietTactic
import Derived.Deep.RegionWith
import Derived.Deep.RegionHeld3
import Derived.StillTailTactics
import Derived.RegionTactic
import Derived.ChangeAlike
set_option linter.unusedVariables false
namespace Go.Proofs.Ytnnoflohekmnbaa
open Go.RowKit
set_option maxRecDepth 100000 in
set_option maxHeartbeats 1000000 in
theorem Bin_wand {w : World} {ad ad' : Addr} {c c' W V N K Y : Nat} (h : Vc w w.heap.size ad c W N) (h' : Vc w w.heap.size ad' c' V K) (hWV : W = V) (HC : Hid (∀ wx, Vc wx wx.heap.size ad c W N → Vc wx wx.heap.size ad' c' V K → ∀ g, wx.cell? ⟨g, 0, none⟩ = some (.func (.func 69) #[] #[]) → Calls Try.prog 92 #[.agg #[.int .i64 W, .slice (some ad) (lm W) c], .agg #[.int .i64 V, .slice (some ad') (lm V) c'], .pointer (some ⟨g, 0, none⟩)] wx (RetVec wx W Y))) :
    Calls Try.prog 24 #[.string ⟨#[97, 110, 100]⟩, .agg #[.int .i64 W, .slice (some ad) (lm W) c], .agg #[.int .i64 V, .slice (some ad') (lm V) c']] w (RetVE w W Y) := by
  have h1 := h.w1
  have h2 := h.w2
  have i1 := h'.w1
  have i2 := h'.w2
  have hF0 := Lib.hid (Fr3.first w (.int .i64 W) (.slice (some ad) (lm W) c) (.int .i64 V) (.slice (some ad') (lm V) c') (.int .i64 0) (.slice none 0 0) 24 24 24)
  have hV0 := Lib.hid (h.nx (Fr3.first w (.int .i64 W) (.slice (some ad) (lm W) c) (.int .i64 V) (.slice (some ad') (lm V) c') (.int .i64 0) (.slice none 0 0) 24 24 24).bel)
  have hU0 := Lib.hid (h'.nx (Fr3.first w (.int .i64 W) (.slice (some ad) (lm W) c) (.int .i64 V) (.slice (some ad') (lm V) c') (.int .i64 0) (.slice none 0 0) 24 24 24).bel)
  have d1 : ((W : Int) == (V : Int)) = true := by rw [beq_iff_eq]; omega
  have d2 : (W == V) = true := by rw [beq_iff_eq]; omega
  clear hWV
  generalize hk : lm W = k at *
  generalize hk' : lm V = k' at *
  have HK := Lib.hid hk
  have HK' := Lib.hid hk'
  clear h h' hk hk'
  go_enter Try.func24, Try.ntmps24
  go_wp2_with fail
  refine (binary_any _).mono ?_
  rintro e w1 ⟨r, v0, v1, v2, v3, v4, v5, v6, v7, v8, v9, rfl, hM, hE, hr, hb1⟩
  have hF1 := hF0.out.nx hb1
  have hV1 := hV0.out.nx hb1
  have hU1 := hU0.out.nx hb1
  obtain ⟨g, hg, hc⟩ := hE (v0, 92, 69) (by simp)
  simp only at hg hc
  subst hg
  have hlk := run_get 86 84 Try.underlying86 hM ⟨#[97, 110, 100]⟩ _ rfl
  simp only at hlk
  obtain ⟨⟨p1, p2⟩, ⟨p3, p4⟩, ⟨p5, p6, p7, p8⟩, pz⟩ := hF1.parts
  clear hb1 hM hE hr
  go_wp2_with fail
  refine (Right_k HK.out hV1).mono ?_
  rintro e w2 ⟨rfl, hb2⟩
  have hF2 := hF1.nx hb2
  have hV2 := hV1.nx hb2
  have hU2 := hU1.nx hb2
  have hc2 := (hb2.cell (World.block_lt_of_cell? w1 _ hc)).trans hc
  clear p1 p2 p3 p4 p5 p6 p7 p8 pz hlk hc hb2
  obtain ⟨⟨p1, p2⟩, ⟨p3, p4⟩, ⟨p5, p6, p7, p8⟩, pz⟩ := hF2.parts
  go_wp2_with fail
  refine (Right_k HK'.out hU2).mono ?_
  rintro e w3 ⟨rfl, hb3⟩
  have hF3 := hF2.nx hb3
  have hV3 := hV2.nx hb3
  have hU3 := hU2.nx hb3
  have hc3 := (hb3.cell (World.block_lt_of_cell? w2 _ hc2)).trans hc2
  clear p1 p2 p3 p4 p5 p6 p7 p8 pz hc2 hb3
  obtain ⟨⟨p1, p2⟩, ⟨p3, p4⟩, ⟨p5, p6, p7, p8⟩, pz⟩ := hF3.parts
  go_wp2_with fail
  refine (HC.out w3 hV3 hU3 g hc3).mono ?_
  rintro e w4 ⟨ad4, c4, rfl, hv4, hf4, hb4⟩
  have hF4 := hF3.nx hb4
  clear p1 p2 p3 p4 p5 p6 p7 p8 pz
  obtain ⟨⟨p1, p2⟩, ⟨p3, p4⟩, ⟨p5, p6, p7, p8⟩, pz⟩ := hF4.parts
  go_wp2
  refine bodyPost_ret (v := .tuple #[.agg #[.int .i64 (W : Int), .slice (some ad4) (lm W) c4], .int .i64 0]) (by simp [results, Try.results24, go_sem, *]) rfl ?_
  exact RetVE.mk (W := W) hv4 hF4.bel (by omega) (by have := hF3.sz; omega)
theorem Bin_and {w : World} {ad ad' : Addr} {c c' W N K : Nat} (h : Vc w w.heap.size ad c W N) (h' : Vc w w.heap.size ad' c' W K) :
    Calls Try.prog 24 #[.string ⟨#[97, 110, 100]⟩, .agg #[.int .i64 W, .slice (some ad) (lm W) c], .agg #[.int .i64 W, .slice (some ad') (lm W) c']] w (RetVE w W ((N &&& K) % 2 ^ W)) :=
  Bin_wand h h' rfl (fun wx hv hu g hg => ofTwo_and hv hu g hg)
set_option maxRecDepth 100000 in
set_option maxHeartbeats 1000000 in
theorem Bin_wor {w : World} {ad ad' : Addr} {c c' W V N K Y : Nat} (h : Vc w w.heap.size ad c W N) (h' : Vc w w.heap.size ad' c' V K) (hWV : W = V) (HC : Hid (∀ wx, Vc wx wx.heap.size ad c W N → Vc wx wx.heap.size ad' c' V K → ∀ g, wx.cell? ⟨g, 0, none⟩ = some (.func (.func 54) #[] #[]) → Calls Try.prog 92 #[.agg #[.int .i64 W, .slice (some ad) (lm W) c], .agg #[.int .i64 V, .slice (some ad') (lm V) c'], .pointer (some ⟨g, 0, none⟩)] wx (RetVec wx W Y))) :
    Calls Try.prog 24 #[.string ⟨#[111, 114]⟩, .agg #[.int .i64 W, .slice (some ad) (lm W) c], .agg #[.int .i64 V, .slice (some ad') (lm V) c']] w (RetVE w W Y) := by
  have h1 := h.w1
  have h2 := h.w2
  have i1 := h'.w1
  have i2 := h'.w2
  have hF0 := Lib.hid (Fr3.first w (.int .i64 W) (.slice (some ad) (lm W) c) (.int .i64 V) (.slice (some ad') (lm V) c') (.int .i64 0) (.slice none 0 0) 24 24 24)
  have hV0 := Lib.hid (h.nx (Fr3.first w (.int .i64 W) (.slice (some ad) (lm W) c) (.int .i64 V) (.slice (some ad') (lm V) c') (.int .i64 0) (.slice none 0 0) 24 24 24).bel)
  have hU0 := Lib.hid (h'.nx (Fr3.first w (.int .i64 W) (.slice (some ad) (lm W) c) (.int .i64 V) (.slice (some ad') (lm V) c') (.int .i64 0) (.slice none 0 0) 24 24 24).bel)
  have d1 : ((W : Int) == (V : Int)) = true := by rw [beq_iff_eq]; omega
  have d2 : (W == V) = true := by rw [beq_iff_eq]; omega
  clear hWV
  generalize hk : lm W = k at *
  generalize hk' : lm V = k' at *
  have HK := Lib.hid hk
  have HK' := Lib.hid hk'
  clear h h' hk hk'
  go_enter Try.func24, Try.ntmps24
  go_wp2_with fail
  refine (binary_any _).mono ?_
  rintro e w1 ⟨r, v0, v1, v2, v3, v4, v5, v6, v7, v8, v9, rfl, hM, hE, hr, hb1⟩
  have hF1 := hF0.out.nx hb1
  have hV1 := hV0.out.nx hb1
  have hU1 := hU0.out.nx hb1
  obtain ⟨g, hg, hc⟩ := hE (v1, 92, 54) (by simp)
  simp only at hg hc
  subst hg
  have hlk := run_get 86 84 Try.underlying86 hM ⟨#[111, 114]⟩ _ rfl
  simp only at hlk
  obtain ⟨⟨p1, p2⟩, ⟨p3, p4⟩, ⟨p5, p6, p7, p8⟩, pz⟩ := hF1.parts
  clear hb1 hM hE hr
  go_wp2_with fail
  refine (Right_k HK.out hV1).mono ?_
  rintro e w2 ⟨rfl, hb2⟩
  have hF2 := hF1.nx hb2
  have hV2 := hV1.nx hb2
  have hU2 := hU1.nx hb2
  have hc2 := (hb2.cell (World.block_lt_of_cell? w1 _ hc)).trans hc
  clear p1 p2 p3 p4 p5 p6 p7 p8 pz hlk hc hb2
  obtain ⟨⟨p1, p2⟩, ⟨p3, p4⟩, ⟨p5, p6, p7, p8⟩, pz⟩ := hF2.parts
  go_wp2_with fail
  refine (Right_k HK'.out hU2).mono ?_
  rintro e w3 ⟨rfl, hb3⟩
  have hF3 := hF2.nx hb3
  have hV3 := hV2.nx hb3
  have hU3 := hU2.nx hb3
  have hc3 := (hb3.cell (World.block_lt_of_cell? w2 _ hc2)).trans hc2
  clear p1 p2 p3 p4 p5 p6 p7 p8 pz hc2 hb3
  obtain ⟨⟨p1, p2⟩, ⟨p3, p4⟩, ⟨p5, p6, p7, p8⟩, pz⟩ := hF3.parts
  go_wp2_with fail
  refine (HC.out w3 hV3 hU3 g hc3).mono ?_
  rintro e w4 ⟨ad4, c4, rfl, hv4, hf4, hb4⟩
  have hF4 := hF3.nx hb4
  clear p1 p2 p3 p4 p5 p6 p7 p8 pz
  obtain ⟨⟨p1, p2⟩, ⟨p3, p4⟩, ⟨p5, p6, p7, p8⟩, pz⟩ := hF4.parts
  go_wp2
  refine bodyPost_ret (v := .tuple #[.agg #[.int .i64 (W : Int), .slice (some ad4) (lm W) c4], .int .i64 0]) (by simp [results, Try.results24, go_sem, *]) rfl ?_
  exact RetVE.mk (W := W) hv4 hF4.bel (by omega) (by have := hF3.sz; omega)
theorem Bin_or {w : World} {ad ad' : Addr} {c c' W N K : Nat} (h : Vc w w.heap.size ad c W N) (h' : Vc w w.heap.size ad' c' W K) :
    Calls Try.prog 24 #[.string ⟨#[111, 114]⟩, .agg #[.int .i64 W, .slice (some ad) (lm W) c], .agg #[.int .i64 W, .slice (some ad') (lm W) c']] w (RetVE w W ((N ||| K) % 2 ^ W)) :=
  Bin_wor h h' rfl (fun wx hv hu g hg => ofTwo_or hv hu g hg)
set_option maxRecDepth 100000 in
set_option maxHeartbeats 1000000 in
theorem Bin_wxor {w : World} {ad ad' : Addr} {c c' W V N K Y : Nat} (h : Vc w w.heap.size ad c W N) (h' : Vc w w.heap.size ad' c' V K) (hWV : W = V) (HC : Hid (∀ wx, Vc wx wx.heap.size ad c W N → Vc wx wx.heap.size ad' c' V K → ∀ g, wx.cell? ⟨g, 0, none⟩ = some (.func (.func 70) #[] #[]) → Calls Try.prog 92 #[.agg #[.int .i64 W, .slice (some ad) (lm W) c], .agg #[.int .i64 V, .slice (some ad') (lm V) c'], .pointer (some ⟨g, 0, none⟩)] wx (RetVec wx W Y))) :
    Calls Try.prog 24 #[.string ⟨#[120, 111, 114]⟩, .agg #[.int .i64 W, .slice (some ad) (lm W) c], .agg #[.int .i64 V, .slice (some ad') (lm V) c']] w (RetVE w W Y) := by
  have h1 := h.w1
  have h2 := h.w2
  have i1 := h'.w1
  have i2 := h'.w2
  have hF0 := Lib.hid (Fr3.first w (.int .i64 W) (.slice (some ad) (lm W) c) (.int .i64 V) (.slice (some ad') (lm V) c') (.int .i64 0) (.slice none 0 0) 24 24 24)
  have hV0 := Lib.hid (h.nx (Fr3.first w (.int .i64 W) (.slice (some ad) (lm W) c) (.int .i64 V) (.slice (some ad') (lm V) c') (.int .i64 0) (.slice none 0 0) 24 24 24).bel)
  have hU0 := Lib.hid (h'.nx (Fr3.first w (.int .i64 W) (.slice (some ad) (lm W) c) (.int .i64 V) (.slice (some ad') (lm V) c') (.int .i64 0) (.slice none 0 0) 24 24 24).bel)
  have d1 : ((W : Int) == (V : Int)) = true := by rw [beq_iff_eq]; omega
  have d2 : (W == V) = true := by rw [beq_iff_eq]; omega
  clear hWV
  generalize hk : lm W = k at *
  generalize hk' : lm V = k' at *
  have HK := Lib.hid hk
  have HK' := Lib.hid hk'
  clear h h' hk hk'
  go_enter Try.func24, Try.ntmps24
  go_wp2_with fail
  refine (binary_any _).mono ?_
  rintro e w1 ⟨r, v0, v1, v2, v3, v4, v5, v6, v7, v8, v9, rfl, hM, hE, hr, hb1⟩
  have hF1 := hF0.out.nx hb1
  have hV1 := hV0.out.nx hb1
  have hU1 := hU0.out.nx hb1
  obtain ⟨g, hg, hc⟩ := hE (v2, 92, 70) (by simp)
  simp only at hg hc
  subst hg
  have hlk := run_get 86 84 Try.underlying86 hM ⟨#[120, 111, 114]⟩ _ rfl
  simp only at hlk
  obtain ⟨⟨p1, p2⟩, ⟨p3, p4⟩, ⟨p5, p6, p7, p8⟩, pz⟩ := hF1.parts
  clear hb1 hM hE hr
  go_wp2_with fail
  refine (Right_k HK.out hV1).mono ?_
  rintro e w2 ⟨rfl, hb2⟩
  have hF2 := hF1.nx hb2
  have hV2 := hV1.nx hb2
  have hU2 := hU1.nx hb2
  have hc2 := (hb2.cell (World.block_lt_of_cell? w1 _ hc)).trans hc
  clear p1 p2 p3 p4 p5 p6 p7 p8 pz hlk hc hb2
  obtain ⟨⟨p1, p2⟩, ⟨p3, p4⟩, ⟨p5, p6, p7, p8⟩, pz⟩ := hF2.parts
  go_wp2_with fail
  refine (Right_k HK'.out hU2).mono ?_
  rintro e w3 ⟨rfl, hb3⟩
  have hF3 := hF2.nx hb3
  have hV3 := hV2.nx hb3
  have hU3 := hU2.nx hb3
  have hc3 := (hb3.cell (World.block_lt_of_cell? w2 _ hc2)).trans hc2
  clear p1 p2 p3 p4 p5 p6 p7 p8 pz hc2 hb3
  obtain ⟨⟨p1, p2⟩, ⟨p3, p4⟩, ⟨p5, p6, p7, p8⟩, pz⟩ := hF3.parts
  go_wp2_with fail
  refine (HC.out w3 hV3 hU3 g hc3).mono ?_
  rintro e w4 ⟨ad4, c4, rfl, hv4, hf4, hb4⟩
  have hF4 := hF3.nx hb4
  clear p1 p2 p3 p4 p5 p6 p7 p8 pz
  obtain ⟨⟨p1, p2⟩, ⟨p3, p4⟩, ⟨p5, p6, p7, p8⟩, pz⟩ := hF4.parts
  go_wp2
  refine bodyPost_ret (v := .tuple #[.agg #[.int .i64 (W : Int), .slice (some ad4) (lm W) c4], .int .i64 0]) (by simp [results, Try.results24, go_sem, *]) rfl ?_
  exact RetVE.mk (W := W) hv4 hF4.bel (by omega) (by have := hF3.sz; omega)
theorem Bin_xor {w : World} {ad ad' : Addr} {c c' W N K : Nat} (h : Vc w w.heap.size ad c W N) (h' : Vc w w.heap.size ad' c' W K) :
    Calls Try.prog 24 #[.string ⟨#[120, 111, 114]⟩, .agg #[.int .i64 W, .slice (some ad) (lm W) c], .agg #[.int .i64 W, .slice (some ad') (lm W) c']] w (RetVE w W ((N ^^^ K) % 2 ^ W)) :=
  Bin_wxor h h' rfl (fun wx hv hu g hg => ofTwo_xor hv hu g hg)
set_option maxRecDepth 100000 in
set_option maxHeartbeats 1000000 in
theorem Bin_wadd {w : World} {ad ad' : Addr} {c c' W V N K Y : Nat} (h : Vc w w.heap.size ad c W N) (h' : Vc w w.heap.size ad' c' V K) (hWV : W = V) (HC : Hid (∀ wx, Vc wx wx.heap.size ad c W N → Vc wx wx.heap.size ad' c' V K → ∀ g, wx.cell? ⟨g, 0, none⟩ = some (.func (.func 59) #[] #[]) → Calls Try.prog 92 #[.agg #[.int .i64 W, .slice (some ad) (lm W) c], .agg #[.int .i64 V, .slice (some ad') (lm V) c'], .pointer (some ⟨g, 0, none⟩)] wx (RetVec wx W Y))) :
    Calls Try.prog 24 #[.string ⟨#[97, 100, 100]⟩, .agg #[.int .i64 W, .slice (some ad) (lm W) c], .agg #[.int .i64 V, .slice (some ad') (lm V) c']] w (RetVE w W Y) := by
  have h1 := h.w1
  have h2 := h.w2
  have i1 := h'.w1
  have i2 := h'.w2
  have hF0 := Lib.hid (Fr3.first w (.int .i64 W) (.slice (some ad) (lm W) c) (.int .i64 V) (.slice (some ad') (lm V) c') (.int .i64 0) (.slice none 0 0) 24 24 24)
  have hV0 := Lib.hid (h.nx (Fr3.first w (.int .i64 W) (.slice (some ad) (lm W) c) (.int .i64 V) (.slice (some ad') (lm V) c') (.int .i64 0) (.slice none 0 0) 24 24 24).bel)
  have hU0 := Lib.hid (h'.nx (Fr3.first w (.int .i64 W) (.slice (some ad) (lm W) c) (.int .i64 V) (.slice (some ad') (lm V) c') (.int .i64 0) (.slice none 0 0) 24 24 24).bel)
  have d1 : ((W : Int) == (V : Int)) = true := by rw [beq_iff_eq]; omega
  have d2 : (W == V) = true := by rw [beq_iff_eq]; omega
  clear hWV
  generalize hk : lm W = k at *
  generalize hk' : lm V = k' at *
  have HK := Lib.hid hk
  have HK' := Lib.hid hk'
  clear h h' hk hk'
  go_enter Try.func24, Try.ntmps24
  go_wp2_with fail
  refine (binary_any _).mono ?_
  rintro e w1 ⟨r, v0, v1, v2, v3, v4, v5, v6, v7, v8, v9, rfl, hM, hE, hr, hb1⟩
  have hF1 := hF0.out.nx hb1
  have hV1 := hV0.out.nx hb1
  have hU1 := hU0.out.nx hb1
  obtain ⟨g, hg, hc⟩ := hE (v3, 92, 59) (by simp)
  simp only at hg hc
  subst hg
  have hlk := run_get 86 84 Try.underlying86 hM ⟨#[97, 100, 100]⟩ _ rfl
  simp only at hlk
  obtain ⟨⟨p1, p2⟩, ⟨p3, p4⟩, ⟨p5, p6, p7, p8⟩, pz⟩ := hF1.parts
  clear hb1 hM hE hr
  go_wp2_with fail
  refine (Right_k HK.out hV1).mono ?_
  rintro e w2 ⟨rfl, hb2⟩
  have hF2 := hF1.nx hb2
  have hV2 := hV1.nx hb2
  have hU2 := hU1.nx hb2
  have hc2 := (hb2.cell (World.block_lt_of_cell? w1 _ hc)).trans hc
  clear p1 p2 p3 p4 p5 p6 p7 p8 pz hlk hc hb2
  obtain ⟨⟨p1, p2⟩, ⟨p3, p4⟩, ⟨p5, p6, p7, p8⟩, pz⟩ := hF2.parts
  go_wp2_with fail
  refine (Right_k HK'.out hU2).mono ?_
  rintro e w3 ⟨rfl, hb3⟩
  have hF3 := hF2.nx hb3
  have hV3 := hV2.nx hb3
  have hU3 := hU2.nx hb3
  have hc3 := (hb3.cell (World.block_lt_of_cell? w2 _ hc2)).trans hc2
  clear p1 p2 p3 p4 p5 p6 p7 p8 pz hc2 hb3
  obtain ⟨⟨p1, p2⟩, ⟨p3, p4⟩, ⟨p5, p6, p7, p8⟩, pz⟩ := hF3.parts
  go_wp2_with fail
  refine (HC.out w3 hV3 hU3 g hc3).mono ?_
  rintro e w4 ⟨ad4, c4, rfl, hv4, hf4, hb4⟩
  have hF4 := hF3.nx hb4
  clear p1 p2 p3 p4 p5 p6 p7 p8 pz
  obtain ⟨⟨p1, p2⟩, ⟨p3, p4⟩, ⟨p5, p6, p7, p8⟩, pz⟩ := hF4.parts
  go_wp2
  refine bodyPost_ret (v := .tuple #[.agg #[.int .i64 (W : Int), .slice (some ad4) (lm W) c4], .int .i64 0]) (by simp [results, Try.results24, go_sem, *]) rfl ?_
  exact RetVE.mk (W := W) hv4 hF4.bel (by omega) (by have := hF3.sz; omega)
theorem Bin_add {w : World} {ad ad' : Addr} {c c' W N K : Nat} (h : Vc w w.heap.size ad c W N) (h' : Vc w w.heap.size ad' c' W K) :
    Calls Try.prog 24 #[.string ⟨#[97, 100, 100]⟩, .agg #[.int .i64 W, .slice (some ad) (lm W) c], .agg #[.int .i64 W, .slice (some ad') (lm W) c']] w (RetVE w W ((N + K) % 2 ^ 128 % 2 ^ W)) :=
  Bin_wadd h h' rfl (fun wx hv hu g hg => ofTwo_add hv hu g hg)
set_option maxRecDepth 100000 in
set_option maxHeartbeats 1000000 in
theorem Bin_wsub {w : World} {ad ad' : Addr} {c c' W V N K Y : Nat} (h : Vc w w.heap.size ad c W N) (h' : Vc w w.heap.size ad' c' V K) (hWV : W = V) (HC : Hid (∀ wx, Vc wx wx.heap.size ad c W N → Vc wx wx.heap.size ad' c' V K → ∀ g, wx.cell? ⟨g, 0, none⟩ = some (.func (.func 61) #[] #[]) → Calls Try.prog 92 #[.agg #[.int .i64 W, .slice (some ad) (lm W) c], .agg #[.int .i64 V, .slice (some ad') (lm V) c'], .pointer (some ⟨g, 0, none⟩)] wx (RetVec wx W Y))) :
    Calls Try.prog 24 #[.string ⟨#[115, 117, 98]⟩, .agg #[.int .i64 W, .slice (some ad) (lm W) c], .agg #[.int .i64 V, .slice (some ad') (lm V) c']] w (RetVE w W Y) := by
  have h1 := h.w1
  have h2 := h.w2
  have i1 := h'.w1
  have i2 := h'.w2
  have hF0 := Lib.hid (Fr3.first w (.int .i64 W) (.slice (some ad) (lm W) c) (.int .i64 V) (.slice (some ad') (lm V) c') (.int .i64 0) (.slice none 0 0) 24 24 24)
  have hV0 := Lib.hid (h.nx (Fr3.first w (.int .i64 W) (.slice (some ad) (lm W) c) (.int .i64 V) (.slice (some ad') (lm V) c') (.int .i64 0) (.slice none 0 0) 24 24 24).bel)
  have hU0 := Lib.hid (h'.nx (Fr3.first w (.int .i64 W) (.slice (some ad) (lm W) c) (.int .i64 V) (.slice (some ad') (lm V) c') (.int .i64 0) (.slice none 0 0) 24 24 24).bel)
  have d1 : ((W : Int) == (V : Int)) = true := by rw [beq_iff_eq]; omega
  have d2 : (W == V) = true := by rw [beq_iff_eq]; omega
  clear hWV
  generalize hk : lm W = k at *
  generalize hk' : lm V = k' at *
  have HK := Lib.hid hk
  have HK' := Lib.hid hk'
  clear h h' hk hk'
  go_enter Try.func24, Try.ntmps24
  go_wp2_with fail
  refine (binary_any _).mono ?_
  rintro e w1 ⟨r, v0, v1, v2, v3, v4, v5, v6, v7, v8, v9, rfl, hM, hE, hr, hb1⟩
  have hF1 := hF0.out.nx hb1
  have hV1 := hV0.out.nx hb1
  have hU1 := hU0.out.nx hb1
  obtain ⟨g, hg, hc⟩ := hE (v4, 92, 61) (by simp)
  simp only at hg hc
  subst hg
  have hlk := run_get 86 84 Try.underlying86 hM ⟨#[115, 117, 98]⟩ _ rfl
  simp only at hlk
  obtain ⟨⟨p1, p2⟩, ⟨p3, p4⟩, ⟨p5, p6, p7, p8⟩, pz⟩ := hF1.parts
  clear hb1 hM hE hr
  go_wp2_with fail
  refine (Right_k HK.out hV1).mono ?_
  rintro e w2 ⟨rfl, hb2⟩
  have hF2 := hF1.nx hb2
  have hV2 := hV1.nx hb2
  have hU2 := hU1.nx hb2
  have hc2 := (hb2.cell (World.block_lt_of_cell? w1 _ hc)).trans hc
  clear p1 p2 p3 p4 p5 p6 p7 p8 pz hlk hc hb2
  obtain ⟨⟨p1, p2⟩, ⟨p3, p4⟩, ⟨p5, p6, p7, p8⟩, pz⟩ := hF2.parts
  go_wp2_with fail
  refine (Right_k HK'.out hU2).mono ?_
  rintro e w3 ⟨rfl, hb3⟩
  have hF3 := hF2.nx hb3
  have hV3 := hV2.nx hb3
  have hU3 := hU2.nx hb3
  have hc3 := (hb3.cell (World.block_lt_of_cell? w2 _ hc2)).trans hc2
  clear p1 p2 p3 p4 p5 p6 p7 p8 pz hc2 hb3
  obtain ⟨⟨p1, p2⟩, ⟨p3, p4⟩, ⟨p5, p6, p7, p8⟩, pz⟩ := hF3.parts
  go_wp2_with fail
  refine (HC.out w3 hV3 hU3 g hc3).mono ?_
  rintro e w4 ⟨ad4, c4, rfl, hv4, hf4, hb4⟩
  have hF4 := hF3.nx hb4
  clear p1 p2 p3 p4 p5 p6 p7 p8 pz
  obtain ⟨⟨p1, p2⟩, ⟨p3, p4⟩, ⟨p5, p6, p7, p8⟩, pz⟩ := hF4.parts
  go_wp2
  refine bodyPost_ret (v := .tuple #[.agg #[.int .i64 (W : Int), .slice (some ad4) (lm W) c4], .int .i64 0]) (by simp [results, Try.results24, go_sem, *]) rfl ?_
  exact RetVE.mk (W := W) hv4 hF4.bel (by omega) (by have := hF3.sz; omega)
theorem Bin_sub {w : World} {ad ad' : Addr} {c c' W N K : Nat} (h : Vc w w.heap.size ad c W N) (h' : Vc w w.heap.size ad' c' W K) :
    Calls Try.prog 24 #[.string ⟨#[115, 117, 98]⟩, .agg #[.int .i64 W, .slice (some ad) (lm W) c], .agg #[.int .i64 W, .slice (some ad') (lm W) c']] w (RetVE w W (sb N K % 2 ^ W)) :=
  Bin_wsub h h' rfl (fun wx hv hu g hg => ofTwo_sub hv hu g hg)
set_option maxRecDepth 100000 in
set_option maxHeartbeats 1000000 in
theorem Bin_wmul {w : World} {ad ad' : Addr} {c c' W V N K Y : Nat} (h : Vc w w.heap.size ad c W N) (h' : Vc w w.heap.size ad' c' V K) (hWV : W = V) (HC : Hid (∀ wx, Vc wx wx.heap.size ad c W N → Vc wx wx.heap.size ad' c' V K → ∀ g, wx.cell? ⟨g, 0, none⟩ = some (.func (.func 71) #[] #[]) → Calls Try.prog 92 #[.agg #[.int .i64 W, .slice (some ad) (lm W) c], .agg #[.int .i64 V, .slice (some ad') (lm V) c'], .pointer (some ⟨g, 0, none⟩)] wx (RetVec wx W Y))) :
    Calls Try.prog 24 #[.string ⟨#[109, 117, 108]⟩, .agg #[.int .i64 W, .slice (some ad) (lm W) c], .agg #[.int .i64 V, .slice (some ad') (lm V) c']] w (RetVE w W Y) := by
  have h1 := h.w1
  have h2 := h.w2
  have i1 := h'.w1
  have i2 := h'.w2
  have hF0 := Lib.hid (Fr3.first w (.int .i64 W) (.slice (some ad) (lm W) c) (.int .i64 V) (.slice (some ad') (lm V) c') (.int .i64 0) (.slice none 0 0) 24 24 24)
  have hV0 := Lib.hid (h.nx (Fr3.first w (.int .i64 W) (.slice (some ad) (lm W) c) (.int .i64 V) (.slice (some ad') (lm V) c') (.int .i64 0) (.slice none 0 0) 24 24 24).bel)
  have hU0 := Lib.hid (h'.nx (Fr3.first w (.int .i64 W) (.slice (some ad) (lm W) c) (.int .i64 V) (.slice (some ad') (lm V) c') (.int .i64 0) (.slice none 0 0) 24 24 24).bel)
  have d1 : ((W : Int) == (V : Int)) = true := by rw [beq_iff_eq]; omega
  have d2 : (W == V) = true := by rw [beq_iff_eq]; omega
  clear hWV
  generalize hk : lm W = k at *
  generalize hk' : lm V = k' at *
  have HK := Lib.hid hk
  have HK' := Lib.hid hk'
  clear h h' hk hk'
  go_enter Try.func24, Try.ntmps24
  go_wp2_with fail
  refine (binary_any _).mono ?_
  rintro e w1 ⟨r, v0, v1, v2, v3, v4, v5, v6, v7, v8, v9, rfl, hM, hE, hr, hb1⟩
  have hF1 := hF0.out.nx hb1
  have hV1 := hV0.out.nx hb1
  have hU1 := hU0.out.nx hb1
  obtain ⟨g, hg, hc⟩ := hE (v5, 92, 71) (by simp)
  simp only at hg hc
  subst hg
  have hlk := run_get 86 84 Try.underlying86 hM ⟨#[109, 117, 108]⟩ _ rfl
  simp only at hlk
  obtain ⟨⟨p1, p2⟩, ⟨p3, p4⟩, ⟨p5, p6, p7, p8⟩, pz⟩ := hF1.parts
  clear hb1 hM hE hr
  go_wp2_with fail
  refine (Right_k HK.out hV1).mono ?_
  rintro e w2 ⟨rfl, hb2⟩
  have hF2 := hF1.nx hb2
  have hV2 := hV1.nx hb2
  have hU2 := hU1.nx hb2
  have hc2 := (hb2.cell (World.block_lt_of_cell? w1 _ hc)).trans hc
  clear p1 p2 p3 p4 p5 p6 p7 p8 pz hlk hc hb2
  obtain ⟨⟨p1, p2⟩, ⟨p3, p4⟩, ⟨p5, p6, p7, p8⟩, pz⟩ := hF2.parts
  go_wp2_with fail
  refine (Right_k HK'.out hU2).mono ?_
  rintro e w3 ⟨rfl, hb3⟩
  have hF3 := hF2.nx hb3
  have hV3 := hV2.nx hb3
  have hU3 := hU2.nx hb3
  have hc3 := (hb3.cell (World.block_lt_of_cell? w2 _ hc2)).trans hc2
  clear p1 p2 p3 p4 p5 p6 p7 p8 pz hc2 hb3
  obtain ⟨⟨p1, p2⟩, ⟨p3, p4⟩, ⟨p5, p6, p7, p8⟩, pz⟩ := hF3.parts
  go_wp2_with fail
  refine (HC.out w3 hV3 hU3 g hc3).mono ?_
  rintro e w4 ⟨ad4, c4, rfl, hv4, hf4, hb4⟩
  have hF4 := hF3.nx hb4
  clear p1 p2 p3 p4 p5 p6 p7 p8 pz
  obtain ⟨⟨p1, p2⟩, ⟨p3, p4⟩, ⟨p5, p6, p7, p8⟩, pz⟩ := hF4.parts
  go_wp2
  refine bodyPost_ret (v := .tuple #[.agg #[.int .i64 (W : Int), .slice (some ad4) (lm W) c4], .int .i64 0]) (by simp [results, Try.results24, go_sem, *]) rfl ?_
  exact RetVE.mk (W := W) hv4 hF4.bel (by omega) (by have := hF3.sz; omega)
theorem Bin_mul {w : World} {ad ad' : Addr} {c c' W N K : Nat} (h : Vc w w.heap.size ad c W N) (h' : Vc w w.heap.size ad' c' W K) :
    Calls Try.prog 24 #[.string ⟨#[109, 117, 108]⟩, .agg #[.int .i64 W, .slice (some ad) (lm W) c], .agg #[.int .i64 W, .slice (some ad') (lm W) c']] w (RetVE w W (N * K % 2 ^ 128 % 2 ^ W)) :=
  Bin_wmul h h' rfl (fun wx hv hu g hg => ofTwo_mul hv hu g hg)
set_option maxRecDepth 100000 in
set_option maxHeartbeats 1000000 in
theorem Bin_wudiv {w : World} {ad ad' : Addr} {c c' W V N K Y : Nat} (h : Vc w w.heap.size ad c W N) (h' : Vc w w.heap.size ad' c' V K) (hWV : W = V) (HC : Hid (∀ wx, Vc wx wx.heap.size ad c W N → Vc wx wx.heap.size ad' c' V K → ∀ g, wx.cell? ⟨g, 0, none⟩ = some (.func (.func 72) #[] #[]) → Calls Try.prog 92 #[.agg #[.int .i64 W, .slice (some ad) (lm W) c], .agg #[.int .i64 V, .slice (some ad') (lm V) c'], .pointer (some ⟨g, 0, none⟩)] wx (RetVec wx W Y))) :
    Calls Try.prog 24 #[.string ⟨#[117, 100, 105, 118]⟩, .agg #[.int .i64 W, .slice (some ad) (lm W) c], .agg #[.int .i64 V, .slice (some ad') (lm V) c']] w (RetVE w W Y) := by
  have h1 := h.w1
  have h2 := h.w2
  have i1 := h'.w1
  have i2 := h'.w2
  have hF0 := Lib.hid (Fr3.first w (.int .i64 W) (.slice (some ad) (lm W) c) (.int .i64 V) (.slice (some ad') (lm V) c') (.int .i64 0) (.slice none 0 0) 24 24 24)
  have hV0 := Lib.hid (h.nx (Fr3.first w (.int .i64 W) (.slice (some ad) (lm W) c) (.int .i64 V) (.slice (some ad') (lm V) c') (.int .i64 0) (.slice none 0 0) 24 24 24).bel)
  have hU0 := Lib.hid (h'.nx (Fr3.first w (.int .i64 W) (.slice (some ad) (lm W) c) (.int .i64 V) (.slice (some ad') (lm V) c') (.int .i64 0) (.slice none 0 0) 24 24 24).bel)
  have d1 : ((W : Int) == (V : Int)) = true := by rw [beq_iff_eq]; omega
  have d2 : (W == V) = true := by rw [beq_iff_eq]; omega
  clear hWV
  generalize hk : lm W = k at *
  generalize hk' : lm V = k' at *
  have HK := Lib.hid hk
  have HK' := Lib.hid hk'
  clear h h' hk hk'
  go_enter Try.func24, Try.ntmps24
  go_wp2_with fail
  refine (binary_any _).mono ?_
  rintro e w1 ⟨r, v0, v1, v2, v3, v4, v5, v6, v7, v8, v9, rfl, hM, hE, hr, hb1⟩
  have hF1 := hF0.out.nx hb1
  have hV1 := hV0.out.nx hb1
  have hU1 := hU0.out.nx hb1
  obtain ⟨g, hg, hc⟩ := hE (v6, 92, 72) (by simp)
  simp only at hg hc
  subst hg
  have hlk := run_get 86 84 Try.underlying86 hM ⟨#[117, 100, 105, 118]⟩ _ rfl
  simp only at hlk
  obtain ⟨⟨p1, p2⟩, ⟨p3, p4⟩, ⟨p5, p6, p7, p8⟩, pz⟩ := hF1.parts
  clear hb1 hM hE hr
  go_wp2_with fail
  refine (Right_k HK.out hV1).mono ?_
  rintro e w2 ⟨rfl, hb2⟩
  have hF2 := hF1.nx hb2
  have hV2 := hV1.nx hb2
  have hU2 := hU1.nx hb2
  have hc2 := (hb2.cell (World.block_lt_of_cell? w1 _ hc)).trans hc
  clear p1 p2 p3 p4 p5 p6 p7 p8 pz hlk hc hb2
  obtain ⟨⟨p1, p2⟩, ⟨p3, p4⟩, ⟨p5, p6, p7, p8⟩, pz⟩ := hF2.parts
  go_wp2_with fail
  refine (Right_k HK'.out hU2).mono ?_
  rintro e w3 ⟨rfl, hb3⟩
  have hF3 := hF2.nx hb3
  have hV3 := hV2.nx hb3
  have hU3 := hU2.nx hb3
  have hc3 := (hb3.cell (World.block_lt_of_cell? w2 _ hc2)).trans hc2
  clear p1 p2 p3 p4 p5 p6 p7 p8 pz hc2 hb3
  obtain ⟨⟨p1, p2⟩, ⟨p3, p4⟩, ⟨p5, p6, p7, p8⟩, pz⟩ := hF3.parts
  go_wp2_with fail
  refine (HC.out w3 hV3 hU3 g hc3).mono ?_
  rintro e w4 ⟨ad4, c4, rfl, hv4, hf4, hb4⟩
  have hF4 := hF3.nx hb4
  clear p1 p2 p3 p4 p5 p6 p7 p8 pz
  obtain ⟨⟨p1, p2⟩, ⟨p3, p4⟩, ⟨p5, p6, p7, p8⟩, pz⟩ := hF4.parts
  go_wp2
  refine bodyPost_ret (v := .tuple #[.agg #[.int .i64 (W : Int), .slice (some ad4) (lm W) c4], .int .i64 0]) (by simp [results, Try.results24, go_sem, *]) rfl ?_
  exact RetVE.mk (W := W) hv4 hF4.bel (by omega) (by have := hF3.sz; omega)
theorem Bin_udiv {w : World} {ad ad' : Addr} {c c' W N K : Nat} (h : Vc w w.heap.size ad c W N) (h' : Vc w w.heap.size ad' c' W K) :
    Calls Try.prog 24 #[.string ⟨#[117, 100, 105, 118]⟩, .agg #[.int .i64 W, .slice (some ad) (lm W) c], .agg #[.int .i64 W, .slice (some ad') (lm W) c']] w (RetVE w W ((dv N K 128).1 % 2 ^ W)) :=
  Bin_wudiv h h' rfl (fun wx hv hu g hg => ofTwo_udiv hv hu g hg)
set_option maxRecDepth 100000 in
set_option maxHeartbeats 1000000 in
theorem Bin_wurem {w : World} {ad ad' : Addr} {c c' W V N K Y : Nat} (h : Vc w w.heap.size ad c W N) (h' : Vc w w.heap.size ad' c' V K) (hWV : W = V) (HC : Hid (∀ wx, Vc wx wx.heap.size ad c W N → Vc wx wx.heap.size ad' c' V K → ∀ g, wx.cell? ⟨g, 0, none⟩ = some (.func (.func 73) #[] #[]) → Calls Try.prog 92 #[.agg #[.int .i64 W, .slice (some ad) (lm W) c], .agg #[.int .i64 V, .slice (some ad') (lm V) c'], .pointer (some ⟨g, 0, none⟩)] wx (RetVec wx W Y))) :
    Calls Try.prog 24 #[.string ⟨#[117, 114, 101, 109]⟩, .agg #[.int .i64 W, .slice (some ad) (lm W) c], .agg #[.int .i64 V, .slice (some ad') (lm V) c']] w (RetVE w W Y) := by
  have h1 := h.w1
  have h2 := h.w2
  have i1 := h'.w1
  have i2 := h'.w2
  have hF0 := Lib.hid (Fr3.first w (.int .i64 W) (.slice (some ad) (lm W) c) (.int .i64 V) (.slice (some ad') (lm V) c') (.int .i64 0) (.slice none 0 0) 24 24 24)
  have hV0 := Lib.hid (h.nx (Fr3.first w (.int .i64 W) (.slice (some ad) (lm W) c) (.int .i64 V) (.slice (some ad') (lm V) c') (.int .i64 0) (.slice none 0 0) 24 24 24).bel)
  have hU0 := Lib.hid (h'.nx (Fr3.first w (.int .i64 W) (.slice (some ad) (lm W) c) (.int .i64 V) (.slice (some ad') (lm V) c') (.int .i64 0) (.slice none 0 0) 24 24 24).bel)
  have d1 : ((W : Int) == (V : Int)) = true := by rw [beq_iff_eq]; omega
  have d2 : (W == V) = true := by rw [beq_iff_eq]; omega
  clear hWV
  generalize hk : lm W = k at *
  generalize hk' : lm V = k' at *
  have HK := Lib.hid hk
  have HK' := Lib.hid hk'
  clear h h' hk hk'
  go_enter Try.func24, Try.ntmps24
  go_wp2_with fail
  refine (binary_any _).mono ?_
  rintro e w1 ⟨r, v0, v1, v2, v3, v4, v5, v6, v7, v8, v9, rfl, hM, hE, hr, hb1⟩
  have hF1 := hF0.out.nx hb1
  have hV1 := hV0.out.nx hb1
  have hU1 := hU0.out.nx hb1
  obtain ⟨g, hg, hc⟩ := hE (v7, 92, 73) (by simp)
  simp only at hg hc
  subst hg
  have hlk := run_get 86 84 Try.underlying86 hM ⟨#[117, 114, 101, 109]⟩ _ rfl
  simp only at hlk
  obtain ⟨⟨p1, p2⟩, ⟨p3, p4⟩, ⟨p5, p6, p7, p8⟩, pz⟩ := hF1.parts
  clear hb1 hM hE hr
  go_wp2_with fail
  refine (Right_k HK.out hV1).mono ?_
  rintro e w2 ⟨rfl, hb2⟩
  have hF2 := hF1.nx hb2
  have hV2 := hV1.nx hb2
  have hU2 := hU1.nx hb2
  have hc2 := (hb2.cell (World.block_lt_of_cell? w1 _ hc)).trans hc
  clear p1 p2 p3 p4 p5 p6 p7 p8 pz hlk hc hb2
  obtain ⟨⟨p1, p2⟩, ⟨p3, p4⟩, ⟨p5, p6, p7, p8⟩, pz⟩ := hF2.parts
  go_wp2_with fail
  refine (Right_k HK'.out hU2).mono ?_
  rintro e w3 ⟨rfl, hb3⟩
  have hF3 := hF2.nx hb3
  have hV3 := hV2.nx hb3
  have hU3 := hU2.nx hb3
  have hc3 := (hb3.cell (World.block_lt_of_cell? w2 _ hc2)).trans hc2
  clear p1 p2 p3 p4 p5 p6 p7 p8 pz hc2 hb3
  obtain ⟨⟨p1, p2⟩, ⟨p3, p4⟩, ⟨p5, p6, p7, p8⟩, pz⟩ := hF3.parts
  go_wp2_with fail
  refine (HC.out w3 hV3 hU3 g hc3).mono ?_
  rintro e w4 ⟨ad4, c4, rfl, hv4, hf4, hb4⟩
  have hF4 := hF3.nx hb4
  clear p1 p2 p3 p4 p5 p6 p7 p8 pz
  obtain ⟨⟨p1, p2⟩, ⟨p3, p4⟩, ⟨p5, p6, p7, p8⟩, pz⟩ := hF4.parts
  go_wp2
  refine bodyPost_ret (v := .tuple #[.agg #[.int .i64 (W : Int), .slice (some ad4) (lm W) c4], .int .i64 0]) (by simp [results, Try.results24, go_sem, *]) rfl ?_
  exact RetVE.mk (W := W) hv4 hF4.bel (by omega) (by have := hF3.sz; omega)
theorem Bin_urem {w : World} {ad ad' : Addr} {c c' W N K : Nat} (h : Vc w w.heap.size ad c W N) (h' : Vc w w.heap.size ad' c' W K) :
    Calls Try.prog 24 #[.string ⟨#[117, 114, 101, 109]⟩, .agg #[.int .i64 W, .slice (some ad) (lm W) c], .agg #[.int .i64 W, .slice (some ad') (lm W) c']] w (RetVE w W ((dv N K 128).2 % 2 ^ W)) :=
  Bin_wurem h h' rfl (fun wx hv hu g hg => ofTwo_urem hv hu g hg)
set_option maxRecDepth 100000 in
set_option maxHeartbeats 1000000 in
theorem Bin_wsll {w : World} {ad ad' : Addr} {c c' W V N K Y : Nat} (h : Vc w w.heap.size ad c W N) (h' : Vc w w.heap.size ad' c' V K) (hWV : W = V) (HC : Hid (∀ wx, Vc wx wx.heap.size ad c W N → Vc wx wx.heap.size ad' c' V K → ∀ g, wx.cell? ⟨g, 0, none⟩ = some (.func (.func 75) #[] #[]) → Calls Try.prog 95 #[.agg #[.int .i64 W, .slice (some ad) (lm W) c], .agg #[.int .i64 V, .slice (some ad') (lm V) c'], .pointer (some ⟨g, 0, none⟩)] wx (RetVec wx W Y))) :
    Calls Try.prog 24 #[.string ⟨#[115, 108, 108]⟩, .agg #[.int .i64 W, .slice (some ad) (lm W) c], .agg #[.int .i64 V, .slice (some ad') (lm V) c']] w (RetVE w W Y) := by
  have h1 := h.w1
  have h2 := h.w2
  have i1 := h'.w1
  have i2 := h'.w2
  have hF0 := Lib.hid (Fr3.first w (.int .i64 W) (.slice (some ad) (lm W) c) (.int .i64 V) (.slice (some ad') (lm V) c') (.int .i64 0) (.slice none 0 0) 24 24 24)
  have hV0 := Lib.hid (h.nx (Fr3.first w (.int .i64 W) (.slice (some ad) (lm W) c) (.int .i64 V) (.slice (some ad') (lm V) c') (.int .i64 0) (.slice none 0 0) 24 24 24).bel)
  have hU0 := Lib.hid (h'.nx (Fr3.first w (.int .i64 W) (.slice (some ad) (lm W) c) (.int .i64 V) (.slice (some ad') (lm V) c') (.int .i64 0) (.slice none 0 0) 24 24 24).bel)
  have d1 : ((W : Int) == (V : Int)) = true := by rw [beq_iff_eq]; omega
  have d2 : (W == V) = true := by rw [beq_iff_eq]; omega
  clear hWV
  generalize hk : lm W = k at *
  generalize hk' : lm V = k' at *
  have HK := Lib.hid hk
  have HK' := Lib.hid hk'
  clear h h' hk hk'
  go_enter Try.func24, Try.ntmps24
  go_wp2_with fail
  refine (binary_any _).mono ?_
  rintro e w1 ⟨r, v0, v1, v2, v3, v4, v5, v6, v7, v8, v9, rfl, hM, hE, hr, hb1⟩
  have hF1 := hF0.out.nx hb1
  have hV1 := hV0.out.nx hb1
  have hU1 := hU0.out.nx hb1
  obtain ⟨g, hg, hc⟩ := hE (v8, 95, 75) (by simp)
  simp only at hg hc
  subst hg
  have hlk := run_get 86 84 Try.underlying86 hM ⟨#[115, 108, 108]⟩ _ rfl
  simp only at hlk
  obtain ⟨⟨p1, p2⟩, ⟨p3, p4⟩, ⟨p5, p6, p7, p8⟩, pz⟩ := hF1.parts
  clear hb1 hM hE hr
  go_wp2_with fail
  refine (Right_k HK.out hV1).mono ?_
  rintro e w2 ⟨rfl, hb2⟩
  have hF2 := hF1.nx hb2
  have hV2 := hV1.nx hb2
  have hU2 := hU1.nx hb2
  have hc2 := (hb2.cell (World.block_lt_of_cell? w1 _ hc)).trans hc
  clear p1 p2 p3 p4 p5 p6 p7 p8 pz hlk hc hb2
  obtain ⟨⟨p1, p2⟩, ⟨p3, p4⟩, ⟨p5, p6, p7, p8⟩, pz⟩ := hF2.parts
  go_wp2_with fail
  refine (Right_k HK'.out hU2).mono ?_
  rintro e w3 ⟨rfl, hb3⟩
  have hF3 := hF2.nx hb3
  have hV3 := hV2.nx hb3
  have hU3 := hU2.nx hb3
  have hc3 := (hb3.cell (World.block_lt_of_cell? w2 _ hc2)).trans hc2
  clear p1 p2 p3 p4 p5 p6 p7 p8 pz hc2 hb3
  obtain ⟨⟨p1, p2⟩, ⟨p3, p4⟩, ⟨p5, p6, p7, p8⟩, pz⟩ := hF3.parts
  go_wp2_with fail
  refine (HC.out w3 hV3 hU3 g hc3).mono ?_
  rintro e w4 ⟨ad4, c4, rfl, hv4, hf4, hb4⟩
  have hF4 := hF3.nx hb4
  clear p1 p2 p3 p4 p5 p6 p7 p8 pz
  obtain ⟨⟨p1, p2⟩, ⟨p3, p4⟩, ⟨p5, p6, p7, p8⟩, pz⟩ := hF4.parts
  go_wp2
  refine bodyPost_ret (v := .tuple #[.agg #[.int .i64 (W : Int), .slice (some ad4) (lm W) c4], .int .i64 0]) (by simp [results, Try.results24, go_sem, *]) rfl ?_
  exact RetVE.mk (W := W) hv4 hF4.bel (by omega) (by have := hF3.sz; omega)
theorem Bin_sll {w : World} {ad ad' : Addr} {c c' W N K : Nat} (h : Vc w w.heap.size ad c W N) (h' : Vc w w.heap.size ad' c' W K) :
    Calls Try.prog 24 #[.string ⟨#[115, 108, 108]⟩, .agg #[.int .i64 W, .slice (some ad) (lm W) c], .agg #[.int .i64 W, .slice (some ad') (lm W) c']] w (RetVE w W (N * 2 ^ (min K W) % 2 ^ 128 % 2 ^ W)) :=
  Bin_wsll h h' rfl (fun wx hv hu g hg => shifted_sll hv hu g hg)
set_option maxRecDepth 100000 in
set_option maxHeartbeats 1000000 in
theorem Bin_wsrl {w : World} {ad ad' : Addr} {c c' W V N K Y : Nat} (h : Vc w w.heap.size ad c W N) (h' : Vc w w.heap.size ad' c' V K) (hWV : W = V) (HC : Hid (∀ wx, Vc wx wx.heap.size ad c W N → Vc wx wx.heap.size ad' c' V K → ∀ g, wx.cell? ⟨g, 0, none⟩ = some (.func (.func 51) #[] #[]) → Calls Try.prog 95 #[.agg #[.int .i64 W, .slice (some ad) (lm W) c], .agg #[.int .i64 V, .slice (some ad') (lm V) c'], .pointer (some ⟨g, 0, none⟩)] wx (RetVec wx W Y))) :
    Calls Try.prog 24 #[.string ⟨#[115, 114, 108]⟩, .agg #[.int .i64 W, .slice (some ad) (lm W) c], .agg #[.int .i64 V, .slice (some ad') (lm V) c']] w (RetVE w W Y) := by
  have h1 := h.w1
  have h2 := h.w2
  have i1 := h'.w1
  have i2 := h'.w2
  have hF0 := Lib.hid (Fr3.first w (.int .i64 W) (.slice (some ad) (lm W) c) (.int .i64 V) (.slice (some ad') (lm V) c') (.int .i64 0) (.slice none 0 0) 24 24 24)
  have hV0 := Lib.hid (h.nx (Fr3.first w (.int .i64 W) (.slice (some ad) (lm W) c) (.int .i64 V) (.slice (some ad') (lm V) c') (.int .i64 0) (.slice none 0 0) 24 24 24).bel)
  have hU0 := Lib.hid (h'.nx (Fr3.first w (.int .i64 W) (.slice (some ad) (lm W) c) (.int .i64 V) (.slice (some ad') (lm V) c') (.int .i64 0) (.slice none 0 0) 24 24 24).bel)
  have d1 : ((W : Int) == (V : Int)) = true := by rw [beq_iff_eq]; omega
  have d2 : (W == V) = true := by rw [beq_iff_eq]; omega
  clear hWV
  generalize hk : lm W = k at *
  generalize hk' : lm V = k' at *
  have HK := Lib.hid hk
  have HK' := Lib.hid hk'
  clear h h' hk hk'
  go_enter Try.func24, Try.ntmps24
  go_wp2_with fail
  refine (binary_any _).mono ?_
  rintro e w1 ⟨r, v0, v1, v2, v3, v4, v5, v6, v7, v8, v9, rfl, hM, hE, hr, hb1⟩
  have hF1 := hF0.out.nx hb1
  have hV1 := hV0.out.nx hb1
  have hU1 := hU0.out.nx hb1
  obtain ⟨g, hg, hc⟩ := hE (v9, 95, 51) (by simp)
  simp only at hg hc
  subst hg
  have hlk := run_get 86 84 Try.underlying86 hM ⟨#[115, 114, 108]⟩ _ rfl
  simp only at hlk
  obtain ⟨⟨p1, p2⟩, ⟨p3, p4⟩, ⟨p5, p6, p7, p8⟩, pz⟩ := hF1.parts
  clear hb1 hM hE hr
  go_wp2_with fail
  refine (Right_k HK.out hV1).mono ?_
  rintro e w2 ⟨rfl, hb2⟩
  have hF2 := hF1.nx hb2
  have hV2 := hV1.nx hb2
  have hU2 := hU1.nx hb2
  have hc2 := (hb2.cell (World.block_lt_of_cell? w1 _ hc)).trans hc
  clear p1 p2 p3 p4 p5 p6 p7 p8 pz hlk hc hb2
  obtain ⟨⟨p1, p2⟩, ⟨p3, p4⟩, ⟨p5, p6, p7, p8⟩, pz⟩ := hF2.parts
  go_wp2_with fail
  refine (Right_k HK'.out hU2).mono ?_
  rintro e w3 ⟨rfl, hb3⟩
  have hF3 := hF2.nx hb3
  have hV3 := hV2.nx hb3
  have hU3 := hU2.nx hb3
  have hc3 := (hb3.cell (World.block_lt_of_cell? w2 _ hc2)).trans hc2
  clear p1 p2 p3 p4 p5 p6 p7 p8 pz hc2 hb3
  obtain ⟨⟨p1, p2⟩, ⟨p3, p4⟩, ⟨p5, p6, p7, p8⟩, pz⟩ := hF3.parts
  go_wp2_with fail
  refine (HC.out w3 hV3 hU3 g hc3).mono ?_
  rintro e w4 ⟨ad4, c4, rfl, hv4, hf4, hb4⟩
  have hF4 := hF3.nx hb4
  clear p1 p2 p3 p4 p5 p6 p7 p8 pz
  obtain ⟨⟨p1, p2⟩, ⟨p3, p4⟩, ⟨p5, p6, p7, p8⟩, pz⟩ := hF4.parts
  go_wp2
  refine bodyPost_ret (v := .tuple #[.agg #[.int .i64 (W : Int), .slice (some ad4) (lm W) c4], .int .i64 0]) (by simp [results, Try.results24, go_sem, *]) rfl ?_
  exact RetVE.mk (W := W) hv4 hF4.bel (by omega) (by have := hF3.sz; omega)
theorem Bin_srl {w : World} {ad ad' : Addr} {c c' W N K : Nat} (h : Vc w w.heap.size ad c W N) (h' : Vc w w.heap.size ad' c' W K) :
    Calls Try.prog 24 #[.string ⟨#[115, 114, 108]⟩, .agg #[.int .i64 W, .slice (some ad) (lm W) c], .agg #[.int .i64 W, .slice (some ad') (lm W) c']] w (RetVE w W (N / 2 ^ (min K W) % 2 ^ W)) :=
  Bin_wsrl h h' rfl (fun wx hv hu g hg => shifted_srl hv hu g hg)
set_option maxRecDepth 100000 in
set_option maxHeartbeats 1000000 in
theorem Bin_wsra {w : World} {ad ad' : Addr} {c c' W V N K Y : Nat} (h : Vc w w.heap.size ad c W N) (h' : Vc w w.heap.size ad' c' V K) (hWV : W = V) (HC : Hid (∀ wx, Vc wx wx.heap.size ad c W N → Vc wx wx.heap.size ad' c' V K → Calls Try.prog 76 #[.agg #[.int .i64 W, .slice (some ad) (lm W) c], .agg #[.int .i64 V, .slice (some ad') (lm V) c']] wx (RetVec wx W Y))) :
    Calls Try.prog 24 #[.string ⟨#[115, 114, 97]⟩, .agg #[.int .i64 W, .slice (some ad) (lm W) c], .agg #[.int .i64 V, .slice (some ad') (lm V) c']] w (RetVE w W Y) := by
  have h1 := h.w1
  have h2 := h.w2
  have i1 := h'.w1
  have i2 := h'.w2
  have hF0 := Lib.hid (Fr3.first w (.int .i64 W) (.slice (some ad) (lm W) c) (.int .i64 V) (.slice (some ad') (lm V) c') (.int .i64 0) (.slice none 0 0) 24 24 24)
  have hV0 := Lib.hid (h.nx (Fr3.first w (.int .i64 W) (.slice (some ad) (lm W) c) (.int .i64 V) (.slice (some ad') (lm V) c') (.int .i64 0) (.slice none 0 0) 24 24 24).bel)
  have hU0 := Lib.hid (h'.nx (Fr3.first w (.int .i64 W) (.slice (some ad) (lm W) c) (.int .i64 V) (.slice (some ad') (lm V) c') (.int .i64 0) (.slice none 0 0) 24 24 24).bel)
  have d1 : ((W : Int) == (V : Int)) = true := by rw [beq_iff_eq]; omega
  have d2 : (W == V) = true := by rw [beq_iff_eq]; omega
  clear hWV
  generalize hk : lm W = k at *
  generalize hk' : lm V = k' at *
  have HK := Lib.hid hk
  have HK' := Lib.hid hk'
  clear h h' hk hk'
  go_enter Try.func24, Try.ntmps24
  go_wp2_with fail
  refine (binary_any _).mono ?_
  rintro e w1 ⟨r, v0, v1, v2, v3, v4, v5, v6, v7, v8, v9, rfl, hM, hE, hr, hb1⟩
  have hF1 := hF0.out.nx hb1
  have hV1 := hV0.out.nx hb1
  have hU1 := hU0.out.nx hb1
  have hlk := run_get 86 84 Try.underlying86 hM ⟨#[115, 114, 97]⟩ _ rfl
  simp only at hlk
  obtain ⟨⟨p1, p2⟩, ⟨p3, p4⟩, ⟨p5, p6, p7, p8⟩, pz⟩ := hF1.parts
  clear hb1 hM hE hr
  go_wp2_with fail
  refine (Right_k HK.out hV1).mono ?_
  rintro e w2 ⟨rfl, hb2⟩
  have hF2 := hF1.nx hb2
  have hV2 := hV1.nx hb2
  have hU2 := hU1.nx hb2
  clear p1 p2 p3 p4 p5 p6 p7 p8 pz hlk hb2
  obtain ⟨⟨p1, p2⟩, ⟨p3, p4⟩, ⟨p5, p6, p7, p8⟩, pz⟩ := hF2.parts
  go_wp2_with fail
  refine (Right_k HK'.out hU2).mono ?_
  rintro e w3 ⟨rfl, hb3⟩
  have hF3 := hF2.nx hb3
  have hV3 := hV2.nx hb3
  have hU3 := hU2.nx hb3
  clear p1 p2 p3 p4 p5 p6 p7 p8 pz hb3
  obtain ⟨⟨p1, p2⟩, ⟨p3, p4⟩, ⟨p5, p6, p7, p8⟩, pz⟩ := hF3.parts
  go_wp2_with fail
  refine (HC.out w3 hV3 hU3).mono ?_
  rintro e w4 ⟨ad4, c4, rfl, hv4, hf4, hb4⟩
  have hF4 := hF3.nx hb4
  clear p1 p2 p3 p4 p5 p6 p7 p8 pz
  obtain ⟨⟨p1, p2⟩, ⟨p3, p4⟩, ⟨p5, p6, p7, p8⟩, pz⟩ := hF4.parts
  go_wp2
  refine bodyPost_ret (v := .tuple #[.agg #[.int .i64 (W : Int), .slice (some ad4) (lm W) c4], .int .i64 0]) (by simp [results, Try.results24, go_sem, *]) rfl ?_
  exact RetVE.mk (W := W) hv4 hF4.bel (by omega) (by have := hF3.sz; omega)
theorem Bin_sra {w : World} {ad ad' : Addr} {c c' W N K : Nat} (h : Vc w w.heap.size ad c W N) (h' : Vc w w.heap.size ad' c' W K) :
    Calls Try.prog 24 #[.string ⟨#[115, 114, 97]⟩, .agg #[.int .i64 W, .slice (some ad) (lm W) c], .agg #[.int .i64 W, .slice (some ad') (lm W) c']] w (RetVE w W (sraS N K W % 2 ^ W)) :=
  Bin_wsra h h' rfl (fun wx hv hu  => sra_any hv hu)
set_option maxRecDepth 100000 in
set_option maxHeartbeats 1000000 in
theorem Bin_weq {w : World} {ad ad' : Addr} {c c' W V N K Y : Nat} (h : Vc w w.heap.size ad c W N) (h' : Vc w w.heap.size ad' c' V K) (hWV : W = V) (HC : Hid (∀ wx, Vc wx wx.heap.size ad c W N → Vc wx wx.heap.size ad' c' V K → Calls Try.prog 77 #[.agg #[.int .i64 W, .slice (some ad) (lm W) c], .agg #[.int .i64 V, .slice (some ad') (lm V) c']] wx (RetBit wx Y))) :
    Calls Try.prog 24 #[.string ⟨#[101, 113]⟩, .agg #[.int .i64 W, .slice (some ad) (lm W) c], .agg #[.int .i64 V, .slice (some ad') (lm V) c']] w (RetVE w 1 Y) := by
  have h1 := h.w1
  have h2 := h.w2
  have i1 := h'.w1
  have i2 := h'.w2
  have hF0 := Lib.hid (Fr3.first w (.int .i64 W) (.slice (some ad) (lm W) c) (.int .i64 V) (.slice (some ad') (lm V) c') (.int .i64 0) (.slice none 0 0) 24 24 24)
  have hV0 := Lib.hid (h.nx (Fr3.first w (.int .i64 W) (.slice (some ad) (lm W) c) (.int .i64 V) (.slice (some ad') (lm V) c') (.int .i64 0) (.slice none 0 0) 24 24 24).bel)
  have hU0 := Lib.hid (h'.nx (Fr3.first w (.int .i64 W) (.slice (some ad) (lm W) c) (.int .i64 V) (.slice (some ad') (lm V) c') (.int .i64 0) (.slice none 0 0) 24 24 24).bel)
  have d1 : ((W : Int) == (V : Int)) = true := by rw [beq_iff_eq]; omega
  have d2 : (W == V) = true := by rw [beq_iff_eq]; omega
  clear hWV
  generalize hk : lm W = k at *
  generalize hk' : lm V = k' at *
  have HK := Lib.hid hk
  have HK' := Lib.hid hk'
  clear h h' hk hk'
  go_enter Try.func24, Try.ntmps24
  go_wp2_with fail
  refine (binary_any _).mono ?_
  rintro e w1 ⟨r, v0, v1, v2, v3, v4, v5, v6, v7, v8, v9, rfl, hM, hE, hr, hb1⟩
  have hF1 := hF0.out.nx hb1
  have hV1 := hV0.out.nx hb1
  have hU1 := hU0.out.nx hb1
  have hlk := run_get 86 84 Try.underlying86 hM ⟨#[101, 113]⟩ _ rfl
  simp only at hlk
  obtain ⟨⟨p1, p2⟩, ⟨p3, p4⟩, ⟨p5, p6, p7, p8⟩, pz⟩ := hF1.parts
  clear hb1 hM hE hr
  go_wp2_with fail
  refine (Right_k HK.out hV1).mono ?_
  rintro e w2 ⟨rfl, hb2⟩
  have hF2 := hF1.nx hb2
  have hV2 := hV1.nx hb2
  have hU2 := hU1.nx hb2
  clear p1 p2 p3 p4 p5 p6 p7 p8 pz hlk hb2
  obtain ⟨⟨p1, p2⟩, ⟨p3, p4⟩, ⟨p5, p6, p7, p8⟩, pz⟩ := hF2.parts
  go_wp2_with fail
  refine (Right_k HK'.out hU2).mono ?_
  rintro e w3 ⟨rfl, hb3⟩
  have hF3 := hF2.nx hb3
  have hV3 := hV2.nx hb3
  have hU3 := hU2.nx hb3
  clear p1 p2 p3 p4 p5 p6 p7 p8 pz hb3
  obtain ⟨⟨p1, p2⟩, ⟨p3, p4⟩, ⟨p5, p6, p7, p8⟩, pz⟩ := hF3.parts
  go_wp2_with fail
  refine (HC.out w3 hV3 hU3).mono ?_
  rintro e w4 ⟨ad4, c4, rfl, hv4, hf4, hb4⟩
  have hF4 := hF3.nx hb4
  clear p1 p2 p3 p4 p5 p6 p7 p8 pz
  obtain ⟨⟨p1, p2⟩, ⟨p3, p4⟩, ⟨p5, p6, p7, p8⟩, pz⟩ := hF4.parts
  go_wp2
  refine bodyPost_ret (v := .tuple #[.agg #[.int .i64 1, .slice (some ad4) 1 c4], .int .i64 0]) (by simp [results, Try.results24, go_sem, *]) rfl ?_
  exact RetVE.mk (W := 1) hv4 hF4.bel (by omega) (by have := hF3.sz; omega)
theorem Bin_eq {w : World} {ad ad' : Addr} {c c' W N K : Nat} (h : Vc w w.heap.size ad c W N) (h' : Vc w w.heap.size ad' c' W K) :
    Calls Try.prog 24 #[.string ⟨#[101, 113]⟩, .agg #[.int .i64 W, .slice (some ad) (lm W) c], .agg #[.int .i64 W, .slice (some ad') (lm W) c']] w (RetVE w 1 (bn (N == K))) :=
  Bin_weq h h' rfl (fun wx hv hu  => eq_same hv hu rfl)
set_option maxRecDepth 100000 in
set_option maxHeartbeats 1000000 in
theorem Bin_wult {w : World} {ad ad' : Addr} {c c' W V N K Y : Nat} (h : Vc w w.heap.size ad c W N) (h' : Vc w w.heap.size ad' c' V K) (hWV : W = V) (HC : Hid (∀ wx, Vc wx wx.heap.size ad c W N → Vc wx wx.heap.size ad' c' V K → Calls Try.prog 78 #[.agg #[.int .i64 W, .slice (some ad) (lm W) c], .agg #[.int .i64 V, .slice (some ad') (lm V) c']] wx (RetBit wx Y))) :
    Calls Try.prog 24 #[.string ⟨#[117, 108, 116]⟩, .agg #[.int .i64 W, .slice (some ad) (lm W) c], .agg #[.int .i64 V, .slice (some ad') (lm V) c']] w (RetVE w 1 Y) := by
  have h1 := h.w1
  have h2 := h.w2
  have i1 := h'.w1
  have i2 := h'.w2
  have hF0 := Lib.hid (Fr3.first w (.int .i64 W) (.slice (some ad) (lm W) c) (.int .i64 V) (.slice (some ad') (lm V) c') (.int .i64 0) (.slice none 0 0) 24 24 24)
  have hV0 := Lib.hid (h.nx (Fr3.first w (.int .i64 W) (.slice (some ad) (lm W) c) (.int .i64 V) (.slice (some ad') (lm V) c') (.int .i64 0) (.slice none 0 0) 24 24 24).bel)
  have hU0 := Lib.hid (h'.nx (Fr3.first w (.int .i64 W) (.slice (some ad) (lm W) c) (.int .i64 V) (.slice (some ad') (lm V) c') (.int .i64 0) (.slice none 0 0) 24 24 24).bel)
  have d1 : ((W : Int) == (V : Int)) = true := by rw [beq_iff_eq]; omega
  have d2 : (W == V) = true := by rw [beq_iff_eq]; omega
  clear hWV
  generalize hk : lm W = k at *
  generalize hk' : lm V = k' at *
  have HK := Lib.hid hk
  have HK' := Lib.hid hk'
  clear h h' hk hk'
  go_enter Try.func24, Try.ntmps24
  go_wp2_with fail
  refine (binary_any _).mono ?_
  rintro e w1 ⟨r, v0, v1, v2, v3, v4, v5, v6, v7, v8, v9, rfl, hM, hE, hr, hb1⟩
  have hF1 := hF0.out.nx hb1
  have hV1 := hV0.out.nx hb1
  have hU1 := hU0.out.nx hb1
  have hlk := run_get 86 84 Try.underlying86 hM ⟨#[117, 108, 116]⟩ _ rfl
  simp only at hlk
  obtain ⟨⟨p1, p2⟩, ⟨p3, p4⟩, ⟨p5, p6, p7, p8⟩, pz⟩ := hF1.parts
  clear hb1 hM hE hr
  go_wp2_with fail
  refine (Right_k HK.out hV1).mono ?_
  rintro e w2 ⟨rfl, hb2⟩
  have hF2 := hF1.nx hb2
  have hV2 := hV1.nx hb2
  have hU2 := hU1.nx hb2
  clear p1 p2 p3 p4 p5 p6 p7 p8 pz hlk hb2
  obtain ⟨⟨p1, p2⟩, ⟨p3, p4⟩, ⟨p5, p6, p7, p8⟩, pz⟩ := hF2.parts
  go_wp2_with fail
  refine (Right_k HK'.out hU2).mono ?_
  rintro e w3 ⟨rfl, hb3⟩
  have hF3 := hF2.nx hb3
  have hV3 := hV2.nx hb3
  have hU3 := hU2.nx hb3
  clear p1 p2 p3 p4 p5 p6 p7 p8 pz hb3
  obtain ⟨⟨p1, p2⟩, ⟨p3, p4⟩, ⟨p5, p6, p7, p8⟩, pz⟩ := hF3.parts
  go_wp2_with fail
  refine (HC.out w3 hV3 hU3).mono ?_
  rintro e w4 ⟨ad4, c4, rfl, hv4, hf4, hb4⟩
  have hF4 := hF3.nx hb4
  clear p1 p2 p3 p4 p5 p6 p7 p8 pz
  obtain ⟨⟨p1, p2⟩, ⟨p3, p4⟩, ⟨p5, p6, p7, p8⟩, pz⟩ := hF4.parts
  go_wp2
  refine bodyPost_ret (v := .tuple #[.agg #[.int .i64 1, .slice (some ad4) 1 c4], .int .i64 0]) (by simp [results, Try.results24, go_sem, *]) rfl ?_
  exact RetVE.mk (W := 1) hv4 hF4.bel (by omega) (by have := hF3.sz; omega)
theorem Bin_ult {w : World} {ad ad' : Addr} {c c' W N K : Nat} (h : Vc w w.heap.size ad c W N) (h' : Vc w w.heap.size ad' c' W K) :
    Calls Try.prog 24 #[.string ⟨#[117, 108, 116]⟩, .agg #[.int .i64 W, .slice (some ad) (lm W) c], .agg #[.int .i64 W, .slice (some ad') (lm W) c']] w (RetVE w 1 (bn (decide (N < K)))) :=
  Bin_wult h h' rfl (fun wx hv hu  => ult_any hv hu)
set_option maxRecDepth 100000 in
set_option maxHeartbeats 1000000 in
theorem Bin_wslt {w : World} {ad ad' : Addr} {c c' W V N K Y : Nat} (h : Vc w w.heap.size ad c W N) (h' : Vc w w.heap.size ad' c' V K) (hWV : W = V) (HC : Hid (∀ wx, Vc wx wx.heap.size ad c W N → Vc wx wx.heap.size ad' c' V K → Calls Try.prog 80 #[.agg #[.int .i64 W, .slice (some ad) (lm W) c], .agg #[.int .i64 V, .slice (some ad') (lm V) c']] wx (RetBit wx Y))) :
    Calls Try.prog 24 #[.string ⟨#[115, 108, 116]⟩, .agg #[.int .i64 W, .slice (some ad) (lm W) c], .agg #[.int .i64 V, .slice (some ad') (lm V) c']] w (RetVE w 1 Y) := by
  have h1 := h.w1
  have h2 := h.w2
  have i1 := h'.w1
  have i2 := h'.w2
  have hF0 := Lib.hid (Fr3.first w (.int .i64 W) (.slice (some ad) (lm W) c) (.int .i64 V) (.slice (some ad') (lm V) c') (.int .i64 0) (.slice none 0 0) 24 24 24)
  have hV0 := Lib.hid (h.nx (Fr3.first w (.int .i64 W) (.slice (some ad) (lm W) c) (.int .i64 V) (.slice (some ad') (lm V) c') (.int .i64 0) (.slice none 0 0) 24 24 24).bel)
  have hU0 := Lib.hid (h'.nx (Fr3.first w (.int .i64 W) (.slice (some ad) (lm W) c) (.int .i64 V) (.slice (some ad') (lm V) c') (.int .i64 0) (.slice none 0 0) 24 24 24).bel)
  have d1 : ((W : Int) == (V : Int)) = true := by rw [beq_iff_eq]; omega
  have d2 : (W == V) = true := by rw [beq_iff_eq]; omega
  clear hWV
  generalize hk : lm W = k at *
  generalize hk' : lm V = k' at *
  have HK := Lib.hid hk
  have HK' := Lib.hid hk'
  clear h h' hk hk'
  go_enter Try.func24, Try.ntmps24
  go_wp2_with fail
  refine (binary_any _).mono ?_
  rintro e w1 ⟨r, v0, v1, v2, v3, v4, v5, v6, v7, v8, v9, rfl, hM, hE, hr, hb1⟩
  have hF1 := hF0.out.nx hb1
  have hV1 := hV0.out.nx hb1
  have hU1 := hU0.out.nx hb1
  have hlk := run_get 86 84 Try.underlying86 hM ⟨#[115, 108, 116]⟩ _ rfl
  simp only at hlk
  obtain ⟨⟨p1, p2⟩, ⟨p3, p4⟩, ⟨p5, p6, p7, p8⟩, pz⟩ := hF1.parts
  clear hb1 hM hE hr
  go_wp2_with fail
  refine (Right_k HK.out hV1).mono ?_
  rintro e w2 ⟨rfl, hb2⟩
  have hF2 := hF1.nx hb2
  have hV2 := hV1.nx hb2
  have hU2 := hU1.nx hb2
  clear p1 p2 p3 p4 p5 p6 p7 p8 pz hlk hb2
  obtain ⟨⟨p1, p2⟩, ⟨p3, p4⟩, ⟨p5, p6, p7, p8⟩, pz⟩ := hF2.parts
  go_wp2_with fail
  refine (Right_k HK'.out hU2).mono ?_
  rintro e w3 ⟨rfl, hb3⟩
  have hF3 := hF2.nx hb3
  have hV3 := hV2.nx hb3
  have hU3 := hU2.nx hb3
  clear p1 p2 p3 p4 p5 p6 p7 p8 pz hb3
  obtain ⟨⟨p1, p2⟩, ⟨p3, p4⟩, ⟨p5, p6, p7, p8⟩, pz⟩ := hF3.parts
  go_wp2_with fail
  refine (HC.out w3 hV3 hU3).mono ?_
  rintro e w4 ⟨ad4, c4, rfl, hv4, hf4, hb4⟩
  have hF4 := hF3.nx hb4
  clear p1 p2 p3 p4 p5 p6 p7 p8 pz
  obtain ⟨⟨p1, p2⟩, ⟨p3, p4⟩, ⟨p5, p6, p7, p8⟩, pz⟩ := hF4.parts
  go_wp2
  refine bodyPost_ret (v := .tuple #[.agg #[.int .i64 1, .slice (some ad4) 1 c4], .int .i64 0]) (by simp [results, Try.results24, go_sem, *]) rfl ?_
  exact RetVE.mk (W := 1) hv4 hF4.bel (by omega) (by have := hF3.sz; omega)
theorem Bin_slt {w : World} {ad ad' : Addr} {c c' W N K : Nat} (h : Vc w w.heap.size ad c W N) (h' : Vc w w.heap.size ad' c' W K) :
    Calls Try.prog 24 #[.string ⟨#[115, 108, 116]⟩, .agg #[.int .i64 W, .slice (some ad) (lm W) c], .agg #[.int .i64 W, .slice (some ad') (lm W) c']] w (RetVE w 1 (bn (sltB N K W W))) :=
  Bin_wslt h h' rfl (fun wx hv hu  => slt_any hv hu)
set_option maxRecDepth 100000 in
set_option maxHeartbeats 1000000 in
theorem Bin_wconcat_ok {w : World} {ad ad' : Addr} {c c' W V N K Y : Nat} (h : Vc w w.heap.size ad c W N) (h' : Vc w w.heap.size ad' c' V K) (hsum : W + V ≤ 128) (HC : Hid (∀ wx, Vc wx wx.heap.size ad c W N → Vc wx wx.heap.size ad' c' V K → Calls Try.prog 81 #[.agg #[.int .i64 W, .slice (some ad) (lm W) c], .agg #[.int .i64 V, .slice (some ad') (lm V) c']] wx (RetVec wx (W + V) Y))) :
    Calls Try.prog 24 #[.string ⟨#[99, 111, 110, 99, 97, 116]⟩, .agg #[.int .i64 W, .slice (some ad) (lm W) c], .agg #[.int .i64 V, .slice (some ad') (lm V) c']] w (RetVE w (W + V) Y) := by
  have h1 := h.w1
  have h2 := h.w2
  have i1 := h'.w1
  have i2 := h'.w2
  have hF0 := Lib.hid (Fr3.first w (.int .i64 W) (.slice (some ad) (lm W) c) (.int .i64 V) (.slice (some ad') (lm V) c') (.int .i64 0) (.slice none 0 0) 24 24 24)
  have hV0 := Lib.hid (h.nx (Fr3.first w (.int .i64 W) (.slice (some ad) (lm W) c) (.int .i64 V) (.slice (some ad') (lm V) c') (.int .i64 0) (.slice none 0 0) 24 24 24).bel)
  have hU0 := Lib.hid (h'.nx (Fr3.first w (.int .i64 W) (.slice (some ad) (lm W) c) (.int .i64 V) (.slice (some ad') (lm V) c') (.int .i64 0) (.slice none 0 0) 24 24 24).bel)
  have HS : Hid (∀ wx, Calls Try.prog 48 #[.int .i64 W, .int .i64 V] wx fun e w' => e = .returned (.bool true) ∧ wx = w') := fun wx => (sumFits_any W V wx (by omega) (by omega)).mono fun e w' ⟨he, hw⟩ => ⟨by rw [he]; congr 2; exact decide_eq_true (by omega), hw⟩
  generalize hk : lm W = k at *
  generalize hk' : lm V = k' at *
  have HK := Lib.hid hk
  have HK' := Lib.hid hk'
  clear h h' hk hk'
  go_enter Try.func24, Try.ntmps24
  go_wp2_with fail
  refine (binary_any _).mono ?_
  rintro e w1 ⟨r, v0, v1, v2, v3, v4, v5, v6, v7, v8, v9, rfl, hM, hE, hr, hb1⟩
  have hF1 := hF0.out.nx hb1
  have hV1 := hV0.out.nx hb1
  have hU1 := hU0.out.nx hb1
  have hlk := run_get 86 84 Try.underlying86 hM ⟨#[99, 111, 110, 99, 97, 116]⟩ _ rfl
  simp only at hlk
  obtain ⟨⟨p1, p2⟩, ⟨p3, p4⟩, ⟨p5, p6, p7, p8⟩, pz⟩ := hF1.parts
  clear hb1 hM hE hr
  go_wp2_with fail
  refine (HS.out _).mono ?_
  rintro e w9 ⟨rfl, rfl⟩
  go_wp2_with fail
  refine (Right_k HK.out hV1).mono ?_
  rintro e w2 ⟨rfl, hb2⟩
  have hF2 := hF1.nx hb2
  have hV2 := hV1.nx hb2
  have hU2 := hU1.nx hb2
  clear p1 p2 p3 p4 p5 p6 p7 p8 pz hlk hb2
  obtain ⟨⟨p1, p2⟩, ⟨p3, p4⟩, ⟨p5, p6, p7, p8⟩, pz⟩ := hF2.parts
  go_wp2_with fail
  refine (Right_k HK'.out hU2).mono ?_
  rintro e w3 ⟨rfl, hb3⟩
  have hF3 := hF2.nx hb3
  have hV3 := hV2.nx hb3
  have hU3 := hU2.nx hb3
  clear p1 p2 p3 p4 p5 p6 p7 p8 pz hb3
  obtain ⟨⟨p1, p2⟩, ⟨p3, p4⟩, ⟨p5, p6, p7, p8⟩, pz⟩ := hF3.parts
  go_wp2_with fail
  refine (HC.out w3 hV3 hU3).mono ?_
  rintro e w4 ⟨ad4, c4, rfl, hv4, hf4, hb4⟩
  have hF4 := hF3.nx hb4
  clear p1 p2 p3 p4 p5 p6 p7 p8 pz
  obtain ⟨⟨p1, p2⟩, ⟨p3, p4⟩, ⟨p5, p6, p7, p8⟩, pz⟩ := hF4.parts
  go_wp2
  refine bodyPost_ret (v := .tuple #[.agg #[.int .i64 ((W + V : Nat) : Int), .slice (some ad4) (lm (W + V)) c4], .int .i64 0]) (by simp [results, Try.results24, go_sem, *]) rfl ?_
  exact RetVE.mk (W := (W + V)) hv4 hF4.bel (by omega) (by have := hF3.sz; omega)
theorem Bin_concat {w : World} {ad ad' : Addr} {c c' W V N K : Nat} (h : Vc w w.heap.size ad c W N) (h' : Vc w w.heap.size ad' c' V K) (hsum : W + V ≤ 128) :
    Calls Try.prog 24 #[.string ⟨#[99, 111, 110, 99, 97, 116]⟩, .agg #[.int .i64 W, .slice (some ad) (lm W) c], .agg #[.int .i64 V, .slice (some ad') (lm V) c']] w (RetVE w (W + V) ((N * 2 ^ V % 2 ^ 128 ||| K) % 2 ^ (W + V))) :=
  Bin_wconcat_ok h h' hsum (fun wx hv hu => concat_any hv hu hsum)
end Go.Proofs.Ytnnoflohekmnbaa
