/-
  The closures of vec.binary that ofTwo makes, over the translated program: and, or, xor, add, sub, mul, udiv, urem. Nothing is assumed.
-/
import Derived.Test.YtnnoflohekmnbaaProg
import Derived.WalkKit
import Derived.WalkSpells
import Derived.WalkLawsBesides
import Derived.LoopN
import Derived.IntWalk
import Derived.Lib.Hide
import Derived.Test.YtnnoflohekmnbaaB6
import Derived.Laws.BitsAllLaws
import Derived.Laws.Externs
import Derived.BigQuiet
import Derived.BigRegion
import Derived.Deep.QuietTactic
import Derived.Deep.RegionWith
import Derived.Deep.RegionHeld3
import Derived.StillTailTactics
import Derived.RegionTactic
import Derived.ChangeAlike
set_option linter.unusedVariables false
namespace Go.Proofs.Ytnnoflohekmnbaa
open Go.RowKit
/-- The world of a function that boxes two vectors and has one result in memory. -/
structure Fr3 (w wr : World) (x0 x1 y0 y1 r0 r1 : Value) : Prop where
  bel : Below w.heap.size w wr
  sz : w.heap.size + 3 ≤ wr.heap.size
  fa : Duo wr w.heap.size x0 x1
  fb : Duo wr (w.heap.size + 1) y0 y1
  fr : Duo wr (w.heap.size + 1 + 1) r0 r1
theorem Fr3.first (w : World) (x0 x1 y0 y1 r0 r1 : Value) (t u v : TypeId) : Fr3 w (((w.alloc (.cells #[x0, x1] t)).alloc (.cells #[y0, y1] u)).alloc (.cells #[r0, r1] v)) x0 x1 y0 y1 r0 r1 := by
  refine ⟨bal (bal (bal (Below.refl _ _) _) _) _, by simp, ⟨?_, ?_, ?_, ?_⟩, ⟨?_, ?_, ?_, ?_⟩, ⟨?_, ?_, ?_, ?_⟩⟩ <;> go_simp
theorem Fr3.nx {w wr w1 : World} {x0 x1 y0 y1 r0 r1 : Value} (h : Fr3 w wr x0 x1 y0 y1 r0 r1) (hb : Below wr.heap.size wr w1) : Fr3 w w1 x0 x1 y0 y1 r0 r1 := by
  have hs := h.sz
  exact ⟨h.bel.trans (hb.mono (by omega)), by have := hb.size; omega, h.fa.below hb (by omega), h.fb.below hb (by omega), h.fr.below hb (by omega)⟩
theorem Fr3.dr {w wr : World} {x0 x1 y0 y1 r0 r1 : Value} (h : Fr3 w wr x0 x1 y0 y1 r0 r1) : Fr3 w wr.drew x0 x1 y0 y1 r0 r1 := h.nx (Below.refl _ _).drew
theorem Fr3.parts {w wr : World} {x0 x1 y0 y1 r0 r1 : Value} (h : Fr3 w wr x0 x1 y0 y1 r0 r1) :
    (wr.cell? ⟨w.heap.size, 0, none⟩ = some x0 ∧ wr.cell? ⟨w.heap.size, 1, none⟩ = some x1) ∧ (wr.cell? ⟨w.heap.size + 1, 0, none⟩ = some y0 ∧ wr.cell? ⟨w.heap.size + 1, 1, none⟩ = some y1) ∧
    (wr.cell? ⟨w.heap.size + 1 + 1, 0, none⟩ = some r0 ∧ wr.cell? ⟨w.heap.size + 1 + 1, 1, none⟩ = some r1 ∧ wr.frozen? ⟨w.heap.size + 1 + 1, 0, none⟩ = false ∧ wr.frozen? ⟨w.heap.size + 1 + 1, 1, none⟩ = false) ∧ w.heap.size + 1 + 1 < wr.heap.size :=
  ⟨⟨h.fa.1, h.fa.2.1⟩, ⟨h.fb.1, h.fb.2.1⟩, h.fr, by have := h.sz; omega⟩
set_option maxRecDepth 100000 in
set_option maxHeartbeats 1000000 in
theorem ofTwo_wand {w : World} {ad ad' : Addr} {c c' W V N K Y : Nat} (h : Vc w w.heap.size ad c W N) (h' : Vc w w.heap.size ad' c' V K) (p : Nat) (hp : w.cell? ⟨p, 0, none⟩ = some (.func (.func 69) #[] #[]))
    (HC : Hid (∀ (a b c d : Nat), Lim a b N → Lim c d K → ∀ wx, Calls Try.prog 69 #[.agg #[.int .u64 a, .int .u64 b], .agg #[.int .u64 c, .int .u64 d]] wx (RetN wx Y))) :
    Calls Try.prog 92 #[.agg #[.int .i64 W, .slice (some ad) (lm W) c], .agg #[.int .i64 V, .slice (some ad') (lm V) c'], .pointer (some ⟨p, 0, none⟩)] w (RetVec w W (Y % 2 ^ W)) := by
  have h1 := h.w1
  have h2 := h.w2
  have hpl := World.block_lt_of_cell? w _ hp
  simp only at hpl
  have hF0 := Lib.hid (Fr3.first w (.int .i64 W) (.slice (some ad) (lm W) c) (.int .i64 V) (.slice (some ad') (lm V) c') (.int .i64 0) (.slice none 0 0) 24 24 24)
  have hV0 := Lib.hid ((h.nx (Fr3.first w (.int .i64 W) (.slice (some ad) (lm W) c) (.int .i64 V) (.slice (some ad') (lm V) c') (.int .i64 0) (.slice none 0 0) 24 24 24).bel).nx (Below.refl _ _).drew)
  have hU0 := Lib.hid ((h'.nx (Fr3.first w (.int .i64 W) (.slice (some ad) (lm W) c) (.int .i64 V) (.slice (some ad') (lm V) c') (.int .i64 0) (.slice none 0 0) 24 24 24).bel).nx (Below.refl _ _).drew)
  have hp0 := ((Fr3.first w (.int .i64 W) (.slice (some ad) (lm W) c) (.int .i64 V) (.slice (some ad') (lm V) c') (.int .i64 0) (.slice none 0 0) 24 24 24).bel.cell (p := ⟨p, 0, none⟩) hpl).trans hp
  have HP := Lib.hid hp
  obtain ⟨R, hR⟩ : ∃ R, Y % 2 ^ W = R := ⟨_, rfl⟩
  rw [hR]
  have HR := Lib.hid hR
  generalize hk : lm W = k at *
  generalize hk' : lm V = k' at *
  have HK := Lib.hid hk
  have HK' := Lib.hid hk'
  clear h h' hR hk hk'
  go_enter Try.func92, Try.ntmps92
  go_wp2_with fail
  go_region_held3 (fun w' => w'.cell? ⟨w.heap.size, 0, none⟩ = some (.int .i64 W) ∧ w'.cell? ⟨w.heap.size, 1, none⟩ = some (.slice (some ad) k c) ∧ w'.cell? ⟨w.heap.size + 1, 0, none⟩ = some (.int .i64 V) ∧ w'.cell? ⟨w.heap.size + 1, 1, none⟩ = some (.slice (some ad') k' c') ∧ w'.cell? ⟨p, 0, none⟩ = some (.func (.func 69) #[] #[]))
    (refine ⟨?_, ?_, ?_, ?_, ?_⟩ <;> first | assumption | go_simp)
    (first | (go_at_call 52; ((with_reducible refine (numberOf_k HK.out hV0.out).mono ?_); rintro e w1 ⟨x1, y1, L1, rfl, hb1⟩; have hF1 := hF0.out.dr.nx hb1; have hU1 := hU0.out.nx hb1; have hp1 := (hF1.bel.cell (p := ⟨p, 0, none⟩) hpl).trans HP.out; obtain ⟨⟨p1, p2⟩, ⟨p3, p4⟩, ⟨p5, p6, p7, p8⟩, pz⟩ := hF1.parts))
           | (go_at_call 52; ((with_reducible refine (numberOf_k HK'.out hU1).mono ?_); rintro e w2 ⟨x2, y2, L2, rfl, hb2⟩; have hF2 := hF1.nx hb2; have hp2 := (hF2.bel.cell (p := ⟨p, 0, none⟩) hpl).trans HP.out; obtain ⟨⟨q1, q2⟩, ⟨q3, q4⟩, ⟨q5, q6, q7, q8⟩, qz⟩ := hF2.parts))
           | (go_at_call 69; refine (HC.out _ _ _ _ L1 L2 _).mono ?_; rintro e w3 ⟨x3, y3, L3, rfl, hb3⟩; have hF3 := hF2.nx hb3; have hp3 := (hF3.bel.cell (p := ⟨p, 0, none⟩) hpl).trans HP.out; obtain ⟨⟨r1, r2⟩, ⟨r3, r4⟩, ⟨r5, r6, r7, r8⟩, rz⟩ := hF3.parts)
           | (go_at_call 34; refine (vecOf_any L3 W h1 h2 _).mono ?_; rintro e w4 ⟨ad4, c4, rfl, hv4, hf4, hb4⟩; have hF4 := hF3.nx hb4; have hp4 := (hF4.bel.cell (p := ⟨p, 0, none⟩) hpl).trans HP.out; obtain ⟨⟨s1, s2⟩, ⟨s3, s4⟩, ⟨s5, s6, s7, s8⟩, sz⟩ := hF4.parts))
  go_wp2
  rw [HR.out] at hv4
  refine bodyPost_ret (v := .agg #[.int .i64 (W : Int), .slice (some ad4) (lm W) c4]) (by simp [results, Try.results92, go_sem, *]) rfl ?_
  exact RetVec.mk (n := lm W) rfl hv4 hF4.bel (by omega) (by have := hF3.sz; omega)
theorem ofTwo_and {w : World} {ad ad' : Addr} {c c' W V N K : Nat} (h : Vc w w.heap.size ad c W N) (h' : Vc w w.heap.size ad' c' V K) (p : Nat) (hp : w.cell? ⟨p, 0, none⟩ = some (.func (.func 69) #[] #[])) :
    Calls Try.prog 92 #[.agg #[.int .i64 W, .slice (some ad) (lm W) c], .agg #[.int .i64 V, .slice (some ad') (lm V) c'], .pointer (some ⟨p, 0, none⟩)] w (RetVec w W ((N &&& K) % 2 ^ W)) :=
  ofTwo_wand h h' p hp (fun a b c d h1 h2 wx => and_any h1 h2 wx)
set_option maxRecDepth 100000 in
set_option maxHeartbeats 1000000 in
theorem ofTwo_wor {w : World} {ad ad' : Addr} {c c' W V N K Y : Nat} (h : Vc w w.heap.size ad c W N) (h' : Vc w w.heap.size ad' c' V K) (p : Nat) (hp : w.cell? ⟨p, 0, none⟩ = some (.func (.func 54) #[] #[]))
    (HC : Hid (∀ (a b c d : Nat), Lim a b N → Lim c d K → ∀ wx, Calls Try.prog 54 #[.agg #[.int .u64 a, .int .u64 b], .agg #[.int .u64 c, .int .u64 d]] wx (RetN wx Y))) :
    Calls Try.prog 92 #[.agg #[.int .i64 W, .slice (some ad) (lm W) c], .agg #[.int .i64 V, .slice (some ad') (lm V) c'], .pointer (some ⟨p, 0, none⟩)] w (RetVec w W (Y % 2 ^ W)) := by
  have h1 := h.w1
  have h2 := h.w2
  have hpl := World.block_lt_of_cell? w _ hp
  simp only at hpl
  have hF0 := Lib.hid (Fr3.first w (.int .i64 W) (.slice (some ad) (lm W) c) (.int .i64 V) (.slice (some ad') (lm V) c') (.int .i64 0) (.slice none 0 0) 24 24 24)
  have hV0 := Lib.hid ((h.nx (Fr3.first w (.int .i64 W) (.slice (some ad) (lm W) c) (.int .i64 V) (.slice (some ad') (lm V) c') (.int .i64 0) (.slice none 0 0) 24 24 24).bel).nx (Below.refl _ _).drew)
  have hU0 := Lib.hid ((h'.nx (Fr3.first w (.int .i64 W) (.slice (some ad) (lm W) c) (.int .i64 V) (.slice (some ad') (lm V) c') (.int .i64 0) (.slice none 0 0) 24 24 24).bel).nx (Below.refl _ _).drew)
  have hp0 := ((Fr3.first w (.int .i64 W) (.slice (some ad) (lm W) c) (.int .i64 V) (.slice (some ad') (lm V) c') (.int .i64 0) (.slice none 0 0) 24 24 24).bel.cell (p := ⟨p, 0, none⟩) hpl).trans hp
  have HP := Lib.hid hp
  obtain ⟨R, hR⟩ : ∃ R, Y % 2 ^ W = R := ⟨_, rfl⟩
  rw [hR]
  have HR := Lib.hid hR
  generalize hk : lm W = k at *
  generalize hk' : lm V = k' at *
  have HK := Lib.hid hk
  have HK' := Lib.hid hk'
  clear h h' hR hk hk'
  go_enter Try.func92, Try.ntmps92
  go_wp2_with fail
  go_region_held3 (fun w' => w'.cell? ⟨w.heap.size, 0, none⟩ = some (.int .i64 W) ∧ w'.cell? ⟨w.heap.size, 1, none⟩ = some (.slice (some ad) k c) ∧ w'.cell? ⟨w.heap.size + 1, 0, none⟩ = some (.int .i64 V) ∧ w'.cell? ⟨w.heap.size + 1, 1, none⟩ = some (.slice (some ad') k' c') ∧ w'.cell? ⟨p, 0, none⟩ = some (.func (.func 54) #[] #[]))
    (refine ⟨?_, ?_, ?_, ?_, ?_⟩ <;> first | assumption | go_simp)
    (first | (go_at_call 52; ((with_reducible refine (numberOf_k HK.out hV0.out).mono ?_); rintro e w1 ⟨x1, y1, L1, rfl, hb1⟩; have hF1 := hF0.out.dr.nx hb1; have hU1 := hU0.out.nx hb1; have hp1 := (hF1.bel.cell (p := ⟨p, 0, none⟩) hpl).trans HP.out; obtain ⟨⟨p1, p2⟩, ⟨p3, p4⟩, ⟨p5, p6, p7, p8⟩, pz⟩ := hF1.parts))
           | (go_at_call 52; ((with_reducible refine (numberOf_k HK'.out hU1).mono ?_); rintro e w2 ⟨x2, y2, L2, rfl, hb2⟩; have hF2 := hF1.nx hb2; have hp2 := (hF2.bel.cell (p := ⟨p, 0, none⟩) hpl).trans HP.out; obtain ⟨⟨q1, q2⟩, ⟨q3, q4⟩, ⟨q5, q6, q7, q8⟩, qz⟩ := hF2.parts))
           | (go_at_call 54; refine (HC.out _ _ _ _ L1 L2 _).mono ?_; rintro e w3 ⟨x3, y3, L3, rfl, hb3⟩; have hF3 := hF2.nx hb3; have hp3 := (hF3.bel.cell (p := ⟨p, 0, none⟩) hpl).trans HP.out; obtain ⟨⟨r1, r2⟩, ⟨r3, r4⟩, ⟨r5, r6, r7, r8⟩, rz⟩ := hF3.parts)
           | (go_at_call 34; refine (vecOf_any L3 W h1 h2 _).mono ?_; rintro e w4 ⟨ad4, c4, rfl, hv4, hf4, hb4⟩; have hF4 := hF3.nx hb4; have hp4 := (hF4.bel.cell (p := ⟨p, 0, none⟩) hpl).trans HP.out; obtain ⟨⟨s1, s2⟩, ⟨s3, s4⟩, ⟨s5, s6, s7, s8⟩, sz⟩ := hF4.parts))
  go_wp2
  rw [HR.out] at hv4
  refine bodyPost_ret (v := .agg #[.int .i64 (W : Int), .slice (some ad4) (lm W) c4]) (by simp [results, Try.results92, go_sem, *]) rfl ?_
  exact RetVec.mk (n := lm W) rfl hv4 hF4.bel (by omega) (by have := hF3.sz; omega)
theorem ofTwo_or {w : World} {ad ad' : Addr} {c c' W V N K : Nat} (h : Vc w w.heap.size ad c W N) (h' : Vc w w.heap.size ad' c' V K) (p : Nat) (hp : w.cell? ⟨p, 0, none⟩ = some (.func (.func 54) #[] #[])) :
    Calls Try.prog 92 #[.agg #[.int .i64 W, .slice (some ad) (lm W) c], .agg #[.int .i64 V, .slice (some ad') (lm V) c'], .pointer (some ⟨p, 0, none⟩)] w (RetVec w W ((N ||| K) % 2 ^ W)) :=
  ofTwo_wor h h' p hp (fun a b c d h1 h2 wx => or_any h1 h2 wx)
set_option maxRecDepth 100000 in
set_option maxHeartbeats 1000000 in
theorem ofTwo_wxor {w : World} {ad ad' : Addr} {c c' W V N K Y : Nat} (h : Vc w w.heap.size ad c W N) (h' : Vc w w.heap.size ad' c' V K) (p : Nat) (hp : w.cell? ⟨p, 0, none⟩ = some (.func (.func 70) #[] #[]))
    (HC : Hid (∀ (a b c d : Nat), Lim a b N → Lim c d K → ∀ wx, Calls Try.prog 70 #[.agg #[.int .u64 a, .int .u64 b], .agg #[.int .u64 c, .int .u64 d]] wx (RetN wx Y))) :
    Calls Try.prog 92 #[.agg #[.int .i64 W, .slice (some ad) (lm W) c], .agg #[.int .i64 V, .slice (some ad') (lm V) c'], .pointer (some ⟨p, 0, none⟩)] w (RetVec w W (Y % 2 ^ W)) := by
  have h1 := h.w1
  have h2 := h.w2
  have hpl := World.block_lt_of_cell? w _ hp
  simp only at hpl
  have hF0 := Lib.hid (Fr3.first w (.int .i64 W) (.slice (some ad) (lm W) c) (.int .i64 V) (.slice (some ad') (lm V) c') (.int .i64 0) (.slice none 0 0) 24 24 24)
  have hV0 := Lib.hid ((h.nx (Fr3.first w (.int .i64 W) (.slice (some ad) (lm W) c) (.int .i64 V) (.slice (some ad') (lm V) c') (.int .i64 0) (.slice none 0 0) 24 24 24).bel).nx (Below.refl _ _).drew)
  have hU0 := Lib.hid ((h'.nx (Fr3.first w (.int .i64 W) (.slice (some ad) (lm W) c) (.int .i64 V) (.slice (some ad') (lm V) c') (.int .i64 0) (.slice none 0 0) 24 24 24).bel).nx (Below.refl _ _).drew)
  have hp0 := ((Fr3.first w (.int .i64 W) (.slice (some ad) (lm W) c) (.int .i64 V) (.slice (some ad') (lm V) c') (.int .i64 0) (.slice none 0 0) 24 24 24).bel.cell (p := ⟨p, 0, none⟩) hpl).trans hp
  have HP := Lib.hid hp
  obtain ⟨R, hR⟩ : ∃ R, Y % 2 ^ W = R := ⟨_, rfl⟩
  rw [hR]
  have HR := Lib.hid hR
  generalize hk : lm W = k at *
  generalize hk' : lm V = k' at *
  have HK := Lib.hid hk
  have HK' := Lib.hid hk'
  clear h h' hR hk hk'
  go_enter Try.func92, Try.ntmps92
  go_wp2_with fail
  go_region_held3 (fun w' => w'.cell? ⟨w.heap.size, 0, none⟩ = some (.int .i64 W) ∧ w'.cell? ⟨w.heap.size, 1, none⟩ = some (.slice (some ad) k c) ∧ w'.cell? ⟨w.heap.size + 1, 0, none⟩ = some (.int .i64 V) ∧ w'.cell? ⟨w.heap.size + 1, 1, none⟩ = some (.slice (some ad') k' c') ∧ w'.cell? ⟨p, 0, none⟩ = some (.func (.func 70) #[] #[]))
    (refine ⟨?_, ?_, ?_, ?_, ?_⟩ <;> first | assumption | go_simp)
    (first | (go_at_call 52; ((with_reducible refine (numberOf_k HK.out hV0.out).mono ?_); rintro e w1 ⟨x1, y1, L1, rfl, hb1⟩; have hF1 := hF0.out.dr.nx hb1; have hU1 := hU0.out.nx hb1; have hp1 := (hF1.bel.cell (p := ⟨p, 0, none⟩) hpl).trans HP.out; obtain ⟨⟨p1, p2⟩, ⟨p3, p4⟩, ⟨p5, p6, p7, p8⟩, pz⟩ := hF1.parts))
           | (go_at_call 52; ((with_reducible refine (numberOf_k HK'.out hU1).mono ?_); rintro e w2 ⟨x2, y2, L2, rfl, hb2⟩; have hF2 := hF1.nx hb2; have hp2 := (hF2.bel.cell (p := ⟨p, 0, none⟩) hpl).trans HP.out; obtain ⟨⟨q1, q2⟩, ⟨q3, q4⟩, ⟨q5, q6, q7, q8⟩, qz⟩ := hF2.parts))
           | (go_at_call 70; refine (HC.out _ _ _ _ L1 L2 _).mono ?_; rintro e w3 ⟨x3, y3, L3, rfl, hb3⟩; have hF3 := hF2.nx hb3; have hp3 := (hF3.bel.cell (p := ⟨p, 0, none⟩) hpl).trans HP.out; obtain ⟨⟨r1, r2⟩, ⟨r3, r4⟩, ⟨r5, r6, r7, r8⟩, rz⟩ := hF3.parts)
           | (go_at_call 34; refine (vecOf_any L3 W h1 h2 _).mono ?_; rintro e w4 ⟨ad4, c4, rfl, hv4, hf4, hb4⟩; have hF4 := hF3.nx hb4; have hp4 := (hF4.bel.cell (p := ⟨p, 0, none⟩) hpl).trans HP.out; obtain ⟨⟨s1, s2⟩, ⟨s3, s4⟩, ⟨s5, s6, s7, s8⟩, sz⟩ := hF4.parts))
  go_wp2
  rw [HR.out] at hv4
  refine bodyPost_ret (v := .agg #[.int .i64 (W : Int), .slice (some ad4) (lm W) c4]) (by simp [results, Try.results92, go_sem, *]) rfl ?_
  exact RetVec.mk (n := lm W) rfl hv4 hF4.bel (by omega) (by have := hF3.sz; omega)
theorem ofTwo_xor {w : World} {ad ad' : Addr} {c c' W V N K : Nat} (h : Vc w w.heap.size ad c W N) (h' : Vc w w.heap.size ad' c' V K) (p : Nat) (hp : w.cell? ⟨p, 0, none⟩ = some (.func (.func 70) #[] #[])) :
    Calls Try.prog 92 #[.agg #[.int .i64 W, .slice (some ad) (lm W) c], .agg #[.int .i64 V, .slice (some ad') (lm V) c'], .pointer (some ⟨p, 0, none⟩)] w (RetVec w W ((N ^^^ K) % 2 ^ W)) :=
  ofTwo_wxor h h' p hp (fun a b c d h1 h2 wx => xor_any h1 h2 wx)
set_option maxRecDepth 100000 in
set_option maxHeartbeats 1000000 in
theorem ofTwo_wadd {w : World} {ad ad' : Addr} {c c' W V N K Y : Nat} (h : Vc w w.heap.size ad c W N) (h' : Vc w w.heap.size ad' c' V K) (p : Nat) (hp : w.cell? ⟨p, 0, none⟩ = some (.func (.func 59) #[] #[]))
    (HC : Hid (∀ (a b c d : Nat), Lim a b N → Lim c d K → ∀ wx, Calls Try.prog 59 #[.agg #[.int .u64 a, .int .u64 b], .agg #[.int .u64 c, .int .u64 d]] wx (RetN wx Y))) :
    Calls Try.prog 92 #[.agg #[.int .i64 W, .slice (some ad) (lm W) c], .agg #[.int .i64 V, .slice (some ad') (lm V) c'], .pointer (some ⟨p, 0, none⟩)] w (RetVec w W (Y % 2 ^ W)) := by
  have h1 := h.w1
  have h2 := h.w2
  have hpl := World.block_lt_of_cell? w _ hp
  simp only at hpl
  have hF0 := Lib.hid (Fr3.first w (.int .i64 W) (.slice (some ad) (lm W) c) (.int .i64 V) (.slice (some ad') (lm V) c') (.int .i64 0) (.slice none 0 0) 24 24 24)
  have hV0 := Lib.hid ((h.nx (Fr3.first w (.int .i64 W) (.slice (some ad) (lm W) c) (.int .i64 V) (.slice (some ad') (lm V) c') (.int .i64 0) (.slice none 0 0) 24 24 24).bel).nx (Below.refl _ _).drew)
  have hU0 := Lib.hid ((h'.nx (Fr3.first w (.int .i64 W) (.slice (some ad) (lm W) c) (.int .i64 V) (.slice (some ad') (lm V) c') (.int .i64 0) (.slice none 0 0) 24 24 24).bel).nx (Below.refl _ _).drew)
  have hp0 := ((Fr3.first w (.int .i64 W) (.slice (some ad) (lm W) c) (.int .i64 V) (.slice (some ad') (lm V) c') (.int .i64 0) (.slice none 0 0) 24 24 24).bel.cell (p := ⟨p, 0, none⟩) hpl).trans hp
  have HP := Lib.hid hp
  obtain ⟨R, hR⟩ : ∃ R, Y % 2 ^ W = R := ⟨_, rfl⟩
  rw [hR]
  have HR := Lib.hid hR
  generalize hk : lm W = k at *
  generalize hk' : lm V = k' at *
  have HK := Lib.hid hk
  have HK' := Lib.hid hk'
  clear h h' hR hk hk'
  go_enter Try.func92, Try.ntmps92
  go_wp2_with fail
  go_region_held3 (fun w' => w'.cell? ⟨w.heap.size, 0, none⟩ = some (.int .i64 W) ∧ w'.cell? ⟨w.heap.size, 1, none⟩ = some (.slice (some ad) k c) ∧ w'.cell? ⟨w.heap.size + 1, 0, none⟩ = some (.int .i64 V) ∧ w'.cell? ⟨w.heap.size + 1, 1, none⟩ = some (.slice (some ad') k' c') ∧ w'.cell? ⟨p, 0, none⟩ = some (.func (.func 59) #[] #[]))
    (refine ⟨?_, ?_, ?_, ?_, ?_⟩ <;> first | assumption | go_simp)
    (first | (go_at_call 52; ((with_reducible refine (numberOf_k HK.out hV0.out).mono ?_); rintro e w1 ⟨x1, y1, L1, rfl, hb1⟩; have hF1 := hF0.out.dr.nx hb1; have hU1 := hU0.out.nx hb1; have hp1 := (hF1.bel.cell (p := ⟨p, 0, none⟩) hpl).trans HP.out; obtain ⟨⟨p1, p2⟩, ⟨p3, p4⟩, ⟨p5, p6, p7, p8⟩, pz⟩ := hF1.parts))
           | (go_at_call 52; ((with_reducible refine (numberOf_k HK'.out hU1).mono ?_); rintro e w2 ⟨x2, y2, L2, rfl, hb2⟩; have hF2 := hF1.nx hb2; have hp2 := (hF2.bel.cell (p := ⟨p, 0, none⟩) hpl).trans HP.out; obtain ⟨⟨q1, q2⟩, ⟨q3, q4⟩, ⟨q5, q6, q7, q8⟩, qz⟩ := hF2.parts))
           | (go_at_call 59; refine (HC.out _ _ _ _ L1 L2 _).mono ?_; rintro e w3 ⟨x3, y3, L3, rfl, hb3⟩; have hF3 := hF2.nx hb3; have hp3 := (hF3.bel.cell (p := ⟨p, 0, none⟩) hpl).trans HP.out; obtain ⟨⟨r1, r2⟩, ⟨r3, r4⟩, ⟨r5, r6, r7, r8⟩, rz⟩ := hF3.parts)
           | (go_at_call 34; refine (vecOf_any L3 W h1 h2 _).mono ?_; rintro e w4 ⟨ad4, c4, rfl, hv4, hf4, hb4⟩; have hF4 := hF3.nx hb4; have hp4 := (hF4.bel.cell (p := ⟨p, 0, none⟩) hpl).trans HP.out; obtain ⟨⟨s1, s2⟩, ⟨s3, s4⟩, ⟨s5, s6, s7, s8⟩, sz⟩ := hF4.parts))
  go_wp2
  rw [HR.out] at hv4
  refine bodyPost_ret (v := .agg #[.int .i64 (W : Int), .slice (some ad4) (lm W) c4]) (by simp [results, Try.results92, go_sem, *]) rfl ?_
  exact RetVec.mk (n := lm W) rfl hv4 hF4.bel (by omega) (by have := hF3.sz; omega)
theorem ofTwo_add {w : World} {ad ad' : Addr} {c c' W V N K : Nat} (h : Vc w w.heap.size ad c W N) (h' : Vc w w.heap.size ad' c' V K) (p : Nat) (hp : w.cell? ⟨p, 0, none⟩ = some (.func (.func 59) #[] #[])) :
    Calls Try.prog 92 #[.agg #[.int .i64 W, .slice (some ad) (lm W) c], .agg #[.int .i64 V, .slice (some ad') (lm V) c'], .pointer (some ⟨p, 0, none⟩)] w (RetVec w W (((N + K) % 2 ^ 128) % 2 ^ W)) :=
  ofTwo_wadd h h' p hp (fun a b c d h1 h2 wx => plus_any h1 h2 wx)
set_option maxRecDepth 100000 in
set_option maxHeartbeats 1000000 in
theorem ofTwo_wsub {w : World} {ad ad' : Addr} {c c' W V N K Y : Nat} (h : Vc w w.heap.size ad c W N) (h' : Vc w w.heap.size ad' c' V K) (p : Nat) (hp : w.cell? ⟨p, 0, none⟩ = some (.func (.func 61) #[] #[]))
    (HC : Hid (∀ (a b c d : Nat), Lim a b N → Lim c d K → ∀ wx, Calls Try.prog 61 #[.agg #[.int .u64 a, .int .u64 b], .agg #[.int .u64 c, .int .u64 d]] wx (RetN wx Y))) :
    Calls Try.prog 92 #[.agg #[.int .i64 W, .slice (some ad) (lm W) c], .agg #[.int .i64 V, .slice (some ad') (lm V) c'], .pointer (some ⟨p, 0, none⟩)] w (RetVec w W (Y % 2 ^ W)) := by
  have h1 := h.w1
  have h2 := h.w2
  have hpl := World.block_lt_of_cell? w _ hp
  simp only at hpl
  have hF0 := Lib.hid (Fr3.first w (.int .i64 W) (.slice (some ad) (lm W) c) (.int .i64 V) (.slice (some ad') (lm V) c') (.int .i64 0) (.slice none 0 0) 24 24 24)
  have hV0 := Lib.hid ((h.nx (Fr3.first w (.int .i64 W) (.slice (some ad) (lm W) c) (.int .i64 V) (.slice (some ad') (lm V) c') (.int .i64 0) (.slice none 0 0) 24 24 24).bel).nx (Below.refl _ _).drew)
  have hU0 := Lib.hid ((h'.nx (Fr3.first w (.int .i64 W) (.slice (some ad) (lm W) c) (.int .i64 V) (.slice (some ad') (lm V) c') (.int .i64 0) (.slice none 0 0) 24 24 24).bel).nx (Below.refl _ _).drew)
  have hp0 := ((Fr3.first w (.int .i64 W) (.slice (some ad) (lm W) c) (.int .i64 V) (.slice (some ad') (lm V) c') (.int .i64 0) (.slice none 0 0) 24 24 24).bel.cell (p := ⟨p, 0, none⟩) hpl).trans hp
  have HP := Lib.hid hp
  obtain ⟨R, hR⟩ : ∃ R, Y % 2 ^ W = R := ⟨_, rfl⟩
  rw [hR]
  have HR := Lib.hid hR
  generalize hk : lm W = k at *
  generalize hk' : lm V = k' at *
  have HK := Lib.hid hk
  have HK' := Lib.hid hk'
  clear h h' hR hk hk'
  go_enter Try.func92, Try.ntmps92
  go_wp2_with fail
  go_region_held3 (fun w' => w'.cell? ⟨w.heap.size, 0, none⟩ = some (.int .i64 W) ∧ w'.cell? ⟨w.heap.size, 1, none⟩ = some (.slice (some ad) k c) ∧ w'.cell? ⟨w.heap.size + 1, 0, none⟩ = some (.int .i64 V) ∧ w'.cell? ⟨w.heap.size + 1, 1, none⟩ = some (.slice (some ad') k' c') ∧ w'.cell? ⟨p, 0, none⟩ = some (.func (.func 61) #[] #[]))
    (refine ⟨?_, ?_, ?_, ?_, ?_⟩ <;> first | assumption | go_simp)
    (first | (go_at_call 52; ((with_reducible refine (numberOf_k HK.out hV0.out).mono ?_); rintro e w1 ⟨x1, y1, L1, rfl, hb1⟩; have hF1 := hF0.out.dr.nx hb1; have hU1 := hU0.out.nx hb1; have hp1 := (hF1.bel.cell (p := ⟨p, 0, none⟩) hpl).trans HP.out; obtain ⟨⟨p1, p2⟩, ⟨p3, p4⟩, ⟨p5, p6, p7, p8⟩, pz⟩ := hF1.parts))
           | (go_at_call 52; ((with_reducible refine (numberOf_k HK'.out hU1).mono ?_); rintro e w2 ⟨x2, y2, L2, rfl, hb2⟩; have hF2 := hF1.nx hb2; have hp2 := (hF2.bel.cell (p := ⟨p, 0, none⟩) hpl).trans HP.out; obtain ⟨⟨q1, q2⟩, ⟨q3, q4⟩, ⟨q5, q6, q7, q8⟩, qz⟩ := hF2.parts))
           | (go_at_call 61; refine (HC.out _ _ _ _ L1 L2 _).mono ?_; rintro e w3 ⟨x3, y3, L3, rfl, hb3⟩; have hF3 := hF2.nx hb3; have hp3 := (hF3.bel.cell (p := ⟨p, 0, none⟩) hpl).trans HP.out; obtain ⟨⟨r1, r2⟩, ⟨r3, r4⟩, ⟨r5, r6, r7, r8⟩, rz⟩ := hF3.parts)
           | (go_at_call 34; refine (vecOf_any L3 W h1 h2 _).mono ?_; rintro e w4 ⟨ad4, c4, rfl, hv4, hf4, hb4⟩; have hF4 := hF3.nx hb4; have hp4 := (hF4.bel.cell (p := ⟨p, 0, none⟩) hpl).trans HP.out; obtain ⟨⟨s1, s2⟩, ⟨s3, s4⟩, ⟨s5, s6, s7, s8⟩, sz⟩ := hF4.parts))
  go_wp2
  rw [HR.out] at hv4
  refine bodyPost_ret (v := .agg #[.int .i64 (W : Int), .slice (some ad4) (lm W) c4]) (by simp [results, Try.results92, go_sem, *]) rfl ?_
  exact RetVec.mk (n := lm W) rfl hv4 hF4.bel (by omega) (by have := hF3.sz; omega)
theorem ofTwo_sub {w : World} {ad ad' : Addr} {c c' W V N K : Nat} (h : Vc w w.heap.size ad c W N) (h' : Vc w w.heap.size ad' c' V K) (p : Nat) (hp : w.cell? ⟨p, 0, none⟩ = some (.func (.func 61) #[] #[])) :
    Calls Try.prog 92 #[.agg #[.int .i64 W, .slice (some ad) (lm W) c], .agg #[.int .i64 V, .slice (some ad') (lm V) c'], .pointer (some ⟨p, 0, none⟩)] w (RetVec w W ((sb N K) % 2 ^ W)) :=
  ofTwo_wsub h h' p hp (fun a b c d h1 h2 wx => minus_sb h1 h2 wx)
set_option maxRecDepth 100000 in
set_option maxHeartbeats 1000000 in
theorem ofTwo_wmul {w : World} {ad ad' : Addr} {c c' W V N K Y : Nat} (h : Vc w w.heap.size ad c W N) (h' : Vc w w.heap.size ad' c' V K) (p : Nat) (hp : w.cell? ⟨p, 0, none⟩ = some (.func (.func 71) #[] #[]))
    (HC : Hid (∀ (a b c d : Nat), Lim a b N → Lim c d K → ∀ wx, Calls Try.prog 71 #[.agg #[.int .u64 a, .int .u64 b], .agg #[.int .u64 c, .int .u64 d]] wx (RetN wx Y))) :
    Calls Try.prog 92 #[.agg #[.int .i64 W, .slice (some ad) (lm W) c], .agg #[.int .i64 V, .slice (some ad') (lm V) c'], .pointer (some ⟨p, 0, none⟩)] w (RetVec w W (Y % 2 ^ W)) := by
  have h1 := h.w1
  have h2 := h.w2
  have hpl := World.block_lt_of_cell? w _ hp
  simp only at hpl
  have hF0 := Lib.hid (Fr3.first w (.int .i64 W) (.slice (some ad) (lm W) c) (.int .i64 V) (.slice (some ad') (lm V) c') (.int .i64 0) (.slice none 0 0) 24 24 24)
  have hV0 := Lib.hid ((h.nx (Fr3.first w (.int .i64 W) (.slice (some ad) (lm W) c) (.int .i64 V) (.slice (some ad') (lm V) c') (.int .i64 0) (.slice none 0 0) 24 24 24).bel).nx (Below.refl _ _).drew)
  have hU0 := Lib.hid ((h'.nx (Fr3.first w (.int .i64 W) (.slice (some ad) (lm W) c) (.int .i64 V) (.slice (some ad') (lm V) c') (.int .i64 0) (.slice none 0 0) 24 24 24).bel).nx (Below.refl _ _).drew)
  have hp0 := ((Fr3.first w (.int .i64 W) (.slice (some ad) (lm W) c) (.int .i64 V) (.slice (some ad') (lm V) c') (.int .i64 0) (.slice none 0 0) 24 24 24).bel.cell (p := ⟨p, 0, none⟩) hpl).trans hp
  have HP := Lib.hid hp
  obtain ⟨R, hR⟩ : ∃ R, Y % 2 ^ W = R := ⟨_, rfl⟩
  rw [hR]
  have HR := Lib.hid hR
  generalize hk : lm W = k at *
  generalize hk' : lm V = k' at *
  have HK := Lib.hid hk
  have HK' := Lib.hid hk'
  clear h h' hR hk hk'
  go_enter Try.func92, Try.ntmps92
  go_wp2_with fail
  go_region_held3 (fun w' => w'.cell? ⟨w.heap.size, 0, none⟩ = some (.int .i64 W) ∧ w'.cell? ⟨w.heap.size, 1, none⟩ = some (.slice (some ad) k c) ∧ w'.cell? ⟨w.heap.size + 1, 0, none⟩ = some (.int .i64 V) ∧ w'.cell? ⟨w.heap.size + 1, 1, none⟩ = some (.slice (some ad') k' c') ∧ w'.cell? ⟨p, 0, none⟩ = some (.func (.func 71) #[] #[]))
    (refine ⟨?_, ?_, ?_, ?_, ?_⟩ <;> first | assumption | go_simp)
    (first | (go_at_call 52; ((with_reducible refine (numberOf_k HK.out hV0.out).mono ?_); rintro e w1 ⟨x1, y1, L1, rfl, hb1⟩; have hF1 := hF0.out.dr.nx hb1; have hU1 := hU0.out.nx hb1; have hp1 := (hF1.bel.cell (p := ⟨p, 0, none⟩) hpl).trans HP.out; obtain ⟨⟨p1, p2⟩, ⟨p3, p4⟩, ⟨p5, p6, p7, p8⟩, pz⟩ := hF1.parts))
           | (go_at_call 52; ((with_reducible refine (numberOf_k HK'.out hU1).mono ?_); rintro e w2 ⟨x2, y2, L2, rfl, hb2⟩; have hF2 := hF1.nx hb2; have hp2 := (hF2.bel.cell (p := ⟨p, 0, none⟩) hpl).trans HP.out; obtain ⟨⟨q1, q2⟩, ⟨q3, q4⟩, ⟨q5, q6, q7, q8⟩, qz⟩ := hF2.parts))
           | (go_at_call 71; refine (HC.out _ _ _ _ L1 L2 _).mono ?_; rintro e w3 ⟨x3, y3, L3, rfl, hb3⟩; have hF3 := hF2.nx hb3; have hp3 := (hF3.bel.cell (p := ⟨p, 0, none⟩) hpl).trans HP.out; obtain ⟨⟨r1, r2⟩, ⟨r3, r4⟩, ⟨r5, r6, r7, r8⟩, rz⟩ := hF3.parts)
           | (go_at_call 34; refine (vecOf_any L3 W h1 h2 _).mono ?_; rintro e w4 ⟨ad4, c4, rfl, hv4, hf4, hb4⟩; have hF4 := hF3.nx hb4; have hp4 := (hF4.bel.cell (p := ⟨p, 0, none⟩) hpl).trans HP.out; obtain ⟨⟨s1, s2⟩, ⟨s3, s4⟩, ⟨s5, s6, s7, s8⟩, sz⟩ := hF4.parts))
  go_wp2
  rw [HR.out] at hv4
  refine bodyPost_ret (v := .agg #[.int .i64 (W : Int), .slice (some ad4) (lm W) c4]) (by simp [results, Try.results92, go_sem, *]) rfl ?_
  exact RetVec.mk (n := lm W) rfl hv4 hF4.bel (by omega) (by have := hF3.sz; omega)
theorem ofTwo_mul {w : World} {ad ad' : Addr} {c c' W V N K : Nat} (h : Vc w w.heap.size ad c W N) (h' : Vc w w.heap.size ad' c' V K) (p : Nat) (hp : w.cell? ⟨p, 0, none⟩ = some (.func (.func 71) #[] #[])) :
    Calls Try.prog 92 #[.agg #[.int .i64 W, .slice (some ad) (lm W) c], .agg #[.int .i64 V, .slice (some ad') (lm V) c'], .pointer (some ⟨p, 0, none⟩)] w (RetVec w W ((N * K % 2 ^ 128) % 2 ^ W)) :=
  ofTwo_wmul h h' p hp (fun a b c d h1 h2 wx => times_any h1 h2 wx)
set_option maxRecDepth 100000 in
set_option maxHeartbeats 1000000 in
theorem ofTwo_wudiv {w : World} {ad ad' : Addr} {c c' W V N K Y : Nat} (h : Vc w w.heap.size ad c W N) (h' : Vc w w.heap.size ad' c' V K) (p : Nat) (hp : w.cell? ⟨p, 0, none⟩ = some (.func (.func 72) #[] #[]))
    (HC : Hid (∀ (a b c d : Nat), Lim a b N → Lim c d K → ∀ wx, Calls Try.prog 72 #[.agg #[.int .u64 a, .int .u64 b], .agg #[.int .u64 c, .int .u64 d]] wx (RetN wx Y))) :
    Calls Try.prog 92 #[.agg #[.int .i64 W, .slice (some ad) (lm W) c], .agg #[.int .i64 V, .slice (some ad') (lm V) c'], .pointer (some ⟨p, 0, none⟩)] w (RetVec w W (Y % 2 ^ W)) := by
  have h1 := h.w1
  have h2 := h.w2
  have hpl := World.block_lt_of_cell? w _ hp
  simp only at hpl
  have hF0 := Lib.hid (Fr3.first w (.int .i64 W) (.slice (some ad) (lm W) c) (.int .i64 V) (.slice (some ad') (lm V) c') (.int .i64 0) (.slice none 0 0) 24 24 24)
  have hV0 := Lib.hid ((h.nx (Fr3.first w (.int .i64 W) (.slice (some ad) (lm W) c) (.int .i64 V) (.slice (some ad') (lm V) c') (.int .i64 0) (.slice none 0 0) 24 24 24).bel).nx (Below.refl _ _).drew)
  have hU0 := Lib.hid ((h'.nx (Fr3.first w (.int .i64 W) (.slice (some ad) (lm W) c) (.int .i64 V) (.slice (some ad') (lm V) c') (.int .i64 0) (.slice none 0 0) 24 24 24).bel).nx (Below.refl _ _).drew)
  have hp0 := ((Fr3.first w (.int .i64 W) (.slice (some ad) (lm W) c) (.int .i64 V) (.slice (some ad') (lm V) c') (.int .i64 0) (.slice none 0 0) 24 24 24).bel.cell (p := ⟨p, 0, none⟩) hpl).trans hp
  have HP := Lib.hid hp
  obtain ⟨R, hR⟩ : ∃ R, Y % 2 ^ W = R := ⟨_, rfl⟩
  rw [hR]
  have HR := Lib.hid hR
  generalize hk : lm W = k at *
  generalize hk' : lm V = k' at *
  have HK := Lib.hid hk
  have HK' := Lib.hid hk'
  clear h h' hR hk hk'
  go_enter Try.func92, Try.ntmps92
  go_wp2_with fail
  go_region_held3 (fun w' => w'.cell? ⟨w.heap.size, 0, none⟩ = some (.int .i64 W) ∧ w'.cell? ⟨w.heap.size, 1, none⟩ = some (.slice (some ad) k c) ∧ w'.cell? ⟨w.heap.size + 1, 0, none⟩ = some (.int .i64 V) ∧ w'.cell? ⟨w.heap.size + 1, 1, none⟩ = some (.slice (some ad') k' c') ∧ w'.cell? ⟨p, 0, none⟩ = some (.func (.func 72) #[] #[]))
    (refine ⟨?_, ?_, ?_, ?_, ?_⟩ <;> first | assumption | go_simp)
    (first | (go_at_call 52; ((with_reducible refine (numberOf_k HK.out hV0.out).mono ?_); rintro e w1 ⟨x1, y1, L1, rfl, hb1⟩; have hF1 := hF0.out.dr.nx hb1; have hU1 := hU0.out.nx hb1; have hp1 := (hF1.bel.cell (p := ⟨p, 0, none⟩) hpl).trans HP.out; obtain ⟨⟨p1, p2⟩, ⟨p3, p4⟩, ⟨p5, p6, p7, p8⟩, pz⟩ := hF1.parts))
           | (go_at_call 52; ((with_reducible refine (numberOf_k HK'.out hU1).mono ?_); rintro e w2 ⟨x2, y2, L2, rfl, hb2⟩; have hF2 := hF1.nx hb2; have hp2 := (hF2.bel.cell (p := ⟨p, 0, none⟩) hpl).trans HP.out; obtain ⟨⟨q1, q2⟩, ⟨q3, q4⟩, ⟨q5, q6, q7, q8⟩, qz⟩ := hF2.parts))
           | (go_at_call 72; refine (HC.out _ _ _ _ L1 L2 _).mono ?_; rintro e w3 ⟨x3, y3, L3, rfl, hb3⟩; have hF3 := hF2.nx hb3; have hp3 := (hF3.bel.cell (p := ⟨p, 0, none⟩) hpl).trans HP.out; obtain ⟨⟨r1, r2⟩, ⟨r3, r4⟩, ⟨r5, r6, r7, r8⟩, rz⟩ := hF3.parts)
           | (go_at_call 34; refine (vecOf_any L3 W h1 h2 _).mono ?_; rintro e w4 ⟨ad4, c4, rfl, hv4, hf4, hb4⟩; have hF4 := hF3.nx hb4; have hp4 := (hF4.bel.cell (p := ⟨p, 0, none⟩) hpl).trans HP.out; obtain ⟨⟨s1, s2⟩, ⟨s3, s4⟩, ⟨s5, s6, s7, s8⟩, sz⟩ := hF4.parts))
  go_wp2
  rw [HR.out] at hv4
  refine bodyPost_ret (v := .agg #[.int .i64 (W : Int), .slice (some ad4) (lm W) c4]) (by simp [results, Try.results92, go_sem, *]) rfl ?_
  exact RetVec.mk (n := lm W) rfl hv4 hF4.bel (by omega) (by have := hF3.sz; omega)
theorem ofTwo_udiv {w : World} {ad ad' : Addr} {c c' W V N K : Nat} (h : Vc w w.heap.size ad c W N) (h' : Vc w w.heap.size ad' c' V K) (p : Nat) (hp : w.cell? ⟨p, 0, none⟩ = some (.func (.func 72) #[] #[])) :
    Calls Try.prog 92 #[.agg #[.int .i64 W, .slice (some ad) (lm W) c], .agg #[.int .i64 V, .slice (some ad') (lm V) c'], .pointer (some ⟨p, 0, none⟩)] w (RetVec w W ((dv N K 128).1 % 2 ^ W)) :=
  ofTwo_wudiv h h' p hp (fun a b c d h1 h2 wx => quotient_any h1 h2 wx)
set_option maxRecDepth 100000 in
set_option maxHeartbeats 1000000 in
theorem ofTwo_wurem {w : World} {ad ad' : Addr} {c c' W V N K Y : Nat} (h : Vc w w.heap.size ad c W N) (h' : Vc w w.heap.size ad' c' V K) (p : Nat) (hp : w.cell? ⟨p, 0, none⟩ = some (.func (.func 73) #[] #[]))
    (HC : Hid (∀ (a b c d : Nat), Lim a b N → Lim c d K → ∀ wx, Calls Try.prog 73 #[.agg #[.int .u64 a, .int .u64 b], .agg #[.int .u64 c, .int .u64 d]] wx (RetN wx Y))) :
    Calls Try.prog 92 #[.agg #[.int .i64 W, .slice (some ad) (lm W) c], .agg #[.int .i64 V, .slice (some ad') (lm V) c'], .pointer (some ⟨p, 0, none⟩)] w (RetVec w W (Y % 2 ^ W)) := by
  have h1 := h.w1
  have h2 := h.w2
  have hpl := World.block_lt_of_cell? w _ hp
  simp only at hpl
  have hF0 := Lib.hid (Fr3.first w (.int .i64 W) (.slice (some ad) (lm W) c) (.int .i64 V) (.slice (some ad') (lm V) c') (.int .i64 0) (.slice none 0 0) 24 24 24)
  have hV0 := Lib.hid ((h.nx (Fr3.first w (.int .i64 W) (.slice (some ad) (lm W) c) (.int .i64 V) (.slice (some ad') (lm V) c') (.int .i64 0) (.slice none 0 0) 24 24 24).bel).nx (Below.refl _ _).drew)
  have hU0 := Lib.hid ((h'.nx (Fr3.first w (.int .i64 W) (.slice (some ad) (lm W) c) (.int .i64 V) (.slice (some ad') (lm V) c') (.int .i64 0) (.slice none 0 0) 24 24 24).bel).nx (Below.refl _ _).drew)
  have hp0 := ((Fr3.first w (.int .i64 W) (.slice (some ad) (lm W) c) (.int .i64 V) (.slice (some ad') (lm V) c') (.int .i64 0) (.slice none 0 0) 24 24 24).bel.cell (p := ⟨p, 0, none⟩) hpl).trans hp
  have HP := Lib.hid hp
  obtain ⟨R, hR⟩ : ∃ R, Y % 2 ^ W = R := ⟨_, rfl⟩
  rw [hR]
  have HR := Lib.hid hR
  generalize hk : lm W = k at *
  generalize hk' : lm V = k' at *
  have HK := Lib.hid hk
  have HK' := Lib.hid hk'
  clear h h' hR hk hk'
  go_enter Try.func92, Try.ntmps92
  go_wp2_with fail
  go_region_held3 (fun w' => w'.cell? ⟨w.heap.size, 0, none⟩ = some (.int .i64 W) ∧ w'.cell? ⟨w.heap.size, 1, none⟩ = some (.slice (some ad) k c) ∧ w'.cell? ⟨w.heap.size + 1, 0, none⟩ = some (.int .i64 V) ∧ w'.cell? ⟨w.heap.size + 1, 1, none⟩ = some (.slice (some ad') k' c') ∧ w'.cell? ⟨p, 0, none⟩ = some (.func (.func 73) #[] #[]))
    (refine ⟨?_, ?_, ?_, ?_, ?_⟩ <;> first | assumption | go_simp)
    (first | (go_at_call 52; ((with_reducible refine (numberOf_k HK.out hV0.out).mono ?_); rintro e w1 ⟨x1, y1, L1, rfl, hb1⟩; have hF1 := hF0.out.dr.nx hb1; have hU1 := hU0.out.nx hb1; have hp1 := (hF1.bel.cell (p := ⟨p, 0, none⟩) hpl).trans HP.out; obtain ⟨⟨p1, p2⟩, ⟨p3, p4⟩, ⟨p5, p6, p7, p8⟩, pz⟩ := hF1.parts))
           | (go_at_call 52; ((with_reducible refine (numberOf_k HK'.out hU1).mono ?_); rintro e w2 ⟨x2, y2, L2, rfl, hb2⟩; have hF2 := hF1.nx hb2; have hp2 := (hF2.bel.cell (p := ⟨p, 0, none⟩) hpl).trans HP.out; obtain ⟨⟨q1, q2⟩, ⟨q3, q4⟩, ⟨q5, q6, q7, q8⟩, qz⟩ := hF2.parts))
           | (go_at_call 73; refine (HC.out _ _ _ _ L1 L2 _).mono ?_; rintro e w3 ⟨x3, y3, L3, rfl, hb3⟩; have hF3 := hF2.nx hb3; have hp3 := (hF3.bel.cell (p := ⟨p, 0, none⟩) hpl).trans HP.out; obtain ⟨⟨r1, r2⟩, ⟨r3, r4⟩, ⟨r5, r6, r7, r8⟩, rz⟩ := hF3.parts)
           | (go_at_call 34; refine (vecOf_any L3 W h1 h2 _).mono ?_; rintro e w4 ⟨ad4, c4, rfl, hv4, hf4, hb4⟩; have hF4 := hF3.nx hb4; have hp4 := (hF4.bel.cell (p := ⟨p, 0, none⟩) hpl).trans HP.out; obtain ⟨⟨s1, s2⟩, ⟨s3, s4⟩, ⟨s5, s6, s7, s8⟩, sz⟩ := hF4.parts))
  go_wp2
  rw [HR.out] at hv4
  refine bodyPost_ret (v := .agg #[.int .i64 (W : Int), .slice (some ad4) (lm W) c4]) (by simp [results, Try.results92, go_sem, *]) rfl ?_
  exact RetVec.mk (n := lm W) rfl hv4 hF4.bel (by omega) (by have := hF3.sz; omega)
theorem ofTwo_urem {w : World} {ad ad' : Addr} {c c' W V N K : Nat} (h : Vc w w.heap.size ad c W N) (h' : Vc w w.heap.size ad' c' V K) (p : Nat) (hp : w.cell? ⟨p, 0, none⟩ = some (.func (.func 73) #[] #[])) :
    Calls Try.prog 92 #[.agg #[.int .i64 W, .slice (some ad) (lm W) c], .agg #[.int .i64 V, .slice (some ad') (lm V) c'], .pointer (some ⟨p, 0, none⟩)] w (RetVec w W ((dv N K 128).2 % 2 ^ W)) :=
  ofTwo_wurem h h' p hp (fun a b c d h1 h2 wx => remainder_any h1 h2 wx)
end Go.Proofs.Ytnnoflohekmnbaa
