/-
  The closures of vec.binary that shifted makes, over the translated program: sll, srl. Nothing is assumed.
-/
import Derived.Test.YtnnoflohekmnbaaProg
import Derived.WalkKit
import Derived.WalkSpells
import Derived.WalkLawsBesides
import Derived.LoopN
import Derived.IntWalk
import Derived.Lib.Hide
import Derived.Test.YtnnoflohekmnbaaB7
import Derived.Laws.BitsAllLaws
import Derived.Laws.Externs
import Derived.BigQuiet
import Derived.BigRegion
import Derived.Deep.QuietTactic
import Derived.Deep.RegionWith
import Derived.Deep.RegionHeld3
import Derived.StillTailTactics
import Derived.RegionTactic
import Derived.ChangeAlike
set_option linter.unusedVariables false
namespace Go.Proofs.Ytnnoflohekmnbaa
open Go.RowKit
set_option maxRecDepth 100000 in
set_option maxHeartbeats 1000000 in
theorem shifted_wsll {w : World} {ad ad' : Addr} {c c' W V N K Y : Nat} (h : Vc w w.heap.size ad c W N) (h' : Vc w w.heap.size ad' c' V K) (p : Nat) (hp : w.cell? ⟨p, 0, none⟩ = some (.func (.func 75) #[] #[]))
    (HC : Hid (∀ (a b : Nat), Lim a b N → ∀ wx, Calls Try.prog 75 #[.agg #[.int .u64 a, .int .u64 b], .int .i64 ((min K W : Nat) : Int)] wx (RetN wx Y))) :
    Calls Try.prog 95 #[.agg #[.int .i64 W, .slice (some ad) (lm W) c], .agg #[.int .i64 V, .slice (some ad') (lm V) c'], .pointer (some ⟨p, 0, none⟩)] w (RetVec w W (Y % 2 ^ W)) := by
  have h1 := h.w1
  have h2 := h.w2
  have hpl := World.block_lt_of_cell? w _ hp
  simp only at hpl
  have hF0 := Lib.hid (Fr3.first w (.int .i64 W) (.slice (some ad) (lm W) c) (.int .i64 V) (.slice (some ad') (lm V) c') (.int .i64 0) (.slice none 0 0) 24 24 24)
  have hV0 := Lib.hid ((h.nx (Fr3.first w (.int .i64 W) (.slice (some ad) (lm W) c) (.int .i64 V) (.slice (some ad') (lm V) c') (.int .i64 0) (.slice none 0 0) 24 24 24).bel).nx (Below.refl _ _).drew)
  have hU0 := Lib.hid ((h'.nx (Fr3.first w (.int .i64 W) (.slice (some ad) (lm W) c) (.int .i64 V) (.slice (some ad') (lm V) c') (.int .i64 0) (.slice none 0 0) 24 24 24).bel).nx (Below.refl _ _).drew)
  have hp0 := ((Fr3.first w (.int .i64 W) (.slice (some ad) (lm W) c) (.int .i64 V) (.slice (some ad') (lm V) c') (.int .i64 0) (.slice none 0 0) 24 24 24).bel.cell (p := ⟨p, 0, none⟩) hpl).trans hp
  have HP := Lib.hid hp
  obtain ⟨R, hR⟩ : ∃ R, Y % 2 ^ W = R := ⟨_, rfl⟩
  rw [hR]
  have HR := Lib.hid hR
  generalize hk : lm W = k at *
  generalize hk' : lm V = k' at *
  have HK := Lib.hid hk
  have HK' := Lib.hid hk'
  clear h h' hR hk hk'
  go_enter Try.func95, Try.ntmps95
  go_wp2_with fail
  go_region_held3 (fun w' => w'.cell? ⟨w.heap.size, 0, none⟩ = some (.int .i64 W) ∧ w'.cell? ⟨w.heap.size, 1, none⟩ = some (.slice (some ad) k c) ∧ w'.cell? ⟨w.heap.size + 1, 0, none⟩ = some (.int .i64 V) ∧ w'.cell? ⟨w.heap.size + 1, 1, none⟩ = some (.slice (some ad') k' c') ∧ w'.cell? ⟨p, 0, none⟩ = some (.func (.func 75) #[] #[]))
    (refine ⟨?_, ?_, ?_, ?_, ?_⟩ <;> first | assumption | go_simp)
    (first | (go_at_call 52; ((with_reducible refine (numberOf_k HK.out hV0.out).mono ?_); rintro e w1 ⟨x1, y1, L1, rfl, hb1⟩; have hF1 := hF0.out.dr.nx hb1; have hU1 := hU0.out.nx hb1; have hp1 := (hF1.bel.cell (p := ⟨p, 0, none⟩) hpl).trans HP.out; obtain ⟨⟨p1, p2⟩, ⟨p3, p4⟩, ⟨p5, p6, p7, p8⟩, pz⟩ := hF1.parts))
           | (go_at_call 52; ((with_reducible refine (numberOf_k HK'.out hU1).mono ?_); rintro e w2 ⟨x2, y2, L2, rfl, hb2⟩; have hF2 := hF1.nx hb2; have hp2 := (hF2.bel.cell (p := ⟨p, 0, none⟩) hpl).trans HP.out; obtain ⟨⟨q1, q2⟩, ⟨q3, q4⟩, ⟨q5, q6, q7, q8⟩, qz⟩ := hF2.parts))
           | (go_at_call 96; refine (places_any L2 W h2 _).mono ?_; rintro e w5 ⟨rfl, hb5⟩; have hF5 := hF2.nx hb5; have hp5 := (hF5.bel.cell (p := ⟨p, 0, none⟩) hpl).trans HP.out; obtain ⟨⟨t1, t2⟩, ⟨t3, t4⟩, ⟨t5, t6, t7, t8⟩, tz⟩ := hF5.parts)
           | (go_at_call 75; refine (HC.out _ _ L1 _).mono ?_; rintro e w3 ⟨x3, y3, L3, rfl, hb3⟩; have hF3 := hF5.nx hb3; have hp3 := (hF3.bel.cell (p := ⟨p, 0, none⟩) hpl).trans HP.out; obtain ⟨⟨r1, r2⟩, ⟨r3, r4⟩, ⟨r5, r6, r7, r8⟩, rz⟩ := hF3.parts)
           | (go_at_call 34; refine (vecOf_any L3 W h1 h2 _).mono ?_; rintro e w4 ⟨ad4, c4, rfl, hv4, hf4, hb4⟩; have hF4 := hF3.nx hb4; have hp4 := (hF4.bel.cell (p := ⟨p, 0, none⟩) hpl).trans HP.out; obtain ⟨⟨s1, s2⟩, ⟨s3, s4⟩, ⟨s5, s6, s7, s8⟩, sz⟩ := hF4.parts))
  go_wp2
  rw [HR.out] at hv4
  refine bodyPost_ret (v := .agg #[.int .i64 (W : Int), .slice (some ad4) (lm W) c4]) (by simp [results, Try.results95, go_sem, *]) rfl ?_
  exact RetVec.mk (n := lm W) rfl hv4 hF4.bel (by omega) (by have := hF3.sz; omega)
theorem shifted_sll {w : World} {ad ad' : Addr} {c c' W V N K : Nat} (h : Vc w w.heap.size ad c W N) (h' : Vc w w.heap.size ad' c' V K) (p : Nat) (hp : w.cell? ⟨p, 0, none⟩ = some (.func (.func 75) #[] #[])) :
    Calls Try.prog 95 #[.agg #[.int .i64 W, .slice (some ad) (lm W) c], .agg #[.int .i64 V, .slice (some ad') (lm V) c'], .pointer (some ⟨p, 0, none⟩)] w (RetVec w W ((N * 2 ^ (min K W) % 2 ^ 128) % 2 ^ W)) :=
  shifted_wsll h h' p hp (fun a b hl wx => up_any hl (min K W) (by have := h.w2; omega) wx)
set_option maxRecDepth 100000 in
set_option maxHeartbeats 1000000 in
theorem shifted_wsrl {w : World} {ad ad' : Addr} {c c' W V N K Y : Nat} (h : Vc w w.heap.size ad c W N) (h' : Vc w w.heap.size ad' c' V K) (p : Nat) (hp : w.cell? ⟨p, 0, none⟩ = some (.func (.func 51) #[] #[]))
    (HC : Hid (∀ (a b : Nat), Lim a b N → ∀ wx, Calls Try.prog 51 #[.agg #[.int .u64 a, .int .u64 b], .int .i64 ((min K W : Nat) : Int)] wx (RetN wx Y))) :
    Calls Try.prog 95 #[.agg #[.int .i64 W, .slice (some ad) (lm W) c], .agg #[.int .i64 V, .slice (some ad') (lm V) c'], .pointer (some ⟨p, 0, none⟩)] w (RetVec w W (Y % 2 ^ W)) := by
  have h1 := h.w1
  have h2 := h.w2
  have hpl := World.block_lt_of_cell? w _ hp
  simp only at hpl
  have hF0 := Lib.hid (Fr3.first w (.int .i64 W) (.slice (some ad) (lm W) c) (.int .i64 V) (.slice (some ad') (lm V) c') (.int .i64 0) (.slice none 0 0) 24 24 24)
  have hV0 := Lib.hid ((h.nx (Fr3.first w (.int .i64 W) (.slice (some ad) (lm W) c) (.int .i64 V) (.slice (some ad') (lm V) c') (.int .i64 0) (.slice none 0 0) 24 24 24).bel).nx (Below.refl _ _).drew)
  have hU0 := Lib.hid ((h'.nx (Fr3.first w (.int .i64 W) (.slice (some ad) (lm W) c) (.int .i64 V) (.slice (some ad') (lm V) c') (.int .i64 0) (.slice none 0 0) 24 24 24).bel).nx (Below.refl _ _).drew)
  have hp0 := ((Fr3.first w (.int .i64 W) (.slice (some ad) (lm W) c) (.int .i64 V) (.slice (some ad') (lm V) c') (.int .i64 0) (.slice none 0 0) 24 24 24).bel.cell (p := ⟨p, 0, none⟩) hpl).trans hp
  have HP := Lib.hid hp
  obtain ⟨R, hR⟩ : ∃ R, Y % 2 ^ W = R := ⟨_, rfl⟩
  rw [hR]
  have HR := Lib.hid hR
  generalize hk : lm W = k at *
  generalize hk' : lm V = k' at *
  have HK := Lib.hid hk
  have HK' := Lib.hid hk'
  clear h h' hR hk hk'
  go_enter Try.func95, Try.ntmps95
  go_wp2_with fail
  go_region_held3 (fun w' => w'.cell? ⟨w.heap.size, 0, none⟩ = some (.int .i64 W) ∧ w'.cell? ⟨w.heap.size, 1, none⟩ = some (.slice (some ad) k c) ∧ w'.cell? ⟨w.heap.size + 1, 0, none⟩ = some (.int .i64 V) ∧ w'.cell? ⟨w.heap.size + 1, 1, none⟩ = some (.slice (some ad') k' c') ∧ w'.cell? ⟨p, 0, none⟩ = some (.func (.func 51) #[] #[]))
    (refine ⟨?_, ?_, ?_, ?_, ?_⟩ <;> first | assumption | go_simp)
    (first | (go_at_call 52; ((with_reducible refine (numberOf_k HK.out hV0.out).mono ?_); rintro e w1 ⟨x1, y1, L1, rfl, hb1⟩; have hF1 := hF0.out.dr.nx hb1; have hU1 := hU0.out.nx hb1; have hp1 := (hF1.bel.cell (p := ⟨p, 0, none⟩) hpl).trans HP.out; obtain ⟨⟨p1, p2⟩, ⟨p3, p4⟩, ⟨p5, p6, p7, p8⟩, pz⟩ := hF1.parts))
           | (go_at_call 52; ((with_reducible refine (numberOf_k HK'.out hU1).mono ?_); rintro e w2 ⟨x2, y2, L2, rfl, hb2⟩; have hF2 := hF1.nx hb2; have hp2 := (hF2.bel.cell (p := ⟨p, 0, none⟩) hpl).trans HP.out; obtain ⟨⟨q1, q2⟩, ⟨q3, q4⟩, ⟨q5, q6, q7, q8⟩, qz⟩ := hF2.parts))
           | (go_at_call 96; refine (places_any L2 W h2 _).mono ?_; rintro e w5 ⟨rfl, hb5⟩; have hF5 := hF2.nx hb5; have hp5 := (hF5.bel.cell (p := ⟨p, 0, none⟩) hpl).trans HP.out; obtain ⟨⟨t1, t2⟩, ⟨t3, t4⟩, ⟨t5, t6, t7, t8⟩, tz⟩ := hF5.parts)
           | (go_at_call 51; refine (HC.out _ _ L1 _).mono ?_; rintro e w3 ⟨x3, y3, L3, rfl, hb3⟩; have hF3 := hF5.nx hb3; have hp3 := (hF3.bel.cell (p := ⟨p, 0, none⟩) hpl).trans HP.out; obtain ⟨⟨r1, r2⟩, ⟨r3, r4⟩, ⟨r5, r6, r7, r8⟩, rz⟩ := hF3.parts)
           | (go_at_call 34; refine (vecOf_any L3 W h1 h2 _).mono ?_; rintro e w4 ⟨ad4, c4, rfl, hv4, hf4, hb4⟩; have hF4 := hF3.nx hb4; have hp4 := (hF4.bel.cell (p := ⟨p, 0, none⟩) hpl).trans HP.out; obtain ⟨⟨s1, s2⟩, ⟨s3, s4⟩, ⟨s5, s6, s7, s8⟩, sz⟩ := hF4.parts))
  go_wp2
  rw [HR.out] at hv4
  refine bodyPost_ret (v := .agg #[.int .i64 (W : Int), .slice (some ad4) (lm W) c4]) (by simp [results, Try.results95, go_sem, *]) rfl ?_
  exact RetVec.mk (n := lm W) rfl hv4 hF4.bel (by omega) (by have := hF3.sz; omega)
theorem shifted_srl {w : World} {ad ad' : Addr} {c c' W V N K : Nat} (h : Vc w w.heap.size ad c W N) (h' : Vc w w.heap.size ad' c' V K) (p : Nat) (hp : w.cell? ⟨p, 0, none⟩ = some (.func (.func 51) #[] #[])) :
    Calls Try.prog 95 #[.agg #[.int .i64 W, .slice (some ad) (lm W) c], .agg #[.int .i64 V, .slice (some ad') (lm V) c'], .pointer (some ⟨p, 0, none⟩)] w (RetVec w W ((N / 2 ^ (min K W)) % 2 ^ W)) :=
  shifted_wsrl h h' p hp (fun a b hl wx => down_any hl (min K W) (by have := h.w2; omega) wx)
end Go.Proofs.Ytnnoflohekmnbaa
