/-
  The closures of vec.unary over one vector: not, inc, dec, neg, over the translated program. Nothing is assumed.
-/
import Derived.Test.YtnnoflohekmnbaaProg
import Derived.WalkKit
import Derived.WalkSpells
import Derived.WalkLawsBesides
import Derived.LoopN
import Derived.IntWalk
import Derived.Lib.Hide
import Derived.Test.YtnnoflohekmnbaaB5
import Derived.Laws.BitsAllLaws
import Derived.Laws.Externs
import Derived.BigQuiet
import Derived.BigRegion
import Derived.Deep.QuietTactic
import Derived.Deep.RegionWith
import Derived.Deep.RegionHeld3
import Derived.StillTailTactics
import Derived.RegionTactic
import Derived.ChangeAlike
set_option linter.unusedVariables false
namespace Go.Proofs.Ytnnoflohekmnbaa
open Go.RowKit
/-- A difference, by 2 to the power of 128. -/
def sb (N K : Nat) : Nat := (N + 2 ^ 128 - K) % 2 ^ 128
theorem minus_sb {a b c d N K : Nat} (h : Lim a b N) (k : Lim c d K) (w : World) : Calls Try.prog 61 #[.agg #[.int .u64 a, .int .u64 b], .agg #[.int .u64 c, .int .u64 d]] w (RetN w (sb N K)) := minus_any h k w
set_option maxHeartbeats 400000 in
theorem inc_any {a b N : Nat} (h : Lim a b N) (w : World) : Calls Try.prog 58 #[.agg #[.int .u64 a, .int .u64 b]] w (RetN w ((N + 1) % 2 ^ 128)) := by
  have H : Hid (∀ wx, Calls Try.prog 59 #[.agg #[.int .u64 a, .int .u64 b], .agg #[.int .u64 1, .int .u64 0]] wx (RetN wx ((N + 1) % 2 ^ 128))) := fun wx => plus_any h (Lim.small 1 (by omega)) wx
  generalize ((N + 1) % 2 ^ 128) = R at *
  clear h
  have hF0 := Lib.hid (Fr2.first w (.int .u64 a) (.int .u64 b) (.int .u64 0) (.int .u64 0) 62 62)
  go_enter Try.func58, Try.ntmps58
  go_wp2_with fail
  refine (H.out _).mono ?_
  rintro e w1 ⟨x, y, L, rfl, hb⟩
  have hF := hF0.out.nx hb
  obtain ⟨⟨p1, p2⟩, ⟨p3, p4, p5, p6⟩, hz⟩ := hF.parts
  clear hb H
  go_wp2
  refine bodyPost_ret (v := .agg #[.int .u64 (x : Int), .int .u64 (y : Int)]) (by simp [results, Try.results58, go_sem, *]) rfl ⟨x, y, L, rfl, ?_⟩
  exact (hF.bel.setCell (by simp) _).setCell (by simp) _
set_option maxHeartbeats 400000 in
theorem dec_any {a b N : Nat} (h : Lim a b N) (w : World) : Calls Try.prog 60 #[.agg #[.int .u64 a, .int .u64 b]] w (RetN w (sb N 1)) := by
  have H : Hid (∀ wx, Calls Try.prog 61 #[.agg #[.int .u64 a, .int .u64 b], .agg #[.int .u64 1, .int .u64 0]] wx (RetN wx (sb N 1))) := fun wx => minus_sb h (Lim.small 1 (by omega)) wx
  generalize (sb N 1) = R at *
  clear h
  have hF0 := Lib.hid (Fr2.first w (.int .u64 a) (.int .u64 b) (.int .u64 0) (.int .u64 0) 62 62)
  go_enter Try.func60, Try.ntmps60
  go_wp2_with fail
  refine (H.out _).mono ?_
  rintro e w1 ⟨x, y, L, rfl, hb⟩
  have hF := hF0.out.nx hb
  obtain ⟨⟨p1, p2⟩, ⟨p3, p4, p5, p6⟩, hz⟩ := hF.parts
  clear hb H
  go_wp2
  refine bodyPost_ret (v := .agg #[.int .u64 (x : Int), .int .u64 (y : Int)]) (by simp [results, Try.results60, go_sem, *]) rfl ⟨x, y, L, rfl, ?_⟩
  exact (hF.bel.setCell (by simp) _).setCell (by simp) _
set_option maxHeartbeats 400000 in
theorem neg_any {a b N : Nat} (h : Lim a b N) (w : World) : Calls Try.prog 62 #[.agg #[.int .u64 a, .int .u64 b]] w (RetN w (sb 0 N)) := by
  have H : Hid (∀ wx, Calls Try.prog 61 #[.agg #[.int .u64 0, .int .u64 0], .agg #[.int .u64 a, .int .u64 b]] wx (RetN wx (sb 0 N))) := fun wx => minus_sb Lim.zero h wx
  generalize (sb 0 N) = R at *
  clear h
  have hF0 := Lib.hid (Fr2.first w (.int .u64 a) (.int .u64 b) (.int .u64 0) (.int .u64 0) 62 62)
  go_enter Try.func62, Try.ntmps62
  go_wp2_with fail
  refine (H.out _).mono ?_
  rintro e w1 ⟨x, y, L, rfl, hb⟩
  have hF := hF0.out.nx hb
  obtain ⟨⟨p1, p2⟩, ⟨p3, p4, p5, p6⟩, hz⟩ := hF.parts
  clear hb H
  go_wp2
  refine bodyPost_ret (v := .agg #[.int .u64 (x : Int), .int .u64 (y : Int)]) (by simp [results, Try.results62, go_sem, *]) rfl ⟨x, y, L, rfl, ?_⟩
  exact (hF.bel.setCell (by simp) _).setCell (by simp) _
theorem numberOf_k {w : World} {ad : Addr} {c W N k : Nat} (hk : lm W = k) (h : Vc w w.heap.size ad c W N) : Calls Try.prog 52 #[.agg #[.int .i64 W, .slice (some ad) k c]] w (RetN w N) := by
  subst hk; exact numberOf_any h
set_option maxRecDepth 100000 in
set_option maxHeartbeats 1000000 in
theorem ofOne_wnot {w : World} {ad : Addr} {c W N Y : Nat} (h : Vc w w.heap.size ad c W N) (p : Nat) (hp : w.cell? ⟨p, 0, none⟩ = some (.func (.func 55) #[] #[]))
    (HC : Hid (∀ (a b : Nat), Lim a b N → ∀ wx, Calls Try.prog 55 #[.agg #[.int .u64 a, .int .u64 b]] wx (RetN wx Y))) :
    Calls Try.prog 88 #[.agg #[.int .i64 W, .slice (some ad) (lm W) c], .pointer (some ⟨p, 0, none⟩)] w (RetVec w W (Y % 2 ^ W)) := by
  have h1 := h.w1
  have h2 := h.w2
  have hpl := World.block_lt_of_cell? w _ hp
  simp only at hpl
  have hF0 := Lib.hid (Fr2.first w (.int .i64 W) (.slice (some ad) (lm W) c) (.int .i64 0) (.slice none 0 0) 24 24)
  have hV0 := Lib.hid ((h.nx (Fr2.first w (.int .i64 W) (.slice (some ad) (lm W) c) (.int .i64 0) (.slice none 0 0) 24 24).bel).nx (Below.refl _ _).drew)
  have hp0 := ((Fr2.first w (.int .i64 W) (.slice (some ad) (lm W) c) (.int .i64 0) (.slice none 0 0) 24 24).bel.cell (p := ⟨p, 0, none⟩) hpl).trans hp
  have HP := Lib.hid hp
  obtain ⟨R, hR⟩ : ∃ R, Y % 2 ^ W = R := ⟨_, rfl⟩
  rw [hR]
  have HR := Lib.hid hR
  generalize hk : lm W = k at *
  have HK := Lib.hid hk
  clear h hR hk
  go_enter Try.func88, Try.ntmps88
  go_wp2_with fail
  go_region_held3 (fun w' => w'.cell? ⟨w.heap.size, 0, none⟩ = some (.int .i64 W) ∧ w'.cell? ⟨w.heap.size, 1, none⟩ = some (.slice (some ad) k c) ∧ w'.cell? ⟨p, 0, none⟩ = some (.func (.func 55) #[] #[]))
    (refine ⟨?_, ?_, ?_⟩ <;> first | assumption | go_simp)
    (first | (go_at_call 52; refine (numberOf_k HK.out hV0.out).mono ?_; rintro e w1 ⟨x1, y1, L1, rfl, hb1⟩; have hF1 := hF0.out.dr.nx hb1; have hp1 := (hF1.bel.cell (p := ⟨p, 0, none⟩) hpl).trans HP.out; obtain ⟨⟨p1, p2⟩, ⟨p3, p4, p5, p6⟩, hz⟩ := hF1.parts)
           | (go_at_call 55; refine (HC.out _ _ L1 _).mono ?_; rintro e w2 ⟨x2, y2, L2, rfl, hb2⟩; have hF2 := hF1.nx hb2; have hp2 := (hF2.bel.cell (p := ⟨p, 0, none⟩) hpl).trans HP.out; obtain ⟨⟨q1, q2⟩, ⟨q3, q4, q5, q6⟩, hz2⟩ := hF2.parts)
           | (go_at_call 34; refine (vecOf_any L2 W h1 h2 _).mono ?_; rintro e w3 ⟨ad3, c3, rfl, hv3, hf3, hb3⟩; have hF3 := hF2.nx hb3; have hp3 := (hF3.bel.cell (p := ⟨p, 0, none⟩) hpl).trans HP.out; obtain ⟨⟨r1, r2⟩, ⟨r3, r4, r5, r6⟩, hz3⟩ := hF3.parts))
  go_wp2
  rw [HR.out] at hv3
  refine bodyPost_ret (v := .agg #[.int .i64 (W : Int), .slice (some ad3) (lm W) c3]) (by simp [results, Try.results88, go_sem, *]) rfl ?_
  exact RetVec.mk (n := lm W) rfl hv3 hF3.bel (by omega) (by have := hF2.sz; omega)
theorem ofOne_not {w : World} {ad : Addr} {c W N : Nat} (h : Vc w w.heap.size ad c W N) (p : Nat) (hp : w.cell? ⟨p, 0, none⟩ = some (.func (.func 55) #[] #[])) :
    Calls Try.prog 88 #[.agg #[.int .i64 W, .slice (some ad) (lm W) c], .pointer (some ⟨p, 0, none⟩)] w (RetVec w W ((2 ^ 128 - 1 - N) % 2 ^ W)) :=
  ofOne_wnot h p hp (fun a b hl wx => not_any hl wx)
set_option maxRecDepth 100000 in
set_option maxHeartbeats 1000000 in
theorem ofOne_winc {w : World} {ad : Addr} {c W N Y : Nat} (h : Vc w w.heap.size ad c W N) (p : Nat) (hp : w.cell? ⟨p, 0, none⟩ = some (.func (.func 58) #[] #[]))
    (HC : Hid (∀ (a b : Nat), Lim a b N → ∀ wx, Calls Try.prog 58 #[.agg #[.int .u64 a, .int .u64 b]] wx (RetN wx Y))) :
    Calls Try.prog 88 #[.agg #[.int .i64 W, .slice (some ad) (lm W) c], .pointer (some ⟨p, 0, none⟩)] w (RetVec w W (Y % 2 ^ W)) := by
  have h1 := h.w1
  have h2 := h.w2
  have hpl := World.block_lt_of_cell? w _ hp
  simp only at hpl
  have hF0 := Lib.hid (Fr2.first w (.int .i64 W) (.slice (some ad) (lm W) c) (.int .i64 0) (.slice none 0 0) 24 24)
  have hV0 := Lib.hid ((h.nx (Fr2.first w (.int .i64 W) (.slice (some ad) (lm W) c) (.int .i64 0) (.slice none 0 0) 24 24).bel).nx (Below.refl _ _).drew)
  have hp0 := ((Fr2.first w (.int .i64 W) (.slice (some ad) (lm W) c) (.int .i64 0) (.slice none 0 0) 24 24).bel.cell (p := ⟨p, 0, none⟩) hpl).trans hp
  have HP := Lib.hid hp
  obtain ⟨R, hR⟩ : ∃ R, Y % 2 ^ W = R := ⟨_, rfl⟩
  rw [hR]
  have HR := Lib.hid hR
  generalize hk : lm W = k at *
  have HK := Lib.hid hk
  clear h hR hk
  go_enter Try.func88, Try.ntmps88
  go_wp2_with fail
  go_region_held3 (fun w' => w'.cell? ⟨w.heap.size, 0, none⟩ = some (.int .i64 W) ∧ w'.cell? ⟨w.heap.size, 1, none⟩ = some (.slice (some ad) k c) ∧ w'.cell? ⟨p, 0, none⟩ = some (.func (.func 58) #[] #[]))
    (refine ⟨?_, ?_, ?_⟩ <;> first | assumption | go_simp)
    (first | (go_at_call 52; refine (numberOf_k HK.out hV0.out).mono ?_; rintro e w1 ⟨x1, y1, L1, rfl, hb1⟩; have hF1 := hF0.out.dr.nx hb1; have hp1 := (hF1.bel.cell (p := ⟨p, 0, none⟩) hpl).trans HP.out; obtain ⟨⟨p1, p2⟩, ⟨p3, p4, p5, p6⟩, hz⟩ := hF1.parts)
           | (go_at_call 58; refine (HC.out _ _ L1 _).mono ?_; rintro e w2 ⟨x2, y2, L2, rfl, hb2⟩; have hF2 := hF1.nx hb2; have hp2 := (hF2.bel.cell (p := ⟨p, 0, none⟩) hpl).trans HP.out; obtain ⟨⟨q1, q2⟩, ⟨q3, q4, q5, q6⟩, hz2⟩ := hF2.parts)
           | (go_at_call 34; refine (vecOf_any L2 W h1 h2 _).mono ?_; rintro e w3 ⟨ad3, c3, rfl, hv3, hf3, hb3⟩; have hF3 := hF2.nx hb3; have hp3 := (hF3.bel.cell (p := ⟨p, 0, none⟩) hpl).trans HP.out; obtain ⟨⟨r1, r2⟩, ⟨r3, r4, r5, r6⟩, hz3⟩ := hF3.parts))
  go_wp2
  rw [HR.out] at hv3
  refine bodyPost_ret (v := .agg #[.int .i64 (W : Int), .slice (some ad3) (lm W) c3]) (by simp [results, Try.results88, go_sem, *]) rfl ?_
  exact RetVec.mk (n := lm W) rfl hv3 hF3.bel (by omega) (by have := hF2.sz; omega)
theorem ofOne_inc {w : World} {ad : Addr} {c W N : Nat} (h : Vc w w.heap.size ad c W N) (p : Nat) (hp : w.cell? ⟨p, 0, none⟩ = some (.func (.func 58) #[] #[])) :
    Calls Try.prog 88 #[.agg #[.int .i64 W, .slice (some ad) (lm W) c], .pointer (some ⟨p, 0, none⟩)] w (RetVec w W (((N + 1) % 2 ^ 128) % 2 ^ W)) :=
  ofOne_winc h p hp (fun a b hl wx => inc_any hl wx)
set_option maxRecDepth 100000 in
set_option maxHeartbeats 1000000 in
theorem ofOne_wdec {w : World} {ad : Addr} {c W N Y : Nat} (h : Vc w w.heap.size ad c W N) (p : Nat) (hp : w.cell? ⟨p, 0, none⟩ = some (.func (.func 60) #[] #[]))
    (HC : Hid (∀ (a b : Nat), Lim a b N → ∀ wx, Calls Try.prog 60 #[.agg #[.int .u64 a, .int .u64 b]] wx (RetN wx Y))) :
    Calls Try.prog 88 #[.agg #[.int .i64 W, .slice (some ad) (lm W) c], .pointer (some ⟨p, 0, none⟩)] w (RetVec w W (Y % 2 ^ W)) := by
  have h1 := h.w1
  have h2 := h.w2
  have hpl := World.block_lt_of_cell? w _ hp
  simp only at hpl
  have hF0 := Lib.hid (Fr2.first w (.int .i64 W) (.slice (some ad) (lm W) c) (.int .i64 0) (.slice none 0 0) 24 24)
  have hV0 := Lib.hid ((h.nx (Fr2.first w (.int .i64 W) (.slice (some ad) (lm W) c) (.int .i64 0) (.slice none 0 0) 24 24).bel).nx (Below.refl _ _).drew)
  have hp0 := ((Fr2.first w (.int .i64 W) (.slice (some ad) (lm W) c) (.int .i64 0) (.slice none 0 0) 24 24).bel.cell (p := ⟨p, 0, none⟩) hpl).trans hp
  have HP := Lib.hid hp
  obtain ⟨R, hR⟩ : ∃ R, Y % 2 ^ W = R := ⟨_, rfl⟩
  rw [hR]
  have HR := Lib.hid hR
  generalize hk : lm W = k at *
  have HK := Lib.hid hk
  clear h hR hk
  go_enter Try.func88, Try.ntmps88
  go_wp2_with fail
  go_region_held3 (fun w' => w'.cell? ⟨w.heap.size, 0, none⟩ = some (.int .i64 W) ∧ w'.cell? ⟨w.heap.size, 1, none⟩ = some (.slice (some ad) k c) ∧ w'.cell? ⟨p, 0, none⟩ = some (.func (.func 60) #[] #[]))
    (refine ⟨?_, ?_, ?_⟩ <;> first | assumption | go_simp)
    (first | (go_at_call 52; refine (numberOf_k HK.out hV0.out).mono ?_; rintro e w1 ⟨x1, y1, L1, rfl, hb1⟩; have hF1 := hF0.out.dr.nx hb1; have hp1 := (hF1.bel.cell (p := ⟨p, 0, none⟩) hpl).trans HP.out; obtain ⟨⟨p1, p2⟩, ⟨p3, p4, p5, p6⟩, hz⟩ := hF1.parts)
           | (go_at_call 60; refine (HC.out _ _ L1 _).mono ?_; rintro e w2 ⟨x2, y2, L2, rfl, hb2⟩; have hF2 := hF1.nx hb2; have hp2 := (hF2.bel.cell (p := ⟨p, 0, none⟩) hpl).trans HP.out; obtain ⟨⟨q1, q2⟩, ⟨q3, q4, q5, q6⟩, hz2⟩ := hF2.parts)
           | (go_at_call 34; refine (vecOf_any L2 W h1 h2 _).mono ?_; rintro e w3 ⟨ad3, c3, rfl, hv3, hf3, hb3⟩; have hF3 := hF2.nx hb3; have hp3 := (hF3.bel.cell (p := ⟨p, 0, none⟩) hpl).trans HP.out; obtain ⟨⟨r1, r2⟩, ⟨r3, r4, r5, r6⟩, hz3⟩ := hF3.parts))
  go_wp2
  rw [HR.out] at hv3
  refine bodyPost_ret (v := .agg #[.int .i64 (W : Int), .slice (some ad3) (lm W) c3]) (by simp [results, Try.results88, go_sem, *]) rfl ?_
  exact RetVec.mk (n := lm W) rfl hv3 hF3.bel (by omega) (by have := hF2.sz; omega)
theorem ofOne_dec {w : World} {ad : Addr} {c W N : Nat} (h : Vc w w.heap.size ad c W N) (p : Nat) (hp : w.cell? ⟨p, 0, none⟩ = some (.func (.func 60) #[] #[])) :
    Calls Try.prog 88 #[.agg #[.int .i64 W, .slice (some ad) (lm W) c], .pointer (some ⟨p, 0, none⟩)] w (RetVec w W (sb N 1 % 2 ^ W)) :=
  ofOne_wdec h p hp (fun a b hl wx => dec_any hl wx)
set_option maxRecDepth 100000 in
set_option maxHeartbeats 1000000 in
theorem ofOne_wneg {w : World} {ad : Addr} {c W N Y : Nat} (h : Vc w w.heap.size ad c W N) (p : Nat) (hp : w.cell? ⟨p, 0, none⟩ = some (.func (.func 62) #[] #[]))
    (HC : Hid (∀ (a b : Nat), Lim a b N → ∀ wx, Calls Try.prog 62 #[.agg #[.int .u64 a, .int .u64 b]] wx (RetN wx Y))) :
    Calls Try.prog 88 #[.agg #[.int .i64 W, .slice (some ad) (lm W) c], .pointer (some ⟨p, 0, none⟩)] w (RetVec w W (Y % 2 ^ W)) := by
  have h1 := h.w1
  have h2 := h.w2
  have hpl := World.block_lt_of_cell? w _ hp
  simp only at hpl
  have hF0 := Lib.hid (Fr2.first w (.int .i64 W) (.slice (some ad) (lm W) c) (.int .i64 0) (.slice none 0 0) 24 24)
  have hV0 := Lib.hid ((h.nx (Fr2.first w (.int .i64 W) (.slice (some ad) (lm W) c) (.int .i64 0) (.slice none 0 0) 24 24).bel).nx (Below.refl _ _).drew)
  have hp0 := ((Fr2.first w (.int .i64 W) (.slice (some ad) (lm W) c) (.int .i64 0) (.slice none 0 0) 24 24).bel.cell (p := ⟨p, 0, none⟩) hpl).trans hp
  have HP := Lib.hid hp
  obtain ⟨R, hR⟩ : ∃ R, Y % 2 ^ W = R := ⟨_, rfl⟩
  rw [hR]
  have HR := Lib.hid hR
  generalize hk : lm W = k at *
  have HK := Lib.hid hk
  clear h hR hk
  go_enter Try.func88, Try.ntmps88
  go_wp2_with fail
  go_region_held3 (fun w' => w'.cell? ⟨w.heap.size, 0, none⟩ = some (.int .i64 W) ∧ w'.cell? ⟨w.heap.size, 1, none⟩ = some (.slice (some ad) k c) ∧ w'.cell? ⟨p, 0, none⟩ = some (.func (.func 62) #[] #[]))
    (refine ⟨?_, ?_, ?_⟩ <;> first | assumption | go_simp)
    (first | (go_at_call 52; refine (numberOf_k HK.out hV0.out).mono ?_; rintro e w1 ⟨x1, y1, L1, rfl, hb1⟩; have hF1 := hF0.out.dr.nx hb1; have hp1 := (hF1.bel.cell (p := ⟨p, 0, none⟩) hpl).trans HP.out; obtain ⟨⟨p1, p2⟩, ⟨p3, p4, p5, p6⟩, hz⟩ := hF1.parts)
           | (go_at_call 62; refine (HC.out _ _ L1 _).mono ?_; rintro e w2 ⟨x2, y2, L2, rfl, hb2⟩; have hF2 := hF1.nx hb2; have hp2 := (hF2.bel.cell (p := ⟨p, 0, none⟩) hpl).trans HP.out; obtain ⟨⟨q1, q2⟩, ⟨q3, q4, q5, q6⟩, hz2⟩ := hF2.parts)
           | (go_at_call 34; refine (vecOf_any L2 W h1 h2 _).mono ?_; rintro e w3 ⟨ad3, c3, rfl, hv3, hf3, hb3⟩; have hF3 := hF2.nx hb3; have hp3 := (hF3.bel.cell (p := ⟨p, 0, none⟩) hpl).trans HP.out; obtain ⟨⟨r1, r2⟩, ⟨r3, r4, r5, r6⟩, hz3⟩ := hF3.parts))
  go_wp2
  rw [HR.out] at hv3
  refine bodyPost_ret (v := .agg #[.int .i64 (W : Int), .slice (some ad3) (lm W) c3]) (by simp [results, Try.results88, go_sem, *]) rfl ?_
  exact RetVec.mk (n := lm W) rfl hv3 hF3.bel (by omega) (by have := hF2.sz; omega)
theorem ofOne_neg {w : World} {ad : Addr} {c W N : Nat} (h : Vc w w.heap.size ad c W N) (p : Nat) (hp : w.cell? ⟨p, 0, none⟩ = some (.func (.func 62) #[] #[])) :
    Calls Try.prog 88 #[.agg #[.int .i64 W, .slice (some ad) (lm W) c], .pointer (some ⟨p, 0, none⟩)] w (RetVec w W (sb 0 N % 2 ^ W)) :=
  ofOne_wneg h p hp (fun a b hl wx => neg_any hl wx)
end Go.Proofs.Ytnnoflohekmnbaa
