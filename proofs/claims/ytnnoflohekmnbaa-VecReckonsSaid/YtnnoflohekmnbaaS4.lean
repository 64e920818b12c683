/-
  The reference's Bin. The reference's concat. VecReckons: what each operation tells, both ways; its walk.
-/
import Derived.Test.YtnnoflohekmnbaaProg
import Derived.WalkKit
import Derived.WalkSpells
import Derived.WalkLawsBesides
import Derived.LoopN
import Derived.IntWalk
import Derived.Lib.Hide
import Derived.Laws.BitsAllLaws
import Derived.Laws.Externs
import Derived.BigQuiet
import Derived.BigRegion
import Derived.Deep.QuietTactic
import Derived.Deep.RegionWith
import Derived.Deep.RegionHeld3
import Derived.StillTailTactics
import Derived.RegionTactic
import Derived.ChangeAlike
import Derived.Test.YtnnoflohekmnbaaS3
import Derived.Test.YtnnoflohekmnbaaE1
import Derived.Test.YtnnoflohekmnbaaC3
import Derived.Deep.DeepCutAuto
import Derived.Laws.AppendOwnNone
import Derived.Test.YtnnoflohekmnbaaS1
import Derived.Test.YtnnoflohekmnbaaE4
set_option linter.unusedVariables false
/- The reference's Bin. -/
namespace Go.Proofs.Ytnnoflohekmnbaa
open Go.RowKit
/-- An operation of two rows of bits as many, as a function of numbers. -/
def BinOk (s : ByteArray) (g : Nat → Nat → Nat → Nat × Nat) : Prop := ∀ (A A' : Option Addr) (c c' : Nat) (a b : List Bool) (w : World), RB w w.heap.size A a → RB w w.heap.size A' b → (A' = none → c' = 0) → b.length = a.length → 1 ≤ a.length → a.length ≤ 128 → Calls Try.prog 50 #[.string s, .slice A a.length c, .slice A' a.length c'] w (RetBo w (g a.length (nb a) (nb b)).1 (g a.length (nb a) (nb b)).2)
theorem RB.one (w : World) (b : Bool) : RB (w.alloc (.cells #[.bool b] 4)) (w.alloc (.cells #[.bool b] 4)).heap.size (some ⟨w.heap.size, 0, none⟩) [b] := by
  intro i hi
  have hi' : i = 0 := by simp at hi; omega
  subst hi'
  refine ⟨_, rfl, by simp, ?_⟩
  rw [add_loc]
  go_simp
set_option maxHeartbeats 1000000 in
theorem known_yes {s : ByteArray} {g : Nat → Nat → Nat → Nat × Nat} (h : BinOk s g) (w : World) : Calls Try.prog 49 #[.string s] w (RetV w (.bool true)) := by
  have B1 := bal (Below.refl w.heap.size w) (.cells #[.bool false] 4)
  have B2 := bal (Below.refl (w.alloc (.cells #[.bool false] 4)).heap.size (w.alloc (.cells #[.bool false] 4))) (.cells #[.bool false] 4)
  have C1 := h (some ⟨w.heap.size, 0, none⟩) (some ⟨(w.alloc (.cells #[.bool false] 4)).heap.size, 0, none⟩) 1 1 [false] [false] ((w.alloc (.cells #[.bool false] 4)).alloc (.cells #[.bool false] 4)) ((RB.one w false).nx B2) (RB.one _ false) (fun e => by cases e) rfl (by simp) (by simp)
  have HB := Lib.hid (bnxB B1 B2)
  simp only [List.length_cons, List.length_nil] at C1
  obtain ⟨x, hx⟩ : ∃ x, (g 1 (nb [false]) (nb [false])) = x := ⟨_, rfl⟩
  have e1 : (w.alloc (.cells #[.bool false] 4)).heap.size = w.heap.size + 1 := by simp
  rw [show (0 + 1 : Nat) = 1 from rfl, hx, e1] at C1
  clear h hx e1 B1 B2
  go_enter Try.func49, Try.ntmps49
  go_wp2_with fail
  refine C1.mono ?_
  rintro e w1 ⟨A1, c1, l, rfl, hl, _, _, hb⟩
  have HF := Lib.hid (bnxB HB.out hb)
  clear C1 hb hl
  go_wp2
  go_ret
  exact ⟨rfl, HF.out⟩
set_option maxRecDepth 100000 in
set_option maxHeartbeats 4000000 in
theorem bin_other (s : ByteArray) (hs : ∀ k ∈ binKeys, (s == k) = false) (A A' : Option Addr) (n c n' c' : Nat) (w : World) (hn : n ≤ 1000) :
    Calls Try.prog 50 #[.string s, .slice A n c, .slice A' n' c'] w (fun e w' => e = .returned (.tuple #[.slice none 0 0, .bool false]) ∧ w = w') := by
  have s0 := ne_list (hs ⟨#[97, 110, 100]⟩ (by simp [binKeys])) (l := [97, 110, 100]) (by rw [ByteArray.toList_eq])
  have s1 := ne_list (hs ⟨#[111, 114]⟩ (by simp [binKeys])) (l := [111, 114]) (by rw [ByteArray.toList_eq])
  have s2 := ne_list (hs ⟨#[120, 111, 114]⟩ (by simp [binKeys])) (l := [120, 111, 114]) (by rw [ByteArray.toList_eq])
  have s3 := ne_list (hs ⟨#[97, 100, 100]⟩ (by simp [binKeys])) (l := [97, 100, 100]) (by rw [ByteArray.toList_eq])
  have s4 := ne_list (hs ⟨#[115, 117, 98]⟩ (by simp [binKeys])) (l := [115, 117, 98]) (by rw [ByteArray.toList_eq])
  have s5 := ne_list (hs ⟨#[109, 117, 108]⟩ (by simp [binKeys])) (l := [109, 117, 108]) (by rw [ByteArray.toList_eq])
  have s6 := ne_list (hs ⟨#[117, 100, 105, 118]⟩ (by simp [binKeys])) (l := [117, 100, 105, 118]) (by rw [ByteArray.toList_eq])
  have s7 := ne_list (hs ⟨#[117, 114, 101, 109]⟩ (by simp [binKeys])) (l := [117, 114, 101, 109]) (by rw [ByteArray.toList_eq])
  have s8 := ne_list (hs ⟨#[115, 108, 108]⟩ (by simp [binKeys])) (l := [115, 108, 108]) (by rw [ByteArray.toList_eq])
  have s9 := ne_list (hs ⟨#[115, 114, 108]⟩ (by simp [binKeys])) (l := [115, 114, 108]) (by rw [ByteArray.toList_eq])
  have s10 := ne_list (hs ⟨#[115, 114, 97]⟩ (by simp [binKeys])) (l := [115, 114, 97]) (by rw [ByteArray.toList_eq])
  have s11 := ne_list (hs ⟨#[101, 113]⟩ (by simp [binKeys])) (l := [101, 113]) (by rw [ByteArray.toList_eq])
  have s12 := ne_list (hs ⟨#[117, 108, 116]⟩ (by simp [binKeys])) (l := [117, 108, 116]) (by rw [ByteArray.toList_eq])
  have s13 := ne_list (hs ⟨#[115, 108, 116]⟩ (by simp [binKeys])) (l := [115, 108, 116]) (by rw [ByteArray.toList_eq])
  clear hs
  go_enter Try.func50, Try.ntmps50
  go_upto_region 19 with fail
  clear s0 s1 s2 s3
  go_upto_region 29 with fail
  clear s4 s5 s6 s7
  go_upto_region 39 with fail
  clear s8 s9 s10 s11 s12
  go_upto_region 41 with fail
  go_wp2_with fail
  go_ret2
  exact ⟨rfl, rfl⟩
set_option maxHeartbeats 1000000 in
theorem known_no (s : ByteArray) (hs : ∀ k ∈ binKeys, (s == k) = false) (w : World) : Calls Try.prog 49 #[.string s] w (RetV w (.bool false)) := by
  have C1 : Hid (∀ wx A A' n c n' c', n ≤ 1000 → Calls Try.prog 50 #[.string s, .slice A n c, .slice A' n' c'] wx (fun e w' => e = .returned (.tuple #[.slice none 0 0, .bool false]) ∧ wx = w')) := Lib.hid fun wx A A' n c n' c' hn => bin_other s hs A A' n c n' c' wx hn
  have HB := Lib.hid (bal (bal (Below.refl w.heap.size w) (.cells #[.bool false] 4)) (.cells #[.bool false] 4))
  clear hs
  go_enter Try.func49, Try.ntmps49
  go_wp2_with fail
  refine (C1.out _ _ _ 1 _ _ _ (by omega)).mono ?_
  rintro e w1 ⟨rfl, rfl⟩
  clear C1
  go_wp2
  go_ret
  exact ⟨rfl, HB.out⟩
/-- The world of the reference's Bin. -/
structure FB (w wr : World) (ad : Addr) (c W N : Nat) (ad' : Addr) (c' V K : Nat) : Prop where
  bel : Below w.heap.size w wr
  va : Va wr w.heap.size ad c (lm W) W N (.int .i64 W)
  vb : Va wr (w.heap.size + 1) ad' c' (lm V) V K (.int .i64 V)
  fr : Duo wr (w.heap.size + 1 + 1) (.int .i64 0) (.slice none 0 0)
  sz : w.heap.size + 1 + 1 < wr.heap.size
theorem FB.nx {w wr w1 : World} {ad ad' : Addr} {c W N c' V K : Nat} (h : FB w wr ad c W N ad' c' V K) (hb : Below wr.heap.size wr w1) : FB w w1 ad c W N ad' c' V K :=
  ⟨bnx h.bel hb, h.va.nx hb, h.vb.nx hb, h.fr.below hb h.sz, by have := hb.size; have := h.sz; omega⟩
theorem FB.first {w : World} {ad ad' : Addr} {c W N c' V K : Nat} (h : Vc w w.heap.size ad c W N) (h' : Vc w w.heap.size ad' c' V K) : FB w (((w.alloc (.cells #[.int .i64 W, .slice (some ad) (lm W) c] 24)).alloc (.cells #[.int .i64 V, .slice (some ad') (lm V) c'] 24)).alloc (.cells #[.int .i64 0, .slice none 0 0] 24)) ad c W N ad' c' V K := by
  obtain ⟨e1, e2, e3⟩ := two_boxes h h'
  refine ⟨bal e3 _, e1.nx (bal (Below.refl _ _) _), e2.nx (bal (Below.refl _ _) _), ?_, by simp⟩
  refine ⟨?_, ?_, ?_, ?_⟩ <;> go_simp
theorem FB.parts {w wr : World} {ad ad' : Addr} {c W N c' V K : Nat} (h : FB w wr ad c W N ad' c' V K) :
    (wr.cell? ⟨w.heap.size, 0, none⟩ = some (.int .i64 W) ∧ wr.cell? ⟨w.heap.size, 1, none⟩ = some (.slice (some ad) (lm W) c) ∧ wr.cell? ⟨w.heap.size + 1, 0, none⟩ = some (.int .i64 V) ∧ wr.cell? ⟨w.heap.size + 1, 1, none⟩ = some (.slice (some ad') (lm V) c')) ∧
    (wr.cell? ⟨w.heap.size + 1 + 1, 0, none⟩ = some (.int .i64 0) ∧ wr.cell? ⟨w.heap.size + 1 + 1, 1, none⟩ = some (.slice none 0 0) ∧ wr.frozen? ⟨w.heap.size + 1 + 1, 0, none⟩ = false ∧ wr.frozen? ⟨w.heap.size + 1 + 1, 1, none⟩ = false) ∧ w.heap.size + 1 + 1 < wr.heap.size :=
  ⟨⟨h.va.parts.1, h.va.parts.2.1, h.vb.parts.1, h.vb.parts.2.1⟩, h.fr, h.sz⟩
set_option maxRecDepth 100000 in
set_option maxHeartbeats 2000000 in
theorem refBin_other (s : ByteArray) (hs : ∀ k ∈ binKeys, (s == k) = false) {w : World} {ad ad' : Addr} {c c' W V N K : Nat} (h : Vc w w.heap.size ad c W N) (h' : Vc w w.heap.size ad' c' V K) :
    Calls Try.prog 25 #[.string s, .agg #[.int .i64 W, .slice (some ad) (lm W) c], .agg #[.int .i64 V, .slice (some ad') (lm V) c']] w (RetErr w 1) := by
  have a1 := h.w1
  have a2 := h.w2
  have b1 := h'.w1
  have b2 := h'.w2
  have F0 := Lib.hid (FB.first h h')
  have scc := ne_list (hs ⟨#[99, 111, 110, 99, 97, 116]⟩ (by simp [binKeys])) (l := [99, 111, 110, 99, 97, 116]) (by rw [ByteArray.toList_eq])
  have CK := Lib.hid (known_no s hs)
  clear h h' hs
  go_enter Try.func25, Try.ntmps25
  go_wp2_with fail
  have F0 := F0.out
  generalize ((w.alloc (.cells #[.int .i64 W, .slice (some ad) (lm W) c] 24)).alloc (.cells #[.int .i64 V, .slice (some ad') (lm V) c'] 24)).alloc (.cells #[.int .i64 0, .slice none 0 0] 24) = w0 at *
  refine (CK.out _).mono ?_
  rintro e w1 ⟨rfl, hb1⟩
  have F1 := F0.nx hb1
  obtain ⟨⟨p1, p2, p3, p4⟩, ⟨p5, p6, p7, p8⟩, pz⟩ := F1.parts
  have HB := Lib.hid F1.bel
  clear F0 F1 hb1 CK
  go_wp2
  refine bodyPost_ret (v := .tuple #[.agg #[.int .i64 0, .slice none 0 0], .int .i64 1]) (by simp [results, Try.results25, go_sem, *]) rfl ⟨rfl, ?_⟩
  exact (HB.out.setCell (by simp; omega) _).setCell (by simp; omega) _
set_option maxRecDepth 100000 in
set_option maxHeartbeats 2000000 in
theorem refBin_wide {s : ByteArray} {g : Nat → Nat → Nat → Nat × Nat} (hB : BinOk s g) (scc : (s.toList == [99, 111, 110, 99, 97, 116]) = false) {w : World} {ad ad' : Addr} {c c' W V N K : Nat} (h : Vc w w.heap.size ad c W N) (h' : Vc w w.heap.size ad' c' V K) (hWV : W ≠ V) :
    Calls Try.prog 25 #[.string s, .agg #[.int .i64 W, .slice (some ad) (lm W) c], .agg #[.int .i64 V, .slice (some ad') (lm V) c']] w (RetErr w 5) := by
  have a1 := h.w1
  have a2 := h.w2
  have b1 := h'.w1
  have b2 := h'.w2
  have F0 := Lib.hid (FB.first h h')
  have CK := Lib.hid (known_yes hB)
  have d1 : ((W : Int) != (V : Int)) = true := by rw [bne_iff_ne]; omega
  clear h h' hB
  go_enter Try.func25, Try.ntmps25
  go_wp2_with fail
  have F0 := F0.out
  generalize ((w.alloc (.cells #[.int .i64 W, .slice (some ad) (lm W) c] 24)).alloc (.cells #[.int .i64 V, .slice (some ad') (lm V) c'] 24)).alloc (.cells #[.int .i64 0, .slice none 0 0] 24) = w0 at *
  refine (CK.out _).mono ?_
  rintro e w1 ⟨rfl, hb1⟩
  have F1 := F0.nx hb1
  obtain ⟨⟨p1, p2, p3, p4⟩, ⟨p5, p6, p7, p8⟩, pz⟩ := F1.parts
  have HB := Lib.hid F1.bel
  clear F0 F1 hb1 CK hWV
  go_wp2
  refine bodyPost_ret (v := .tuple #[.agg #[.int .i64 0, .slice none 0 0], .int .i64 5]) (by simp [results, Try.results25, go_sem, *]) rfl ⟨rfl, ?_⟩
  exact (HB.out.setCell (by simp; omega) _).setCell (by simp; omega) _
set_option maxRecDepth 100000 in
set_option maxHeartbeats 2000000 in
theorem refBin_long {w : World} {ad ad' : Addr} {c c' W V N K : Nat} (h : Vc w w.heap.size ad c W N) (h' : Vc w w.heap.size ad' c' V K) (hs : 128 < W + V) :
    Calls Try.prog 25 #[.string ⟨#[99, 111, 110, 99, 97, 116]⟩, .agg #[.int .i64 W, .slice (some ad) (lm W) c], .agg #[.int .i64 V, .slice (some ad') (lm V) c']] w (RetErr w 5) := by
  have a1 := h.w1
  have a2 := h.w2
  have b1 := h'.w1
  have b2 := h'.w2
  have F0 := Lib.hid (FB.first h h')
  have d1 : decide ((128 : Int) < (W : Int) + (V : Int)) = true := decide_eq_true (by omega)
  have d2 : decide (128 < W + V) = true := decide_eq_true (by omega)
  have HB := Lib.hid F0.out.bel
  clear h h' F0
  go_enter Try.func25, Try.ntmps25
  go_wp2
  refine bodyPost_ret (v := .tuple #[.agg #[.int .i64 0, .slice none 0 0], .int .i64 5]) (by simp [results, Try.results25, go_sem, *]) rfl ⟨rfl, ?_⟩
  repeat (first | exact Below.refl _ _ | refine below_drewN ?_ _ | refine bal ?_ _)
set_option maxRecDepth 100000 in
set_option maxHeartbeats 4000000 in
theorem refBin_ok {s : ByteArray} {g : Nat → Nat → Nat → Nat × Nat} (hB : BinOk s g) (scc : (s.toList == [99, 111, 110, 99, 97, 116]) = false) {w : World} {ad ad' : Addr} {c c' W N K : Nat} (h : Vc w w.heap.size ad c W N) (h' : Vc w w.heap.size ad' c' W K) (hg1 : 1 ≤ (g W N K).1) (hg2 : (g W N K).1 ≤ 128) :
    Calls Try.prog 25 #[.string s, .agg #[.int .i64 W, .slice (some ad) (lm W) c], .agg #[.int .i64 W, .slice (some ad') (lm W) c']] w (RetVE w (g W N K).1 (g W N K).2) := by
  have a1 := h.w1
  have a2 := h.w2
  have b1 := h'.w1
  have b2 := h'.w2
  have F0 := Lib.hid (FB.first h h')
  have CK := Lib.hid (known_yes hB)
  have HBO := Lib.hid hB
  have HG := Lib.hid (And.intro hg1 hg2)
  obtain ⟨W1, hW1⟩ : ∃ x, (g W N K).1 = x := ⟨_, rfl⟩
  obtain ⟨N1, hN1⟩ : ∃ x, (g W N K).2 = x := ⟨_, rfl⟩
  rw [hW1] at HG
  rw [hW1, hN1]
  have HW1 := Lib.hid hW1
  have HN1 := Lib.hid hN1
  have d1 : ((W : Int) != (W : Int)) = false := by simp
  clear h h' hB hg1 hg2 hW1 hN1
  go_enter Try.func25, Try.ntmps25
  go_wp2_with fail
  have F0 := F0.out
  generalize ((w.alloc (.cells #[.int .i64 W, .slice (some ad) (lm W) c] 24)).alloc (.cells #[.int .i64 W, .slice (some ad') (lm W) c'] 24)).alloc (.cells #[.int .i64 0, .slice none 0 0] 24) = w0 at *
  refine (CK.out _).mono ?_
  rintro e w1 ⟨rfl, hb1⟩
  have F1 := F0.nx hb1
  obtain ⟨⟨p1, p2, p3, p4⟩, ⟨p5, p6, p7, p8⟩, pz⟩ := F1.parts
  clear F0 hb1 CK
  go_wp2_with fail
  have hU := (Below.refl w1.heap.size w1).drew
  have F2 := F1.nx hU
  have K0 := F2.parts.1
  clear p1 p2 p3 p4 p5 p6 p7 p8 pz
  go_region_held3 (fun w' => w'.cell? ⟨w.heap.size, 0, none⟩ = some (.int .i64 W) ∧ w'.cell? ⟨w.heap.size, 1, none⟩ = some (.slice (some ad) (lm W) c) ∧ w'.cell? ⟨w.heap.size + 1, 0, none⟩ = some (.int .i64 W) ∧ w'.cell? ⟨w.heap.size + 1, 1, none⟩ = some (.slice (some ad') (lm W) c'))
    (first | exact K0 | exact K3 | exact K4 | exact K5)
    (first
      | (go_at_call 41; ((with_reducible refine (refBits_any F2.va.v).mono ?_); rintro e w3 ⟨v3, l3, rfl, hl3, hN3, ho3, hb3⟩; obtain ⟨A3, c3, rfl, hr3, z3⟩ := ho3.val; have F3 := F2.nx hb3; have K3 := F3.parts.1))
      | (go_at_call 41; ((with_reducible refine (refBits_any F3.vb.v).mono ?_); rintro e w4 ⟨v4, l4, rfl, hl4, hN4, ho4, hb4⟩; obtain ⟨A4, c4, rfl, hr4, z4⟩ := ho4.val; have F4 := F3.nx hb4; have K4 := F4.parts.1; have C50 := HBO.out A3 A4 c3 c4 l3 l4 w4 (hr3.nx hb4) hr4 z4 (by omega) (by omega) (by omega); rw [hN3, hN4, hl3, HW1.out, HN1.out] at C50))
      | (go_at_call 50; ((with_reducible refine C50.mono ?_); rintro e w5 ⟨A5, c5, l5, rfl, hl5, hN5, hr5, hb5⟩; have F5 := F4.nx hb5; have K5 := F5.parts.1)))
  have HL5 := Lib.hid hl5
  have HN5 := Lib.hid hN5
  have C9 := refOf_l A5 c5 W1 l5 w5 hr5 hl5 HG.out.1 HG.out.2
  have HF5 := Lib.hid F5
  obtain ⟨⟨p1, p2, p3, p4⟩, ⟨p5, p6, p7, p8⟩, pz⟩ := F5.parts
  clear hl3 hN3 ho3 hb3 hr3 z3 hl4 hN4 ho4 hb4 hr4 z4 hl5 hN5 hr5 hb5 F1 F2 F3 F4 F5 K0 K3 K4 K5 C50 hU
  go_wp2_with fail
  refine C9.mono ?_
  rintro e w9 ⟨ad9, c9, rfl, hv9, hf9, hb9⟩
  clear C9 p1 p2 p3 p4 p5 p6 p7 p8 pz
  have hF9 := HF5.out.nx hb9
  have hg9 : w.heap.size + 1 + 1 < ad9.block := by have := HF5.out.sz; omega
  obtain ⟨⟨q1, q2, q3, q4⟩, ⟨q5, q6, q7, q8⟩, qz⟩ := hF9.parts
  clear hb9
  go_wp2
  refine bodyPost_ret (v := .tuple #[.agg #[.int .i64 ((W1 : Nat) : Int), .slice (some ad9) (lm W1) c9], .int .i64 0]) (by simp [results, Try.results25, go_sem, *]) rfl ?_
  exact (RetVE.mk (W := W1) hv9 hF9.bel (by omega) hg9).at_ rfl HN5.out
end Go.Proofs.Ytnnoflohekmnbaa
/- The reference's concat. -/
namespace Go.Proofs.Ytnnoflohekmnbaa
open Go.RowKit
theorem cat_len {l m : List Bool} {V W : Nat} (h : l.length = V) (h' : m.length = W) : (l ++ m).length = W + V := by rw [List.length_append, h, h', Nat.add_comm]
theorem keepSet {w wr : World} {ad ad' : Addr} {c W N c' V K : Nat} {x y : Value} (h : FB w wr ad c W N ad' c' V K) :
    ((wr.setCell ⟨w.heap.size + 1 + 1, 0, none⟩ x).setCell ⟨w.heap.size + 1 + 1, 1, none⟩ y).cell? ⟨w.heap.size, 0, none⟩ = some (.int .i64 W) ∧ ((wr.setCell ⟨w.heap.size + 1 + 1, 0, none⟩ x).setCell ⟨w.heap.size + 1 + 1, 1, none⟩ y).cell? ⟨w.heap.size, 1, none⟩ = some (.slice (some ad) (lm W) c) ∧ ((wr.setCell ⟨w.heap.size + 1 + 1, 0, none⟩ x).setCell ⟨w.heap.size + 1 + 1, 1, none⟩ y).cell? ⟨w.heap.size + 1, 0, none⟩ = some (.int .i64 V) ∧ ((wr.setCell ⟨w.heap.size + 1 + 1, 0, none⟩ x).setCell ⟨w.heap.size + 1 + 1, 1, none⟩ y).cell? ⟨w.heap.size + 1, 1, none⟩ = some (.slice (some ad') (lm V) c') := by
  obtain ⟨p1, p2, p3, p4⟩ := h.parts.1
  refine ⟨?_, ?_, ?_, ?_⟩ <;> (rw [cell_other (by simp only [ne_eq]; omega)]; assumption)
theorem stepBsV {w : World} {ops : Array Oper} {o : Oper} {a : Act} {K : Act → World → Prop} {Q : Exit → Act → World → Prop} {E : Prop} (hgd : o.guard = none) (s x : Operand)
    (ho : o.op = .call { callee := .builtin .append, args := #[s, x], argTypes := #[65, 65] })
    (base : Nat) (v : Value) (l : List Bool) (hs : a.eval s = v) (hown : OwnB w base v l) (A : Option Addr) (c n : Nat) (m : List Bool) (hnm : n = m.length) (hx : a.eval x = .slice A n c) (hr : RB w w.heap.size A m) (hbase : base ≤ w.heap.size)
    (hn : l.length + m.length ≤ 3000000) (hA : A = none → c = 0)
    (h : ∀ v' w', OwnB w' base v' (l ++ m) → Below base w w' → K (a.put o.dst v') w') : if Region.wanted o (yielded ops a.tmps) = true then Oper.wp Try.prog o a w K Q else E := by
  have hw : Region.wanted o (yielded ops a.tmps) = true := by simp [Region.wanted, hgd]
  rw [if_pos hw]
  subst hnm
  obtain ⟨i0, hi0, hz0, hz1, hz2⟩ := info_parts bool_info
  cases A with
  | none =>
    have h0 : m = [] := by
      cases m with
      | nil => rfl
      | cons x l => obtain ⟨ad, e, _⟩ := hr 0 (by simp); cases e
    subst h0
    obtain rfl := hA rfl
    have hrun := run_append_owned_none (P := Try.prog) (w := w) base 65 o.type 4 i0 1 Try.underlying65 hi0 v l.length (l.map Value.bool) hown
    have hx' : a.eval x = .slice none 0 0 := hx
    unfold Oper.wp
    simp [execOp, ho, resolve, invoke, builtin, hs, hx', hrun, Result.andThen]
    exact h v w (by simpa using hown) (Below.refl _ _)
  | some ad =>
    refine wp_append_own w s x 65 ho base 4 i0 (.bool false) 1 1 Try.underlying65 hi0 hz0 hz1 hz2 rfl (by omega) v l.length (l.map Value.bool) hs hown ad m.length c (m.map Value.bool) hx (by simp) ?_ ?_ (by unfold maxLen; omega) (by omega) hbase ?_
    · intro j u hj
      have hjl : j < m.length := by
        have := (List.getElem?_eq_some_iff.1 hj).1
        simpa using this
      obtain ⟨ad', e, _, hc⟩ := hr j hjl
      cases e
      rw [hc]
      simp [hjl] at hj
      rw [← hj]
      simp [List.getD_eq_getElem?_getD, hjl]
    · intro u hu; obtain ⟨x, _, rfl⟩ := List.mem_map.1 hu; rfl
    · intro v' w' hown' hg _
      refine h v' w' ?_ ((Below.refl base w).grown hg hbase (fun k hk => ((World.ownsRow.lt hown) k hk).1))
      unfold OwnB
      simpa using hown'
set_option maxRecDepth 100000 in
set_option maxHeartbeats 4000000 in
theorem refBin_concat {w : World} {ad ad' : Addr} {c c' W V N K : Nat} (h : Vc w w.heap.size ad c W N) (h' : Vc w w.heap.size ad' c' V K) (hs : W + V ≤ 128) :
    Calls Try.prog 25 #[.string ⟨#[99, 111, 110, 99, 97, 116]⟩, .agg #[.int .i64 W, .slice (some ad) (lm W) c], .agg #[.int .i64 V, .slice (some ad') (lm V) c']] w (RetVE w (W + V) ((N * 2 ^ V % 2 ^ 128 ||| K) % 2 ^ (W + V))) := by
  have a1 := h.w1
  have a2 := h.w2
  have b1 := h'.w1
  have b2 := h'.w2
  have hres := r_concat h.n h'.n hs
  obtain ⟨R, hR⟩ : ∃ R, (N * 2 ^ V % 2 ^ 128 ||| K) % 2 ^ (W + V) = R := ⟨_, rfl⟩
  rw [hR] at hres ⊢
  have HR := Lib.hid hres
  have F0 := Lib.hid (FB.first h h')
  have d1 : decide ((128 : Int) < (W : Int) + (V : Int)) = false := decide_eq_false (by omega)
  have d2 : decide (128 < W + V) = false := decide_eq_false (by omega)
  clear h h' hres hR
  go_enter Try.func25, Try.ntmps25
  go_upto_region 4 with fail
  have F0 := F0.out
  have p := F0.parts
  generalize ((w.alloc (.cells #[.int .i64 W, .slice (some ad) (lm W) c] 24)).alloc (.cells #[.int .i64 V, .slice (some ad') (lm V) c'] 24)).alloc (.cells #[.int .i64 0, .slice none 0 0] 24) = w0 at *
  have hU := (Below.refl w0.heap.size w0).drew
  have F2 := F0.nx hU
  have K0 := F2.parts.1
  obtain ⟨_, ⟨p5, p6, p7, p8⟩, pz⟩ := F2.parts
  clear p
  go_region_held3 (fun w' => w'.cell? ⟨w.heap.size, 0, none⟩ = some (.int .i64 W) ∧ w'.cell? ⟨w.heap.size, 1, none⟩ = some (.slice (some ad) (lm W) c) ∧ w'.cell? ⟨w.heap.size + 1, 0, none⟩ = some (.int .i64 V) ∧ w'.cell? ⟨w.heap.size + 1, 1, none⟩ = some (.slice (some ad') (lm V) c'))
    (first | exact K0 | exact K3 | exact K4 | exact K5 | exact K6 | exact K7)
    (first
      | (go_at_call 41; ((with_reducible refine (refBits_any F2.vb.v).mono ?_); rintro e w3 ⟨v3, l3, rfl, hl3, hN3, ho3, hb3⟩; have F3 := F2.nx hb3; have K3 := F3.parts.1))
      | (go_at_call 41; ((with_reducible refine (refBits_any F3.va.v).mono ?_); rintro e w4 ⟨v4, l4, rfl, hl4, hN4, ho4, hb4⟩; obtain ⟨A4, c4, rfl, hr4, z4⟩ := ho4.val; have F4 := F3.nx hb4; have K4 := F4.parts.1; have ho34 := ho3.old hb4; have hsz4 := (bnxB hb3 hb4).size))
      | (refine stepBsV (w := w4) (by rfl) (.tmp 21) (.tmp 23) (by rfl) w0.drew.heap.size v3 l3 (by rfl) ho34 A4 c4 W l4 hl4.symm (by rfl) hr4 hsz4 (by omega) z4 ?_; intro v5 w5 ho5 hb5; obtain ⟨A5, c5, rfl, hr5, z5⟩ := ho5.val; have hb5' := (bnxB hb3 hb4).trans hb5; have F5 := F2.nx hb5'; have K5 := F5.parts.1; have hl5 := cat_len hl3 hl4; have C9 := refOf_l A5 c5 (W + V) (l3 ++ l4) w5 hr5 hl5 (by omega) hs)
      | (go_at_call 35; ((with_reducible refine C9.mono ?_); rintro e w9 ⟨ad9, c9, rfl, hv9, hf9, hb9⟩; have F9 := F5.nx hb9; have K6 := F9.parts.1; obtain ⟨_, ⟨q5, q6, q7, q8⟩, qz⟩ := F9.parts; have K7 := keepSet (x := .int .i64 ((W : Int) + (V : Int))) (y := .slice (some ad9) (lm (W + V)) c9) F9)))
  have hnn : nb (l3 ++ l4) = R := by rw [nb_app, hN3, hN4, hl3]; exact HR.out.symm
  have HNN := Lib.hid hnn
  have HF9 := Lib.hid F9
  have HV9 := Lib.hid hv9
  have hg9 : w.heap.size + 1 + 1 < ad9.block := by have := F5.sz; omega
  clear hl3 hN3 ho3 hb3 hl4 hN4 ho4 hb4 hr4 z4 hnn hv9 hf9 hb9 ho34 hsz4 ho5 hb5 hr5 z5 hb5' F5 hl5 C9 F0 F2 F3 F4 F9 K0 K3 K4 K5 K6 K7 hU
  go_wp2
  refine bodyPost_ret (v := .tuple #[.agg #[.int .i64 ((W + V : Nat) : Int), .slice (some ad9) (lm (W + V)) c9], .int .i64 0]) (by simp [results, Try.results25, go_sem, *]) rfl ?_
  exact (RetVE.mk (W := W + V) HV9.out HF9.out.bel (by omega) hg9).at_ rfl HNN.out
end Go.Proofs.Ytnnoflohekmnbaa
/- VecReckons: what each operation tells, both ways; its walk. -/
namespace Go.Proofs.Ytnnoflohekmnbaa
open Go.RowKit
theorem ne_beq {s k : ByteArray} (h : s ≠ k) : (s == k) = false := by
  cases hb : (s == k)
  · rfl
  · exfalso
    apply h
    change (s.data == k.data) = true at hb
    exact ByteArray.ext (eq_of_beq hb)
theorem beq_self_ (s : ByteArray) : (s == s) = true := by
  show (s.data == s.data) = true
  simp
theorem ok_and : BinOk ⟨#[97, 110, 100]⟩ (fun W N K => (W, f_and W N K)) := fun A A' c c' a b w h h' z hab h1 hn => bin_and A A' c c' a b w h h' z hab h1 hn
theorem ok_or : BinOk ⟨#[111, 114]⟩ (fun W N K => (W, f_or W N K)) := fun A A' c c' a b w h h' z hab h1 hn => bin_or A A' c c' a b w h h' z hab h1 hn
theorem ok_xor : BinOk ⟨#[120, 111, 114]⟩ (fun W N K => (W, f_xor W N K)) := fun A A' c c' a b w h h' z hab h1 hn => bin_xor A A' c c' a b w h h' z hab h1 hn
theorem ok_add : BinOk ⟨#[97, 100, 100]⟩ (fun W N K => (W, f_add W N K)) := fun A A' c c' a b w h h' z hab h1 hn => bin_add A A' c c' a b w h h' z hab h1 hn
theorem ok_sub : BinOk ⟨#[115, 117, 98]⟩ (fun W N K => (W, f_sub W N K)) := fun A A' c c' a b w h h' z hab h1 hn => bin_sub A A' c c' a b w h h' z hab h1 hn
theorem ok_mul : BinOk ⟨#[109, 117, 108]⟩ (fun W N K => (W, f_mul W N K)) := fun A A' c c' a b w h h' z hab h1 hn => bin_mul A A' c c' a b w h h' z hab h1 hn
theorem ok_udiv : BinOk ⟨#[117, 100, 105, 118]⟩ (fun W N K => (W, f_udiv W N K)) := fun A A' c c' a b w h h' z hab h1 hn => bin_udiv A A' c c' a b w h h' z hab h1 hn
theorem ok_urem : BinOk ⟨#[117, 114, 101, 109]⟩ (fun W N K => (W, f_urem W N K)) := fun A A' c c' a b w h h' z hab h1 hn => bin_urem A A' c c' a b w h h' z hab h1 hn
theorem ok_sll : BinOk ⟨#[115, 108, 108]⟩ (fun W N K => (W, f_sll W N K)) := fun A A' c c' a b w h h' z hab h1 hn => bin_sll A A' c c' a b w h h' z hab h1 hn
theorem ok_srl : BinOk ⟨#[115, 114, 108]⟩ (fun W N K => (W, f_srl W N K)) := fun A A' c c' a b w h h' z hab h1 hn => bin_srl A A' c c' a b w h h' z hab h1 hn
theorem ok_sra : BinOk ⟨#[115, 114, 97]⟩ (fun W N K => (W, f_sra W N K)) := fun A A' c c' a b w h h' z hab h1 hn => bin_sra A A' c c' a b w h h' z hab h1 hn
theorem ok_eq : BinOk ⟨#[101, 113]⟩ (fun W N K => (1, bn (N == K))) := fun A A' c c' a b w h h' z hab h1 hn => bin_eq A A' c c' a b w h h' z hab h1 hn
theorem ok_ult : BinOk ⟨#[117, 108, 116]⟩ (fun W N K => (1, bn (decide (N < K)))) := fun A A' c c' a b w h h' z hab h1 hn => bin_ult A A' c c' a b w h h' z hab h1 hn
theorem ok_slt : BinOk ⟨#[115, 108, 116]⟩ (fun W N K => (1, bn (sltB N K W W))) := fun A A' c c' a b w h h' z hab h1 hn => bin_slt A A' c c' a b w h h' z hab h1 hn
theorem un_both (s : ByteArray) {ad : Addr} {c W N : Nat} : ∃ R e1, ∀ wx, Vc wx wx.heap.size ad c W N → Calls Try.prog 22 #[.string s, .agg #[.int .i64 W, .slice (some ad) (lm W) c]] wx (RetR wx R e1) ∧ Calls Try.prog 23 #[.string s, .agg #[.int .i64 W, .slice (some ad) (lm W) c]] wx (RetR wx R e1) := by
  by_cases e_not : s = ⟨#[110, 111, 116]⟩
  · subst e_not
    exact ⟨_, 0, fun wx h => ⟨(Un_not h).mono fun _ _ h => h.r, (refUn_not h).mono fun _ _ h => h.r⟩⟩
  by_cases e_inc : s = ⟨#[105, 110, 99]⟩
  · subst e_inc
    exact ⟨_, 0, fun wx h => ⟨(Un_inc h).mono fun _ _ h => h.r, (refUn_inc h).mono fun _ _ h => h.r⟩⟩
  by_cases e_dec : s = ⟨#[100, 101, 99]⟩
  · subst e_dec
    exact ⟨_, 0, fun wx h => ⟨(Un_dec h).mono fun _ _ h => h.r, (refUn_dec h).mono fun _ _ h => h.r⟩⟩
  by_cases e_neg : s = ⟨#[110, 101, 103]⟩
  · subst e_neg
    exact ⟨_, 0, fun wx h => ⟨(Un_neg h).mono fun _ _ h => h.r, (refUn_neg h).mono fun _ _ h => h.r⟩⟩
  by_cases e_redand : s = ⟨#[114, 101, 100, 97, 110, 100]⟩
  · subst e_redand
    exact ⟨_, 0, fun wx h => ⟨(Un_redand h).mono fun _ _ h => h.r, (refUn_redand h).mono fun _ _ h => h.r⟩⟩
  by_cases e_redor : s = ⟨#[114, 101, 100, 111, 114]⟩
  · subst e_redor
    exact ⟨_, 0, fun wx h => ⟨(Un_redor h).mono fun _ _ h => h.r, (refUn_redor h).mono fun _ _ h => h.r⟩⟩
  by_cases e_redxor : s = ⟨#[114, 101, 100, 120, 111, 114]⟩
  · subst e_redxor
    exact ⟨_, 0, fun wx h => ⟨(Un_redxor h).mono fun _ _ h => h.r, (refUn_redxor h).mono fun _ _ h => h.r⟩⟩
  have hs : ∀ k ∈ unKeys, (s == k) = false := by
    intro k hk
    simp only [unKeys, List.mem_cons, List.not_mem_nil, or_false] at hk
    rcases hk with rfl | rfl | rfl | rfl | rfl | rfl | rfl
    · exact ne_beq e_not
    · exact ne_beq e_inc
    · exact ne_beq e_dec
    · exact ne_beq e_neg
    · exact ne_beq e_redand
    · exact ne_beq e_redor
    · exact ne_beq e_redxor
  exact ⟨none, 1, fun wx h => ⟨(Un_other s hs h).mono fun _ _ h => h.r, (refUn_other s hs h).mono fun _ _ h => h.r⟩⟩
theorem bin_both (s : ByteArray) {ad ad' : Addr} {c c' W V N K : Nat} (a1 : 1 ≤ W) (a2 : W ≤ 128) : ∃ R e1, ∀ wx, Vc wx wx.heap.size ad c W N → Vc wx wx.heap.size ad' c' V K → Calls Try.prog 24 #[.string s, .agg #[.int .i64 W, .slice (some ad) (lm W) c], .agg #[.int .i64 V, .slice (some ad') (lm V) c']] wx (RetR wx R e1) ∧ Calls Try.prog 25 #[.string s, .agg #[.int .i64 W, .slice (some ad) (lm W) c], .agg #[.int .i64 V, .slice (some ad') (lm V) c']] wx (RetR wx R e1) := by
  by_cases e_cc : s = ⟨#[99, 111, 110, 99, 97, 116]⟩
  · subst e_cc
    by_cases hs : W + V ≤ 128
    · exact ⟨_, 0, fun wx h h' => ⟨(Bin_concat h h' hs).mono fun _ _ h => h.r, (refBin_concat h h' hs).mono fun _ _ h => h.r⟩⟩
    · exact ⟨none, 5, fun wx h h' => ⟨(Bin_wconcat (Y := 0) h h' (by omega)).mono fun _ _ h => h.r, (refBin_long h h' (by omega)).mono fun _ _ h => h.r⟩⟩
  by_cases e_and : s = ⟨#[97, 110, 100]⟩
  · by_cases hw : W = V
    · subst e_and hw
      exact ⟨some (W, f_and W N K), 0, fun wx h h' => ⟨(Bin_and h h').mono fun _ _ h => h.r, (refBin_ok ok_and (by rw [ByteArray.toList_eq]; rfl) h h' a1 a2).mono fun _ _ h => h.r⟩⟩
    · subst e_and
      exact ⟨none, 5, fun wx h h' => ⟨(Bin_wwide (Y := 0) h h' _ ⟨_, by simp only [binKeys, List.mem_cons, true_or], beq_self_ _⟩ e_cc hw).mono fun _ _ h => h.r, (refBin_wide ok_and (by rw [ByteArray.toList_eq]; rfl) h h' hw).mono fun _ _ h => h.r⟩⟩
  by_cases e_or : s = ⟨#[111, 114]⟩
  · by_cases hw : W = V
    · subst e_or hw
      exact ⟨some (W, f_or W N K), 0, fun wx h h' => ⟨(Bin_or h h').mono fun _ _ h => h.r, (refBin_ok ok_or (by rw [ByteArray.toList_eq]; rfl) h h' a1 a2).mono fun _ _ h => h.r⟩⟩
    · subst e_or
      exact ⟨none, 5, fun wx h h' => ⟨(Bin_wwide (Y := 0) h h' _ ⟨_, by simp only [binKeys, List.mem_cons, true_or, or_true], beq_self_ _⟩ e_cc hw).mono fun _ _ h => h.r, (refBin_wide ok_or (by rw [ByteArray.toList_eq]; rfl) h h' hw).mono fun _ _ h => h.r⟩⟩
  by_cases e_xor : s = ⟨#[120, 111, 114]⟩
  · by_cases hw : W = V
    · subst e_xor hw
      exact ⟨some (W, f_xor W N K), 0, fun wx h h' => ⟨(Bin_xor h h').mono fun _ _ h => h.r, (refBin_ok ok_xor (by rw [ByteArray.toList_eq]; rfl) h h' a1 a2).mono fun _ _ h => h.r⟩⟩
    · subst e_xor
      exact ⟨none, 5, fun wx h h' => ⟨(Bin_wwide (Y := 0) h h' _ ⟨_, by simp only [binKeys, List.mem_cons, true_or, or_true], beq_self_ _⟩ e_cc hw).mono fun _ _ h => h.r, (refBin_wide ok_xor (by rw [ByteArray.toList_eq]; rfl) h h' hw).mono fun _ _ h => h.r⟩⟩
  by_cases e_add : s = ⟨#[97, 100, 100]⟩
  · by_cases hw : W = V
    · subst e_add hw
      exact ⟨some (W, f_add W N K), 0, fun wx h h' => ⟨(Bin_add h h').mono fun _ _ h => h.r, (refBin_ok ok_add (by rw [ByteArray.toList_eq]; rfl) h h' a1 a2).mono fun _ _ h => h.r⟩⟩
    · subst e_add
      exact ⟨none, 5, fun wx h h' => ⟨(Bin_wwide (Y := 0) h h' _ ⟨_, by simp only [binKeys, List.mem_cons, true_or, or_true], beq_self_ _⟩ e_cc hw).mono fun _ _ h => h.r, (refBin_wide ok_add (by rw [ByteArray.toList_eq]; rfl) h h' hw).mono fun _ _ h => h.r⟩⟩
  by_cases e_sub : s = ⟨#[115, 117, 98]⟩
  · by_cases hw : W = V
    · subst e_sub hw
      exact ⟨some (W, f_sub W N K), 0, fun wx h h' => ⟨(Bin_sub h h').mono fun _ _ h => h.r, (refBin_ok ok_sub (by rw [ByteArray.toList_eq]; rfl) h h' a1 a2).mono fun _ _ h => h.r⟩⟩
    · subst e_sub
      exact ⟨none, 5, fun wx h h' => ⟨(Bin_wwide (Y := 0) h h' _ ⟨_, by simp only [binKeys, List.mem_cons, true_or, or_true], beq_self_ _⟩ e_cc hw).mono fun _ _ h => h.r, (refBin_wide ok_sub (by rw [ByteArray.toList_eq]; rfl) h h' hw).mono fun _ _ h => h.r⟩⟩
  by_cases e_mul : s = ⟨#[109, 117, 108]⟩
  · by_cases hw : W = V
    · subst e_mul hw
      exact ⟨some (W, f_mul W N K), 0, fun wx h h' => ⟨(Bin_mul h h').mono fun _ _ h => h.r, (refBin_ok ok_mul (by rw [ByteArray.toList_eq]; rfl) h h' a1 a2).mono fun _ _ h => h.r⟩⟩
    · subst e_mul
      exact ⟨none, 5, fun wx h h' => ⟨(Bin_wwide (Y := 0) h h' _ ⟨_, by simp only [binKeys, List.mem_cons, true_or, or_true], beq_self_ _⟩ e_cc hw).mono fun _ _ h => h.r, (refBin_wide ok_mul (by rw [ByteArray.toList_eq]; rfl) h h' hw).mono fun _ _ h => h.r⟩⟩
  by_cases e_udiv : s = ⟨#[117, 100, 105, 118]⟩
  · by_cases hw : W = V
    · subst e_udiv hw
      exact ⟨some (W, f_udiv W N K), 0, fun wx h h' => ⟨(Bin_udiv h h').mono fun _ _ h => h.r, (refBin_ok ok_udiv (by rw [ByteArray.toList_eq]; rfl) h h' a1 a2).mono fun _ _ h => h.r⟩⟩
    · subst e_udiv
      exact ⟨none, 5, fun wx h h' => ⟨(Bin_wwide (Y := 0) h h' _ ⟨_, by simp only [binKeys, List.mem_cons, true_or, or_true], beq_self_ _⟩ e_cc hw).mono fun _ _ h => h.r, (refBin_wide ok_udiv (by rw [ByteArray.toList_eq]; rfl) h h' hw).mono fun _ _ h => h.r⟩⟩
  by_cases e_urem : s = ⟨#[117, 114, 101, 109]⟩
  · by_cases hw : W = V
    · subst e_urem hw
      exact ⟨some (W, f_urem W N K), 0, fun wx h h' => ⟨(Bin_urem h h').mono fun _ _ h => h.r, (refBin_ok ok_urem (by rw [ByteArray.toList_eq]; rfl) h h' a1 a2).mono fun _ _ h => h.r⟩⟩
    · subst e_urem
      exact ⟨none, 5, fun wx h h' => ⟨(Bin_wwide (Y := 0) h h' _ ⟨_, by simp only [binKeys, List.mem_cons, true_or, or_true], beq_self_ _⟩ e_cc hw).mono fun _ _ h => h.r, (refBin_wide ok_urem (by rw [ByteArray.toList_eq]; rfl) h h' hw).mono fun _ _ h => h.r⟩⟩
  by_cases e_sll : s = ⟨#[115, 108, 108]⟩
  · by_cases hw : W = V
    · subst e_sll hw
      exact ⟨some (W, f_sll W N K), 0, fun wx h h' => ⟨(Bin_sll h h').mono fun _ _ h => h.r, (refBin_ok ok_sll (by rw [ByteArray.toList_eq]; rfl) h h' a1 a2).mono fun _ _ h => h.r⟩⟩
    · subst e_sll
      exact ⟨none, 5, fun wx h h' => ⟨(Bin_wwide (Y := 0) h h' _ ⟨_, by simp only [binKeys, List.mem_cons, true_or, or_true], beq_self_ _⟩ e_cc hw).mono fun _ _ h => h.r, (refBin_wide ok_sll (by rw [ByteArray.toList_eq]; rfl) h h' hw).mono fun _ _ h => h.r⟩⟩
  by_cases e_srl : s = ⟨#[115, 114, 108]⟩
  · by_cases hw : W = V
    · subst e_srl hw
      exact ⟨some (W, f_srl W N K), 0, fun wx h h' => ⟨(Bin_srl h h').mono fun _ _ h => h.r, (refBin_ok ok_srl (by rw [ByteArray.toList_eq]; rfl) h h' a1 a2).mono fun _ _ h => h.r⟩⟩
    · subst e_srl
      exact ⟨none, 5, fun wx h h' => ⟨(Bin_wwide (Y := 0) h h' _ ⟨_, by simp only [binKeys, List.mem_cons, true_or, or_true], beq_self_ _⟩ e_cc hw).mono fun _ _ h => h.r, (refBin_wide ok_srl (by rw [ByteArray.toList_eq]; rfl) h h' hw).mono fun _ _ h => h.r⟩⟩
  by_cases e_sra : s = ⟨#[115, 114, 97]⟩
  · by_cases hw : W = V
    · subst e_sra hw
      exact ⟨some (W, f_sra W N K), 0, fun wx h h' => ⟨(Bin_sra h h').mono fun _ _ h => h.r, (refBin_ok ok_sra (by rw [ByteArray.toList_eq]; rfl) h h' a1 a2).mono fun _ _ h => h.r⟩⟩
    · subst e_sra
      exact ⟨none, 5, fun wx h h' => ⟨(Bin_wwide (Y := 0) h h' _ ⟨_, by simp only [binKeys, List.mem_cons, true_or, or_true], beq_self_ _⟩ e_cc hw).mono fun _ _ h => h.r, (refBin_wide ok_sra (by rw [ByteArray.toList_eq]; rfl) h h' hw).mono fun _ _ h => h.r⟩⟩
  by_cases e_eq : s = ⟨#[101, 113]⟩
  · by_cases hw : W = V
    · subst e_eq hw
      exact ⟨some (1, bn (N == K)), 0, fun wx h h' => ⟨(Bin_eq h h').mono fun _ _ h => h.r, (refBin_ok ok_eq (by rw [ByteArray.toList_eq]; rfl) h h' (by show 1 ≤ 1; omega) (by show 1 ≤ 128; omega)).mono fun _ _ h => h.r⟩⟩
    · subst e_eq
      exact ⟨none, 5, fun wx h h' => ⟨(Bin_wwide (Y := 0) h h' _ ⟨_, by simp only [binKeys, List.mem_cons, true_or, or_true], beq_self_ _⟩ e_cc hw).mono fun _ _ h => h.r, (refBin_wide ok_eq (by rw [ByteArray.toList_eq]; rfl) h h' hw).mono fun _ _ h => h.r⟩⟩
  by_cases e_ult : s = ⟨#[117, 108, 116]⟩
  · by_cases hw : W = V
    · subst e_ult hw
      exact ⟨some (1, bn (decide (N < K))), 0, fun wx h h' => ⟨(Bin_ult h h').mono fun _ _ h => h.r, (refBin_ok ok_ult (by rw [ByteArray.toList_eq]; rfl) h h' (by show 1 ≤ 1; omega) (by show 1 ≤ 128; omega)).mono fun _ _ h => h.r⟩⟩
    · subst e_ult
      exact ⟨none, 5, fun wx h h' => ⟨(Bin_wwide (Y := 0) h h' _ ⟨_, by simp only [binKeys, List.mem_cons, true_or, or_true], beq_self_ _⟩ e_cc hw).mono fun _ _ h => h.r, (refBin_wide ok_ult (by rw [ByteArray.toList_eq]; rfl) h h' hw).mono fun _ _ h => h.r⟩⟩
  by_cases e_slt : s = ⟨#[115, 108, 116]⟩
  · by_cases hw : W = V
    · subst e_slt hw
      exact ⟨some (1, bn (sltB N K W W)), 0, fun wx h h' => ⟨(Bin_slt h h').mono fun _ _ h => h.r, (refBin_ok ok_slt (by rw [ByteArray.toList_eq]; rfl) h h' (by show 1 ≤ 1; omega) (by show 1 ≤ 128; omega)).mono fun _ _ h => h.r⟩⟩
    · subst e_slt
      exact ⟨none, 5, fun wx h h' => ⟨(Bin_wwide (Y := 0) h h' _ ⟨_, by simp only [binKeys, List.mem_cons, true_or, or_true], beq_self_ _⟩ e_cc hw).mono fun _ _ h => h.r, (refBin_wide ok_slt (by rw [ByteArray.toList_eq]; rfl) h h' hw).mono fun _ _ h => h.r⟩⟩
  have hs : ∀ k ∈ binKeys, (s == k) = false := by
    intro k hk
    simp only [binKeys, List.mem_cons, List.not_mem_nil, or_false] at hk
    rcases hk with rfl | rfl | rfl | rfl | rfl | rfl | rfl | rfl | rfl | rfl | rfl | rfl | rfl | rfl | rfl
    · exact ne_beq e_and
    · exact ne_beq e_or
    · exact ne_beq e_xor
    · exact ne_beq e_add
    · exact ne_beq e_sub
    · exact ne_beq e_mul
    · exact ne_beq e_udiv
    · exact ne_beq e_urem
    · exact ne_beq e_sll
    · exact ne_beq e_srl
    · exact ne_beq e_sra
    · exact ne_beq e_eq
    · exact ne_beq e_ult
    · exact ne_beq e_slt
    · exact ne_beq e_cc
  exact ⟨none, 1, fun wx h h' => ⟨(Bin_wother (Y := 0) h h' s hs).mono fun _ _ h => h.r, (refBin_other s hs h h').mono fun _ _ h => h.r⟩⟩
set_option maxRecDepth 100000 in
set_option maxHeartbeats 16000000 in
theorem reckons_main (s : ByteArray) {w : World} {ad ad' : Addr} {c c' W V N K : Nat} (h : Vc w w.heap.size ad c W N) (h' : Vc w w.heap.size ad' c' V K) (R1 R2 : Option (Nat × Nat)) (e1 e2 : Int)
    (HU : Hid (∀ wx, Vc wx wx.heap.size ad c W N → Calls Try.prog 22 #[.string s, .agg #[.int .i64 W, .slice (some ad) (lm W) c]] wx (RetR wx R1 e1) ∧ Calls Try.prog 23 #[.string s, .agg #[.int .i64 W, .slice (some ad) (lm W) c]] wx (RetR wx R1 e1)))
    (HN : Hid (∀ wx, Vc wx wx.heap.size ad c W N → Vc wx wx.heap.size ad' c' V K → Calls Try.prog 24 #[.string s, .agg #[.int .i64 W, .slice (some ad) (lm W) c], .agg #[.int .i64 V, .slice (some ad') (lm V) c']] wx (RetR wx R2 e2) ∧ Calls Try.prog 25 #[.string s, .agg #[.int .i64 W, .slice (some ad) (lm W) c], .agg #[.int .i64 V, .slice (some ad') (lm V) c']] wx (RetR wx R2 e2))) :
    Calls Try.prog 4 #[.string s, .agg #[.int .i64 W, .slice (some ad) (lm W) c], .agg #[.int .i64 V, .slice (some ad') (lm V) c']] w (RetV w (.bool true)) := by
  have q1 : (e1 == e1) = true := by simp
  have q2 : (e2 == e2) = true := by simp
  go_enter Try.func4, Try.ntmps4
  go_wp2_with fail
  obtain ⟨h_a, h_b, hB⟩ := two_boxes h h'
  clear h h'
  generalize (w.alloc (.cells #[.int .i64 W, .slice (some ad) (lm W) c] 24)).alloc (.cells #[.int .i64 V, .slice (some ad') (lm V) c'] 24) = w0 at *
  go_wp2_with fail
  refine (shown_any _).mono ?_
  rintro e w1 ⟨rfl, hb1⟩
  replace h_a := h_a.nx hb1
  replace h_b := h_b.nx hb1
  replace hB := bnx hB hb1
  obtain ⟨p_a1, p_a2, p_a3⟩ := h_a.parts
  obtain ⟨p_b1, p_b2, p_b3⟩ := h_b.parts
  clear hb1
  go_wp2_with fail
  refine (refRight_vc h_a.v).mono ?_
  rintro e w2 ⟨rfl, hb2⟩
  clear p_a1 p_a2 p_a3 p_b1 p_b2 p_b3
  replace h_a := h_a.nx hb2
  replace h_b := h_b.nx hb2
  replace hB := bnx hB hb2
  obtain ⟨p_a1, p_a2, p_a3⟩ := h_a.parts
  obtain ⟨p_b1, p_b2, p_b3⟩ := h_b.parts
  clear hb2
  go_wp2_with fail
  refine (refRight_vc h_b.v).mono ?_
  rintro e w3 ⟨rfl, hb3⟩
  clear p_a1 p_a2 p_a3 p_b1 p_b2 p_b3
  replace h_a := h_a.nx hb3
  replace h_b := h_b.nx hb3
  replace hB := bnx hB hb3
  obtain ⟨p_a1, p_a2, p_a3⟩ := h_a.parts
  obtain ⟨p_b1, p_b2, p_b3⟩ := h_b.parts
  clear hb3
  go_wp2_with fail
  refine ((HU.out _ h_a.v).1).mono ?_
  rintro e w4 ⟨V4, A4, k4, c4, rfl, rs4, hb4⟩
  clear p_a1 p_a2 p_a3 p_b1 p_b2 p_b3
  replace h_a := h_a.nx hb4
  replace h_b := h_b.nx hb4
  replace hB := bnx hB hb4
  obtain ⟨p_a1, p_a2, p_a3⟩ := h_a.parts
  obtain ⟨p_b1, p_b2, p_b3⟩ := h_b.parts
  clear hb4
  have h_x := Vx.new rs4
  replace h_a := h_a.nx (bal (Below.refl _ _) (.cells #[.int .i64 V4, .slice A4 k4 c4] 24))
  replace h_b := h_b.nx (bal (Below.refl _ _) (.cells #[.int .i64 V4, .slice A4 k4 c4] 24))
  replace hB := bal hB (.cells #[.int .i64 V4, .slice A4 k4 c4] 24)
  clear rs4
  go_wp2_with fail
  generalize w4.alloc (.cells #[.int .i64 V4, .slice A4 k4 c4] 24) = w4m at *
  generalize w4.heap.size = gw4 at *
  refine ((HU.out _ h_a.v).2).mono ?_
  rintro e w5 ⟨V5, A5, k5, c5, rfl, rs5, hb5⟩
  clear p_a1 p_a2 p_a3 p_b1 p_b2 p_b3
  replace h_a := h_a.nx hb5
  replace h_b := h_b.nx hb5
  replace h_x := h_x.nx hb5
  replace hB := bnx hB hb5
  obtain ⟨p_a1, p_a2, p_a3⟩ := h_a.parts
  obtain ⟨p_b1, p_b2, p_b3⟩ := h_b.parts
  obtain ⟨p_x1, p_x2, p_x3⟩ := h_x.parts
  clear hb5
  have h_y := Vx.new rs5
  replace h_a := h_a.nx (bal (Below.refl _ _) (.cells #[.int .i64 V5, .slice A5 k5 c5] 24))
  replace h_b := h_b.nx (bal (Below.refl _ _) (.cells #[.int .i64 V5, .slice A5 k5 c5] 24))
  replace h_x := h_x.nx (bal (Below.refl _ _) (.cells #[.int .i64 V5, .slice A5 k5 c5] 24))
  replace hB := bal hB (.cells #[.int .i64 V5, .slice A5 k5 c5] 24)
  clear rs5
  go_wp2_with fail
  generalize w5.alloc (.cells #[.int .i64 V5, .slice A5 k5 c5] 24) = w5m at *
  generalize w5.heap.size = gw5 at *
  refine ((HN.out _ h_a.v h_b.v).1).mono ?_
  rintro e w6 ⟨V6, A6, k6, c6, rfl, rs6, hb6⟩
  clear p_a1 p_a2 p_a3 p_b1 p_b2 p_b3 p_x1 p_x2 p_x3
  replace h_a := h_a.nx hb6
  replace h_b := h_b.nx hb6
  replace h_x := h_x.nx hb6
  replace h_y := h_y.nx hb6
  replace hB := bnx hB hb6
  obtain ⟨p_a1, p_a2, p_a3⟩ := h_a.parts
  obtain ⟨p_b1, p_b2, p_b3⟩ := h_b.parts
  obtain ⟨p_x1, p_x2, p_x3⟩ := h_x.parts
  obtain ⟨p_y1, p_y2, p_y3⟩ := h_y.parts
  clear hb6
  have h_p := Vx.new rs6
  replace h_a := h_a.nx (bal (Below.refl _ _) (.cells #[.int .i64 V6, .slice A6 k6 c6] 24))
  replace h_b := h_b.nx (bal (Below.refl _ _) (.cells #[.int .i64 V6, .slice A6 k6 c6] 24))
  replace h_x := h_x.nx (bal (Below.refl _ _) (.cells #[.int .i64 V6, .slice A6 k6 c6] 24))
  replace h_y := h_y.nx (bal (Below.refl _ _) (.cells #[.int .i64 V6, .slice A6 k6 c6] 24))
  replace hB := bal hB (.cells #[.int .i64 V6, .slice A6 k6 c6] 24)
  clear rs6
  go_wp2_with fail
  generalize w6.alloc (.cells #[.int .i64 V6, .slice A6 k6 c6] 24) = w6m at *
  generalize w6.heap.size = gw6 at *
  refine ((HN.out _ h_a.v h_b.v).2).mono ?_
  rintro e w7 ⟨V7, A7, k7, c7, rfl, rs7, hb7⟩
  clear p_a1 p_a2 p_a3 p_b1 p_b2 p_b3 p_x1 p_x2 p_x3 p_y1 p_y2 p_y3
  replace h_a := h_a.nx hb7
  replace h_b := h_b.nx hb7
  replace h_x := h_x.nx hb7
  replace h_y := h_y.nx hb7
  replace h_p := h_p.nx hb7
  replace hB := bnx hB hb7
  obtain ⟨p_a1, p_a2, p_a3⟩ := h_a.parts
  obtain ⟨p_b1, p_b2, p_b3⟩ := h_b.parts
  obtain ⟨p_x1, p_x2, p_x3⟩ := h_x.parts
  obtain ⟨p_y1, p_y2, p_y3⟩ := h_y.parts
  obtain ⟨p_p1, p_p2, p_p3⟩ := h_p.parts
  clear hb7
  have h_q := Vx.new rs7
  replace h_a := h_a.nx (bal (Below.refl _ _) (.cells #[.int .i64 V7, .slice A7 k7 c7] 24))
  replace h_b := h_b.nx (bal (Below.refl _ _) (.cells #[.int .i64 V7, .slice A7 k7 c7] 24))
  replace h_x := h_x.nx (bal (Below.refl _ _) (.cells #[.int .i64 V7, .slice A7 k7 c7] 24))
  replace h_y := h_y.nx (bal (Below.refl _ _) (.cells #[.int .i64 V7, .slice A7 k7 c7] 24))
  replace h_p := h_p.nx (bal (Below.refl _ _) (.cells #[.int .i64 V7, .slice A7 k7 c7] 24))
  replace hB := bal hB (.cells #[.int .i64 V7, .slice A7 k7 c7] 24)
  clear rs7
  go_wp2_with fail
  generalize w7.alloc (.cells #[.int .i64 V7, .slice A7 k7 c7] 24) = w7m at *
  generalize w7.heap.size = gw7 at *
  refine (same_rs h_x.v h_y.v).mono ?_
  rintro e w8 ⟨rfl, hb8⟩
  clear p_a1 p_a2 p_a3 p_b1 p_b2 p_b3 p_x1 p_x2 p_x3 p_y1 p_y2 p_y3 p_p1 p_p2 p_p3
  replace h_a := h_a.nx hb8
  replace h_b := h_b.nx hb8
  replace h_x := h_x.nx hb8
  replace h_y := h_y.nx hb8
  replace h_p := h_p.nx hb8
  replace h_q := h_q.nx hb8
  replace hB := bnx hB hb8
  obtain ⟨p_a1, p_a2, p_a3⟩ := h_a.parts
  obtain ⟨p_b1, p_b2, p_b3⟩ := h_b.parts
  obtain ⟨p_x1, p_x2, p_x3⟩ := h_x.parts
  obtain ⟨p_y1, p_y2, p_y3⟩ := h_y.parts
  obtain ⟨p_p1, p_p2, p_p3⟩ := h_p.parts
  obtain ⟨p_q1, p_q2, p_q3⟩ := h_q.parts
  clear hb8
  go_wp2_with fail
  refine (same_rs h_p.v h_q.v).mono ?_
  rintro e w9 ⟨rfl, hb9⟩
  clear p_a1 p_a2 p_a3 p_b1 p_b2 p_b3 p_x1 p_x2 p_x3 p_y1 p_y2 p_y3 p_p1 p_p2 p_p3 p_q1 p_q2 p_q3
  replace h_a := h_a.nx hb9
  replace h_b := h_b.nx hb9
  replace h_x := h_x.nx hb9
  replace h_y := h_y.nx hb9
  replace h_p := h_p.nx hb9
  replace h_q := h_q.nx hb9
  replace hB := bnx hB hb9
  obtain ⟨p_a1, p_a2, p_a3⟩ := h_a.parts
  obtain ⟨p_b1, p_b2, p_b3⟩ := h_b.parts
  obtain ⟨p_x1, p_x2, p_x3⟩ := h_x.parts
  obtain ⟨p_y1, p_y2, p_y3⟩ := h_y.parts
  obtain ⟨p_p1, p_p2, p_p3⟩ := h_p.parts
  obtain ⟨p_q1, p_q2, p_q3⟩ := h_q.parts
  clear hb9
  go_wp2
  go_ret
  exact ⟨rfl, hB⟩
set_option maxHeartbeats 1000000 in
theorem reckons_o1 (s : ByteArray) (Aa Ab : Option Addr) (ca cb : Nat) (la lb : List Nat) (Wa Wb : Int) (w : World) (ha : R64 w w.heap.size Aa la) (hra : rightB Wa la = false) :
    Calls Try.prog 4 #[.string s, .agg #[.int .i64 Wa, .slice Aa la.length ca], .agg #[.int .i64 Wb, .slice Ab lb.length cb]] w (RetV w (.bool true)) := by
  have hB0 := Lib.hid (box2 w (.int .i64 Wa) (.slice Aa la.length ca) (.int .i64 Wb) (.slice Ab lb.length cb))
  have Ha := Lib.hid ha
  have Ra := Lib.hid hra
  clear ha hra
  go_enter Try.func4, Try.ntmps4
  go_wp2_with fail
  obtain ⟨da, db, hB⟩ := hB0.out
  clear hB0
  generalize ((w.alloc (.cells #[.int .i64 Wa, .slice Aa la.length ca] 24)).alloc (.cells #[.int .i64 Wb, .slice Ab lb.length cb] 24)) = w0 at *
  refine (shown_any _).mono ?_
  rintro e w1 ⟨rfl, hb1⟩
  replace da := da.nx hb1
  replace db := db.nx hb1
  replace hB := bnx hB hb1
  clear hb1
  obtain ⟨pa1, pa2, pa3⟩ := da.parts
  obtain ⟨pb1, pb2, pb3⟩ := db.parts
  go_wp2_with fail
  refine (refRight_b Ha.out hB Ra.out).mono ?_
  rintro e w2 ⟨rfl, hb2⟩
  clear pa1 pa2 pa3 pb1 pb2 pb3
  replace da := da.nx hb2
  replace db := db.nx hb2
  replace hB := bnx hB hb2
  clear hb2
  obtain ⟨pa1, pa2, pa3⟩ := da.parts
  obtain ⟨pb1, pb2, pb3⟩ := db.parts
  go_wp2
  go_ret
  exact ⟨rfl, hB⟩
set_option maxHeartbeats 1000000 in
theorem reckons_o2 (s : ByteArray) (Aa Ab : Option Addr) (ca cb : Nat) (la lb : List Nat) (Wa Wb : Int) (w : World) (ha : R64 w w.heap.size Aa la) (hra : rightB Wa la = true) (hb : R64 w w.heap.size Ab lb) (hrb : rightB Wb lb = false) :
    Calls Try.prog 4 #[.string s, .agg #[.int .i64 Wa, .slice Aa la.length ca], .agg #[.int .i64 Wb, .slice Ab lb.length cb]] w (RetV w (.bool true)) := by
  have hB0 := Lib.hid (box2 w (.int .i64 Wa) (.slice Aa la.length ca) (.int .i64 Wb) (.slice Ab lb.length cb))
  have Ha := Lib.hid ha
  have Ra := Lib.hid hra
  clear ha hra
  have Hb := Lib.hid hb
  have Rb := Lib.hid hrb
  clear hb hrb
  go_enter Try.func4, Try.ntmps4
  go_wp2_with fail
  obtain ⟨da, db, hB⟩ := hB0.out
  clear hB0
  generalize ((w.alloc (.cells #[.int .i64 Wa, .slice Aa la.length ca] 24)).alloc (.cells #[.int .i64 Wb, .slice Ab lb.length cb] 24)) = w0 at *
  refine (shown_any _).mono ?_
  rintro e w1 ⟨rfl, hb1⟩
  replace da := da.nx hb1
  replace db := db.nx hb1
  replace hB := bnx hB hb1
  clear hb1
  obtain ⟨pa1, pa2, pa3⟩ := da.parts
  obtain ⟨pb1, pb2, pb3⟩ := db.parts
  go_wp2_with fail
  refine (refRight_b Ha.out hB Ra.out).mono ?_
  rintro e w2 ⟨rfl, hb2⟩
  clear pa1 pa2 pa3 pb1 pb2 pb3
  replace da := da.nx hb2
  replace db := db.nx hb2
  replace hB := bnx hB hb2
  clear hb2
  obtain ⟨pa1, pa2, pa3⟩ := da.parts
  obtain ⟨pb1, pb2, pb3⟩ := db.parts
  go_wp2_with fail
  refine (refRight_b Hb.out hB Rb.out).mono ?_
  rintro e w3 ⟨rfl, hb3⟩
  clear pa1 pa2 pa3 pb1 pb2 pb3
  replace da := da.nx hb3
  replace db := db.nx hb3
  replace hB := bnx hB hb3
  clear hb3
  obtain ⟨pa1, pa2, pa3⟩ := da.parts
  obtain ⟨pb1, pb2, pb3⟩ := db.parts
  go_wp2
  go_ret
  exact ⟨rfl, hB⟩
end Go.Proofs.Ytnnoflohekmnbaa
