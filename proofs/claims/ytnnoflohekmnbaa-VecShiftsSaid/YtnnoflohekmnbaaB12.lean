/-
  vec.downWithSign over the translated program: sra. Nothing is assumed.
-/
import Derived.Test.YtnnoflohekmnbaaProg
import Derived.WalkKit
import Derived.WalkSpells
import Derived.WalkLawsBesides
import Derived.LoopN
import Derived.IntWalk
import Derived.Lib.Hide
import Derived.Test.YtnnoflohekmnbaaB11
import Derived.Laws.BitsAllLaws
import Derived.Laws.Externs
import Derived.BigQuiet
import Derived.BigRegion
import Derived.Deep.QuietTactic
import Derived.Deep.RegionWith
import Derived.Deep.RegionHeld3
import Derived.StillTailTactics
import Derived.RegionTactic
import Derived.ChangeAlike
import Derived.Deep.DeepCutAuto
set_option linter.unusedVariables false
namespace Go.Proofs.Ytnnoflohekmnbaa
open Go.RowKit
/-- The world of vec.downWithSign, and of others that box two vectors. -/
structure Bz (w wr : World) (ad : Addr) (c k W N : Nat) (ad' : Addr) (c' k' V K : Nat) : Prop where
  fr : Fr3 w wr (.int .i64 W) (.slice (some ad) k c) (.int .i64 V) (.slice (some ad') k' c') (.int .i64 0) (.slice none 0 0)
  va : Vc wr wr.heap.size ad c W N
  vb : Vc wr wr.heap.size ad' c' V K
section
variable {w wr w1 : World} {ad ad' : Addr} {c k W N c' k' V K : Nat}
theorem Bz.nx (h : Bz w wr ad c k W N ad' c' k' V K) (hb : Below wr.heap.size wr w1) : Bz w w1 ad c k W N ad' c' k' V K := ⟨h.fr.nx hb, h.va.nx hb, h.vb.nx hb⟩
theorem Bz.al (h : Bz w wr ad c k W N ad' c' k' V K) (o : Obj) : Bz w (wr.alloc o) ad c k W N ad' c' k' V K := h.nx (bal (Below.refl _ _) o)
theorem Bz.dr (h : Bz w wr ad c k W N ad' c' k' V K) : Bz w wr.drew ad c k W N ad' c' k' V K := h.nx (Below.refl _ _).drew
theorem Bz.parts (h : Bz w wr ad c k W N ad' c' k' V K) :
    (wr.cell? ⟨w.heap.size, 0, none⟩ = some (.int .i64 W) ∧ wr.cell? ⟨w.heap.size, 1, none⟩ = some (.slice (some ad) k c)) ∧ (wr.cell? ⟨w.heap.size + 1, 0, none⟩ = some (.int .i64 V) ∧ wr.cell? ⟨w.heap.size + 1, 1, none⟩ = some (.slice (some ad') k' c')) ∧
    (wr.cell? ⟨w.heap.size + 1 + 1, 0, none⟩ = some (.int .i64 0) ∧ wr.cell? ⟨w.heap.size + 1 + 1, 1, none⟩ = some (.slice none 0 0) ∧ wr.frozen? ⟨w.heap.size + 1 + 1, 0, none⟩ = false ∧ wr.frozen? ⟨w.heap.size + 1 + 1, 1, none⟩ = false) ∧ w.heap.size + 1 + 1 < wr.heap.size ∧ w.heap.size + 1 < wr.heap.size ∧ w.heap.size < wr.heap.size := by
  obtain ⟨h1, h2, h3, h4⟩ := h.fr.parts
  exact ⟨h1, h2, h3, h4, by omega, by omega⟩
end
theorem two_new {w2 w3 : World} (hb : Below (w2.alloc (.cells #[.int .u64 0, .int .u64 0] 62)).heap.size (w2.alloc (.cells #[.int .u64 0, .int .u64 0] 62)) w3) : Two w3 w2.heap.size 0 0 :=
  Two.below (w := w2.alloc (.cells #[.int .u64 0, .int .u64 0] 62)) (by refine ⟨?_, ?_, ?_, ?_⟩ <;> go_simp) hb (by simp)
theorem two_newd {w2 w3 : World} (hb : Below (w2.alloc (.cells #[.int .u64 0, .int .u64 0] 62)).drew.heap.size (w2.alloc (.cells #[.int .u64 0, .int .u64 0] 62)).drew w3) : Two w3 w2.heap.size 0 0 :=
  Two.below (w := (w2.alloc (.cells #[.int .u64 0, .int .u64 0] 62)).drew) (by refine ⟨?_, ?_, ?_, ?_⟩ <;> go_simp) hb (by simp)
/-- A block of two limbs that the call has laid. -/
structure Tw (w wr : World) (g a b : Nat) : Prop where
  t : Two wr g a b
  lo : w.heap.size + 1 + 1 < g
  hi : g < wr.heap.size
theorem Tw.parts {w wr : World} {g a b : Nat} (h : Tw w wr g a b) : (wr.cell? ⟨g, 0, none⟩ = some (.int .u64 a) ∧ wr.cell? ⟨g, 1, none⟩ = some (.int .u64 b) ∧ wr.frozen? ⟨g, 0, none⟩ = false ∧ wr.frozen? ⟨g, 1, none⟩ = false) ∧ g < wr.heap.size := ⟨h.t, h.hi⟩
theorem Tw.nx {w wr w1 : World} {g a b : Nat} (h : Tw w wr g a b) (hb : Below wr.heap.size wr w1) : Tw w w1 g a b := ⟨h.t.below hb h.hi, h.lo, by have := hb.size; have := h.hi; omega⟩
theorem Tw.new {w w2 w3 : World} {ad ad' : Addr} {c k W N c' k' V K : Nat} (h : Bz w w2 ad c k W N ad' c' k' V K) (hb : Below (w2.alloc (.cells #[.int .u64 0, .int .u64 0] 62)).heap.size (w2.alloc (.cells #[.int .u64 0, .int .u64 0] 62)) w3) : Tw w w3 w2.heap.size 0 0 :=
  ⟨two_new hb, h.parts.2.2.2.1, by have := hb.size; simp at this; omega⟩
theorem Tw.newd {w w2 w3 : World} {ad ad' : Addr} {c k W N c' k' V K : Nat} (h : Bz w w2 ad c k W N ad' c' k' V K) (hb : Below (w2.alloc (.cells #[.int .u64 0, .int .u64 0] 62)).drew.heap.size (w2.alloc (.cells #[.int .u64 0, .int .u64 0] 62)).drew w3) : Tw w w3 w2.heap.size 0 0 :=
  ⟨two_newd hb, h.parts.2.2.2.1, by have := hb.size; simp at this; omega⟩
theorem Tw.newf {w w3 : World} {ad ad' : Addr} {c k W N c' k' V K : Nat} {o1 o2 o3 : Obj} (h : Bz w (((w.alloc o1).alloc o2).alloc o3) ad c k W N ad' c' k' V K) (hb : Below ((((w.alloc o1).alloc o2).alloc o3).alloc (.cells #[.int .u64 0, .int .u64 0] 62)).drew.heap.size ((((w.alloc o1).alloc o2).alloc o3).alloc (.cells #[.int .u64 0, .int .u64 0] 62)).drew w3) : Tw w w3 (w.heap.size + 1 + 1 + 1) 0 0 := by
  have := Tw.newd h hb
  simpa using this
/-- What the first statement of vec.downWithSign leaves. -/
def SraR (w : World) (ad : Addr) (c k W N : Nat) (ad' : Addr) (c' k' V K : Nat) (s5 s6 : Value) (wx : World) : Prop :=
  ∃ g x y : Nat, s5 = .pointer (some ⟨g, 0, none⟩) ∧ s6 = .int .i64 ((min K W : Nat) : Int) ∧ Lim x y N ∧ Tw w wx g x y ∧ Bz w wx ad c k W N ad' c' k' V K
theorem SraR.last {w w3 : World} {ad ad' : Addr} {c k W N c' k' V K x y : Nat} (L : Lim x y N) (h : Bz w w3 ad c k W N ad' c' k' V K) :
    SraR w ad c k W N ad' c' k' V K (.pointer (some ⟨w3.heap.size, 0, none⟩)) (.int .i64 ((min K W : Nat) : Int)) (w3.alloc (.cells #[.int .u64 x, .int .u64 y] 62)) :=
  ⟨w3.heap.size, x, y, rfl, rfl, L, ⟨by refine ⟨?_, ?_, ?_, ?_⟩ <;> go_simp, h.parts.2.2.2.1, by simp⟩, h.al _⟩
theorem Vc.st {w : World} {ad : Addr} {c W N g : Nat} (h : Vc w w.heap.size ad c W N) (hg : ad.block ≠ g) (u v : Value) : Vc ((w.setCell ⟨g, 0, none⟩ u).setCell ⟨g, 1, none⟩ v) ((w.setCell ⟨g, 0, none⟩ u).setCell ⟨g, 1, none⟩ v).heap.size ad c W N := by
  have := h.stored hg u v; simpa using this
theorem SraR.ahead {w w3 : World} {ad ad' : Addr} {c k W N c' k' V K x y g : Nat} (L : Lim x y N) (h : Bz w w3 ad c k W N ad' c' k' V K) (T : Tw w w3 g 0 0) (ha : ad.block < w.heap.size) (hb : ad'.block < w.heap.size) :
    SraR w ad c k W N ad' c' k' V K (.pointer (some ⟨g, 0, none⟩)) (.int .i64 ((min K W : Nat) : Int)) ((w3.setCell ⟨g, 0, none⟩ (.int .u64 x)).setCell ⟨g, 1, none⟩ (.int .u64 y)) := by
  have hlo := T.lo
  refine ⟨g, x, y, rfl, rfl, L, ⟨T.t.store x y, T.lo, by simpa using T.hi⟩, ⟨?_, h.va.st (by omega) _ _, h.vb.st (by omega) _ _⟩⟩
  have hf := h.fr
  have ot : ∀ {q : Nat} {u v : Value}, Duo w3 q u v → q ≠ g → Duo ((w3.setCell ⟨g, 0, none⟩ (.int .u64 x)).setCell ⟨g, 1, none⟩ (.int .u64 y)) q u v := by
    intro q u v hd hq
    exact ⟨(cell_other (p := ⟨q, 0, none⟩) hq _ _).trans hd.1, (cell_other (p := ⟨q, 1, none⟩) hq _ _).trans hd.2.1, by simp [hd.2.2.1], by simp [hd.2.2.2]⟩
  exact ⟨(hf.bel.setCell (by simp; omega) _).setCell (by simp; omega) _, by simpa using hf.sz, ot hf.fa (by omega), ot hf.fb (by omega), ot hf.fr (by omega)⟩
set_option maxRecDepth 100000 in
set_option maxHeartbeats 4000000 in
theorem sra_wno {w : World} {ad ad' : Addr} {c c' W V N K : Nat} (h : Vc w w.heap.size ad c W N) (h' : Vc w w.heap.size ad' c' V K) (hb : N.testBit (W - 1) = false) (Y : Nat) (hY : Hid (∀ x y, Lim x y (N / 2 ^ (min K W)) → Lim x y Y)) :
    Calls Try.prog 76 #[.agg #[.int .i64 W, .slice (some ad) (lm W) c], .agg #[.int .i64 V, .slice (some ad') (lm V) c']] w (RetVec w W (Y % 2 ^ W)) := by
  have h1 := h.w1
  have h2 := h.w2
  have ha : ad.block < w.heap.size := by obtain ⟨x, _, _, hh, _⟩ := h.limb 0 (by unfold lm; omega); exact hh
  have ha' : ad'.block < w.heap.size := by have := h'.w1; obtain ⟨x, _, _, hh, _⟩ := h'.limb 0 (by unfold lm; omega); exact hh
  have B0 := Lib.hid (show Bz w (((w.alloc (.cells #[.int .i64 W, .slice (some ad) (lm W) c] 24)).alloc (.cells #[.int .i64 V, .slice (some ad') (lm V) c'] 24)).alloc (.cells #[.int .i64 0, .slice none 0 0] 24)) ad c (lm W) W N ad' c' (lm V) V K from ⟨Fr3.first w (.int .i64 W) (.slice (some ad) (lm W) c) (.int .i64 V) (.slice (some ad') (lm V) c') (.int .i64 0) (.slice none 0 0) 24 24 24, h.nx (Fr3.first w (.int .i64 W) (.slice (some ad) (lm W) c) (.int .i64 V) (.slice (some ad') (lm V) c') (.int .i64 0) (.slice none 0 0) 24 24 24).bel, h'.nx (Fr3.first w (.int .i64 W) (.slice (some ad) (lm W) c) (.int .i64 V) (.slice (some ad') (lm V) c') (.int .i64 0) (.slice none 0 0) 24 24 24).bel⟩)
  have HB := Lib.hid hb
  obtain ⟨R, hR⟩ : ∃ R, Y % 2 ^ W = R := ⟨_, rfl⟩
  rw [hR]
  have HR := Lib.hid hR
  generalize hk : lm W = k at *
  generalize hk' : lm V = k' at *
  have HK := Lib.hid hk
  have HK' := Lib.hid hk'
  clear h h' hk hk' hR hb
  go_enter Try.func76, Try.ntmps76
  go_upto_region 1 with fail
  go_cut [5, 6] (fun s5 s6 wx => SraR w ad c k W N ad' c' k' V K s5 s6 wx)
  case first =>
    go_region_held3 (fun w' => w'.cell? ⟨w.heap.size, 0, none⟩ = some (.int .i64 W) ∧ w'.cell? ⟨w.heap.size, 1, none⟩ = some (.slice (some ad) k c) ∧ w'.cell? ⟨w.heap.size + 1, 0, none⟩ = some (.int .i64 V) ∧ w'.cell? ⟨w.heap.size + 1, 1, none⟩ = some (.slice (some ad') k' c'))
      (refine ⟨?_, ?_, ?_, ?_⟩ <;> first | assumption | (go_simp; done))
      (first | (go_at_call 52; ((with_reducible refine (numberOf_k HK.out B0.out.dr.va).mono ?_); rintro e w1 ⟨x1, y1, L1, rfl, hb1⟩; have B1 := B0.out.dr.nx hb1; obtain ⟨⟨p1, p2⟩, ⟨p3, p4⟩, ⟨p5, p6, p7, p8⟩, pz, pz1, pz2⟩ := B1.parts)) | (go_at_call 52; ((with_reducible refine (numberOf_k HK.out (B0.out.al (.cells #[.int .u64 0, .int .u64 0] 62)).dr.va).mono ?_); rintro e w1 ⟨x1, y1, L1, rfl, hb1⟩; have B1 := (B0.out.al (.cells #[.int .u64 0, .int .u64 0] 62)).dr.nx hb1; have T1 := Tw.newf B0.out hb1; obtain ⟨⟨t1, t2, t3, t4⟩, tz⟩ := T1.parts; obtain ⟨⟨p1, p2⟩, ⟨p3, p4⟩, ⟨p5, p6, p7, p8⟩, pz, pz1, pz2⟩ := B1.parts)) | (go_at_call 52; ((with_reducible refine (numberOf_k HK'.out B1.vb).mono ?_); rintro e w2 ⟨x2, y2, L2, rfl, hb2⟩; have B2 := B1.nx hb2; obtain ⟨⟨q1, q2⟩, ⟨q3, q4⟩, ⟨q5, q6, q7, q8⟩, qz, qz1, qz2⟩ := B2.parts; (first | (have T2 := T1.nx hb2; obtain ⟨⟨u1, u2, u3, u4⟩, uz⟩ := T2.parts) | skip))) | (go_at_call 52; ((with_reducible refine (numberOf_k HK'.out (B1.al (.cells #[.int .u64 0, .int .u64 0] 62)).vb).mono ?_); rintro e w2 ⟨x2, y2, L2, rfl, hb2⟩; have B2 := (B1.al (.cells #[.int .u64 0, .int .u64 0] 62)).nx hb2; have T2 := Tw.new B1 hb2; obtain ⟨⟨u1, u2, u3, u4⟩, uz⟩ := T2.parts; obtain ⟨⟨q1, q2⟩, ⟨q3, q4⟩, ⟨q5, q6, q7, q8⟩, qz, qz1, qz2⟩ := B2.parts)) | (go_at_call 96; ((with_reducible refine (places_any L2 W h2 w2).mono ?_); rintro e w3 ⟨rfl, hb3⟩; have B3 := B2.nx hb3; obtain ⟨⟨r1, r2⟩, ⟨r3, r4⟩, ⟨r5, r6, r7, r8⟩, rz, rz1, rz2⟩ := B3.parts; (first | (have T3 := T2.nx hb3; obtain ⟨⟨v1, v2, v3, v4⟩, vz⟩ := T3.parts) | skip))) | (go_at_call 96; ((with_reducible refine (places_any L2 W h2 (w2.alloc (.cells #[.int .u64 0, .int .u64 0] 62))).mono ?_); rintro e w3 ⟨rfl, hb3⟩; have B3 := (B2.al (.cells #[.int .u64 0, .int .u64 0] 62)).nx hb3; have T3 := Tw.new B2 hb3; obtain ⟨⟨v1, v2, v3, v4⟩, vz⟩ := T3.parts; obtain ⟨⟨r1, r2⟩, ⟨r3, r4⟩, ⟨r5, r6, r7, r8⟩, rz, rz1, rz2⟩ := B3.parts)))
    all_goals (go_wp2_with fail; go_meet; first | exact SraR.last L1 B3 | exact SraR.ahead L1 B3 T3 ha ha')
  case rest =>
    obtain ⟨g, x1, y1, rfl, rfl, L1, T0, B1⟩ := hcut
    obtain ⟨⟨p1, p2⟩, ⟨p3, p4⟩, ⟨p5, p6, p7, p8⟩, pz, pz1, pz2⟩ := B1.parts
    obtain ⟨⟨t1, t2, t3, t4⟩, tz⟩ := T0.parts
    go_wp2_with fail
    refine (isHighest_k HK.out B1.va HB.out).mono ?_
    rintro e w2 ⟨rfl, hb2⟩
    have B2 := B1.nx hb2
    have T2 := T0.nx hb2
    have gn1 : ¬ (w.heap.size + 1 + 1 = g) := by have := T2.lo; omega
    have gn2 : ¬ (g = w.heap.size + 1 + 1) := by have := T2.lo; omega
    obtain ⟨⟨q1, q2⟩, ⟨q3, q4⟩, ⟨q5, q6, q7, q8⟩, qz, qz1, qz2⟩ := B2.parts
    obtain ⟨⟨u1, u2, u3, u4⟩, uz⟩ := T2.parts
    clear p1 p2 p3 p4 p5 p6 p7 p8 pz pz1 pz2 t1 t2 t3 t4 tz hb2
    go_wp2_with fail
    go_region_held3 (fun w' => w'.cell? ⟨w.heap.size, 0, none⟩ = some (.int .i64 W) ∧ w'.cell? ⟨g, 0, none⟩ = some (.int .u64 x1) ∧ w'.cell? ⟨g, 1, none⟩ = some (.int .u64 y1))
      (refine ⟨?_, ?_, ?_⟩ <;> first | assumption | (go_simp; done))
      (first | (go_at_call 51; refine (down_any L1 (min K W) (by omega) _).mono ?_; rintro e w8 ⟨x8, y8, L8, rfl, hb8⟩; have B8 := B2.dr.nx hb8; have T8 := (T2.nx (Below.refl _ _).drew).nx hb8; obtain ⟨⟨r81, r82⟩, ⟨r83, r84⟩, ⟨r85, r86, r87, r88⟩, r8z, r8z1, r8z2⟩ := B8.parts; obtain ⟨⟨v81, v82, v83, v84⟩, v8z⟩ := T8.parts) | (go_at_call 34; refine (vecOf_any (hY.out _ _ L8) W h1 h2 _).mono ?_; rintro e w9 ⟨ad9, c9, rfl, hv9, hf9, hb9⟩; have B9 := B8.nx hb9; have T9 := T8.nx hb9; obtain ⟨⟨s1, s2⟩, ⟨s3, s4⟩, ⟨s5, s6, s7, s8⟩, sz, sz1, sz2⟩ := B9.parts; obtain ⟨⟨z1, z2, z3, z4⟩, zz⟩ := T9.parts))
    go_wp2
    rw [HR.out] at hv9
    refine bodyPost_ret (v := .agg #[.int .i64 (W : Int), .slice (some ad9) (lm W) c9]) (by simp [results, Try.results76, go_sem, *]) rfl ?_
    exact RetVec.mk (n := lm W) rfl hv9 B9.fr.bel (by omega) (by have := B8.fr.sz; omega)
set_option maxRecDepth 100000 in
set_option maxHeartbeats 4000000 in
theorem sra_wyes {w : World} {ad ad' : Addr} {c c' W V N K : Nat} (h : Vc w w.heap.size ad c W N) (h' : Vc w w.heap.size ad' c' V K) (hb : N.testBit (W - 1) = true) (Y : Nat) (hY : Hid (∀ x y, Lim x y (2 ^ 128 - 1 - (N ^^^ (2 ^ W - 1)) / 2 ^ (min K W)) → Lim x y Y)) :
    Calls Try.prog 76 #[.agg #[.int .i64 W, .slice (some ad) (lm W) c], .agg #[.int .i64 V, .slice (some ad') (lm V) c']] w (RetVec w W (Y % 2 ^ W)) := by
  have h1 := h.w1
  have h2 := h.w2
  have ha : ad.block < w.heap.size := by obtain ⟨x, _, _, hh, _⟩ := h.limb 0 (by unfold lm; omega); exact hh
  have ha' : ad'.block < w.heap.size := by have := h'.w1; obtain ⟨x, _, _, hh, _⟩ := h'.limb 0 (by unfold lm; omega); exact hh
  have B0 := Lib.hid (show Bz w (((w.alloc (.cells #[.int .i64 W, .slice (some ad) (lm W) c] 24)).alloc (.cells #[.int .i64 V, .slice (some ad') (lm V) c'] 24)).alloc (.cells #[.int .i64 0, .slice none 0 0] 24)) ad c (lm W) W N ad' c' (lm V) V K from ⟨Fr3.first w (.int .i64 W) (.slice (some ad) (lm W) c) (.int .i64 V) (.slice (some ad') (lm V) c') (.int .i64 0) (.slice none 0 0) 24 24 24, h.nx (Fr3.first w (.int .i64 W) (.slice (some ad) (lm W) c) (.int .i64 V) (.slice (some ad') (lm V) c') (.int .i64 0) (.slice none 0 0) 24 24 24).bel, h'.nx (Fr3.first w (.int .i64 W) (.slice (some ad) (lm W) c) (.int .i64 V) (.slice (some ad') (lm V) c') (.int .i64 0) (.slice none 0 0) 24 24 24).bel⟩)
  have HB := Lib.hid hb
  obtain ⟨R, hR⟩ : ∃ R, Y % 2 ^ W = R := ⟨_, rfl⟩
  rw [hR]
  have HR := Lib.hid hR
  generalize hk : lm W = k at *
  generalize hk' : lm V = k' at *
  have HK := Lib.hid hk
  have HK' := Lib.hid hk'
  clear h h' hk hk' hR hb
  go_enter Try.func76, Try.ntmps76
  go_upto_region 1 with fail
  go_cut [5, 6] (fun s5 s6 wx => SraR w ad c k W N ad' c' k' V K s5 s6 wx)
  case first =>
    go_region_held3 (fun w' => w'.cell? ⟨w.heap.size, 0, none⟩ = some (.int .i64 W) ∧ w'.cell? ⟨w.heap.size, 1, none⟩ = some (.slice (some ad) k c) ∧ w'.cell? ⟨w.heap.size + 1, 0, none⟩ = some (.int .i64 V) ∧ w'.cell? ⟨w.heap.size + 1, 1, none⟩ = some (.slice (some ad') k' c'))
      (refine ⟨?_, ?_, ?_, ?_⟩ <;> first | assumption | (go_simp; done))
      (first | (go_at_call 52; ((with_reducible refine (numberOf_k HK.out B0.out.dr.va).mono ?_); rintro e w1 ⟨x1, y1, L1, rfl, hb1⟩; have B1 := B0.out.dr.nx hb1; obtain ⟨⟨p1, p2⟩, ⟨p3, p4⟩, ⟨p5, p6, p7, p8⟩, pz, pz1, pz2⟩ := B1.parts)) | (go_at_call 52; ((with_reducible refine (numberOf_k HK.out (B0.out.al (.cells #[.int .u64 0, .int .u64 0] 62)).dr.va).mono ?_); rintro e w1 ⟨x1, y1, L1, rfl, hb1⟩; have B1 := (B0.out.al (.cells #[.int .u64 0, .int .u64 0] 62)).dr.nx hb1; have T1 := Tw.newf B0.out hb1; obtain ⟨⟨t1, t2, t3, t4⟩, tz⟩ := T1.parts; obtain ⟨⟨p1, p2⟩, ⟨p3, p4⟩, ⟨p5, p6, p7, p8⟩, pz, pz1, pz2⟩ := B1.parts)) | (go_at_call 52; ((with_reducible refine (numberOf_k HK'.out B1.vb).mono ?_); rintro e w2 ⟨x2, y2, L2, rfl, hb2⟩; have B2 := B1.nx hb2; obtain ⟨⟨q1, q2⟩, ⟨q3, q4⟩, ⟨q5, q6, q7, q8⟩, qz, qz1, qz2⟩ := B2.parts; (first | (have T2 := T1.nx hb2; obtain ⟨⟨u1, u2, u3, u4⟩, uz⟩ := T2.parts) | skip))) | (go_at_call 52; ((with_reducible refine (numberOf_k HK'.out (B1.al (.cells #[.int .u64 0, .int .u64 0] 62)).vb).mono ?_); rintro e w2 ⟨x2, y2, L2, rfl, hb2⟩; have B2 := (B1.al (.cells #[.int .u64 0, .int .u64 0] 62)).nx hb2; have T2 := Tw.new B1 hb2; obtain ⟨⟨u1, u2, u3, u4⟩, uz⟩ := T2.parts; obtain ⟨⟨q1, q2⟩, ⟨q3, q4⟩, ⟨q5, q6, q7, q8⟩, qz, qz1, qz2⟩ := B2.parts)) | (go_at_call 96; ((with_reducible refine (places_any L2 W h2 w2).mono ?_); rintro e w3 ⟨rfl, hb3⟩; have B3 := B2.nx hb3; obtain ⟨⟨r1, r2⟩, ⟨r3, r4⟩, ⟨r5, r6, r7, r8⟩, rz, rz1, rz2⟩ := B3.parts; (first | (have T3 := T2.nx hb3; obtain ⟨⟨v1, v2, v3, v4⟩, vz⟩ := T3.parts) | skip))) | (go_at_call 96; ((with_reducible refine (places_any L2 W h2 (w2.alloc (.cells #[.int .u64 0, .int .u64 0] 62))).mono ?_); rintro e w3 ⟨rfl, hb3⟩; have B3 := (B2.al (.cells #[.int .u64 0, .int .u64 0] 62)).nx hb3; have T3 := Tw.new B2 hb3; obtain ⟨⟨v1, v2, v3, v4⟩, vz⟩ := T3.parts; obtain ⟨⟨r1, r2⟩, ⟨r3, r4⟩, ⟨r5, r6, r7, r8⟩, rz, rz1, rz2⟩ := B3.parts)))
    all_goals (go_wp2_with fail; go_meet; first | exact SraR.last L1 B3 | exact SraR.ahead L1 B3 T3 ha ha')
  case rest =>
    obtain ⟨g, x1, y1, rfl, rfl, L1, T0, B1⟩ := hcut
    obtain ⟨⟨p1, p2⟩, ⟨p3, p4⟩, ⟨p5, p6, p7, p8⟩, pz, pz1, pz2⟩ := B1.parts
    obtain ⟨⟨t1, t2, t3, t4⟩, tz⟩ := T0.parts
    go_wp2_with fail
    refine (isHighest_k HK.out B1.va HB.out).mono ?_
    rintro e w2 ⟨rfl, hb2⟩
    have B2 := B1.nx hb2
    have T2 := T0.nx hb2
    have gn1 : ¬ (w.heap.size + 1 + 1 = g) := by have := T2.lo; omega
    have gn2 : ¬ (g = w.heap.size + 1 + 1) := by have := T2.lo; omega
    obtain ⟨⟨q1, q2⟩, ⟨q3, q4⟩, ⟨q5, q6, q7, q8⟩, qz, qz1, qz2⟩ := B2.parts
    obtain ⟨⟨u1, u2, u3, u4⟩, uz⟩ := T2.parts
    clear p1 p2 p3 p4 p5 p6 p7 p8 pz pz1 pz2 t1 t2 t3 t4 tz hb2
    go_wp2_with fail
    go_region_held3 (fun w' => w'.cell? ⟨w.heap.size, 0, none⟩ = some (.int .i64 W) ∧ w'.cell? ⟨g, 0, none⟩ = some (.int .u64 x1) ∧ w'.cell? ⟨g, 1, none⟩ = some (.int .u64 y1))
      (refine ⟨?_, ?_, ?_⟩ <;> first | assumption | (go_simp; done))
      (first | (go_at_call 56; refine (mask_any W h2 _).mono ?_; rintro e w5 ⟨x5, y5, L5, rfl, hb5⟩; have B5 := B2.dr.nx hb5; have T5 := (T2.nx (Below.refl _ _).drew).nx hb5; obtain ⟨⟨r51, r52⟩, ⟨r53, r54⟩, ⟨r55, r56, r57, r58⟩, r5z, r5z1, r5z2⟩ := B5.parts; obtain ⟨⟨v51, v52, v53, v54⟩, v5z⟩ := T5.parts) | (go_at_call 70; refine (xor_any L1 L5 _).mono ?_; rintro e w6 ⟨x6, y6, L6, rfl, hb6⟩; have B6 := B5.nx hb6; have T6 := T5.nx hb6; obtain ⟨⟨r61, r62⟩, ⟨r63, r64⟩, ⟨r65, r66, r67, r68⟩, r6z, r6z1, r6z2⟩ := B6.parts; obtain ⟨⟨v61, v62, v63, v64⟩, v6z⟩ := T6.parts) | (go_at_call 51; refine (down_any L6 (min K W) (by omega) _).mono ?_; rintro e w7 ⟨x7, y7, L7, rfl, hb7⟩; have B7 := B6.nx hb7; have T7 := T6.nx hb7; obtain ⟨⟨r71, r72⟩, ⟨r73, r74⟩, ⟨r75, r76, r77, r78⟩, r7z, r7z1, r7z2⟩ := B7.parts; obtain ⟨⟨v71, v72, v73, v74⟩, v7z⟩ := T7.parts) | (go_at_call 55; refine (not_any L7 _).mono ?_; rintro e w8 ⟨x8, y8, L8, rfl, hb8⟩; have B8 := B7.nx hb8; have T8 := T7.nx hb8; obtain ⟨⟨r81, r82⟩, ⟨r83, r84⟩, ⟨r85, r86, r87, r88⟩, r8z, r8z1, r8z2⟩ := B8.parts; obtain ⟨⟨v81, v82, v83, v84⟩, v8z⟩ := T8.parts) | (go_at_call 34; refine (vecOf_any (hY.out _ _ L8) W h1 h2 _).mono ?_; rintro e w9 ⟨ad9, c9, rfl, hv9, hf9, hb9⟩; have B9 := B8.nx hb9; have T9 := T8.nx hb9; obtain ⟨⟨s1, s2⟩, ⟨s3, s4⟩, ⟨s5, s6, s7, s8⟩, sz, sz1, sz2⟩ := B9.parts; obtain ⟨⟨z1, z2, z3, z4⟩, zz⟩ := T9.parts))
    go_wp2
    rw [HR.out] at hv9
    refine bodyPost_ret (v := .agg #[.int .i64 (W : Int), .slice (some ad9) (lm W) c9]) (by simp [results, Try.results76, go_sem, *]) rfl ?_
    exact RetVec.mk (n := lm W) rfl hv9 B9.fr.bel (by omega) (by have := B8.fr.sz; omega)
/-- What sra tells, ahead of the cut to the width. -/
def sraS (N K W : Nat) : Nat := if N.testBit (W - 1) then 2 ^ 128 - 1 - (N ^^^ (2 ^ W - 1)) / 2 ^ (min K W) else N / 2 ^ (min K W)
theorem sra_any {w : World} {ad ad' : Addr} {c c' W V N K : Nat} (h : Vc w w.heap.size ad c W N) (h' : Vc w w.heap.size ad' c' V K) :
    Calls Try.prog 76 #[.agg #[.int .i64 W, .slice (some ad) (lm W) c], .agg #[.int .i64 V, .slice (some ad') (lm V) c']] w (RetVec w W (sraS N K W % 2 ^ W)) := by
  cases hb : N.testBit (W - 1) with
  | true =>
    refine sra_wyes h h' hb (sraS N K W) ?_
    intro x y hl
    unfold sraS
    rw [hb, if_pos rfl]
    exact hl
  | false =>
    refine sra_wno h h' hb (sraS N K W) ?_
    intro x y hl
    unfold sraS
    rw [hb, if_neg (by simp)]
    exact hl
end Go.Proofs.Ytnnoflohekmnbaa
