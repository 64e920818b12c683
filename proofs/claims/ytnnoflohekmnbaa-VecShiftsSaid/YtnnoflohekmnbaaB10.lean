/-
  The closures redand, redor and redxor of vec.unary over the translated program. Nothing is assumed.
-/
import Derived.Test.YtnnoflohekmnbaaProg
import Derived.WalkKit
import Derived.WalkSpells
import Derived.WalkLawsBesides
import Derived.LoopN
import Derived.IntWalk
import Derived.Lib.Hide
import Derived.Test.YtnnoflohekmnbaaB9
import Derived.Laws.BitsAllLaws
import Derived.Laws.Externs
import Derived.BigQuiet
import Derived.BigRegion
import Derived.Deep.QuietTactic
import Derived.Deep.RegionWith
import Derived.Deep.RegionHeld3
import Derived.StillTailTactics
import Derived.RegionTactic
import Derived.ChangeAlike
import Derived.DeepKeys
set_option linter.unusedVariables false
namespace Go.Proofs.Ytnnoflohekmnbaa
open Go.RowKit
theorem cells60 : Try.prog.cellsOf 60 = 1 := by kernel_rfl
theorem cells62 : Try.prog.cellsOf 62 = 2 := by kernel_rfl
theorem keys62 (a b : Nat) (ha : a < 18446744073709551616) (hb : b < 18446744073709551616) : Try.prog.keyLits 2 62 [.int .u64 a, .int .u64 b] = some [.int .u64 a, .int .u64 b] := by
  have wa : (Lit.int .u64 (a : Int)).wf = true := by simp [Lit.wf, IntKind.min, IntKind.max, IntKind.signed, IntKind.bits]; omega
  have wb : (Lit.int .u64 (b : Int)).wf = true := by simp [Lit.wf, IntKind.min, IntKind.max, IntKind.signed, IntKind.bits]; omega
  have e : List.range 2 = [0, 1] := rfl
  simp [Program.keyLits, cells60, cells62, Try.underlying60, wa, wb, e]
/-- Two numbers of two limbs, compared. -/
theorem eq62 {a b c d N K : Nat} (h : Lim a b N) (k : Lim c d K) (w : World) : (Op.equalIn 10000 62 (.agg #[.int .u64 a, .int .u64 b]) (.agg #[.int .u64 c, .int .u64 d])).run Try.prog w = .ok (N == K) w := by
  obtain ⟨r, hr, hiff⟩ := run_equalIn_deep (P := Try.prog) 9998 2 62 (by kernel_rfl) w 2 2 (.agg #[.int .u64 a, .int .u64 b]) (.agg #[.int .u64 c, .int .u64 d]) _ _ (by simp [Value.formed, Try.underlying62, cells62]) (by simp [Value.formed, Try.underlying62, cells62]) (keys62 a b h.1 h.2.1) (keys62 c d k.1 k.2.1)
  suffices e : r = (N == K) by rw [hr, e]
  rw [Bool.eq_iff_iff, hiff, beq_iff_eq]
  constructor
  · intro e
    simp at e
    obtain ⟨_, _, rfl⟩ := h
    obtain ⟨_, _, rfl⟩ := k
    omega
  · intro e
    subst e
    obtain ⟨rfl, rfl⟩ := h.inj k
    rfl
set_option maxRecDepth 100000 in
set_option maxHeartbeats 1000000 in
theorem redor_any {w : World} {ad : Addr} {c W N : Nat} (h : Vc w w.heap.size ad c W N) :
    Calls Try.prog 65 #[.agg #[.int .i64 W, .slice (some ad) (lm W) c]] w (RetBit w (bn (N != 0))) := by
  have h1 := h.w1
  have h2 := h.w2
  have hF0 := Lib.hid (Fr2.first w (.int .i64 W) (.slice (some ad) (lm W) c) (.int .i64 0) (.slice none 0 0) 24 24)
  have hV0 := Lib.hid (h.nx (Fr2.first w (.int .i64 W) (.slice (some ad) (lm W) c) (.int .i64 0) (.slice none 0 0) 24 24).bel)
  obtain ⟨Q, hQ⟩ : ∃ Q, (N != 0) = Q := ⟨_, rfl⟩
  rw [hQ]
  have HQ := Lib.hid hQ
  generalize hk : lm W = k at *
  have HK := Lib.hid hk
  clear h hk hQ
  go_enter Try.func65, Try.ntmps65
  go_wp2_with fail
  refine (numberOf_k HK.out hV0.out).mono ?_
  rintro e w1 ⟨x1, y1, L1, rfl, hb1⟩
  have hF1 := hF0.out.nx hb1
  obtain ⟨⟨p1, p2⟩, ⟨p3, p4, p5, p6⟩, hz⟩ := hF1.parts
  have he : ∀ wx, (Op.equalIn 10000 62 (.agg #[.int .u64 x1, .int .u64 y1]) (.agg #[.int .u64 0, .int .u64 0])).run Try.prog wx = .ok (!Q) wx := fun wx => by
    have := eq62 L1 Lim.zero wx
    rw [show (N == 0) = !Q by rw [← HQ.out]; simp [bne]] at this
    exact this
  clear hb1
  go_wp2_with fail
  refine (truth_any Q _).mono ?_
  rintro e w2 ⟨ad2, c2, rfl, hv2, hf2, hb2⟩
  clear he p1 p2 p3 p4 p5 p6
  have hF2 := hF1.nx hb2
  obtain ⟨⟨q1, q2⟩, ⟨q3, q4, q5, q6⟩, hz2⟩ := hF2.parts
  go_wp2
  refine bodyPost_ret (v := .agg #[.int .i64 1, .slice (some ad2) 1 c2]) (by simp [results, Try.results65, go_sem, *]) rfl ?_
  exact RetVec.mk (W := 1) (n := 1) rfl hv2 hF2.bel (by omega) (by have := hF1.sz; omega)
set_option maxRecDepth 100000 in
set_option maxHeartbeats 1000000 in
theorem redxor_any {w : World} {ad : Addr} {c W N : Nat} (h : Vc w w.heap.size ad c W N) :
    Calls Try.prog 66 #[.agg #[.int .i64 W, .slice (some ad) (lm W) c]] w (RetBit w (bn (pc 128 N % 2 == 1))) := by
  have h1 := h.w1
  have h2 := h.w2
  have hF0 := Lib.hid (Fr2.first w (.int .i64 W) (.slice (some ad) (lm W) c) (.int .i64 0) (.slice none 0 0) 24 24)
  have hV0 := Lib.hid (h.nx (Fr2.first w (.int .i64 W) (.slice (some ad) (lm W) c) (.int .i64 0) (.slice none 0 0) 24 24).bel)
  obtain ⟨Q, hQ⟩ : ∃ Q, (pc 128 N % 2 == 1) = Q := ⟨_, rfl⟩
  rw [hQ]
  have HQ := Lib.hid hQ
  generalize hk : lm W = k at *
  have HK := Lib.hid hk
  clear h hk hQ
  go_enter Try.func66, Try.ntmps66
  go_wp2_with fail
  refine (numberOf_k HK.out hV0.out).mono ?_
  rintro e w1 ⟨x1, y1, L1, rfl, hb1⟩
  have hF1 := hF0.out.nx hb1
  clear hb1
  go_wp2_with fail
  have cO := isOdd_any L1 w1
  rw [HQ.out] at cO
  refine cO.mono ?_
  rintro e w3 ⟨rfl, hb3⟩
  have hF3 := hF1.nx hb3
  obtain ⟨⟨p1, p2⟩, ⟨p3, p4, p5, p6⟩, hz⟩ := hF3.parts
  clear hb3 cO
  go_wp2_with fail
  refine (truth_any Q _).mono ?_
  rintro e w2 ⟨ad2, c2, rfl, hv2, hf2, hb2⟩
  clear p1 p2 p3 p4 p5 p6
  have hF2 := hF3.nx hb2
  obtain ⟨⟨q1, q2⟩, ⟨q3, q4, q5, q6⟩, hz2⟩ := hF2.parts
  go_wp2
  refine bodyPost_ret (v := .agg #[.int .i64 1, .slice (some ad2) 1 c2]) (by simp [results, Try.results66, go_sem, *]) rfl ?_
  exact RetVec.mk (W := 1) (n := 1) rfl hv2 hF2.bel (by omega) (by have := hF3.sz; omega)
set_option maxRecDepth 100000 in
set_option maxHeartbeats 1000000 in
theorem redand_any {w : World} {ad : Addr} {c W N : Nat} (h : Vc w w.heap.size ad c W N) :
    Calls Try.prog 63 #[.agg #[.int .i64 W, .slice (some ad) (lm W) c]] w (RetBit w (bn (N == 2 ^ W - 1))) := by
  have h1 := h.w1
  have h2 := h.w2
  have hF0 := Lib.hid (Fr2.first w (.int .i64 W) (.slice (some ad) (lm W) c) (.int .i64 0) (.slice none 0 0) 24 24)
  have hV0 := Lib.hid ((h.nx (Fr2.first w (.int .i64 W) (.slice (some ad) (lm W) c) (.int .i64 0) (.slice none 0 0) 24 24).bel).nx (Below.refl _ _).drew)
  obtain ⟨Q, hQ⟩ : ∃ Q, (N == 2 ^ W - 1) = Q := ⟨_, rfl⟩
  rw [hQ]
  have HQ := Lib.hid hQ
  generalize hk : lm W = k at *
  have HK := Lib.hid hk
  clear h hk hQ
  go_enter Try.func63, Try.ntmps63
  go_wp2_with fail
  go_region_held3 (fun w' => w'.cell? ⟨w.heap.size, 0, none⟩ = some (.int .i64 W) ∧ w'.cell? ⟨w.heap.size, 1, none⟩ = some (.slice (some ad) k c))
    (refine ⟨?_, ?_⟩ <;> first | assumption | go_simp)
    (first | (go_at_call 52; refine (numberOf_k HK.out hV0.out).mono ?_; rintro e w1 ⟨x1, y1, L1, rfl, hb1⟩; have hF1 := hF0.out.dr.nx hb1; obtain ⟨⟨p1, p2⟩, ⟨p3, p4, p5, p6⟩, hz⟩ := hF1.parts)
           | (go_at_call 56; refine (mask_any W h2 _).mono ?_; rintro e w3 ⟨x3, y3, L3, rfl, hb3⟩; have hF3 := hF1.nx hb3; obtain ⟨⟨r1, r2⟩, ⟨r3, r4, r5, r6⟩, hz3⟩ := hF3.parts; have he : ∀ wx, (Op.equalIn 10000 62 (.agg #[.int .u64 x1, .int .u64 y1]) (.agg #[.int .u64 x3, .int .u64 y3])).run Try.prog wx = .ok Q wx := fun wx => (eq62 L1 L3 wx).trans (by rw [HQ.out]))
           | (go_at_call 64; refine (truth_any Q _).mono ?_; rintro e w2 ⟨ad2, c2, rfl, hv2, hf2, hb2⟩; have hF2 := hF3.nx hb2; obtain ⟨⟨q1, q2⟩, ⟨q3, q4, q5, q6⟩, hz2⟩ := hF2.parts))
  go_wp2
  refine bodyPost_ret (v := .agg #[.int .i64 1, .slice (some ad2) 1 c2]) (by simp [results, Try.results63, go_sem, *]) rfl ?_
  exact RetVec.mk (W := 1) (n := 1) rfl hv2 hF2.bel (by omega) (by have := hF3.sz; omega)
end Go.Proofs.Ytnnoflohekmnbaa
