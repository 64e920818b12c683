/-
  The document's operations on bits, and the program's, as numbers. The reference's Un.
-/
import Derived.Test.YtnnoflohekmnbaaProg
import Derived.WalkKit
import Derived.WalkSpells
import Derived.WalkLawsBesides
import Derived.LoopN
import Derived.IntWalk
import Derived.Lib.Hide
import Derived.Laws.BitsAllLaws
import Derived.Laws.Externs
import Derived.BigQuiet
import Derived.BigRegion
import Derived.Deep.QuietTactic
import Derived.Deep.RegionWith
import Derived.Deep.RegionHeld3
import Derived.StillTailTactics
import Derived.RegionTactic
import Derived.ChangeAlike
import Derived.Test.YtnnoflohekmnbaaF1
import Derived.Test.YtnnoflohekmnbaaN6
import Derived.Test.YtnnoflohekmnbaaN4
import Derived.Test.YtnnoflohekmnbaaN3
import Derived.Test.YtnnoflohekmnbaaB13
import Derived.Test.YtnnoflohekmnbaaE3
import Derived.Test.YtnnoflohekmnbaaS1
import Derived.Test.YtnnoflohekmnbaaN5
set_option linter.unusedVariables false
/- The document's operations on bits, and the program's, as numbers. -/
namespace Go.Proofs.Ytnnoflohekmnbaa
open Go.RowKit
theorem r_not {W N : Nat} (h : W ≤ 128) (hN : N < 2 ^ W) : f_not W N = 2 ^ W - 1 - N := by
  refine Nat.eq_of_testBit_eq fun i => ?_
  rw [not_bit h hN, Nat.sub_sub, Nat.add_comm 1, Nat.testBit_two_pow_sub_succ hN]
theorem r_inc {W N : Nat} (h : W ≤ 128) : f_inc W N = (N + 0 + bn true) % 2 ^ W := mm128 _ h
theorem r_add {W N K : Nat} (h : W ≤ 128) : f_add W N K = (N + K + bn false) % 2 ^ W := mm128 _ h
theorem r_subs {W N K : Nat} (h : W ≤ 128) (hK : K < 2 ^ W) : f_sub W N K = (N + (2 ^ W - 1 - K) + bn true) % 2 ^ W := by
  rw [f_sub_eq _ _ h]
  have hl := lt128 h hK
  obtain ⟨q, hq⟩ := pow_dvd128 h
  have hq0 : q ≠ 0 := by intro e; rw [e, Nat.mul_zero] at hq; exact absurd hq (Nat.ne_of_gt (Nat.two_pow_pos 128))
  obtain ⟨r, rfl⟩ := Nat.exists_eq_succ_of_ne_zero hq0
  rw [hq] at hl ⊢
  have e1 : bn true = 1 := rfl
  rw [e1]
  generalize 2 ^ W = P at *
  have hm : P * r.succ = P * r + P := Nat.mul_succ P r
  rw [hm, show N + (P * r + P) - K = N + (P - 1 - K) + 1 + P * r by omega, Nat.add_mul_mod_self_left]
theorem r_dec {W N : Nat} (h : W ≤ 128) (h1 : 1 ≤ W) (hN : N < 2 ^ W) : f_dec W N = (N + (2 ^ W - 1 - 0) + bn false) % 2 ^ W := by
  have h2 : 1 < 2 ^ W := Nat.one_lt_two_pow (by omega)
  have := r_subs (N := N) (K := 1) h h2
  unfold f_sub at this
  unfold f_dec
  rw [this]
  have e1 : bn true = 1 := rfl
  have e2 : bn false = 0 := rfl
  rw [e1, e2]
  generalize 2 ^ W = P at *
  rw [show N + (P - 1 - 1) + 1 = N + (P - 1 - 0) + 0 by omega]
theorem r_neg {W N : Nat} (h : W ≤ 128) (hN : N < 2 ^ W) : f_neg W N = (0 + (2 ^ W - 1 - N) + bn true) % 2 ^ W := by
  have := r_subs (N := 0) h hN
  unfold f_sub at this
  unfold f_neg
  exact this
theorem nb_full : ∀ l : List Bool, (nb l == 2 ^ l.length - 1) = (ct l == l.length)
  | [] => rfl
  | b :: t => by
    have ih := nb_full t
    have h1 := nb_lt t
    have h2 := ct_le t
    have hp : 2 ^ (t.length + 1) = 2 * 2 ^ t.length := by rw [Nat.pow_succ, Nat.mul_comm]
    rw [Bool.eq_iff_iff, beq_iff_eq, beq_iff_eq] at ih ⊢
    simp only [nb, ct, List.length_cons]
    rw [hp]
    cases b
    · have e : bn false = 0 := rfl
      rw [e]; omega
    · have e : bn true = 1 := rfl
      rw [e]; omega
theorem nb_some : ∀ l : List Bool, (nb l != 0) = decide (0 < ct l)
  | [] => rfl
  | b :: t => by
    have ih := nb_some t
    rw [Bool.eq_iff_iff, bne_iff_ne, decide_eq_true_iff] at ih ⊢
    simp only [nb, ct]
    cases b
    · have e : bn false = 0 := rfl
      rw [e]; omega
    · have e : bn true = 1 := rfl
      rw [e]; omega
theorem pc_nb : ∀ (l : List Bool) (n : Nat), l.length ≤ n → pc n (nb l) = ct l
  | [], n, _ => pc_zero n
  | b :: t, 0, h => by simp at h
  | b :: t, n + 1, h => by
    have ih := pc_nb t n (by simpa using h)
    simp only [pc, nb, ct]
    have e1 : (bn b + 2 * nb t) % 2 = bn b := by have := bn_le b; omega
    have e2 : (bn b + 2 * nb t) / 2 = nb t := by have := bn_le b; omega
    rw [e1, e2, ih]
theorem r_udiv {W N K : Nat} (h : W ≤ 128) (hN : N < 2 ^ W) (hK : K < 2 ^ W) : f_udiv W N K = qD K N W := by
  unfold qD
  by_cases h0 : K = 0
  · subst h0
    rw [if_pos rfl, div_zero_ h hN, r_not h (Nat.two_pow_pos W), Nat.sub_zero]
  · rw [if_neg h0, f_udiv_eq h hN hK h0]
theorem r_urem {W N K : Nat} (h : W ≤ 128) (hN : N < 2 ^ W) (hK : K < 2 ^ W) : f_urem W N K = rD K N := by
  unfold rD
  by_cases h0 : K = 0
  · subst h0
    rw [if_pos rfl, rem_zero_ h hN]
  · rw [if_neg h0, f_urem_eq h hN hK h0]
theorem r_sll {W N K : Nat} (h : W ≤ 128) : f_sll W N K = N * 2 ^ (min K W) % 2 ^ W := mm128 _ h
theorem r_srl {W N K : Nat} (h : W ≤ 128) (hN : N < 2 ^ W) : f_srl W N K = N / 2 ^ (min K W) := Nat.mod_eq_of_lt (Nat.lt_of_le_of_lt (Nat.div_le_self _ _) hN)
theorem bit_past {W N i : Nat} (hN : N < 2 ^ W) (hi : W ≤ i) : N.testBit i = false := Nat.testBit_lt_two_pow (Nat.lt_of_lt_of_le hN (Nat.pow_le_pow_right (by omega) hi))
theorem r_sra (l : List Bool) (K : Nat) (h : l.length ≤ 128) (h1 : 1 ≤ l.length) : f_sra l.length (nb l) K = nb (shL l (-((min K l.length : Nat) : Int)) ((nb l).testBit (l.length - 1)) l.length) := by
  refine Nat.eq_of_testBit_eq fun i => ?_
  have hN := nb_lt l
  obtain ⟨k, hk⟩ : ∃ k, min K l.length = k := ⟨_, rfl⟩
  have hkl : k ≤ l.length := by omega
  by_cases hi : i < l.length
  · rw [bit_sra l (min K l.length) _ i hi]
    unfold f_sra sraS
    rw [Nat.testBit_mod_two_pow, hk, decide_eq_true hi, Bool.true_and]
    cases ht : (nb l).testBit (l.length - 1)
    · simp only [Bool.false_eq_true, if_false]
      rw [Nat.testBit_div_two_pow]
      by_cases hc : i + k < l.length
      · rw [if_pos hc, Nat.add_comm]
      · rw [if_neg hc]; exact bit_past hN (by omega)
    · simp only [if_true]
      have hx : nb l ^^^ (2 ^ l.length - 1) < 2 ^ l.length := Nat.xor_lt_two_pow hN (by have := Nat.two_pow_pos l.length; omega)
      have hm : (nb l ^^^ (2 ^ l.length - 1)) / 2 ^ k < 2 ^ 128 := Nat.lt_of_le_of_lt (Nat.div_le_self _ _) (Nat.lt_of_lt_of_le hx (Nat.pow_le_pow_right (by omega) h))
      rw [Nat.sub_sub, Nat.add_comm 1, Nat.testBit_two_pow_sub_succ hm, Nat.testBit_div_two_pow, Nat.testBit_xor, Nat.testBit_two_pow_sub_one]
      rw [show decide (i < 128) = true from decide_eq_true (by omega), Bool.true_and]
      by_cases hc : i + k < l.length
      · rw [if_pos hc]
        rw [decide_eq_true hc]
        simp
      · rw [if_neg hc, bit_past hN (by omega)]
        simp; omega
  · unfold f_sra
    rw [Nat.testBit_mod_two_pow, nb_bit, getD_out _ _ (by rw [shL_len]; omega)]
    simp [hi]
theorem r_eq (N K : Nat) : bn (N == K) = bn (!decide (N < K) && !decide (K < N)) := by
  congr 1
  rw [Bool.eq_iff_iff]
  simp
  omega
theorem r_slt {W N K : Nat} : sltB N K W W = (N.testBit (W - 1) && !K.testBit (W - 1) || (N.testBit (W - 1) == K.testBit (W - 1)) && decide (N < K)) := rfl
theorem r_concat {W V N K : Nat} (hN : N < 2 ^ W) (hK : K < 2 ^ V) (h : W + V ≤ 128) : (N * 2 ^ V % 2 ^ 128 ||| K) % 2 ^ (W + V) = K + 2 ^ V * N := by
  have h1 : N * 2 ^ V + K < 2 ^ (W + V) := by
    rw [Nat.pow_add]
    have : (N + 1) * 2 ^ V ≤ 2 ^ W * 2 ^ V := Nat.mul_le_mul_right _ hN
    rw [Nat.add_mul] at this
    omega
  have h2 : 2 ^ (W + V) ≤ 2 ^ 128 := Nat.pow_le_pow_right (by omega) h
  rw [Nat.mod_eq_of_lt (show N * 2 ^ V < 2 ^ 128 by omega), Nat.mul_comm, ← Nat.two_pow_add_eq_or_of_lt hK, Nat.mod_eq_of_lt (by rw [Nat.mul_comm]; exact h1), Nat.add_comm]
end Go.Proofs.Ytnnoflohekmnbaa
/- The reference's Un. -/
namespace Go.Proofs.Ytnnoflohekmnbaa
open Go.RowKit
theorem ne_list {s : ByteArray} {k : ByteArray} (h : (s == k) = false) {l : List UInt8} (hl : k.toList = l) : (s.toList == l) = false := by
  rw [beq_eq_false_iff_ne]
  intro e
  rw [← hl, ByteArray.toList_eq, ByteArray.toList_eq] at e
  have e2 : s = k := ByteArray.ext (Array.toList_inj.1 e)
  subst e2
  change (s.data == s.data) = false at h
  simp at h
theorem refAdd_n (A A' : Option Addr) (c c' n : Nat) (a b : List Bool) (k0 : Bool) (w : World) (h : RB w w.heap.size A a) (h' : RB w w.heap.size A' b) (hab : b.length = a.length) (hn : a.length ≤ 1000) (hb : n = a.length) :
    Calls Try.prog 43 #[.slice A a.length c, .slice A' n c', .bool k0] w (RetBs w a.length ((nb a + nb b + bn k0) % 2 ^ a.length)) := by
  subst hb; exact refAdd_any A A' c c' a b k0 w h h' hab hn
theorem RB.falses (w : World) (n : Nat) : RB (w.alloc (mkO n)) (w.alloc (mkO n)).heap.size (some ⟨w.heap.size, 0, none⟩) (List.replicate n false) := (bq_made w n).rb (by simp)
set_option maxRecDepth 100000 in
set_option maxHeartbeats 4000000 in
theorem refUn_not {w : World} {ad : Addr} {c W N : Nat} (h : Vc w w.heap.size ad c W N) :
    Calls Try.prog 23 #[.string ⟨#[110, 111, 116]⟩, .agg #[.int .i64 W, .slice (some ad) (lm W) c]] w (RetVE w W (f_not W N)) := by
  have h1 := h.w1
  have h2 := h.w2
  have hn0 := h.n
  have hF0 := Fr2.first w (.int .i64 W) (.slice (some ad) (lm W) c) (.int .i64 0) (.slice none 0 0) 24 24
  have hV0 := h.nx hF0.bel
  generalize hk : lm W = k at *
  have HK := Lib.hid hk
  have HF0 := Lib.hid hF0
  have HV0 := Lib.hid hV0
  clear h hk hF0 hV0
  go_enter Try.func23, Try.ntmps23
  go_wp2_with fail
  refine (refBits_k HK.out HV0.out).mono ?_
  rintro e w1 ⟨v, l, rfl, rfl, rfl, ho, hb1⟩
  have hF1 := HF0.out.nx hb1
  obtain ⟨A1, c1, rfl, hr, z1⟩ := ho.val
  have hmk := mkB l.length (by omega)
  have HR2 := Lib.hid (hr.nx (bal (Below.refl w1.heap.size w1) (mkO l.length)))
  have HZ2 := Lib.hid (RB.falses w1 l.length)
  have hF2 := hF1.nx (bal (Below.refl w1.heap.size w1) (mkO l.length))
  obtain ⟨⟨p1, p2⟩, ⟨p3, p4, p5, p6⟩, pz⟩ := hF2.parts
  have HF2 := Lib.hid hF2
  have hz2 : w1.heap.size < (w1.alloc (mkO l.length)).heap.size := by simp
  clear hb1 ho hr z1 hF1 hF2 HF0 HV0 HK
  go_wp2_with fail
  refine (refNot_any A1 c1 l (w1.alloc (mkO l.length)) HR2.out (by omega)).mono ?_
  rintro e w3 ⟨v3, l3, rfl, hl3, hN3, ho3, hb3⟩
  obtain ⟨A3, c3, rfl, hr3, z3⟩ := ho3.val
  have hF3 := HF2.out.nx hb3
  have HL3 := Lib.hid hl3
  have HN3 := Lib.hid hN3
  clear hb3 ho3 hl3 hN3 p1 p2 p3 p4 p5 p6 pz
  obtain ⟨⟨p1, p2⟩, ⟨p3, p4, p5, p6⟩, pz⟩ := hF3.parts
  have C9 := refOf_any A3 c3 l3 w3 hr3 (by have := HL3.out; omega) (by have := HL3.out; omega)
  clear hr3
  go_wp2_with fail
  refine C9.mono ?_
  rintro e w9 ⟨ad9, c9, rfl, hv9, hf9, hb9⟩
  have hF9 := hF3.nx hb9
  have hg9 : w.heap.size + 1 < ad9.block := by have := hF3.sz; omega
  obtain ⟨⟨p1, p2⟩, ⟨p3, p4, p5, p6⟩, pz⟩ := hF9.parts
  clear C9 hb9
  go_wp2
  refine bodyPost_ret (v := .tuple #[.agg #[.int .i64 ((l3.length : Nat) : Int), .slice (some ad9) (lm l3.length) c9], .int .i64 0]) (by simp [results, Try.results23, go_sem, *]) rfl ?_
  exact (RetVE.mk (W := l3.length) hv9 hF9.bel (by omega) hg9).at_ HL3.out (HN3.out.trans (r_not h2 hn0).symm)
set_option maxRecDepth 100000 in
set_option maxHeartbeats 4000000 in
theorem refUn_inc {w : World} {ad : Addr} {c W N : Nat} (h : Vc w w.heap.size ad c W N) :
    Calls Try.prog 23 #[.string ⟨#[105, 110, 99]⟩, .agg #[.int .i64 W, .slice (some ad) (lm W) c]] w (RetVE w W (f_inc W N)) := by
  have h1 := h.w1
  have h2 := h.w2
  have hn0 := h.n
  have hF0 := Fr2.first w (.int .i64 W) (.slice (some ad) (lm W) c) (.int .i64 0) (.slice none 0 0) 24 24
  have hV0 := h.nx hF0.bel
  generalize hk : lm W = k at *
  have HK := Lib.hid hk
  have HF0 := Lib.hid hF0
  have HV0 := Lib.hid hV0
  clear h hk hF0 hV0
  go_enter Try.func23, Try.ntmps23
  go_wp2_with fail
  refine (refBits_k HK.out HV0.out).mono ?_
  rintro e w1 ⟨v, l, rfl, rfl, rfl, ho, hb1⟩
  have hF1 := HF0.out.nx hb1
  obtain ⟨A1, c1, rfl, hr, z1⟩ := ho.val
  have hmk := mkB l.length (by omega)
  have HR2 := Lib.hid (hr.nx (bal (Below.refl w1.heap.size w1) (mkO l.length)))
  have HZ2 := Lib.hid (RB.falses w1 l.length)
  have hF2 := hF1.nx (bal (Below.refl w1.heap.size w1) (mkO l.length))
  obtain ⟨⟨p1, p2⟩, ⟨p3, p4, p5, p6⟩, pz⟩ := hF2.parts
  have HF2 := Lib.hid hF2
  have hz2 : w1.heap.size < (w1.alloc (mkO l.length)).heap.size := by simp
  clear hb1 ho hr z1 hF1 hF2 HF0 HV0 HK
  have CA := refAdd_any A1 (some ⟨w1.heap.size, 0, none⟩) c1 l.length l (List.replicate l.length false) true (w1.alloc (mkO l.length)) HR2.out HZ2.out (by simp) (by omega)
  rw [nb_falses] at CA
  go_wp2_with fail
  refine (CA).mono ?_
  rintro e w3 ⟨v3, l3, rfl, hl3, hN3, ho3, hb3⟩
  obtain ⟨A3, c3, rfl, hr3, z3⟩ := ho3.val
  have hF3 := HF2.out.nx hb3
  have HL3 := Lib.hid hl3
  have HN3 := Lib.hid hN3
  clear hb3 ho3 hl3 hN3 p1 p2 p3 p4 p5 p6 pz
  obtain ⟨⟨p1, p2⟩, ⟨p3, p4, p5, p6⟩, pz⟩ := hF3.parts
  clear CA
  have C9 := refOf_any A3 c3 l3 w3 hr3 (by have := HL3.out; omega) (by have := HL3.out; omega)
  clear hr3
  go_wp2_with fail
  refine C9.mono ?_
  rintro e w9 ⟨ad9, c9, rfl, hv9, hf9, hb9⟩
  have hF9 := hF3.nx hb9
  have hg9 : w.heap.size + 1 < ad9.block := by have := hF3.sz; omega
  obtain ⟨⟨p1, p2⟩, ⟨p3, p4, p5, p6⟩, pz⟩ := hF9.parts
  clear C9 hb9
  go_wp2
  refine bodyPost_ret (v := .tuple #[.agg #[.int .i64 ((l3.length : Nat) : Int), .slice (some ad9) (lm l3.length) c9], .int .i64 0]) (by simp [results, Try.results23, go_sem, *]) rfl ?_
  exact (RetVE.mk (W := l3.length) hv9 hF9.bel (by omega) hg9).at_ HL3.out (HN3.out.trans (r_inc h2).symm)
set_option maxRecDepth 100000 in
set_option maxHeartbeats 4000000 in
theorem refUn_dec {w : World} {ad : Addr} {c W N : Nat} (h : Vc w w.heap.size ad c W N) :
    Calls Try.prog 23 #[.string ⟨#[100, 101, 99]⟩, .agg #[.int .i64 W, .slice (some ad) (lm W) c]] w (RetVE w W (f_dec W N)) := by
  have h1 := h.w1
  have h2 := h.w2
  have hn0 := h.n
  have hF0 := Fr2.first w (.int .i64 W) (.slice (some ad) (lm W) c) (.int .i64 0) (.slice none 0 0) 24 24
  have hV0 := h.nx hF0.bel
  generalize hk : lm W = k at *
  have HK := Lib.hid hk
  have HF0 := Lib.hid hF0
  have HV0 := Lib.hid hV0
  clear h hk hF0 hV0
  go_enter Try.func23, Try.ntmps23
  go_wp2_with fail
  refine (refBits_k HK.out HV0.out).mono ?_
  rintro e w1 ⟨v, l, rfl, rfl, rfl, ho, hb1⟩
  have hF1 := HF0.out.nx hb1
  obtain ⟨A1, c1, rfl, hr, z1⟩ := ho.val
  have hmk := mkB l.length (by omega)
  have HR2 := Lib.hid (hr.nx (bal (Below.refl w1.heap.size w1) (mkO l.length)))
  have HZ2 := Lib.hid (RB.falses w1 l.length)
  have hF2 := hF1.nx (bal (Below.refl w1.heap.size w1) (mkO l.length))
  obtain ⟨⟨p1, p2⟩, ⟨p3, p4, p5, p6⟩, pz⟩ := hF2.parts
  have HF2 := Lib.hid hF2
  have hz2 : w1.heap.size < (w1.alloc (mkO l.length)).heap.size := by simp
  clear hb1 ho hr z1 hF1 hF2 HF0 HV0 HK
  have CN := refNot_any (some ⟨w1.heap.size, 0, none⟩) l.length (List.replicate l.length false) (w1.alloc (mkO l.length)) HZ2.out (by simp; omega)
  rw [nb_falses, List.length_replicate] at CN
  go_wp2_with fail
  refine (CN).mono ?_
  rintro e w3 ⟨v3, l3, rfl, hl3, hN3, ho3, hb3⟩
  obtain ⟨A3, c3, rfl, hr3, z3⟩ := ho3.val
  have hF3 := HF2.out.nx hb3
  have HL3 := Lib.hid hl3
  have HN3 := Lib.hid hN3
  have B3 := Lib.hid hb3
  clear hb3 ho3 hl3 hN3 p1 p2 p3 p4 p5 p6 pz
  obtain ⟨⟨p1, p2⟩, ⟨p3, p4, p5, p6⟩, pz⟩ := hF3.parts
  clear CN
  have CA := refAdd_n A1 A3 c1 c3 l3.length l l3 false w3 (HR2.out.nx B3.out) hr3 HL3.out (by omega) HL3.out
  rw [HN3.out] at CA
  clear hr3
  go_wp2_with fail
  refine (CA).mono ?_
  rintro e w4 ⟨v4, l4, rfl, hl4, hN4, ho4, hb4⟩
  obtain ⟨A4, c4, rfl, hr4, z4⟩ := ho4.val
  have hF4 := hF3.nx hb4
  have HL4 := Lib.hid hl4
  have HN4 := Lib.hid hN4
  clear hb4 ho4 hl4 hN4 p1 p2 p3 p4 p5 p6 pz
  obtain ⟨⟨p1, p2⟩, ⟨p3, p4, p5, p6⟩, pz⟩ := hF4.parts
  clear CA
  have C9 := refOf_any A4 c4 l4 w4 hr4 (by have := HL4.out; omega) (by have := HL4.out; omega)
  clear hr4
  go_wp2_with fail
  refine C9.mono ?_
  rintro e w9 ⟨ad9, c9, rfl, hv9, hf9, hb9⟩
  have hF9 := hF4.nx hb9
  have hg9 : w.heap.size + 1 < ad9.block := by have := hF4.sz; omega
  obtain ⟨⟨p1, p2⟩, ⟨p3, p4, p5, p6⟩, pz⟩ := hF9.parts
  clear C9 hb9
  go_wp2
  refine bodyPost_ret (v := .tuple #[.agg #[.int .i64 ((l4.length : Nat) : Int), .slice (some ad9) (lm l4.length) c9], .int .i64 0]) (by simp [results, Try.results23, go_sem, *]) rfl ?_
  exact (RetVE.mk (W := l4.length) hv9 hF9.bel (by omega) hg9).at_ HL4.out (HN4.out.trans (r_dec h2 h1 hn0).symm)
set_option maxRecDepth 100000 in
set_option maxHeartbeats 4000000 in
theorem refUn_neg {w : World} {ad : Addr} {c W N : Nat} (h : Vc w w.heap.size ad c W N) :
    Calls Try.prog 23 #[.string ⟨#[110, 101, 103]⟩, .agg #[.int .i64 W, .slice (some ad) (lm W) c]] w (RetVE w W (f_neg W N)) := by
  have h1 := h.w1
  have h2 := h.w2
  have hn0 := h.n
  have hF0 := Fr2.first w (.int .i64 W) (.slice (some ad) (lm W) c) (.int .i64 0) (.slice none 0 0) 24 24
  have hV0 := h.nx hF0.bel
  generalize hk : lm W = k at *
  have HK := Lib.hid hk
  have HF0 := Lib.hid hF0
  have HV0 := Lib.hid hV0
  clear h hk hF0 hV0
  go_enter Try.func23, Try.ntmps23
  go_wp2_with fail
  refine (refBits_k HK.out HV0.out).mono ?_
  rintro e w1 ⟨v, l, rfl, rfl, rfl, ho, hb1⟩
  have hF1 := HF0.out.nx hb1
  obtain ⟨A1, c1, rfl, hr, z1⟩ := ho.val
  have hmk := mkB l.length (by omega)
  have HR2 := Lib.hid (hr.nx (bal (Below.refl w1.heap.size w1) (mkO l.length)))
  have HZ2 := Lib.hid (RB.falses w1 l.length)
  have hF2 := hF1.nx (bal (Below.refl w1.heap.size w1) (mkO l.length))
  obtain ⟨⟨p1, p2⟩, ⟨p3, p4, p5, p6⟩, pz⟩ := hF2.parts
  have HF2 := Lib.hid hF2
  have hz2 : w1.heap.size < (w1.alloc (mkO l.length)).heap.size := by simp
  clear hb1 ho hr z1 hF1 hF2 HF0 HV0 HK
  have CS := refSub_any (some ⟨w1.heap.size, 0, none⟩) A1 l.length c1 (List.replicate l.length false) l (w1.alloc (mkO l.length)) HZ2.out HR2.out (by simp) (by simp; omega)
  rw [nb_falses, List.length_replicate] at CS
  go_wp2_with fail
  refine CS.mono ?_
  rintro e w3 ⟨A3, c3, l3, rfl, hl3, hN3, hr3, hb3⟩
  have hF3 := HF2.out.nx hb3
  have HN3 := Lib.hid hN3
  have HL3 := Lib.hid hl3
  clear hb3 hN3 p1 p2 p3 p4 p5 p6 pz CS hl3
  obtain ⟨⟨p1, p2⟩, ⟨p3, p4, p5, p6⟩, pz⟩ := hF3.parts
  have C8 := refOf_l A3 c3 l.length l3 w3 hr3 HL3.out h1 h2
  clear hr3
  go_wp2_with fail
  refine C8.mono ?_
  rintro e w9 ⟨ad9, c9, rfl, hv9, hf9, hb9⟩
  have hF9 := hF3.nx hb9
  have hg9 : w.heap.size + 1 < ad9.block := by have := hF3.sz; omega
  obtain ⟨⟨p1, p2⟩, ⟨p3, p4, p5, p6⟩, pz⟩ := hF9.parts
  clear C8 hb9
  go_wp2
  refine bodyPost_ret (v := .tuple #[.agg #[.int .i64 ((l.length : Nat) : Int), .slice (some ad9) (lm l.length) c9], .int .i64 0]) (by simp [results, Try.results23, go_sem, *]) rfl ?_
  exact (RetVE.mk (W := l.length) hv9 hF9.bel (by omega) hg9).at_ rfl (HN3.out.trans (r_neg h2 hn0).symm)
set_option maxRecDepth 100000 in
set_option maxHeartbeats 4000000 in
theorem refUn_redand {w : World} {ad : Addr} {c W N : Nat} (h : Vc w w.heap.size ad c W N) :
    Calls Try.prog 23 #[.string ⟨#[114, 101, 100, 97, 110, 100]⟩, .agg #[.int .i64 W, .slice (some ad) (lm W) c]] w (RetVE w 1 (bn (N == 2 ^ W - 1))) := by
  have h1 := h.w1
  have h2 := h.w2
  have hn0 := h.n
  have hF0 := Fr2.first w (.int .i64 W) (.slice (some ad) (lm W) c) (.int .i64 0) (.slice none 0 0) 24 24
  have hV0 := h.nx hF0.bel
  generalize hk : lm W = k at *
  have HK := Lib.hid hk
  have HF0 := Lib.hid hF0
  have HV0 := Lib.hid hV0
  clear h hk hF0 hV0
  go_enter Try.func23, Try.ntmps23
  go_wp2_with fail
  refine (refBits_k HK.out HV0.out).mono ?_
  rintro e w1 ⟨v, l, rfl, rfl, rfl, ho, hb1⟩
  have hF1 := HF0.out.nx hb1
  obtain ⟨A1, c1, rfl, hr, z1⟩ := ho.val
  have hmk := mkB l.length (by omega)
  have HR2 := Lib.hid (hr.nx (bal (Below.refl w1.heap.size w1) (mkO l.length)))
  have HZ2 := Lib.hid (RB.falses w1 l.length)
  have hF2 := hF1.nx (bal (Below.refl w1.heap.size w1) (mkO l.length))
  obtain ⟨⟨p1, p2⟩, ⟨p3, p4, p5, p6⟩, pz⟩ := hF2.parts
  have HF2 := Lib.hid hF2
  have hz2 : w1.heap.size < (w1.alloc (mkO l.length)).heap.size := by simp
  clear hb1 ho hr z1 hF1 hF2 HF0 HV0 HK
  have CM := refMany_any A1 c1 l (w1.alloc (mkO l.length)) HR2.out (by omega)
  obtain ⟨T, hct⟩ : ∃ T, ct l = T := ⟨_, rfl⟩
  rw [hct] at CM
  have hT : ((T : Int) == (l.length : Int)) = (ct l == l.length) := by rw [hct, Bool.eq_iff_iff, beq_iff_eq, beq_iff_eq]; omega
  have hT2 : (T == l.length) = (ct l == l.length) := by rw [hct]
  have hTl : T ≤ 128 := by rw [← hct]; have := ct_le l; omega
  obtain ⟨q, hq⟩ : ∃ q, (ct l == l.length) = q := ⟨_, rfl⟩
  rw [hq] at hT hT2
  have HQ := Lib.hid hq
  clear hq hct
  go_wp2_with fail
  refine CM.mono ?_
  rintro e w3 ⟨rfl, rfl⟩
  clear CM
  go_wp2_with fail
  refine (refFlag_any q _).mono ?_
  rintro e w4 ⟨v4, l4, rfl, hl4, hN4, ho4, hb4⟩
  obtain ⟨A4, c4, rfl, hr4, z4⟩ := ho4.val
  have hF4 := HF2.out.nx hb4
  have HL4 := Lib.hid hl4
  have HN4 := Lib.hid hN4
  clear hb4 ho4 hl4 hN4 p1 p2 p3 p4 p5 p6 pz
  obtain ⟨⟨p1, p2⟩, ⟨p3, p4, p5, p6⟩, pz⟩ := hF4.parts
  have C9 := refOf_any A4 c4 l4 w4 hr4 (by have := HL4.out; omega) (by have := HL4.out; omega)
  clear hr4
  go_wp2_with fail
  refine C9.mono ?_
  rintro e w9 ⟨ad9, c9, rfl, hv9, hf9, hb9⟩
  have hF9 := hF4.nx hb9
  have hg9 : w.heap.size + 1 < ad9.block := by have := hF4.sz; omega
  obtain ⟨⟨p1, p2⟩, ⟨p3, p4, p5, p6⟩, pz⟩ := hF9.parts
  clear C9 hb9
  go_wp2
  refine bodyPost_ret (v := .tuple #[.agg #[.int .i64 ((l4.length : Nat) : Int), .slice (some ad9) (lm l4.length) c9], .int .i64 0]) (by simp [results, Try.results23, go_sem, *]) rfl ?_
  exact (RetVE.mk (W := l4.length) hv9 hF9.bel (by omega) hg9).at_ HL4.out (HN4.out.trans (by rw [show _ = q from (nb_full l).trans HQ.out]))
set_option maxRecDepth 100000 in
set_option maxHeartbeats 4000000 in
theorem refUn_redor {w : World} {ad : Addr} {c W N : Nat} (h : Vc w w.heap.size ad c W N) :
    Calls Try.prog 23 #[.string ⟨#[114, 101, 100, 111, 114]⟩, .agg #[.int .i64 W, .slice (some ad) (lm W) c]] w (RetVE w 1 (bn (N != 0))) := by
  have h1 := h.w1
  have h2 := h.w2
  have hn0 := h.n
  have hF0 := Fr2.first w (.int .i64 W) (.slice (some ad) (lm W) c) (.int .i64 0) (.slice none 0 0) 24 24
  have hV0 := h.nx hF0.bel
  generalize hk : lm W = k at *
  have HK := Lib.hid hk
  have HF0 := Lib.hid hF0
  have HV0 := Lib.hid hV0
  clear h hk hF0 hV0
  go_enter Try.func23, Try.ntmps23
  go_wp2_with fail
  refine (refBits_k HK.out HV0.out).mono ?_
  rintro e w1 ⟨v, l, rfl, rfl, rfl, ho, hb1⟩
  have hF1 := HF0.out.nx hb1
  obtain ⟨A1, c1, rfl, hr, z1⟩ := ho.val
  have hmk := mkB l.length (by omega)
  have HR2 := Lib.hid (hr.nx (bal (Below.refl w1.heap.size w1) (mkO l.length)))
  have HZ2 := Lib.hid (RB.falses w1 l.length)
  have hF2 := hF1.nx (bal (Below.refl w1.heap.size w1) (mkO l.length))
  obtain ⟨⟨p1, p2⟩, ⟨p3, p4, p5, p6⟩, pz⟩ := hF2.parts
  have HF2 := Lib.hid hF2
  have hz2 : w1.heap.size < (w1.alloc (mkO l.length)).heap.size := by simp
  clear hb1 ho hr z1 hF1 hF2 HF0 HV0 HK
  have CM := refMany_any A1 c1 l (w1.alloc (mkO l.length)) HR2.out (by omega)
  obtain ⟨T, hct⟩ : ∃ T, ct l = T := ⟨_, rfl⟩
  rw [hct] at CM
  have hT : decide ((0 : Int) < (T : Int)) = decide (0 < ct l) := by rw [hct]; simp
  have hT2 : decide (0 < T) = decide (0 < ct l) := by rw [hct]
  have hTl : T ≤ 128 := by rw [← hct]; have := ct_le l; omega
  obtain ⟨q, hq⟩ : ∃ q, decide (0 < ct l) = q := ⟨_, rfl⟩
  rw [hq] at hT hT2
  have HQ := Lib.hid hq
  clear hq hct
  go_wp2_with fail
  refine CM.mono ?_
  rintro e w3 ⟨rfl, rfl⟩
  clear CM
  go_wp2_with fail
  refine (refFlag_any q _).mono ?_
  rintro e w4 ⟨v4, l4, rfl, hl4, hN4, ho4, hb4⟩
  obtain ⟨A4, c4, rfl, hr4, z4⟩ := ho4.val
  have hF4 := HF2.out.nx hb4
  have HL4 := Lib.hid hl4
  have HN4 := Lib.hid hN4
  clear hb4 ho4 hl4 hN4 p1 p2 p3 p4 p5 p6 pz
  obtain ⟨⟨p1, p2⟩, ⟨p3, p4, p5, p6⟩, pz⟩ := hF4.parts
  have C9 := refOf_any A4 c4 l4 w4 hr4 (by have := HL4.out; omega) (by have := HL4.out; omega)
  clear hr4
  go_wp2_with fail
  refine C9.mono ?_
  rintro e w9 ⟨ad9, c9, rfl, hv9, hf9, hb9⟩
  have hF9 := hF4.nx hb9
  have hg9 : w.heap.size + 1 < ad9.block := by have := hF4.sz; omega
  obtain ⟨⟨p1, p2⟩, ⟨p3, p4, p5, p6⟩, pz⟩ := hF9.parts
  clear C9 hb9
  go_wp2
  refine bodyPost_ret (v := .tuple #[.agg #[.int .i64 ((l4.length : Nat) : Int), .slice (some ad9) (lm l4.length) c9], .int .i64 0]) (by simp [results, Try.results23, go_sem, *]) rfl ?_
  exact (RetVE.mk (W := l4.length) hv9 hF9.bel (by omega) hg9).at_ HL4.out (HN4.out.trans (by rw [show _ = q from (nb_some l).trans HQ.out]))
set_option maxRecDepth 100000 in
set_option maxHeartbeats 4000000 in
theorem refUn_redxor {w : World} {ad : Addr} {c W N : Nat} (h : Vc w w.heap.size ad c W N) :
    Calls Try.prog 23 #[.string ⟨#[114, 101, 100, 120, 111, 114]⟩, .agg #[.int .i64 W, .slice (some ad) (lm W) c]] w (RetVE w 1 (bn (pc 128 N % 2 == 1))) := by
  have h1 := h.w1
  have h2 := h.w2
  have hn0 := h.n
  have hF0 := Fr2.first w (.int .i64 W) (.slice (some ad) (lm W) c) (.int .i64 0) (.slice none 0 0) 24 24
  have hV0 := h.nx hF0.bel
  generalize hk : lm W = k at *
  have HK := Lib.hid hk
  have HF0 := Lib.hid hF0
  have HV0 := Lib.hid hV0
  clear h hk hF0 hV0
  go_enter Try.func23, Try.ntmps23
  go_wp2_with fail
  refine (refBits_k HK.out HV0.out).mono ?_
  rintro e w1 ⟨v, l, rfl, rfl, rfl, ho, hb1⟩
  have hF1 := HF0.out.nx hb1
  obtain ⟨A1, c1, rfl, hr, z1⟩ := ho.val
  have hmk := mkB l.length (by omega)
  have HR2 := Lib.hid (hr.nx (bal (Below.refl w1.heap.size w1) (mkO l.length)))
  have HZ2 := Lib.hid (RB.falses w1 l.length)
  have hF2 := hF1.nx (bal (Below.refl w1.heap.size w1) (mkO l.length))
  obtain ⟨⟨p1, p2⟩, ⟨p3, p4, p5, p6⟩, pz⟩ := hF2.parts
  have HF2 := Lib.hid hF2
  have hz2 : w1.heap.size < (w1.alloc (mkO l.length)).heap.size := by simp
  clear hb1 ho hr z1 hF1 hF2 HF0 HV0 HK
  have CM := refMany_any A1 c1 l (w1.alloc (mkO l.length)) HR2.out (by omega)
  obtain ⟨T, hct⟩ : ∃ T, ct l = T := ⟨_, rfl⟩
  rw [hct] at CM
  have hT : ((T : Int) % 2 == 1) = (ct l % 2 == 1) := by rw [hct, Bool.eq_iff_iff, beq_iff_eq, beq_iff_eq]; omega
  have hT2 : (T % 2 == 1) = (ct l % 2 == 1) := by rw [hct]
  have hTl : T ≤ 128 := by rw [← hct]; have := ct_le l; omega
  obtain ⟨q, hq⟩ : ∃ q, (ct l % 2 == 1) = q := ⟨_, rfl⟩
  rw [hq] at hT hT2
  have HQ := Lib.hid hq
  clear hq hct
  go_wp2_with fail
  refine CM.mono ?_
  rintro e w3 ⟨rfl, rfl⟩
  clear CM
  go_wp2_with fail
  refine (refFlag_any q _).mono ?_
  rintro e w4 ⟨v4, l4, rfl, hl4, hN4, ho4, hb4⟩
  obtain ⟨A4, c4, rfl, hr4, z4⟩ := ho4.val
  have hF4 := HF2.out.nx hb4
  have HL4 := Lib.hid hl4
  have HN4 := Lib.hid hN4
  clear hb4 ho4 hl4 hN4 p1 p2 p3 p4 p5 p6 pz
  obtain ⟨⟨p1, p2⟩, ⟨p3, p4, p5, p6⟩, pz⟩ := hF4.parts
  have C9 := refOf_any A4 c4 l4 w4 hr4 (by have := HL4.out; omega) (by have := HL4.out; omega)
  clear hr4
  go_wp2_with fail
  refine C9.mono ?_
  rintro e w9 ⟨ad9, c9, rfl, hv9, hf9, hb9⟩
  have hF9 := hF4.nx hb9
  have hg9 : w.heap.size + 1 < ad9.block := by have := hF4.sz; omega
  obtain ⟨⟨p1, p2⟩, ⟨p3, p4, p5, p6⟩, pz⟩ := hF9.parts
  clear C9 hb9
  go_wp2
  refine bodyPost_ret (v := .tuple #[.agg #[.int .i64 ((l4.length : Nat) : Int), .slice (some ad9) (lm l4.length) c9], .int .i64 0]) (by simp [results, Try.results23, go_sem, *]) rfl ?_
  exact (RetVE.mk (W := l4.length) hv9 hF9.bel (by omega) hg9).at_ HL4.out (HN4.out.trans (by rw [pc_nb l 128 h2, HQ.out]))
set_option maxRecDepth 100000 in
set_option maxHeartbeats 4000000 in
theorem refUn_other (s : ByteArray) (hs : ∀ k ∈ unKeys, (s == k) = false) {w : World} {ad : Addr} {c W N : Nat} (h : Vc w w.heap.size ad c W N) :
    Calls Try.prog 23 #[.string s, .agg #[.int .i64 W, .slice (some ad) (lm W) c]] w (RetErr w 1) := by
  have s0 := ne_list (hs ⟨#[110, 111, 116]⟩ (by simp [unKeys])) (l := [110, 111, 116]) (by rw [ByteArray.toList_eq])
  have s1 := ne_list (hs ⟨#[105, 110, 99]⟩ (by simp [unKeys])) (l := [105, 110, 99]) (by rw [ByteArray.toList_eq])
  have s2 := ne_list (hs ⟨#[100, 101, 99]⟩ (by simp [unKeys])) (l := [100, 101, 99]) (by rw [ByteArray.toList_eq])
  have s3 := ne_list (hs ⟨#[110, 101, 103]⟩ (by simp [unKeys])) (l := [110, 101, 103]) (by rw [ByteArray.toList_eq])
  have s4 := ne_list (hs ⟨#[114, 101, 100, 97, 110, 100]⟩ (by simp [unKeys])) (l := [114, 101, 100, 97, 110, 100]) (by rw [ByteArray.toList_eq])
  have s5 := ne_list (hs ⟨#[114, 101, 100, 111, 114]⟩ (by simp [unKeys])) (l := [114, 101, 100, 111, 114]) (by rw [ByteArray.toList_eq])
  have s6 := ne_list (hs ⟨#[114, 101, 100, 120, 111, 114]⟩ (by simp [unKeys])) (l := [114, 101, 100, 120, 111, 114]) (by rw [ByteArray.toList_eq])
  clear hs
  have h1 := h.w1
  have h2 := h.w2
  have hn0 := h.n
  have hF0 := Fr2.first w (.int .i64 W) (.slice (some ad) (lm W) c) (.int .i64 0) (.slice none 0 0) 24 24
  have hV0 := h.nx hF0.bel
  generalize hk : lm W = k at *
  have HK := Lib.hid hk
  have HF0 := Lib.hid hF0
  have HV0 := Lib.hid hV0
  clear h hk hF0 hV0
  go_enter Try.func23, Try.ntmps23
  go_wp2_with fail
  refine (refBits_k HK.out HV0.out).mono ?_
  rintro e w1 ⟨v, l, rfl, rfl, rfl, ho, hb1⟩
  have hF1 := HF0.out.nx hb1
  obtain ⟨A1, c1, rfl, hr, z1⟩ := ho.val
  have hmk := mkB l.length (by omega)
  have HR2 := Lib.hid (hr.nx (bal (Below.refl w1.heap.size w1) (mkO l.length)))
  have HZ2 := Lib.hid (RB.falses w1 l.length)
  have hF2 := hF1.nx (bal (Below.refl w1.heap.size w1) (mkO l.length))
  obtain ⟨⟨p1, p2⟩, ⟨p3, p4, p5, p6⟩, pz⟩ := hF2.parts
  have HF2 := Lib.hid hF2
  have hz2 : w1.heap.size < (w1.alloc (mkO l.length)).heap.size := by simp
  clear hb1 ho hr z1 hF1 hF2 HF0 HV0 HK
  go_wp2
  refine bodyPost_ret (v := .tuple #[.agg #[.int .i64 0, .slice none 0 0], .int .i64 1]) (by simp [results, Try.results23, go_sem, *]) rfl ⟨rfl, ?_⟩
  exact (HF2.out.bel.setCell (by simp) _).setCell (by simp) _
end Go.Proofs.Ytnnoflohekmnbaa
