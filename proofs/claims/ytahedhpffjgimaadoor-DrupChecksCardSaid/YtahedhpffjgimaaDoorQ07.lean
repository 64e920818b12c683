/-
  What is printed is parsed: plain functions of bytes.
  The statements' common head over the translated program: it tells true.
  The reference's Small and Right over the translated program.
-/
import Derived.Test.YtahedhpffjgimaaDoorProg
import Derived.WalkKit
import Derived.WalkSpells
import Derived.WalkLawsBesides
import Derived.Lib.Hide
import Derived.BigQuiet
import Derived.Deep.QuietTactic
import Derived.Deep.RegionWith
import Derived.Deep.RegionHeld3
import Derived.Test.YtahedhpffjgimaaDoorQ06
import Derived.Lib.ItoaMem
import Derived.Lib.SlBytesConst
import Derived.Lib.ConvBytes
set_option linter.unusedVariables false
/- What is printed is parsed: plain functions of bytes. -/
namespace Go.Proofs.YtahedhpffjgimaaDoor
open Go.RowKit
theorem figs_dec : ∀ (f n : Nat), n ≤ f → figs n = Lib.decDigits n := by
  intro f
  induction f with
  | zero => intro n h; rw [figs_last n (by omega), Lib.decDigits_one (by omega)]
  | succ f ih =>
    intro n h
    by_cases h9 : 9 < n
    · rw [figs_more n h9, Lib.decDigits, dif_neg (by omega), ih (n / 10) (by omega)]
    · rw [figs_last n h9, Lib.decDigits_one (by omega)]
theorem dec_figs (n : Nat) : Lib.decDigits n = figs n := (figs_dec n n (Nat.le_refl _)).symm
theorem itoa_nn (u : Nat) : Lib.itoa (u : Int) = figs u := by rw [Lib.itoa_nonneg, dec_figs]
theorem itoa_ng (u : Nat) (h : 1 ≤ u) : Lib.itoa (-(u : Int)) = 45 :: figs u := by rw [Lib.itoa_neg u h, dec_figs]
theorem number_figs (u : Nat) (b : List UInt8) (hb : NoFig b) (most : Int) (h1 : (u : Int) ≤ most) (h2 : u ≤ 2147483647) : numberS (figs u ++ b) most = ((u : Int), (figs u).length, 0) := by
  rw [numberS_figs u b hb most, if_neg (by omega)]
theorem figs_hd (u : Nat) : ∃ c t, figs u = c :: t ∧ 48 ≤ c.toNat ∧ c.toNat ≤ 57 := by
  have hd := figs_digits u u (Nat.le_refl _)
  have hn := figs_ne u
  cases h : figs u with
  | nil => exact absurd h hn
  | cons c t => exact ⟨c, t, rfl, hd c (by rw [h]; simp)⟩
theorem signed_itoa (x : Int) (b : List UInt8) (hb : NoFig b) (most : Int) (h1 : -most ≤ x) (h2 : x ≤ most) (h3 : most ≤ 2147483647) : signedS (Lib.itoa x ++ b) most = (x, (Lib.itoa x).length, 0) := by
  unfold signedS
  by_cases hx : 0 ≤ x
  · obtain ⟨u, rfl⟩ := Int.eq_ofNat_of_zero_le hx
    rw [itoa_nn]
    obtain ⟨c, t, e, hc1, hc2⟩ := figs_hd u
    have : ((figs u ++ b).take 1 == [(45 : UInt8)]) = false := by
      rw [e]; simp only [List.cons_append, List.take_succ_cons, List.take_zero]
      rw [beq_eq_false_iff_ne]
      intro e2
      injection e2 with e3
      rw [e3] at hc1
      exact absurd hc1 (by decide)
    rw [this, if_neg (by simp)]
    exact number_figs u b hb most h2 (by omega)
  · obtain ⟨u, hu⟩ := Int.eq_ofNat_of_zero_le (show 0 ≤ -x by omega)
    obtain rfl : x = -(u : Int) := by omega
    rw [itoa_ng u (by omega)]
    have hh := figs_head u u (Nat.le_refl _) (by omega)
    obtain ⟨c, t, e, hc1, hc2⟩ := figs_hd u
    have e0 : (45 :: figs u ++ b).take 1 = [45] := rfl
    have e1 : (45 :: figs u ++ b).drop 1 = figs u ++ b := rfl
    rw [e0, e1, if_pos (by decide)]
    have : ((figs u ++ b).take 1 == [(48 : UInt8)]) = false := by
      rw [e] at hh ⊢
      simp only [List.cons_append, List.take_succ_cons, List.take_zero, List.getD_cons_zero] at hh ⊢
      rw [beq_eq_false_iff_ne]
      intro e2
      injection e2 with e3
      rw [e3] at hh
      exact absurd rfl hh
    rw [this, if_neg (by simp), number_figs u b hb most (by omega) (by omega)]
    simp
theorem noFig_cons (c : UInt8) (t : List UInt8) (h : ¬ (48 ≤ c.toNat ∧ c.toNat ≤ 57)) : NoFig (c :: t) := by
  intro c' t' e
  injection e with e1 e2
  rw [← e1]; exact h
theorem bS_app (s t : List UInt8) : bS (s ++ t) s = true := by unfold bS; rw [List.take_left]; simp
theorem drop_app (s t : List UInt8) (n : Nat) (h : n = s.length) : (s ++ t).drop n = t := by subst h; exact List.drop_left
theorem zero_signed (b : List UInt8) (hb : NoFig b) (most : Int) (h0 : 0 ≤ most) (h3 : most ≤ 2147483647) : signedS (48 :: b) most = (0, 1, 0) := by
  have := signed_itoa 0 b hb most (by omega) h0 h3
  have e : Lib.itoa 0 = [48] := by rw [show (0 : Int) = ((0 : Nat) : Int) from rfl, itoa_nn, figs_last 0 (by omega)]; rfl
  rw [e] at this
  exact this
theorem rdCl_print (n : Int) (h0 : 0 ≤ n) (h3 : n ≤ 2147483647) (b : List UInt8) : ∀ (lits c : List Int), (∀ x ∈ lits, x ≠ 0 ∧ -n ≤ x ∧ x ≤ n) → c.length + lits.length ≤ 1000 → rdCl n (tellS lits ++ b) c = (c ++ lits, (tellS lits).length, 0)
  | [], c, hx, hl => by
    have e : tellS [] ++ b = 48 :: (10 :: b) := rfl
    have hz := zero_signed (10 :: b) (noFig_cons _ _ (by decide)) n h0 h3
    rw [e, rdCl, hz, if_neg (by simp), if_pos rfl]
    have e2 : bS ((48 :: 10 :: b).drop 1) [10] = true := bS_app [10] b
    rw [if_pos e2]
    simp [tellS, litsS]
  | x :: lits, c, hx, hl => by
    obtain ⟨x0, x1, x2⟩ := hx x (by simp)
    have ih := rdCl_print n h0 h3 b lits (c ++ [x]) (fun y hy => hx y (by simp [hy])) (by simp only [List.length_append, List.length_cons, List.length_nil] at *; omega)
    have e : tellS (x :: lits) ++ b = Lib.itoa x ++ (32 :: (tellS lits ++ b)) := by simp [tellS, litsS, litS]
    have hs := signed_itoa x (32 :: (tellS lits ++ b)) (noFig_cons _ _ (by decide)) n x1 x2 h3
    rw [e, rdCl, hs, if_neg (by simp), if_neg x0]
    have hlen : ¬ c.length = 1000 := by simp only [List.length_cons] at hl; omega
    rw [if_neg hlen]
    have e2 : (Lib.itoa x ++ 32 :: (tellS lits ++ b)).drop (Lib.itoa x).length = 32 :: (tellS lits ++ b) := List.drop_left
    have e3 : (Lib.itoa x ++ 32 :: (tellS lits ++ b)).drop ((Lib.itoa x).length + 1) = tellS lits ++ b := by rw [← List.drop_drop, e2]; rfl
    have hb : bS ((Lib.itoa x ++ 32 :: (tellS lits ++ b)).drop (Lib.itoa x).length) [32] = true := by rw [e2]; exact bS_app [32] _
    simp only
    rw [dif_pos hb, e3, ih]
    simp [tellS, litsS, litS]
    omega
theorem rdCls_print (n : Int) (h0 : 0 ≤ n) (h3 : n ≤ 2147483647) (b : List UInt8) : ∀ (L L0 : List (List Int)), (∀ c ∈ L, c.length ≤ 1000 ∧ ∀ x ∈ c, x ≠ 0 ∧ -n ≤ x ∧ x ≤ n) → rdCls n L.length (bodyS L ++ b) L0 = (L0 ++ L, (bodyS L).length, 0)
  | [], L0, h => by simp [rdCls, bodyS]
  | c :: L, L0, h => by
    obtain ⟨c1, c2⟩ := h c (by simp)
    have ih := rdCls_print n h0 h3 b L (L0 ++ [c]) (fun y hy => h y (by simp [hy]))
    have e : bodyS (c :: L) ++ b = tellS c ++ (bodyS L ++ b) := by simp [bodyS]
    have hc := rdCl_print n h0 h3 (bodyS L ++ b) c [] c2 (by simpa using c1)
    rw [e, List.length_cons, rdCls, hc, if_neg (by simp)]
    simp only
    rw [List.drop_left, List.nil_append, ih]
    simp [bodyS]
theorem rdHead_print (N m : Nat) (hN : N ≤ 100000) (hm : m ≤ 20000) (b : List UInt8) : rdHead (headS N m ++ b) = ((N : Int), (m : Int), (headS N m).length, 0) := by
  have e : headS N m ++ b = headW ++ (figs N ++ (32 :: (figs m ++ (10 :: b)))) := by unfold headS headW; rw [itoa_nn, itoa_nn]; simp
  have hl : (headS N m).length = 6 + (figs N).length + 1 + (figs m).length + 1 := by unfold headS; rw [itoa_nn, itoa_nn]; simp; omega
  rw [e, hl]
  have d6 : (headW ++ (figs N ++ (32 :: (figs m ++ (10 :: b))))).drop 6 = figs N ++ (32 :: (figs m ++ (10 :: b))) := drop_app headW _ 6 rfl
  have n1 := number_figs N (32 :: (figs m ++ (10 :: b))) (noFig_cons _ _ (by decide)) 100000 (by omega) (by omega)
  have d7 : (headW ++ (figs N ++ (32 :: (figs m ++ (10 :: b))))).drop (6 + (figs N).length) = 32 :: (figs m ++ (10 :: b)) := by rw [← List.drop_drop, d6, List.drop_left]
  have d8 : (headW ++ (figs N ++ (32 :: (figs m ++ (10 :: b))))).drop (6 + (figs N).length + 1) = figs m ++ (10 :: b) := by rw [← List.drop_drop, d7]; rfl
  have n2 := number_figs m (10 :: b) (noFig_cons _ _ (by decide)) 20000 (by omega) (by omega)
  have d9 : (headW ++ (figs N ++ (32 :: (figs m ++ (10 :: b))))).drop (6 + (figs N).length + 1 + (figs m).length) = 10 :: b := by rw [← List.drop_drop, d8, List.drop_left]
  unfold rdHead
  rw [if_neg (by rw [bS_app]; simp), d6, n1]
  simp only
  rw [if_neg (by simp), d7, if_neg (by rw [show bS (32 :: (figs m ++ 10 :: b)) [32] = true from bS_app [32] _]; simp), d8, n2]
  simp only
  rw [if_neg (by simp), d9, if_neg (by rw [show bS (10 :: b) [10] = true from bS_app [10] _]; simp)]
theorem parse_print_any {N : Int} {L : List (List Int)} (h : rightF N L = true) (b : List UInt8) (hl : (printS N L ++ b).length ≤ 100000) : parseS (printS N L ++ b) = if b = [] then ((N, L), (printS N L).length, 0) else ((0, []), (printS N L).length, 2) := by
  obtain ⟨h0, h1, h2, h3⟩ := right_parts h
  obtain ⟨u, rfl⟩ := Int.eq_ofNat_of_zero_le h0
  have e : printS u L ++ b = headS u L.length ++ (bodyS L ++ b) := by simp [printS]
  have hh : rdHead (printS u L ++ b) = ((u : Int), ((L.length : Nat) : Int), (headS u L.length).length, 0) := by rw [e]; exact rdHead_print u L.length (by omega) h2 _
  have hc : rdCls (u : Int) ((L.length : Nat) : Int).toNat ((printS u L ++ b).drop (headS u L.length).length) [] = (L, (bodyS L).length, 0) := by
    rw [e, List.drop_left]
    have := rdCls_print (u : Int) (by omega) (by omega) b L [] h3
    simpa using this
  have hk : (headS u L.length).length + (bodyS L).length = (printS u L).length := by simp [printS]
  have hlen : (printS u L ++ b).length = (printS u L).length + b.length := List.length_append
  by_cases hb : b = []
  · subst hb
    rw [if_pos rfl]
    rw [parse_ok hl hh hc (by rw [hk, hlen]; simp), hk]
  · rw [if_neg hb]
    have : 0 < b.length := List.length_pos_iff.2 hb
    rw [parse_en hl hh hc (by rw [hk, hlen]; omega), hk]
theorem parse_print {N : Int} {L : List (List Int)} (h : rightF N L = true) (hl : (printS N L).length ≤ 100000) : parseS (printS N L) = ((N, L), (printS N L).length, 0) := by
  have := parse_print_any h [] (by simpa using hl)
  simpa using this
theorem litAt_ne (m : List Bool) (i : Nat) : litAt m i ≠ 0 := by unfold litAt; split <;> omega
theorem rdVal_print (m : List Bool) (i : Nat) (b : List UInt8) : rdVal (litS (litAt m i) ++ b) (i + 1) = (m.getD i false, (litS (litAt m i)).length, 0) := by
  have hw : litS ((i + 1 : Nat) : Int) = figs (i + 1) ++ [32] := by unfold litS; rw [itoa_nn]
  unfold rdVal
  rw [hw]
  cases hb : m.getD i false
  · have e : litS (litAt m i) ++ b = 45 :: ((figs (i + 1) ++ [32]) ++ b) := by
      unfold litS litAt
      rw [hb, if_neg (by simp), show -((i : Int) + 1) = -((i + 1 : Nat) : Int) by omega, itoa_ng _ (by omega)]; simp
    have hl : (litS (litAt m i)).length = 1 + (figs (i + 1) ++ [32]).length := by
      unfold litS litAt
      rw [hb, if_neg (by simp), show -((i : Int) + 1) = -((i + 1 : Nat) : Int) by omega, itoa_ng _ (by omega)]; simp; omega
    have h1 : bS (45 :: ((figs (i + 1) ++ [32]) ++ b)) [45] = true := bS_app [45] _
    rw [e, h1, if_pos rfl]
    have h2 : bS ((45 :: ((figs (i + 1) ++ [32]) ++ b)).drop 1) (figs (i + 1) ++ [32]) = true := bS_app _ b
    rw [if_pos h2, hl]; rfl
  · have e : litS (litAt m i) = figs (i + 1) ++ [32] := by
      unfold litS litAt
      rw [hb, if_pos rfl, show (i : Int) + 1 = ((i + 1 : Nat) : Int) by omega, itoa_nn]
    rw [e]
    obtain ⟨c, t, e2, hc1, hc2⟩ := figs_hd (i + 1)
    have h1 : bS ((figs (i + 1) ++ [32]) ++ b) [45] = false := by
      unfold bS
      rw [e2]
      simp only [List.cons_append, List.length_cons, List.length_nil, Nat.zero_add, List.take_succ_cons, List.take_zero]
      rw [beq_eq_false_iff_ne]
      intro e4
      injection e4 with e3
      rw [e3] at hc1
      exact absurd hc1 (by decide)
    rw [h1]
    simp only [Bool.false_eq_true, if_false, List.drop_zero]
    rw [if_pos (bS_app _ b)]
    simp
theorem rdVals_print (m : List Bool) (b : List UInt8) : ∀ (r i : Nat), i + r = m.length → rdVals r (i + 1) (litsS ((List.range' i r).map (litAt m)) ++ b) (m.take i) = (m, (litsS ((List.range' i r).map (litAt m))).length, 0)
  | 0, i, h => by
    have : m.take i = m := List.take_of_length_le (by omega)
    simp [rdVals, litsS, this]
  | r + 1, i, h => by
    have ih := rdVals_print m b r (i + 1) (by omega)
    have e : litsS ((List.range' i (r + 1)).map (litAt m)) ++ b = litS (litAt m i) ++ (litsS ((List.range' (i + 1) r).map (litAt m)) ++ b) := by
      rw [List.range'_succ]; simp [litsS]
    have hl : (litsS ((List.range' i (r + 1)).map (litAt m))).length = (litS (litAt m i)).length + (litsS ((List.range' (i + 1) r).map (litAt m))).length := by
      rw [List.range'_succ]; simp [litsS]
    have ht : m.take i ++ [m.getD i false] = m.take (i + 1) := by
      rw [List.take_succ_eq_append_getElem (by omega)]; simp [List.getD, show i < m.length by omega]
    rw [e, rdVals, rdVal_print m i, if_neg (by simp)]
    simp only
    rw [List.drop_left, ht, ih, hl]
theorem parseM_print (m : List Bool) : parseM (modS m) m.length = (m, (modS m).length, 0) := by
  have e : modS m = [118, 32] ++ (litsS (modL m) ++ [48, 10]) := by simp [modS, tellS]
  have hm : modL m = (List.range' 0 m.length).map (litAt m) := by unfold modL; rw [List.range_eq_range']
  have hr := rdVals_print m [48, 10] m.length 0 (by omega)
  rw [← hm, Nat.zero_add, List.take_zero] at hr
  have hd : (modS m).drop 2 = litsS (modL m) ++ [48, 10] := by rw [e]; exact drop_app [118, 32] _ 2 rfl
  have hl : (modS m).length = 2 + (litsS (modL m)).length + 2 := by rw [e]; simp; omega
  have hd2 : (modS m).drop (2 + (litsS (modL m)).length) = [48, 10] := by rw [← List.drop_drop, hd, List.drop_left]
  unfold parseM
  rw [if_neg (by rw [e, bS_app]; simp), hd, hr]
  simp only
  rw [if_neg (by simp), hd2, if_neg (by decide), if_neg (by omega), hl]
end Go.Proofs.YtahedhpffjgimaaDoor
/- The statements' common head over the translated program: it tells true. -/
namespace Go.Proofs.YtahedhpffjgimaaDoor
open Go.RowKit
theorem litRd (w : World) (l : List UInt8) (cs : Array Value) (m : Nat × Nat) (hcs : cs = (l.map fun b => Value.int .u8 (b.toNat : Int)).toArray) : Rd (w.alloc (.cells cs 5 m)) (w.heap.size + 1) (some ⟨w.heap.size, 0, none⟩) l := by
  subst hcs
  intro i hi
  refine ⟨_, rfl, by simp, ?_⟩
  rw [add_loc]
  have hb : (w.alloc (.cells (l.map fun b => Value.int .u8 (b.toNat : Int)).toArray 5 m)).heap[w.heap.size]? = some (.cells (l.map fun b => Value.int .u8 (b.toNat : Int)).toArray 5 m) := by
    show (w.heap.push _)[w.heap.size]? = _
    simp
  simp only [World.cell?, hb]
  simp [hi]
theorem ex_print : printS 2 [[1, -2]] = [112, 32, 99, 110, 102, 32, 50, 32, 49, 10, 49, 32, 45, 50, 32, 48, 10] := by
  have e2 : Lib.itoa 2 = [50] := by rw [show (2 : Int) = ((2 : Nat) : Int) from rfl, itoa_nn, figs_last 2 (by omega)]; rfl
  have e1 : Lib.itoa 1 = [49] := by rw [show (1 : Int) = ((1 : Nat) : Int) from rfl, itoa_nn, figs_last 1 (by omega)]; rfl
  have e3 : Lib.itoa (-2) = [45, 50] := by rw [show (-2 : Int) = -((2 : Nat) : Int) from rfl, itoa_ng _ (by omega), figs_last 2 (by omega)]; rfl
  simp [printS, headS, bodyS, tellS, litsS, litS, e2, e1, e3]
theorem ex_mod : modS [false, false] = [118, 32, 45, 49, 32, 45, 50, 32, 48, 10] := by
  have e1 : Lib.itoa (-1) = [45, 49] := by rw [show (-1 : Int) = -((1 : Nat) : Int) from rfl, itoa_ng _ (by omega), figs_last 1 (by omega)]; rfl
  have e3 : Lib.itoa (-2) = [45, 50] := by rw [show (-2 : Int) = -((2 : Nat) : Int) from rfl, itoa_ng _ (by omega), figs_last 2 (by omega)]; rfl
  have em : modL [false, false] = [-1, -2] := by decide
  simp [modS, tellS, litsS, litS, em, e1, e3]
theorem ex_right : rightF 2 [[1, -2]] = true := by decide
theorem ex_parse : parseS [112, 32, 99, 110, 102, 32, 50, 32, 49, 10, 49, 32, 45, 50, 32, 48, 10] = ((2, [[1, -2]]), 17, 0) := by
  have := parse_print ex_right (by rw [ex_print]; decide)
  rw [ex_print] at this
  exact this
theorem ex_parseM : parseM [118, 32, 45, 49, 32, 45, 50, 32, 48, 10] 2 = ([false, false], 10, 0) := by
  have := parseM_print [false, false]
  rw [ex_mod] at this
  exact this
theorem ex_holds : hoT [[1, -2]] [false, false] = true := by decide
theorem ex_clause : clT [1, -2] [false, false] = true := by decide
theorem ex_same : sameF 2 2 [[1, -2]] [[1, -2]] = true := by decide
theorem bytes_read (w : World) (s : ByteArray) : Rd (Lib.bytesWorld w 5 s) (w.heap.size + 1) (some ⟨w.heap.size, 0, none⟩) s.data.toList ∧ Below w.heap.size w (Lib.bytesWorld w 5 s) ∧ (Lib.bytesWorld w 5 s).heap.size = w.heap.size + 1 := by
  refine ⟨?_, ?_, Lib.bytesWorld_size w 5 s⟩
  · intro i hi
    refine ⟨_, rfl, by simp, ?_⟩
    rw [add_loc]
    exact Lib.bytesWorld_cell w 5 s i hi
  · exact ⟨rfl, rfl, rfl, by rw [Lib.bytesWorld_size]; omega, fun k hk => Lib.bytesWorld_at_old w 5 s k hk⟩
/-- The example, as it is laid. -/
def exW (w : World) : World := ((w.alloc (.cells #[.int .i64 1, .int .i64 (-2)] 3)).alloc (.cells #[.slice (some ⟨w.heap.size, 0, none⟩) 2 2] 26)).alloc (.cells #[.int .i64 2, .slice (some ⟨w.heap.size + 1, 0, none⟩) 1 1] 24)
theorem ex_world (w : World) : RC (exW w) (exW w).heap.size (some ⟨w.heap.size + 1, 0, none⟩) [[1, -2]] ∧ (exW w).cell? ⟨w.heap.size + 1 + 1, 0, none⟩ = some (.int .i64 2) ∧ (exW w).cell? ⟨w.heap.size + 1 + 1, 1, none⟩ = some (.slice (some ⟨w.heap.size + 1, 0, none⟩) 1 1) ∧ (exW w).cell? ⟨w.heap.size + 1, 0, none⟩ = some (.slice (some ⟨w.heap.size, 0, none⟩) 2 2) ∧ RI (exW w) (exW w).heap.size (some ⟨w.heap.size, 0, none⟩) [1, -2] ∧ Below w.heap.size w (exW w) ∧ (exW w).heap.size = w.heap.size + 1 + 1 + 1 := by
  have hr : RI (exW w) (exW w).heap.size (some ⟨w.heap.size, 0, none⟩) [1, -2] := by
    intro i hi
    have : i = 0 ∨ i = 1 := by simp at hi; omega
    rcases this with rfl | rfl
    · exact ⟨_, rfl, (by simp [exW] <;> omega), by rw [add_loc]; unfold exW; go_simp⟩
    · exact ⟨_, rfl, (by simp [exW] <;> omega), by rw [add_loc]; unfold exW; go_simp⟩
  refine ⟨?_, ?_, ?_, ?_, hr, bal (bal (bal (Below.refl _ _) _) _) _, by simp [exW]⟩
  · intro i hi
    obtain rfl : i = 0 := by simp at hi; omega
    exact ⟨_, some ⟨w.heap.size, 0, none⟩, 2, rfl, (by simp [exW] <;> omega), by rw [add_loc]; unfold exW; go_simp, hr, by decide⟩
  · unfold exW; go_simp
  · unfold exW; go_simp
  · unfold exW; go_simp
set_option maxRecDepth 100000 in
set_option maxHeartbeats 4000000 in
theorem shown_any (w : World) (hP : Pow w.heap.size w) : Calls Tryd.prog 11 #[] w (RetV w (.bool true)) := by
  obtain ⟨x1, x2, x3, x4, x5, x6, x7⟩ := ex_world w
  have kc := fun (wx : World) => Lib.run_convert_string_bytes (P := Tryd.prog) wx 9 35 5 ⟨#[112, 32, 99, 110, 102, 32, 50, 32, 49, 10, 49, 32, 45, 50, 32, 48, 10]⟩ Tryd.underlying9 Tryd.underlying35 Tryd.underlying5
  have kb := fun (w : World) (C : Array Value) (n c : Nat) => Lib.run_convert_bytes_const (P := Tryd.prog) w 35 5 C n c Tryd.underlying35 Tryd.underlying5
  have C1 := Print_yes (some ⟨w.heap.size + 1, 0, none⟩) 1 2 [[1, -2]] (exW w) x1 (hP.nx x6) ex_right
  rw [ex_print] at C1
  have H1 := Lib.hid x1
  have H5 := Lib.hid x5
  have HP := Lib.hid hP
  have HB := Lib.hid x6
  generalize hwe : exW w = we at *
  have HW := Lib.hid hwe
  have hs2 : w.heap.size + 1 + 1 < we.heap.size := by omega
  have hs1 : w.heap.size + 1 < we.heap.size := by omega
  have HX2 := Lib.hid x2
  have HX3 := Lib.hid x3
  have HX4 := Lib.hid x4
  clear hwe x1 x5 hP x6 x2 x3 x4 x7
  unfold exW at HW
  go_enter Tryd.func11, Tryd.ntmps11
  go_wp2_with fail
  rw [HW.out]
  refine C1.mono ?_; rintro e w1 ⟨rfl, hb1⟩
  have hB1 := bnx HB.out hb1
  have E1 := Lib.hid hb1
  clear C1 hb1
  go_wp2_with fail
  obtain ⟨b1, b2, b3⟩ := bytes_read w1 ⟨#[112, 32, 99, 110, 102, 32, 50, 32, 49, 10, 49, 32, 45, 50, 32, 48, 10]⟩
  have C2 := Parse_any (some ⟨w1.heap.size, 0, none⟩) (grownCap w1 17 0 5) [112, 32, 99, 110, 102, 32, 50, 32, 49, 10, 49, 32, 45, 50, 32, 48, 10] (Lib.bytesWorld w1 5 ⟨#[112, 32, 99, 110, 102, 32, 50, 32, 49, 10, 49, 32, 45, 50, 32, 48, 10]⟩) (by rw [b3]; exact b1) (grownCap_ge _ _ _ _) (grownCap_le_maxLen _ _ _ _ (by decide))
  rw [ex_parse] at C2
  have hB2 := bnx hB1 b2
  have hE2 := bnx E1.out b2
  clear hB1 E1 b1 b2 b3 kc
  refine C2.mono ?_; rintro e w2 ⟨A2, c2, rfl, r2, _, hb2⟩
  have hB3 := bnx hB2 hb2
  have hE3 := bnx hE2 hb2
  have hA := bal (Below.refl w2.heap.size w2) (.cells #[.int .i64 2, .slice A2 1 c2] 24)
  have hB4 := bnx hB3 hA
  have hE4 := bnx hE3 hA
  have r4 := r2.nx hA
  obtain ⟨g0, g1⟩ := box_cells w2 (.int .i64 2) (.slice A2 1 c2) 24
  have gs : w2.heap.size < (w2.alloc (.cells #[.int .i64 2, .slice A2 1 c2] 24)).heap.size := by simp
  clear C2 hb2 hB2 hE2 hB3 hE3 r2 hA
  have kb2 := kb (w2.alloc (.cells #[.int .i64 2, .slice A2 1 c2] 24)) #[.int .u8 118, .int .u8 32, .int .u8 45, .int .u8 49, .int .u8 32, .int .u8 45, .int .u8 50, .int .u8 32, .int .u8 48, .int .u8 10] 10 10
  have ez : (w2.alloc (.cells #[.int .i64 2, .slice A2 1 c2] 24)).heap.size = w2.heap.size + 1 := by simp
  have hr5 := litRd (w2.alloc (.cells #[.int .i64 2, .slice A2 1 c2] 24)) [118, 32, 45, 49, 32, 45, 50, 32, 48, 10] #[.int .u8 118, .int .u8 32, .int .u8 45, .int .u8 49, .int .u8 32, .int .u8 45, .int .u8 50, .int .u8 32, .int .u8 48, .int .u8 10] (10, 11) rfl
  have hA5 := bal (Below.refl (w2.alloc (.cells #[.int .i64 2, .slice A2 1 c2] 24)).heap.size (w2.alloc (.cells #[.int .i64 2, .slice A2 1 c2] 24))) (.cells #[.int .u8 118, .int .u8 32, .int .u8 45, .int .u8 49, .int .u8 32, .int .u8 45, .int .u8 50, .int .u8 32, .int .u8 48, .int .u8 10] 5 (10, 11))
  rw [ez] at kb2 hr5
  have hB5 := bnx hB4 hA5
  have hE5 := bnx hE4 hA5
  have r5 := r4.nx hA5
  have g0' := (hA5.cell (p := ⟨w2.heap.size, 0, none⟩) gs).trans g0
  have g1' := (hA5.cell (p := ⟨w2.heap.size, 1, none⟩) gs).trans g1
  have ez5 : ((w2.alloc (.cells #[.int .i64 2, .slice A2 1 c2] 24)).alloc (.cells #[.int .u8 118, .int .u8 32, .int .u8 45, .int .u8 49, .int .u8 32, .int .u8 45, .int .u8 50, .int .u8 32, .int .u8 48, .int .u8 10] 5 (10, 11))).heap.size = w2.heap.size + 1 + 1 := by simp
  have C3 := ParseModel_any (some ⟨w2.heap.size + 1, 0, none⟩) 10 2 [118, 32, 45, 49, 32, 45, 50, 32, 48, 10] _ (by rw [ez5]; exact hr5) (by decide) (by decide) (by omega) (HP.out.nx hB5)
  rw [ex_parseM] at C3
  have gs5 : w2.heap.size < ((w2.alloc (.cells #[.int .i64 2, .slice A2 1 c2] 24)).alloc (.cells #[.int .u8 118, .int .u8 32, .int .u8 45, .int .u8 49, .int .u8 32, .int .u8 45, .int .u8 50, .int .u8 32, .int .u8 48, .int .u8 10] 5 (10, 11))).heap.size := by rw [ez5]; omega
  clear kb hr5 hA5 hB4 hE4 r4 g0 g1 gs ez ez5
  go_wp2_with fail
  generalize (w2.alloc (.cells #[.int .i64 2, .slice A2 1 c2] 24)).alloc (.cells #[.int .u8 118, .int .u8 32, .int .u8 45, .int .u8 49, .int .u8 32, .int .u8 45, .int .u8 50, .int .u8 32, .int .u8 48, .int .u8 10] 5 (10, 11)) = w5 at *
  refine C3.mono ?_; rintro e w6 ⟨A6, c6, rfl, r6, _, hb6⟩
  have hB6 := bnx hB5 hb6
  have hE6 := bnx hE5 hb6
  have rC6 := r5.nx hb6
  have g0 := (hb6.cell (p := ⟨w2.heap.size, 0, none⟩) gs5).trans g0'
  have g1 := (hb6.cell (p := ⟨w2.heap.size, 1, none⟩) gs5).trans g1'
  have gs6 : w2.heap.size < w6.heap.size := by have := hb6.size; omega
  clear C3 hB5 hE5 r5 g0' g1' gs5 hb6 kb2
  have p2 := (hE6.cell (p := ⟨w.heap.size + 1 + 1, 0, none⟩) hs2).trans HX2.out
  have p3 := (hE6.cell (p := ⟨w.heap.size + 1 + 1, 1, none⟩) hs2).trans HX3.out
  have ps2 : w.heap.size + 1 + 1 < w6.heap.size := by have := hE6.size; omega
  have C4 := Same_any (some ⟨w.heap.size + 1, 0, none⟩) A2 1 c2 2 2 [[1, -2]] [[1, -2]] w6 (H1.out.nx hE6) rC6 (by decide) (by decide)
  rw [ex_same] at C4
  go_wp2_with fail
  refine C4.mono ?_; rintro e w7 ⟨rfl, hb7⟩
  have hB7 := bnx hB6 hb7
  have hE7 := bnx hE6 hb7
  have r7 := r6.nx hb7
  clear C4 hB6 hE6 r6 rC6 hb7 p2 p3 ps2 g0 g1 gs6
  have p2 := (hE7.cell (p := ⟨w.heap.size + 1 + 1, 0, none⟩) hs2).trans HX2.out
  have p3 := (hE7.cell (p := ⟨w.heap.size + 1 + 1, 1, none⟩) hs2).trans HX3.out
  have ps2 : w.heap.size + 1 + 1 < w7.heap.size := by have := hE7.size; omega
  have C5 := Holds_any (some ⟨w.heap.size + 1, 0, none⟩) A6 1 c6 2 [[1, -2]] [false, false] w7 (H1.out.nx hE7) r7 (by decide) (by decide)
  rw [ex_holds] at C5
  go_wp2_with fail
  refine C5.mono ?_; rintro e w8 ⟨rfl, hb8⟩
  have hB8 := bnx hB7 hb8
  have hE8 := bnx hE7 hb8
  have r8 := r7.nx hb8
  clear C5 hB7 hE7 r7 hb8 p2 p3 ps2
  have p2 := (hE8.cell (p := ⟨w.heap.size + 1 + 1, 0, none⟩) hs2).trans HX2.out
  have p3 := (hE8.cell (p := ⟨w.heap.size + 1 + 1, 1, none⟩) hs2).trans HX3.out
  have p4 := (hE8.cell (p := ⟨w.heap.size + 1, 0, none⟩) hs1).trans HX4.out
  have ps2 : w.heap.size + 1 + 1 < w8.heap.size := by have := hE8.size; omega
  have ps1 : w.heap.size + 1 < w8.heap.size := by omega
  have C6 := Clause_any (some ⟨w.heap.size, 0, none⟩) A6 2 c6 [1, -2] [false, false] w8 (H5.out.nx hE8) r8 (by decide) (by decide)
  rw [ex_clause] at C6
  go_wp2_with fail
  refine C6.mono ?_; rintro e w9 ⟨rfl, hb9⟩
  have hB9 := bnx hB8 hb9
  have hE9 := bnx hE8 hb9
  have r9 := r8.nx hb9
  clear C6 hB8 hE8 r8 hb9 p2 p3 p4 ps2 ps1
  have C7 := PrintModel_any A6 c6 [false, false] w9 r9 (by decide) (HP.out.nx hB9)
  rw [ex_mod] at C7
  go_wp2_with fail
  refine C7.mono ?_; rintro e w10 ⟨rfl, hb10⟩
  have hB10 := bnx hB9 hb10
  have hE10 := bnx hE9 hb10
  clear C7 hB9 hE9 r9 hb10
  have p2 := (hE10.cell (p := ⟨w.heap.size + 1 + 1, 0, none⟩) hs2).trans HX2.out
  have p3 := (hE10.cell (p := ⟨w.heap.size + 1 + 1, 1, none⟩) hs2).trans HX3.out
  have ps2 : w.heap.size + 1 + 1 < w10.heap.size := by have := hE10.size; omega
  have C8 := Right_any (some ⟨w.heap.size + 1, 0, none⟩) 1 2 [[1, -2]] w10 (H1.out.nx hE10) (by decide)
  rw [ex_right] at C8
  go_wp2_with fail
  refine C8.mono ?_; rintro e w11 ⟨rfl, hb11⟩
  have hB11 := bnx hB10 hb11
  clear C8 hB10 hE10 hb11 p2 p3 ps2
  go_wp2
  go_ret
  exact ⟨rfl, hB11⟩
end Go.Proofs.YtahedhpffjgimaaDoor
/- The reference's Small and Right over the translated program. -/
namespace Go.Proofs.YtahedhpffjgimaaDoor
open Go.RowKit
/-- Are there few clauses, of few literals? -/
def smallC (m : Int) (c : List Int) : Bool := decide ((c.length : Int) ≤ m)
def smallF (m : Int) (L : List (List Int)) : Bool := decide ((L.length : Int) ≤ m) && L.all (smallC m)
set_option maxHeartbeats 800000 in
theorem Small_any (A : Option Addr) (c : Nat) (N m : Int) (L : List (List Int)) (w : World) (h : RC w w.heap.size A L) (hn : L.length ≤ maxLen) :
    Calls Tryd.prog 12 #[.agg #[.int .i64 N, .slice A L.length c], .int .i64 m] w (RetV w (.bool (smallF m L))) := by
  unfold maxLen at hn
  have hb := bal (Below.refl w.heap.size w) (.cells #[.int .i64 N, .slice A L.length c] 24)
  have HB := Lib.hid hb
  have hr := Lib.hid (h.nx hb)
  unfold smallF
  clear h hb
  by_cases hm : (L.length : Int) ≤ m
  · have d1 : decide (m < (L.length : Int)) = false := decide_eq_false (by omega)
    rw [decide_eq_true hm, Bool.true_and]
    obtain ⟨T, hT⟩ : ∃ T, L.all (smallC m) = T := ⟨_, rfl⟩
    rw [hT]
    have HT : Hid (L.all (smallC m) = T) := hT
    clear hT hm
    go_enter Tryd.func12, Tryd.ntmps12
    go_wp2
    go_loop [5] (fun i => ∃ j : Nat, j ≤ L.length ∧ i = .int .i64 j ∧ Hid ((L.drop j).all (smallC m) = T)) (fun i => L.length - (intOf i).toNat)
    case atStart => exact ⟨0, Nat.zero_le _, rfl, HT⟩
    case round =>
      obtain ⟨j, hj, rfl, HJ⟩ := hrel
      by_cases hlt : j < L.length
      · obtain ⟨a1, A1, c1, rfl, _, hc1, r1, m1⟩ := hr.out j hlt
        have e := HJ.out
        rw [dropC L j hlt, List.all_cons] at e
        unfold maxLen at m1
        generalize L.getD j [] = u at *
        clear HJ HT r1 hr
        by_cases hu : (u.length : Int) ≤ m
        · have d4 : decide (m < (u.length : Int)) = false := decide_eq_false (by omega)
          have HE : Hid ((L.drop (j + 1)).all (smallC m) = T) := by show _ = _; rw [← e]; simp [smallC, hu]
          clear e
          go_wp2
          go_round
          case rel => exact ⟨j + 1, by omega, by go_num, HE⟩
          case measure => simp [intOf]; omega
        · have d4 : decide (m < (u.length : Int)) = true := decide_eq_true (by omega)
          have HE : Hid (false = T) := by show _ = _; rw [← e]; simp [smallC]; intro h; omega
          clear e
          go_wp2
          go_ret
          exact ⟨by rw [← HE.out]; rfl, HB.out⟩
      · have e := HJ.out
        rw [List.drop_of_length_le (by omega)] at e
        have HE : Hid (true = T) := by show _ = _; simpa using e
        clear e HJ HT hr
        go_wp2
        go_ret
        exact ⟨by rw [← HE.out]; rfl, HB.out⟩
  · have d1 : decide (m < (L.length : Int)) = true := decide_eq_true (by omega)
    rw [decide_eq_false hm, Bool.false_and]
    clear hr hm
    go_enter Tryd.func12, Tryd.ntmps12
    go_wp2
    go_ret
    exact ⟨rfl, HB.out⟩
set_option maxHeartbeats 1600000 in
theorem refRight_in (A : Option Addr) (c : Nat) (N : Int) (L : List (List Int)) (w : World) (h : RC w w.heap.size A L) (h0 : 0 ≤ N) (h1 : N ≤ 100000) (h2 : L.length ≤ 20000) :
    Calls Tryd.prog 30 #[.agg #[.int .i64 N, .slice A L.length c]] w (RetV w (.bool (L.all (rightC N)))) := by
  have hb := bal (Below.refl w.heap.size w) (.cells #[.int .i64 N, .slice A L.length c] 24)
  have HB := Lib.hid hb
  have hr := Lib.hid (h.nx hb)
  obtain ⟨T, hT⟩ : ∃ T, L.all (rightC N) = T := ⟨_, rfl⟩
  rw [hT]
  have HT : Hid (L.all (rightC N) = T) := hT
  have d1 : decide (N < 0) = false := decide_eq_false (by omega)
  have d2 : decide (100000 < N) = false := decide_eq_false (by omega)
  have d3 : decide ((20000 : Int) < L.length) = false := decide_eq_false (by omega)
  clear hT h hb
  go_enter Tryd.func30, Tryd.ntmps30
  go_wp2
  go_loop [3] (fun i => ∃ j : Nat, j ≤ L.length ∧ i = .int .i64 j ∧ Hid ((L.drop j).all (rightC N) = T)) (fun i => L.length - (intOf i).toNat)
  case atStart => exact ⟨0, Nat.zero_le _, rfl, HT⟩
  case round =>
    obtain ⟨j, hj, rfl, HJ⟩ := hrel
    by_cases hlt : j < L.length
    · obtain ⟨a1, A1, c1, rfl, _, hc1, r1, m1⟩ := hr.out j hlt
      have e := HJ.out
      rw [dropC L j hlt, List.all_cons] at e
      unfold maxLen at m1
      generalize L.getD j [] = u at *
      clear HJ HT hr
      by_cases hu : u.length ≤ 1000
      · have d4 : decide ((1000 : Int) < u.length) = false := decide_eq_false (by omega)
        have HU : Hid ((!(u.drop 0).any (badL N) && (L.drop (j + 1)).all (rightC N)) = T) := by show _ = _; rw [← e]; simp [rightC, hu]
        have HR := Lib.hid r1
        clear e r1
        go_wp2
        go_loop [4] (fun i => ∃ k : Nat, k ≤ u.length ∧ i = .int .i64 k ∧ Hid ((!(u.drop k).any (badL N) && (L.drop (j + 1)).all (rightC N)) = T)) (fun i => u.length - (intOf i).toNat)
        case atStart => exact ⟨0, Nat.zero_le _, rfl, HU⟩
        case round =>
          obtain ⟨k, hk, rfl, HK⟩ := hrel
          clear HU
          by_cases hkl : k < u.length
          · obtain ⟨a2, rfl, _, hc2⟩ := HR.out k hkl
            have e := HK.out
            rw [dropI u k hkl, List.any_cons] at e
            generalize u.getD k 0 = x at *
            clear HK HR
            have cs : ((x == 0) = true) ∨ ((x == 0) = false ∧ decide (N < x) = true) ∨ ((x == 0) = false ∧ decide (N < x) = false ∧ decide (x < -N) = true) ∨ ((x == 0) = false ∧ decide (N < x) = false ∧ decide (x < -N) = false) := by
              cases (x == 0) <;> cases decide (x < -N) <;> cases decide (N < x) <;> simp
            rcases cs with c1 | ⟨c1, c2⟩ | ⟨c1, c2, c3⟩ | ⟨c1, c2, c3⟩
            · have HE : Hid (false = T) := by show _ = _; rw [← e]; simp [badL, c1]
              clear e
              go_wp2
              go_ret
              exact ⟨by rw [← HE.out]; rfl, HB.out⟩
            · have HE : Hid (false = T) := by show _ = _; rw [← e]; simp only [badL, c1, c2, Bool.or_true, Bool.true_or, Bool.not_true, Bool.false_and]
              clear e
              go_wp2
              go_ret
              exact ⟨by rw [← HE.out]; rfl, HB.out⟩
            · have HE : Hid (false = T) := by show _ = _; rw [← e]; simp only [badL, c1, c2, c3, Bool.or_true, Bool.true_or, Bool.not_true, Bool.false_and]
              clear e
              go_wp2
              go_ret
              exact ⟨by rw [← HE.out]; rfl, HB.out⟩
            · have HE : Hid ((!(u.drop (k + 1)).any (badL N) && (L.drop (j + 1)).all (rightC N)) = T) := by show _ = _; rw [← e]; simp only [badL, c1, c2, c3, Bool.or_false, Bool.false_or]
              clear e
              go_wp2
              go_round
              case rel => exact ⟨k + 1, by omega, by go_num, HE⟩
              case measure => simp [intOf]; omega
          · have e := HK.out
            rw [List.drop_of_length_le (by omega)] at e
            have HE : Hid ((L.drop (j + 1)).all (rightC N) = T) := by show _ = _; simpa using e
            clear e HK HR
            go_wp2
            go_round
            case rel => exact ⟨j + 1, by omega, by go_num, HE⟩
            case measure => simp [intOf]; omega
      · have d4 : decide ((1000 : Int) < u.length) = true := decide_eq_true (by omega)
        have HE : Hid (false = T) := by show _ = _; rw [← e]; simp [rightC, hu]
        clear e
        go_wp2
        go_ret
        exact ⟨by rw [← HE.out]; rfl, HB.out⟩
    · have e := HJ.out
      rw [List.drop_of_length_le (by omega)] at e
      have HE : Hid (true = T) := by show _ = _; simpa using e
      clear e HJ HT hr
      go_wp2
      go_ret
      exact ⟨by rw [← HE.out]; rfl, HB.out⟩
set_option maxHeartbeats 400000 in
theorem refRight_out (A : Option Addr) (c : Nat) (N : Int) (n : Nat) (w : World) (hn : n ≤ maxLen) (h : N < 0 ∨ 100000 < N ∨ 20000 < n) :
    Calls Tryd.prog 30 #[.agg #[.int .i64 N, .slice A n c]] w (RetV w (.bool false)) := by
  unfold maxLen at hn
  have cs : (decide (N < 0) = true) ∨ (decide (N < 0) = false ∧ decide (100000 < N) = true) ∨ (decide (N < 0) = false ∧ decide (100000 < N) = false ∧ decide ((20000 : Int) < n) = true) := by
    simp only [decide_eq_true_eq, decide_eq_false_iff_not]; omega
  have HB := Lib.hid (bal (Below.refl w.heap.size w) (.cells #[.int .i64 N, .slice A n c] 24))
  clear h
  rcases cs with c1 | ⟨c1, c2⟩ | ⟨c1, c2, c3⟩
  all_goals
    go_enter Tryd.func30, Tryd.ntmps30
    go_wp2
    go_ret
    exact ⟨rfl, HB.out⟩
theorem refRight_any (A : Option Addr) (c : Nat) (N : Int) (L : List (List Int)) (w : World) (h : RC w w.heap.size A L) (hn : L.length ≤ maxLen) :
    Calls Tryd.prog 30 #[.agg #[.int .i64 N, .slice A L.length c]] w (RetV w (.bool (rightF N L))) := by
  by_cases hr : 0 ≤ N ∧ N ≤ 100000 ∧ L.length ≤ 20000
  · have e : rightF N L = L.all (rightC N) := by simp [rightF, hr]
    rw [e]
    exact refRight_in A c N L w h hr.1 hr.2.1 hr.2.2
  · have e : rightF N L = false := by
      unfold rightF
      have hh : (decide (0 ≤ N) && decide (N ≤ 100000) && decide (L.length ≤ 20000)) = false := by
        rw [Bool.eq_false_iff]; intro hh; simp at hh; omega
      rw [hh, Bool.false_and]
    rw [e]
    exact refRight_out A c N L.length w hn (by omega)
end Go.Proofs.YtahedhpffjgimaaDoor
