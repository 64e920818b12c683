/-
  The statement LexNumbers over the translated program: the call returns true, for every number, bound and two slices of bytes, under the two tables of unicode/utf8 as its text lays them; nothing that was there is changed.
-/
import Derived.Test.YtfimacfpgcdekaaDoorF1
set_option linter.unusedVariables false
namespace Go.Proofs.YtfimacfpgcdekaaDoor
open Go.RowKit
theorem figures_form (n : Nat) (w : World) (hn : n ≤ 4294967295) :
    Calls Tryd.prog 21 #[.int .i64 n] w fun e w' => ∃ A c, e = .returned (.slice A (figs n).length c) ∧ Rd w' w'.heap.size A (figs n) ∧ (figs n).length ≤ c ∧ c ≤ maxLen ∧ (A = none → c = 0) ∧ Below w.heap.size w w' :=
  (figures_any n w hn).mono fun e w' ⟨v, he, ho, hb⟩ => by
    obtain ⟨A, c, hv, hr, h1, h2, h3⟩ := ho.form
    exact ⟨A, c, by rw [he, hv], hr, h1, h2, h3, hb⟩
theorem NumberI (A : Option Addr) (c k n : Nat) (kk most : Int) (l : List UInt8) (B : Nat) (w : World) (h : Rd w B A l) (hk : k ≤ l.length) (hn : l.length ≤ c) (hc : c ≤ maxLen) (hkk : kk = (k : Int)) (hnn : n = l.length) (x : Int) (m : Nat) (e0 : Int) (hr : numberS (l.drop k) most = (x, m, e0)) (E : Int) (hE : E = ((k + m : Nat) : Int)) :
    Calls Tryd.prog 22 #[.slice A n c, .int .i64 kk, .int .i64 most] w fun e w' => e = .returned (.tuple #[.int .i64 x, .int .i64 E, .int .i64 e0]) ∧ w = w' := by
  subst hkk; subst hnn; subst hE
  have := Number_any A c k most l B w h hk hn hc
  rw [hr] at this
  exact this
/-- A row of the call's own that holds something: its block, and one store into it. -/
theorem Own.store {w : World} {base : Nat} {v : Value} {l : List UInt8} (h : Own w base v l) (h0 : 0 < l.length) :
    ∃ g cap, v = .slice (some ⟨g, 0, none⟩) l.length cap ∧ base ≤ g ∧ l.length ≤ cap ∧ cap ≤ maxLen ∧ Rd w w.heap.size (some ⟨g, 0, none⟩) l ∧
      ∀ j, j < l.length → (∃ u, w.cell? ⟨g, j, none⟩ = some u) ∧ w.frozen? ⟨g, j, none⟩ = false ∧ ∀ b : UInt8, Own (w.setCell ⟨g, j, none⟩ (bv b)) base v (l.set j b) := by
  obtain ⟨A, c, hv, hr, h1, h2, h3⟩ := h.form
  rcases h.2 with ⟨_, hz⟩ | ⟨g, cap, cur, rfl, hg, _, hn, hm, _⟩
  · omega
  · simp only [Value.slice.injEq] at hv
    obtain ⟨rfl, _, rfl⟩ := hv
    refine ⟨g, cap, rfl, hg, hn, hm, hr, fun j hj => ⟨?_, World.ownsRow.frozenAt h j, fun b => ?_⟩⟩
    · have := World.ownsRow.cellAt h j (by omega)
      exact ⟨_, this.trans (List.getElem?_eq_getElem (by simpa using hj))⟩
    · have := (World.ownsRow.stored h j (bv b)).1
      unfold Own
      rw [List.length_set, List.map_set]
      exact this
def NumsIn (n most : Int) (A : Option Addr) (na ca : Nat) (A' : Option Addr) (nb cb : Nat) : Value := .agg #[.int .u32 n, .int .i64 most, .slice A na ca, .slice A' nb cb]
set_option maxRecDepth 100000 in
set_option maxHeartbeats 1600000 in
theorem LexNumbers_long (n most : Int) (A : Option Addr) (na ca : Nat) (A' : Option Addr) (nb cb : Nat) (w : World) (hT : Tabs w) (hl : 300 < na ∨ 300 < nb) :
    Calls Tryd.prog 6 #[.agg #[.int .u32 n, .int .i64 most, .slice A na ca, .slice A' nb cb]] w fun e w' => e = .returned (.bool true) ∧ Below w.heap.size w w' := by
  have b0 : Below w.heap.size w (w.alloc (.cells #[.int .u32 n, .int .i64 most, .slice A na ca, .slice A' nb cb] 47)) := (Below.refl _ _).alloc (Nat.le_refl _) _
  have cS := shown_any _ (hT.below b0)
  have hcase : (decide ((300 : Int) < na) = true) ∨ (decide ((300 : Int) < na) = false ∧ decide ((300 : Int) < nb) = true) := by
    simp only [decide_eq_true_eq, decide_eq_false_iff_not]; omega
  clear hl hT
  rcases hcase with g0 | ⟨g1, g2⟩
  all_goals
    go_enter Tryd.func6, Tryd.ntmps6
    go_wp2_with fail
    refine cS.mono ?_; rintro e w1 ⟨rfl, hb⟩
    have b1 := b0.trans (hb.mono b0.size)
    clear hb b0 cS
    go_wp2
    go_ret
    exact ⟨rfl, b1⟩
set_option maxRecDepth 100000 in
set_option maxHeartbeats 1600000 in
theorem LexNumbers_fig (n most : Int) (A : Option Addr) (na ca : Nat) (A' : Option Addr) (nb cb : Nat) (v : UInt8) (w : World) (hT : Tabs w) (hl : na ≤ 300) (hl2 : nb ≤ 300) (h0 : 0 < nb)
    (hc : ∃ ad, A' = some ad ∧ ad.block < w.heap.size ∧ w.cell? (ad.add 0) = some (.int .u8 (v.toNat : Int))) (hv : 48 ≤ v.toNat ∧ v.toNat ≤ 57) :
    Calls Tryd.prog 6 #[.agg #[.int .u32 n, .int .i64 most, .slice A na ca, .slice A' nb cb]] w fun e w' => e = .returned (.bool true) ∧ Below w.heap.size w w' := by
  have b0 : Below w.heap.size w (w.alloc (.cells #[.int .u32 n, .int .i64 most, .slice A na ca, .slice A' nb cb] 47)) := (Below.refl _ _).alloc (Nat.le_refl _) _
  have cS := shown_any _ (hT.below b0)
  obtain ⟨ad, rfl, hblk, hcell⟩ := hc
  have d1 : decide ((300 : Int) < na) = false := decide_eq_false (by omega)
  have d2 : decide ((300 : Int) < nb) = false := decide_eq_false (by omega)
  have d3 : (0 : Int) < nb := by omega
  have d4 : (48 : Int) ≤ v.toNat := by omega
  have d5 : (v.toNat : Int) ≤ 57 := by omega
  clear hT hl hl2 hv
  go_enter Tryd.func6, Tryd.ntmps6
  go_wp2_with fail
  refine cS.mono ?_; rintro e w1 ⟨rfl, hb⟩
  have b1 := b0.trans (hb.mono b0.size)
  have hcell1 : w1.cell? ad = some (.int .u8 (v.toNat : Int)) := (b1.cell hblk).trans hcell
  clear hb b0 cS hcell
  go_wp2
  go_ret
  exact ⟨rfl, b1⟩
theorem set_mid (a f b : List UInt8) (hf : f ≠ []) : (a ++ (f ++ b)).set a.length 48 = a ++ (48 :: (f.tail ++ b)) := by
  rw [List.set_append_right _ _ (Nat.le_refl _), Nat.sub_self]
  cases f with
  | nil => exact absurd rfl hf
  | cons c t => rfl
set_option maxRecDepth 100000 in
set_option maxHeartbeats 4000000 in
theorem LexNumbers_in (n : Nat) (most : Int) (A : Option Addr) (ca : Nat) (la : List UInt8) (A' : Option Addr) (cb : Nat) (lb : List UInt8) (w : World) (hT : Tabs w) (hn : n ≤ 4294967295)
    (ra : Rd w w.heap.size A la) (hna : la.length ≤ ca) (hca : ca ≤ maxLen) (hA : A = none → ca = 0) (rb : Rd w w.heap.size A' lb) (hnb : lb.length ≤ cb) (hcb : cb ≤ maxLen) (hA' : A' = none → cb = 0)
    (hla : la.length ≤ 300) (hlb : lb.length ≤ 300) (hnf : NoFig lb) :
    Calls Tryd.prog 6 #[.agg #[.int .u32 n, .int .i64 most, .slice A la.length ca, .slice A' lb.length cb]] w fun e w' => e = .returned (.bool true) ∧ Below w.heap.size w w' := by
  have b0 : Below w.heap.size w (w.alloc (.cells #[.int .u32 n, .int .i64 most, .slice A la.length ca, .slice A' lb.length cb] 47)) := (Below.refl _ _).alloc (Nat.le_refl _) _
  have cS := shown_any _ (hT.below b0)
  have d1 : decide ((300 : Int) < la.length) = false := decide_eq_false (by omega)
  have d2 : decide ((300 : Int) < lb.length) = false := decide_eq_false (by omega)
  have hcase : lb.length = 0 ∨ (0 < lb.length ∧ (lb.getD 0 0).toNat < 48) ∨ (0 < lb.length ∧ 48 ≤ (lb.getD 0 0).toNat ∧ 57 < (lb.getD 0 0).toNat) := by
    cases hb : lb with
    | nil => exact .inl rfl
    | cons c t =>
      have := hnf c t hb
      simp only [List.length_cons, List.getD_cons_zero]
      omega
  have HS := numberS_figs n lb hnf most
  have HN := numberS_nought n lb hnf most
  have HNE := figs_ne n
  have hfl := figs_len 9 n (by omega)
  have HS' : Hid (numberS (figs n ++ lb) most = if most < (n : Int) ∨ 2147483647 < (n : Int) then (0, 0, 3) else ((n : Int), (figs n).length, 0)) := HS
  have HN' : Hid ((n : Int) ≤ most → (numberS (48 :: ((figs n).tail ++ lb)) most).2.2 = if 1 < (figs n).length then 2 else 0) := HN
  have HNE' : Hid (figs n ≠ []) := HNE
  clear HS HN HNE hT hnf
  rcases hcase with hcb0 | ⟨hcb0, hcb1⟩ | ⟨hcb0, hcb1, hcb2⟩
  · obtain rfl : lb = [] := List.eq_nil_of_length_eq_zero hcb0
    simp only [List.length_nil] at *
    go_enter Tryd.func6, Tryd.ntmps6
    go_wp2_with fail
    refine cS.mono ?_; rintro e w1 ⟨rfl, hb⟩
    have b1 := b0.trans (hb.mono b0.size)
    clear hb b0 cS
    have z1 := b1.size
    go_wp2_with fail
    refine (figures_form n _ hn).mono ?_; rintro e w2 ⟨A2, c2, rfl, r2, n2, m2, q2, hb2⟩
    have b2 : Below w.heap.size w w2 := b1.trans (hb2.mono z1)
    have z2 := b2.size
    clear hb2
    generalize figs n = F at *
    have o3 := Own.lit0 w2 w.heap.size z2
    have r3 := ra.below (b2.alloc z2 (.cells #[] 5))
    go_wp2_with (at_builtin; refine wpList_app rfl (.tmp 54) (.tmp 55) rfl w.heap.size _ [] rfl o3 w.heap.size A la.length ca la rfl rfl r3 hA ?m2 ?m3 ?_)
    case m2 => simp only [List.length_nil]; omega
    case m3 => simp; omega
    intro v4 w4 o4 g4
    have b4' : Below w2.heap.size w2 w4 := ((Below.refl _ _).alloc (Nat.le_refl _) _).grown g4 (by simp) (fun k hk => by simp [Value.ownBlock] at hk; omega)
    have b4 : Below w.heap.size w w4 := b2.trans (b4'.mono z2)
    have z4 := b4.size
    have r4 := r2.below b4'
    clear o3 r3 g4
    go_wp2_with (at_builtin; refine wpList_app rfl (.tmp 56) (.tmp 57) rfl w.heap.size _ la rfl o4 w2.heap.size A2 F.length c2 F rfl rfl r4 q2 ?m2 z4 ?_)
    case m2 => omega
    intro v5 w5 o5 g5
    have b5 : Below w.heap.size w w5 := b4.grown g5 z4 (fun k hk => (o4.lt k hk).1)
    have z5 := b5.size
    have r5 := rb.below b5
    clear o4 g5 r4 b4'
    go_wp2_with (at_builtin; refine wpList_app rfl (.tmp 58) (.tmp 59) rfl w.heap.size _ (la ++ F) rfl o5 w.heap.size A' 0 cb [] rfl rfl r5 hA' ?m2 z5 ?_)
    case m2 => rw [List.length_append]; simp only [List.length_nil]; omega
    intro v6 w6 o6 g6
    have b6 : Below w.heap.size w w6 := b5.grown g6 z5 (fun k hk => (o5.lt k hk).1)
    have z6 := b6.size
    have HFL : Hid (0 < F.length) := List.length_pos_iff.2 HNE'.out
    have o7 : Own w6 w.heap.size v6 (la ++ (F ++ [])) := by rw [List.append_nil]; exact o6
    have HL : Hid ((la ++ (F ++ [])).length = la.length + (F.length + 0)) := by show _ = _; rw [List.length_append, List.length_append]; rfl
    obtain ⟨g, cap, hv6, hg, hcap, hcm, r7, hst⟩ := o7.store (by rw [HL.out]; have := HFL.out; omega)
    obtain ⟨⟨u, hu⟩, hfr, hown7⟩ := hst la.length (by rw [HL.out]; have := HFL.out; omega)
    obtain ⟨K, hK⟩ : ∃ K, (la ++ (F ++ [])).length = K := ⟨_, rfl⟩
    rw [hK] at hv6 hcap
    have HK : Hid ((la ++ (F ++ [])).length = K) := hK
    have hlaK : la.length < K := by rw [← hK, HL.out]; have := HFL.out; omega
    have hED : (la ++ (F ++ [])).drop la.length = F ++ [] := List.drop_left
    have HED : Hid ((la ++ (F ++ [])).drop la.length = F ++ []) := hED
    have HO7 : Hid (Own (w6.setCell ⟨g, la.length, none⟩ (bv 48)) w.heap.size v6 ((la ++ (F ++ [])).set la.length 48)) := hown7 48
    have HV : Hid (v6 = .slice (some ⟨g, 0, none⟩) K cap) := hv6
    rw [hv6]
    clear o6 g6 o5 r5 o7 hst hown7 hK hED hv6
    by_cases hbig : most < (n : Int) ∨ 2147483647 < (n : Int)
    · have hr : numberS ((la ++ (F ++ [])).drop la.length) most = (0, 0, 3) := by rw [HED.out, HS'.out, if_pos hbig]
      have cN := NumberI (some ⟨g, 0, none⟩) cap la.length K la.length most _ _ _ r7 (by rw [HL.out]; omega) (by rw [HK.out]; exact hcap) hcm rfl HK.out.symm 0 0 3 hr la.length (by simp)
      have hcase2 : (decide (most < (n : Int)) = true) ∨ (decide (most < (n : Int)) = false ∧ decide ((2147483647 : Int) < n) = true) := by
        simp only [decide_eq_true_eq, decide_eq_false_iff_not]; omega
      have hll : ((la.length : Int) == (la.length : Int)) = true := by simp
      clear hr hbig hu hfr
      rcases hcase2 with g3 | ⟨g3, g4⟩
      all_goals
        go_wp2_with fail
        refine cN.mono ?_; rintro e w8 ⟨rfl, rfl⟩
        clear cN
        go_wp2
        go_ret
        exact ⟨rfl, b6⟩
    · have hr : numberS ((la ++ (F ++ [])).drop la.length) most = ((n : Int), F.length, 0) := by rw [HED.out, HS'.out, if_neg hbig]
      obtain ⟨E, hE⟩ : ∃ E : Nat, la.length + F.length = E := ⟨_, rfl⟩
      have cN := NumberI (some ⟨g, 0, none⟩) cap la.length K la.length most _ _ _ r7 (by rw [HL.out]; omega) (by rw [HK.out]; exact hcap) hcm rfl HK.out.symm n F.length 0 hr E (by omega)
      have g3 : decide (most < (n : Int)) = false := decide_eq_false (by omega)
      have g4 : decide ((2147483647 : Int) < n) = false := decide_eq_false (by omega)
      have HR2 := HN'.out (by omega)
      have b8 : Below w.heap.size w (w6.setCell ⟨g, la.length, none⟩ (.int .u8 48)) := b6.setCell hg _
      have o8 : Own (w6.setCell ⟨g, la.length, none⟩ (.int .u8 48)) w.heap.size (.slice (some ⟨g, 0, none⟩) K cap) (la ++ (48 :: (F.tail ++ []))) := by
        have h1 := HO7.out
        rw [set_mid la F [] HNE'.out, HV.out] at h1
        exact h1
      obtain ⟨A8, c8, hv8, r8, n8, m8, q8⟩ := o8.form
      simp only [Value.slice.injEq] at hv8
      obtain ⟨rfl, hK8, rfl⟩ := hv8
      have hr8 : numberS ((la ++ (48 :: (F.tail ++ []))).drop la.length) most = numberS (48 :: (F.tail ++ [])) most := by rw [List.drop_left]
      obtain ⟨⟨x9, m9, e9⟩, h9⟩ : ∃ r, numberS (48 :: (F.tail ++ [])) most = r := ⟨_, rfl⟩
      rw [h9] at hr8 HR2
      simp only at HR2
      have cN2 := NumberI (some ⟨g, 0, none⟩) cap la.length K la.length most _ _ _ r8 (by simp) n8 m8 rfl hK8 x9 m9 e9 hr8 _ rfl
      generalize ((la.length + m9 : Nat) : Int) = E9 at *
      have hee : ((E : Int) == (la.length : Int) + F.length) = true := by rw [beq_iff_eq]; omega
      have hnn : ((n : Int) == (n : Int)) = true := by simp
      clear hr hr8 h9 hK8 n8 m8 q8 r8 o8 r7 hE hbig
      by_cases hF1 : 1 < F.length
      · rw [if_pos hF1] at HR2
        subst HR2
        have hF2 : (1 : Int) < F.length := by omega
        go_wp2_with fail
        refine cN.mono ?_; rintro e w8 ⟨rfl, rfl⟩
        clear cN
        go_wp2_with fail
        refine cN2.mono ?_; rintro e w9 ⟨rfl, rfl⟩
        clear cN2
        go_wp2
        go_ret
        exact ⟨rfl, b8⟩
      · rw [if_neg hF1] at HR2
        subst HR2
        have hF2 : decide ((1 : Int) < F.length) = false := decide_eq_false (by omega)
        go_wp2_with fail
        refine cN.mono ?_; rintro e w8 ⟨rfl, rfl⟩
        clear cN
        go_wp2_with fail
        refine cN2.mono ?_; rintro e w9 ⟨rfl, rfl⟩
        clear cN2
        go_wp2
        go_ret
        exact ⟨rfl, b8⟩
  · obtain ⟨ad, rfl, hblk, hcell⟩ := rb 0 hcb0
    have g0 : (0 : Int) < lb.length := by omega
    have g1 : decide ((48 : Int) ≤ (lb.getD 0 0).toNat) = false := decide_eq_false (by omega)
    generalize (lb.getD 0 0).toNat = v at *
    clear hcb1
    go_enter Tryd.func6, Tryd.ntmps6
    go_wp2_with fail
    refine cS.mono ?_; rintro e w1 ⟨rfl, hb⟩
    have b1 := b0.trans (hb.mono b0.size)
    have hcell1 : w1.cell? ad = some (.int .u8 (v : Int)) := (b1.cell hblk).trans hcell
    clear hb b0 cS
    have z1 := b1.size
    go_wp2_with fail
    refine (figures_form n _ hn).mono ?_; rintro e w2 ⟨A2, c2, rfl, r2, n2, m2, q2, hb2⟩
    have b2 : Below w.heap.size w w2 := b1.trans (hb2.mono z1)
    have z2 := b2.size
    clear hb2
    generalize figs n = F at *
    have o3 := Own.lit0 w2 w.heap.size z2
    have r3 := ra.below (b2.alloc z2 (.cells #[] 5))
    go_wp2_with (at_builtin; refine wpList_app rfl (.tmp 54) (.tmp 55) rfl w.heap.size _ [] rfl o3 w.heap.size A la.length ca la rfl rfl r3 hA ?m2 ?m3 ?_)
    case m2 => simp only [List.length_nil]; omega
    case m3 => simp; omega
    intro v4 w4 o4 g4
    have b4' : Below w2.heap.size w2 w4 := ((Below.refl _ _).alloc (Nat.le_refl _) _).grown g4 (by simp) (fun k hk => by simp [Value.ownBlock] at hk; omega)
    have b4 : Below w.heap.size w w4 := b2.trans (b4'.mono z2)
    have z4 := b4.size
    have r4 := r2.below b4'
    clear o3 r3 g4
    go_wp2_with (at_builtin; refine wpList_app rfl (.tmp 56) (.tmp 57) rfl w.heap.size _ la rfl o4 w2.heap.size A2 F.length c2 F rfl rfl r4 q2 ?m2 z4 ?_)
    case m2 => omega
    intro v5 w5 o5 g5
    have b5 : Below w.heap.size w w5 := b4.grown g5 z4 (fun k hk => (o4.lt k hk).1)
    have z5 := b5.size
    have r5 := rb.below b5
    clear o4 g5 r4 b4'
    go_wp2_with (at_builtin; refine wpList_app rfl (.tmp 58) (.tmp 59) rfl w.heap.size _ (la ++ F) rfl o5 w.heap.size (some ad) lb.length cb lb rfl rfl r5 hA' ?m2 z5 ?_)
    case m2 => rw [List.length_append]; omega
    intro v6 w6 o6 g6
    have b6 : Below w.heap.size w w6 := b5.grown g6 z5 (fun k hk => (o5.lt k hk).1)
    have z6 := b6.size
    have HFL : Hid (0 < F.length) := List.length_pos_iff.2 HNE'.out
    have o7 : Own w6 w.heap.size v6 (la ++ (F ++ lb)) := o6
    have HL : Hid ((la ++ (F ++ lb)).length = la.length + (F.length + lb.length)) := by show _ = _; rw [List.length_append, List.length_append]
    obtain ⟨g, cap, hv6, hg, hcap, hcm, r7, hst⟩ := o7.store (by rw [HL.out]; have := HFL.out; omega)
    obtain ⟨⟨u, hu⟩, hfr, hown7⟩ := hst la.length (by rw [HL.out]; have := HFL.out; omega)
    obtain ⟨K, hK⟩ : ∃ K, (la ++ (F ++ lb)).length = K := ⟨_, rfl⟩
    rw [hK] at hv6 hcap
    have HK : Hid ((la ++ (F ++ lb)).length = K) := hK
    have hlaK : la.length < K := by rw [← hK, HL.out]; have := HFL.out; omega
    have hED : (la ++ (F ++ lb)).drop la.length = F ++ lb := List.drop_left
    have HED : Hid ((la ++ (F ++ lb)).drop la.length = F ++ lb) := hED
    have HO7 : Hid (Own (w6.setCell ⟨g, la.length, none⟩ (bv 48)) w.heap.size v6 ((la ++ (F ++ lb)).set la.length 48)) := hown7 48
    have HV : Hid (v6 = .slice (some ⟨g, 0, none⟩) K cap) := hv6
    rw [hv6]
    clear o6 g6 o5 r5 o7 hst hown7 hK hED hv6
    by_cases hbig : most < (n : Int) ∨ 2147483647 < (n : Int)
    · have hr : numberS ((la ++ (F ++ lb)).drop la.length) most = (0, 0, 3) := by rw [HED.out, HS'.out, if_pos hbig]
      have cN := NumberI (some ⟨g, 0, none⟩) cap la.length K la.length most _ _ _ r7 (by rw [HL.out]; omega) (by rw [HK.out]; exact hcap) hcm rfl HK.out.symm 0 0 3 hr la.length (by simp)
      have hcase2 : (decide (most < (n : Int)) = true) ∨ (decide (most < (n : Int)) = false ∧ decide ((2147483647 : Int) < n) = true) := by
        simp only [decide_eq_true_eq, decide_eq_false_iff_not]; omega
      have hll : ((la.length : Int) == (la.length : Int)) = true := by simp
      clear hr hbig hu hfr
      rcases hcase2 with g3 | ⟨g3, g4⟩
      all_goals
        go_wp2_with fail
        refine cN.mono ?_; rintro e w8 ⟨rfl, rfl⟩
        clear cN
        go_wp2
        go_ret
        exact ⟨rfl, b6⟩
    · have hr : numberS ((la ++ (F ++ lb)).drop la.length) most = ((n : Int), F.length, 0) := by rw [HED.out, HS'.out, if_neg hbig]
      obtain ⟨E, hE⟩ : ∃ E : Nat, la.length + F.length = E := ⟨_, rfl⟩
      have cN := NumberI (some ⟨g, 0, none⟩) cap la.length K la.length most _ _ _ r7 (by rw [HL.out]; omega) (by rw [HK.out]; exact hcap) hcm rfl HK.out.symm n F.length 0 hr E (by omega)
      have g3 : decide (most < (n : Int)) = false := decide_eq_false (by omega)
      have g4 : decide ((2147483647 : Int) < n) = false := decide_eq_false (by omega)
      have HR2 := HN'.out (by omega)
      have b8 : Below w.heap.size w (w6.setCell ⟨g, la.length, none⟩ (.int .u8 48)) := b6.setCell hg _
      have o8 : Own (w6.setCell ⟨g, la.length, none⟩ (.int .u8 48)) w.heap.size (.slice (some ⟨g, 0, none⟩) K cap) (la ++ (48 :: (F.tail ++ lb))) := by
        have h1 := HO7.out
        rw [set_mid la F lb HNE'.out, HV.out] at h1
        exact h1
      obtain ⟨A8, c8, hv8, r8, n8, m8, q8⟩ := o8.form
      simp only [Value.slice.injEq] at hv8
      obtain ⟨rfl, hK8, rfl⟩ := hv8
      have hr8 : numberS ((la ++ (48 :: (F.tail ++ lb))).drop la.length) most = numberS (48 :: (F.tail ++ lb)) most := by rw [List.drop_left]
      obtain ⟨⟨x9, m9, e9⟩, h9⟩ : ∃ r, numberS (48 :: (F.tail ++ lb)) most = r := ⟨_, rfl⟩
      rw [h9] at hr8 HR2
      simp only at HR2
      have cN2 := NumberI (some ⟨g, 0, none⟩) cap la.length K la.length most _ _ _ r8 (by simp) n8 m8 rfl hK8 x9 m9 e9 hr8 _ rfl
      generalize ((la.length + m9 : Nat) : Int) = E9 at *
      have hee : ((E : Int) == (la.length : Int) + F.length) = true := by rw [beq_iff_eq]; omega
      have hnn : ((n : Int) == (n : Int)) = true := by simp
      clear hr hr8 h9 hK8 n8 m8 q8 r8 o8 r7 hE hbig
      by_cases hF1 : 1 < F.length
      · rw [if_pos hF1] at HR2
        subst HR2
        have hF2 : (1 : Int) < F.length := by omega
        go_wp2_with fail
        refine cN.mono ?_; rintro e w8 ⟨rfl, rfl⟩
        clear cN
        go_wp2_with fail
        refine cN2.mono ?_; rintro e w9 ⟨rfl, rfl⟩
        clear cN2
        go_wp2
        go_ret
        exact ⟨rfl, b8⟩
      · rw [if_neg hF1] at HR2
        subst HR2
        have hF2 : decide ((1 : Int) < F.length) = false := decide_eq_false (by omega)
        go_wp2_with fail
        refine cN.mono ?_; rintro e w8 ⟨rfl, rfl⟩
        clear cN
        go_wp2_with fail
        refine cN2.mono ?_; rintro e w9 ⟨rfl, rfl⟩
        clear cN2
        go_wp2
        go_ret
        exact ⟨rfl, b8⟩
  · obtain ⟨ad, rfl, hblk, hcell⟩ := rb 0 hcb0
    have g0 : (0 : Int) < lb.length := by omega
    have g1 : (48 : Int) ≤ (lb.getD 0 0).toNat := by omega
    have g2 : decide (((lb.getD 0 0).toNat : Int) ≤ 57) = false := decide_eq_false (by omega)
    generalize (lb.getD 0 0).toNat = v at *
    clear hcb1 hcb2
    go_enter Tryd.func6, Tryd.ntmps6
    go_wp2_with fail
    refine cS.mono ?_; rintro e w1 ⟨rfl, hb⟩
    have b1 := b0.trans (hb.mono b0.size)
    have hcell1 : w1.cell? ad = some (.int .u8 (v : Int)) := (b1.cell hblk).trans hcell
    clear hb b0 cS
    have z1 := b1.size
    go_wp2_with fail
    refine (figures_form n _ hn).mono ?_; rintro e w2 ⟨A2, c2, rfl, r2, n2, m2, q2, hb2⟩
    have b2 : Below w.heap.size w w2 := b1.trans (hb2.mono z1)
    have z2 := b2.size
    clear hb2
    generalize figs n = F at *
    have o3 := Own.lit0 w2 w.heap.size z2
    have r3 := ra.below (b2.alloc z2 (.cells #[] 5))
    go_wp2_with (at_builtin; refine wpList_app rfl (.tmp 54) (.tmp 55) rfl w.heap.size _ [] rfl o3 w.heap.size A la.length ca la rfl rfl r3 hA ?m2 ?m3 ?_)
    case m2 => simp only [List.length_nil]; omega
    case m3 => simp; omega
    intro v4 w4 o4 g4
    have b4' : Below w2.heap.size w2 w4 := ((Below.refl _ _).alloc (Nat.le_refl _) _).grown g4 (by simp) (fun k hk => by simp [Value.ownBlock] at hk; omega)
    have b4 : Below w.heap.size w w4 := b2.trans (b4'.mono z2)
    have z4 := b4.size
    have r4 := r2.below b4'
    clear o3 r3 g4
    go_wp2_with (at_builtin; refine wpList_app rfl (.tmp 56) (.tmp 57) rfl w.heap.size _ la rfl o4 w2.heap.size A2 F.length c2 F rfl rfl r4 q2 ?m2 z4 ?_)
    case m2 => omega
    intro v5 w5 o5 g5
    have b5 : Below w.heap.size w w5 := b4.grown g5 z4 (fun k hk => (o4.lt k hk).1)
    have z5 := b5.size
    have r5 := rb.below b5
    clear o4 g5 r4 b4'
    go_wp2_with (at_builtin; refine wpList_app rfl (.tmp 58) (.tmp 59) rfl w.heap.size _ (la ++ F) rfl o5 w.heap.size (some ad) lb.length cb lb rfl rfl r5 hA' ?m2 z5 ?_)
    case m2 => rw [List.length_append]; omega
    intro v6 w6 o6 g6
    have b6 : Below w.heap.size w w6 := b5.grown g6 z5 (fun k hk => (o5.lt k hk).1)
    have z6 := b6.size
    have HFL : Hid (0 < F.length) := List.length_pos_iff.2 HNE'.out
    have o7 : Own w6 w.heap.size v6 (la ++ (F ++ lb)) := o6
    have HL : Hid ((la ++ (F ++ lb)).length = la.length + (F.length + lb.length)) := by show _ = _; rw [List.length_append, List.length_append]
    obtain ⟨g, cap, hv6, hg, hcap, hcm, r7, hst⟩ := o7.store (by rw [HL.out]; have := HFL.out; omega)
    obtain ⟨⟨u, hu⟩, hfr, hown7⟩ := hst la.length (by rw [HL.out]; have := HFL.out; omega)
    obtain ⟨K, hK⟩ : ∃ K, (la ++ (F ++ lb)).length = K := ⟨_, rfl⟩
    rw [hK] at hv6 hcap
    have HK : Hid ((la ++ (F ++ lb)).length = K) := hK
    have hlaK : la.length < K := by rw [← hK, HL.out]; have := HFL.out; omega
    have hED : (la ++ (F ++ lb)).drop la.length = F ++ lb := List.drop_left
    have HED : Hid ((la ++ (F ++ lb)).drop la.length = F ++ lb) := hED
    have HO7 : Hid (Own (w6.setCell ⟨g, la.length, none⟩ (bv 48)) w.heap.size v6 ((la ++ (F ++ lb)).set la.length 48)) := hown7 48
    have HV : Hid (v6 = .slice (some ⟨g, 0, none⟩) K cap) := hv6
    rw [hv6]
    clear o6 g6 o5 r5 o7 hst hown7 hK hED hv6
    by_cases hbig : most < (n : Int) ∨ 2147483647 < (n : Int)
    · have hr : numberS ((la ++ (F ++ lb)).drop la.length) most = (0, 0, 3) := by rw [HED.out, HS'.out, if_pos hbig]
      have cN := NumberI (some ⟨g, 0, none⟩) cap la.length K la.length most _ _ _ r7 (by rw [HL.out]; omega) (by rw [HK.out]; exact hcap) hcm rfl HK.out.symm 0 0 3 hr la.length (by simp)
      have hcase2 : (decide (most < (n : Int)) = true) ∨ (decide (most < (n : Int)) = false ∧ decide ((2147483647 : Int) < n) = true) := by
        simp only [decide_eq_true_eq, decide_eq_false_iff_not]; omega
      have hll : ((la.length : Int) == (la.length : Int)) = true := by simp
      clear hr hbig hu hfr
      rcases hcase2 with g3 | ⟨g3, g4⟩
      all_goals
        go_wp2_with fail
        refine cN.mono ?_; rintro e w8 ⟨rfl, rfl⟩
        clear cN
        go_wp2
        go_ret
        exact ⟨rfl, b6⟩
    · have hr : numberS ((la ++ (F ++ lb)).drop la.length) most = ((n : Int), F.length, 0) := by rw [HED.out, HS'.out, if_neg hbig]
      obtain ⟨E, hE⟩ : ∃ E : Nat, la.length + F.length = E := ⟨_, rfl⟩
      have cN := NumberI (some ⟨g, 0, none⟩) cap la.length K la.length most _ _ _ r7 (by rw [HL.out]; omega) (by rw [HK.out]; exact hcap) hcm rfl HK.out.symm n F.length 0 hr E (by omega)
      have g3 : decide (most < (n : Int)) = false := decide_eq_false (by omega)
      have g4 : decide ((2147483647 : Int) < n) = false := decide_eq_false (by omega)
      have HR2 := HN'.out (by omega)
      have b8 : Below w.heap.size w (w6.setCell ⟨g, la.length, none⟩ (.int .u8 48)) := b6.setCell hg _
      have o8 : Own (w6.setCell ⟨g, la.length, none⟩ (.int .u8 48)) w.heap.size (.slice (some ⟨g, 0, none⟩) K cap) (la ++ (48 :: (F.tail ++ lb))) := by
        have h1 := HO7.out
        rw [set_mid la F lb HNE'.out, HV.out] at h1
        exact h1
      obtain ⟨A8, c8, hv8, r8, n8, m8, q8⟩ := o8.form
      simp only [Value.slice.injEq] at hv8
      obtain ⟨rfl, hK8, rfl⟩ := hv8
      have hr8 : numberS ((la ++ (48 :: (F.tail ++ lb))).drop la.length) most = numberS (48 :: (F.tail ++ lb)) most := by rw [List.drop_left]
      obtain ⟨⟨x9, m9, e9⟩, h9⟩ : ∃ r, numberS (48 :: (F.tail ++ lb)) most = r := ⟨_, rfl⟩
      rw [h9] at hr8 HR2
      simp only at HR2
      have cN2 := NumberI (some ⟨g, 0, none⟩) cap la.length K la.length most _ _ _ r8 (by simp) n8 m8 rfl hK8 x9 m9 e9 hr8 _ rfl
      generalize ((la.length + m9 : Nat) : Int) = E9 at *
      have hee : ((E : Int) == (la.length : Int) + F.length) = true := by rw [beq_iff_eq]; omega
      have hnn : ((n : Int) == (n : Int)) = true := by simp
      clear hr hr8 h9 hK8 n8 m8 q8 r8 o8 r7 hE hbig
      by_cases hF1 : 1 < F.length
      · rw [if_pos hF1] at HR2
        subst HR2
        have hF2 : (1 : Int) < F.length := by omega
        go_wp2_with fail
        refine cN.mono ?_; rintro e w8 ⟨rfl, rfl⟩
        clear cN
        go_wp2_with fail
        refine cN2.mono ?_; rintro e w9 ⟨rfl, rfl⟩
        clear cN2
        go_wp2
        go_ret
        exact ⟨rfl, b8⟩
      · rw [if_neg hF1] at HR2
        subst HR2
        have hF2 : decide ((1 : Int) < F.length) = false := decide_eq_false (by omega)
        go_wp2_with fail
        refine cN.mono ?_; rintro e w8 ⟨rfl, rfl⟩
        clear cN
        go_wp2_with fail
        refine cN2.mono ?_; rintro e w9 ⟨rfl, rfl⟩
        clear cN2
        go_wp2
        go_ret
        exact ⟨rfl, b8⟩
end Go.Proofs.YtfimacfpgcdekaaDoor
