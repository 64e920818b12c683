/-
  The statement LexAhead over the translated program: the call returns true, for every two slices of bytes, place and bound, under the two tables of unicode/utf8 as its text lays them; nothing that was there is changed.
-/
import Derived.Test.YtfimacfpgcdekaaDoorW9
set_option linter.unusedVariables false
namespace Go.Proofs.YtfimacfpgcdekaaDoor
open Go.RowKit
theorem signedS_len (t : List UInt8) (most : Int) : (signedS t most).2.1 ≤ t.length := by
  unfold signedS
  split
  · rename_i h
    have hne : t ≠ [] := by rintro rfl; simp at h
    have h1 := List.length_pos_iff.2 hne
    split
    · simp
    · split
      · have := numberS_len (t.drop 1) most
        simp only [List.length_drop] at this ⊢
        omega
      · simp
  · exact numberS_len t most
theorem signedS_bd (t : List UInt8) (most : Int) : 0 ≤ (signedS t most).2.2 ∧ (signedS t most).2.2 ≤ 3 := by
  have h1 := numberS_bd (t.drop 1) most
  have h2 := numberS_bd t most
  unfold signedS
  split
  · split
    · simp
    · split
      · simp
      · simp only; omega
  · omega
theorem onesS_len (t : List UInt8) (most : Int) : (onesS t most).2.1 ≤ t.length := by
  unfold onesS
  split
  · simp
  · split
    · simp
    · exact tw_le 49 t
theorem nameS_len (t : List UInt8) : (nameS t).2.1 ≤ t.length := by
  unfold nameS
  split
  · exact nlen_le t
  · simp
theorem takeS_len (t : List UInt8) : (takeS t).2.1 ≤ t.length := by
  unfold takeS
  cases hr : takeF 0 0 (t.take 5) with
  | none => simp [takeR]
  | some r =>
    obtain ⟨x, m⟩ := r
    exact Nat.le_trans (takeF_len _ _ _ _ _ hr) (by simp; omega)
where
  takeF_len : ∀ (t : List UInt8) (i : Nat) (n x : Int) (m : Nat), takeF i n t = some (x, m) → m ≤ t.length + i
  | [], i, n, x, m, h => by simp [takeF] at h
  | c :: t, i, n, x, m, h => by
    unfold takeF at h
    split at h
    · have := takeF_len t (i + 1) _ x m h; simp only [List.length_cons]; omega
    · split at h
      · cases h
      · injection h with h
        simp only [Prod.mk.injEq] at h
        simp only [List.length_cons]; omega
/-- Contracts at a place given as a number, their results by parts. -/
theorem SignedI (A : Option Addr) (c k n : Nat) (kk most : Int) (l : List UInt8) (B : Nat) (w : World) (h : Rd w B A l) (hk : k ≤ l.length) (hn : l.length ≤ c) (hc : c ≤ maxLen) (hkk : kk = (k : Int)) (hnn : n = l.length) (x : Int) (m : Nat) (e0 : Int) (hr : signedS (l.drop k) most = (x, m, e0)) (E : Nat) (hE : E = k + m) :
    Calls Tryd.prog 19 #[.slice A n c, .int .i64 kk, .int .i64 most] w fun e w' => e = .returned (.tuple #[.int .i64 x, .int .i64 (E : Int), .int .i64 e0]) ∧ w = w' := by
  subst hkk; subst hnn; subst hE
  have := Signed_any A c k most l B w h hk hn hc
  rw [hr] at this
  exact this
theorem OnesI (A : Option Addr) (c k n : Nat) (kk most : Int) (l : List UInt8) (B : Nat) (w : World) (h : Rd w B A l) (hk : k ≤ l.length) (hn : l.length ≤ c) (hc : c ≤ maxLen) (hkk : kk = (k : Int)) (hnn : n = l.length) (x : List UInt8) (m : Nat) (e0 : Int) (hr : onesS (l.drop k) most = (x, m, e0)) (E : Nat) (hE : E = k + m) (X : ByteArray) (hX : X = ⟨x.toArray⟩) :
    Calls Tryd.prog 20 #[.slice A n c, .int .i64 kk, .int .i64 most] w fun e w' => e = .returned (.tuple #[.string X, .int .i64 (E : Int), .int .i64 e0]) ∧ w = w' := by
  subst hkk; subst hnn; subst hE; subst hX
  have := Ones_any A c k most l B w h hk hn hc
  rw [hr] at this
  exact this
theorem NameI (A : Option Addr) (c k n : Nat) (kk : Int) (l : List UInt8) (B : Nat) (w : World) (h : Rd w B A l) (hk : k ≤ l.length) (hn : l.length ≤ c) (hc : c ≤ maxLen) (hA : A = none → c = 0) (hT : Tabs w) (hkk : kk = (k : Int)) (hnn : n = l.length) (x : List UInt8) (m : Nat) (e0 : Int) (hr : nameS (l.drop k) = (x, m, e0)) (E : Nat) (hE : E = k + m) (X : ByteArray) (hX : X = ⟨x.toArray⟩) :
    Calls Tryd.prog 10 #[.slice A n c, .int .i64 kk] w fun e w' => e = .returned (.tuple #[.string X, .int .i64 (E : Int), .int .i64 e0]) ∧ Below w.heap.size w w' := by
  subst hkk; subst hnn; subst hE; subst hX
  have := Name_any A c k l B w h hk hn hc hA hT
  rw [hr] at this
  exact this
theorem TakeI (A : Option Addr) (c k n : Nat) (kk : Int) (l : List UInt8) (B : Nat) (w : World) (h : Rd w B A l) (hk : k ≤ l.length) (hn : l.length ≤ c) (hc : c ≤ maxLen) (hsm : l.length ≤ 1048576) (hkk : kk = (k : Int)) (hnn : n = l.length) (x : Int) (m : Nat) (e0 : Int) (hr : takeS (l.drop k) = (x, m, e0)) (E : Nat) (hE : E = k + m) :
    Calls Tryd.prog 12 #[.slice A n c, .int .i64 kk] w fun e w' => e = .returned (.tuple #[.int .i64 x, .int .i64 (E : Int), .int .i64 e0]) ∧ w = w' := by
  subst hkk; subst hnn; subst hE
  have := Take_any A c k l B w h hk hn hc hsm
  rw [hr] at this
  exact this
set_option maxRecDepth 100000 in
set_option maxHeartbeats 1600000 in
theorem LexAhead_long (A : Option Addr) (na ca : Nat) (A' : Option Addr) (nb cb : Nat) (k most : Int) (w : World) (hT : Tabs w) (hl : 500 < na ∨ 500 < nb ∨ k < 0 ∨ (nb : Int) < k) :
    Calls Tryd.prog 4 #[.agg #[.slice A na ca, .slice A' nb cb, .int .i64 k, .int .i64 most]] w fun e w' => e = .returned (.bool true) ∧ Below w.heap.size w w' := by
  have b0 : Below w.heap.size w (w.alloc (.cells #[.slice A na ca, .slice A' nb cb, .int .i64 k, .int .i64 most] 40)) := (Below.refl _ _).alloc (Nat.le_refl _) _
  have cS := shown_any _ (hT.below b0)
  have hcase : (decide ((500 : Int) < na) = true) ∨ (decide ((500 : Int) < na) = false ∧ decide ((500 : Int) < nb) = true) ∨ (decide ((500 : Int) < na) = false ∧ decide ((500 : Int) < nb) = false ∧ decide (k < 0) = true) ∨ (decide ((500 : Int) < na) = false ∧ decide ((500 : Int) < nb) = false ∧ decide (k < 0) = false ∧ decide ((nb : Int) < k) = true) := by
    simp only [decide_eq_true_eq, decide_eq_false_iff_not]; omega
  clear hl hT
  rcases hcase with g0 | ⟨g1, g2⟩ | ⟨g1, g2, g3⟩ | ⟨g1, g2, g3, g4⟩
  all_goals
    go_enter Tryd.func4, Tryd.ntmps4
    go_wp2_with fail
    refine cS.mono ?_; rintro e w1 ⟨rfl, hb⟩
    have b1 := b0.trans (hb.mono b0.size)
    clear hb b0 cS
    go_wp2
    go_ret
    exact ⟨rfl, b1⟩
set_option maxRecDepth 100000 in
set_option maxHeartbeats 4000000 in
theorem LexAhead_in (A : Option Addr) (ca : Nat) (la : List UInt8) (A' : Option Addr) (cb : Nat) (lb : List UInt8) (k : Nat) (most : Int) (w : World) (hT : Tabs w)
    (ra : Rd w w.heap.size A la) (hna : la.length ≤ ca) (hca : ca ≤ maxLen) (hA : A = none → ca = 0) (rb : Rd w w.heap.size A' lb) (hnb : lb.length ≤ cb) (hcb : cb ≤ maxLen) (hA' : A' = none → cb = 0)
    (hla : la.length ≤ 500) (hlb : lb.length ≤ 500) (hk : k ≤ lb.length) :
    Calls Tryd.prog 4 #[.agg #[.slice A la.length ca, .slice A' lb.length cb, .int .i64 k, .int .i64 most]] w fun e w' => e = .returned (.bool true) ∧ Below w.heap.size w w' := by
  have b0 : Below w.heap.size w (w.alloc (.cells #[.slice A la.length ca, .slice A' lb.length cb, .int .i64 k, .int .i64 most] 40)) := (Below.refl _ _).alloc (Nat.le_refl _) _
  have cS := shown_any _ (hT.below b0)
  have d1 : decide ((500 : Int) < la.length) = false := decide_eq_false (by omega)
  have d2 : decide ((500 : Int) < lb.length) = false := decide_eq_false (by omega)
  have d3 : decide ((k : Int) < 0) = false := decide_eq_false (by omega)
  have d4 : decide (lb.length < k) = false := decide_eq_false (by omega)
  have HD : Hid ((la ++ lb).drop (la.length + k) = lb.drop k) := by show _ = _; rw [List.drop_append, List.drop_of_length_le (by omega), List.nil_append]; congr 1; omega
  have l1 := signedS_len (lb.drop k) most
  have l2 := onesS_len (lb.drop k) most
  have l3 := nameS_len (lb.drop k)
  have l4 := takeS_len (lb.drop k)
  simp only [List.length_drop] at l1 l2 l3 l4
  obtain ⟨⟨x1, m1, e1⟩, h1⟩ : ∃ r, signedS (lb.drop k) most = r := ⟨_, rfl⟩
  obtain ⟨⟨x2, m2, e2⟩, h2⟩ : ∃ r, onesS (lb.drop k) most = r := ⟨_, rfl⟩
  obtain ⟨⟨x3, m3, e3⟩, h3⟩ : ∃ r, nameS (lb.drop k) = r := ⟨_, rfl⟩
  obtain ⟨⟨x4, m4, e4⟩, h4⟩ : ∃ r, takeS (lb.drop k) = r := ⟨_, rfl⟩
  rw [h1] at l1
  rw [h2] at l2
  rw [h3] at l3
  rw [h4] at l4
  simp only at l1 l2 l3 l4
  obtain ⟨E1, hE1⟩ : ∃ E, E = k + m1 := ⟨_, rfl⟩
  obtain ⟨E2, hE2⟩ : ∃ E, E = k + m2 := ⟨_, rfl⟩
  obtain ⟨E3, hE3⟩ : ∃ E, E = k + m3 := ⟨_, rfl⟩
  obtain ⟨E4, hE4⟩ : ∃ E, E = k + m4 := ⟨_, rfl⟩
  obtain ⟨G1, hG1⟩ : ∃ E, E = la.length + k + m1 := ⟨_, rfl⟩
  obtain ⟨G2, hG2⟩ : ∃ E, E = la.length + k + m2 := ⟨_, rfl⟩
  obtain ⟨G3, hG3⟩ : ∃ E, E = la.length + k + m3 := ⟨_, rfl⟩
  obtain ⟨G4, hG4⟩ : ∃ E, E = la.length + k + m4 := ⟨_, rfl⟩
  obtain ⟨X2, hX2⟩ : ∃ X : ByteArray, X = ⟨x2.toArray⟩ := ⟨_, rfl⟩
  obtain ⟨X3, hX3⟩ : ∃ X : ByteArray, X = ⟨x3.toArray⟩ := ⟨_, rfl⟩
  have q1 : ((E1 : Int) + la.length == (G1 : Int)) = true := by rw [beq_iff_eq]; omega
  have q2 : ((E2 : Int) + la.length == (G2 : Int)) = true := by rw [beq_iff_eq]; omega
  have q3 : ((E3 : Int) + la.length == (G3 : Int)) = true := by rw [beq_iff_eq]; omega
  have q4 : ((E4 : Int) + la.length == (G4 : Int)) = true := by rw [beq_iff_eq]; omega
  have p1 : k ≤ E1 := by omega
  have p2 : k ≤ E2 := by omega
  have p3 : k ≤ E3 := by omega
  have p4 : k ≤ E4 := by omega
  have s1 : E1 ≤ lb.length := by omega
  have s2 : E2 ≤ lb.length := by omega
  have s3 : E3 ≤ lb.length := by omega
  have s4 : E4 ≤ lb.length := by omega
  have HH : Hid ((signedS (lb.drop k) most = (x1, m1, e1) ∧ onesS (lb.drop k) most = (x2, m2, e2) ∧ nameS (lb.drop k) = (x3, m3, e3) ∧ takeS (lb.drop k) = (x4, m4, e4)) ∧ (E1 = k + m1 ∧ E2 = k + m2 ∧ E3 = k + m3 ∧ E4 = k + m4) ∧ (G1 = la.length + k + m1 ∧ G2 = la.length + k + m2 ∧ G3 = la.length + k + m3 ∧ G4 = la.length + k + m4) ∧ X2 = ⟨x2.toArray⟩ ∧ X3 = ⟨x3.toArray⟩) := ⟨⟨h1, h2, h3, h4⟩, ⟨hE1, hE2, hE3, hE4⟩, ⟨hG1, hG2, hG3, hG4⟩, hX2, hX3⟩
  have HT : Hid (Tabs w) := hT
  clear h1 h2 h3 h4 hE1 hE2 hE3 hE4 hG1 hG2 hG3 hG4 hX2 hX3 l1 l2 l3 l4 hT
  go_enter Tryd.func4, Tryd.ntmps4
  go_wp2_with fail
  refine cS.mono ?_; rintro e w1 ⟨rfl, hb⟩
  have b1 := b0.trans (hb.mono b0.size)
  clear hb b0 cS
  have z1 := b1.size
  have o3 := Own.lit0 w1 w.heap.size z1
  have r3 := ra.below (b1.alloc z1 (.cells #[] 5))
  go_wp2_with (at_builtin; refine wpList_app rfl (.tmp 63) (.tmp 64) rfl w.heap.size _ [] rfl o3 w.heap.size A la.length ca la rfl rfl r3 hA ?m2 ?m3 ?_)
  case m2 => simp only [List.length_nil]; omega
  case m3 => simp; omega
  intro v4 w4 o4 g4
  have b4 : Below w.heap.size w w4 := (b1.alloc z1 _).grown g4 (by simp; omega) (fun k hk => by simp [Value.ownBlock] at hk; omega)
  have z4 := b4.size
  have r4 := rb.below b4
  clear o3 r3 g4
  go_wp2_with (at_builtin; refine wpList_app rfl (.tmp 65) (.tmp 66) rfl w.heap.size _ la rfl o4 w.heap.size A' lb.length cb lb rfl rfl r4 hA' ?m2 z4 ?_)
  case m2 => omega
  intro v5 w5 o5 g5
  have b5 : Below w.heap.size w w5 := b4.grown g5 z4 (fun k hk => (o4.lt k hk).1)
  have z5 := b5.size
  obtain ⟨A5, c5, hv5, r5, n5, m5, q5⟩ := o5.form
  have r6 := rb.below b5
  have HL : Hid (la.length + lb.length = (la ++ lb).length) := List.length_append.symm
  have hkl : la.length + k ≤ (la ++ lb).length := by rw [List.length_append]; omega
  rw [← HL.out] at hv5
  rw [hv5]
  clear o4 o5 g5 r4 hv5
  go_wp2_with fail
  refine (SignedI A' cb k _ _ most lb _ _ r6 hk hnb hcb rfl rfl x1 m1 e1 HH.out.1.1 E1 HH.out.2.1.1).mono ?_; rintro e w6 ⟨rfl, rfl⟩
  go_wp2_with fail
  refine (SignedI A5 c5 (la.length + k) _ _ most _ _ _ r5 hkl n5 m5 (by omega) HL.out x1 m1 e1 (by rw [HD.out]; exact HH.out.1.1) G1 HH.out.2.2.1.1).mono ?_; rintro e w6 ⟨rfl, rfl⟩
  go_wp2_with fail
  refine (OnesI A' cb k _ _ most lb _ _ r6 hk hnb hcb rfl rfl x2 m2 e2 HH.out.1.2.1 E2 HH.out.2.1.2.1 X2 HH.out.2.2.2.1).mono ?_; rintro e w6 ⟨rfl, rfl⟩
  go_wp2_with fail
  refine (OnesI A5 c5 (la.length + k) _ _ most _ _ _ r5 hkl n5 m5 (by omega) HL.out x2 m2 e2 (by rw [HD.out]; exact HH.out.1.2.1) G2 HH.out.2.2.1.2.1 X2 HH.out.2.2.2.1).mono ?_; rintro e w6 ⟨rfl, rfl⟩
  go_wp2_with fail
  refine (NameI A' cb k _ _ lb _ _ r6 hk hnb hcb hA' (HT.out.below b5) rfl rfl x3 m3 e3 HH.out.1.2.2.1 E3 HH.out.2.1.2.2.1 X3 HH.out.2.2.2.2).mono ?_; rintro e w6 ⟨rfl, hb6⟩
  have b6 : Below w.heap.size w w6 := b5.trans (hb6.mono z5)
  have z6 := b6.size
  have r7 := rb.below b6
  have r8 := r5.below hb6
  have z56 := hb6.size
  clear hb6 r5 r6
  go_wp2_with fail
  refine (NameI A5 c5 (la.length + k) _ _ _ _ _ r8 hkl n5 m5 q5 (HT.out.below b6) (by omega) HL.out x3 m3 e3 (by rw [HD.out]; exact HH.out.1.2.2.1) G3 HH.out.2.2.1.2.2.1 X3 HH.out.2.2.2.2).mono ?_; rintro e w7 ⟨rfl, hb7⟩
  have b7 : Below w.heap.size w w7 := b6.trans (hb7.mono z6)
  have r9 := rb.below b7
  have r10 := r8.below (hb7.mono z56)
  clear hb7 r7 r8
  go_wp2_with fail
  refine (TakeI A' cb k _ _ lb _ _ r9 hk hnb hcb (by omega) rfl rfl x4 m4 e4 HH.out.1.2.2.2 E4 HH.out.2.1.2.2.2).mono ?_; rintro e w8 ⟨rfl, rfl⟩
  go_wp2_with fail
  refine (TakeI A5 c5 (la.length + k) _ _ _ _ _ r10 hkl n5 m5 (by rw [← HL.out]; omega) (by omega) HL.out x4 m4 e4 (by rw [HD.out]; exact HH.out.1.2.2.2) G4 HH.out.2.2.1.2.2.2).mono ?_; rintro e w8 ⟨rfl, rfl⟩
  clear r9 r10 n5 m5 q5 hkl
  go_wp2
  go_ret
  exact ⟨rfl, b7⟩
end Go.Proofs.YtfimacfpgcdekaaDoor
