/-
  The statement LexNamed over the translated program: the call returns true, for every two strings, under the two tables of unicode/utf8 as its text lays them; nothing that was there is changed.
-/
import Derived.Test.YtfimacfpgcdekaaDoorM4
set_option linter.unusedVariables false
namespace Go.Proofs.YtfimacfpgcdekaaDoor
open Go.RowKit
theorem NameJ (A : Option Addr) (c n : Nat) (l : List UInt8) (B : Nat) (w : World) (h : Rd w B A l) (hn : l.length ≤ c) (hc : c ≤ maxLen) (hA : A = none → c = 0) (hT : Tabs w) (hnn : n = l.length) (x : List UInt8) (m : Nat) (e0 : Int) (hr : nameS l = (x, m, e0)) (X : ByteArray) (hX : X = ⟨x.toArray⟩) :
    Calls Tryd.prog 10 #[.slice A n c, .int .i64 0] w fun e w' => e = .returned (.tuple #[.string X, .int .i64 (m : Int), .int .i64 e0]) ∧ Below w.heap.size w w' := by
  subst hnn; subst hX
  have := Name_any A c 0 l B w h (by omega) hn hc hA hT
  rw [List.drop_zero, hr] at this
  refine this.mono fun e w' ⟨he, hb⟩ => ⟨?_, hb⟩
  rw [he]
  unfold resS
  simp only [Nat.zero_add]
theorem bytes_read (w : World) (s : ByteArray) : Rd (Lib.bytesWorld w 5 s) (w.heap.size + 1) (some ⟨w.heap.size, 0, none⟩) s.data.toList ∧ w.grownBy (Lib.bytesWorld w 5 s) none := by
  constructor
  · intro i hi
    refine ⟨_, rfl, by simp, ?_⟩
    have e : (⟨w.heap.size, 0, none⟩ : Addr).add i = ⟨w.heap.size, i, none⟩ := by unfold Addr.add; split <;> simp_all
    rw [e]
    exact Lib.bytesWorld_cell w 5 s i hi
  · exact ⟨rfl, rfl, rfl, by rw [Lib.bytesWorld_size]; omega, fun k hk _ => Lib.bytesWorld_at_old w 5 s k hk⟩
theorem IsNameB (s : ByteArray) (w : World) (hs : s.size ≤ 1048576) (hT : Tabs w) (b : Bool) (hb : isNm s.data.toList = b) :
    Calls Tryd.prog 14 #[.string s] w fun e w' => e = .returned (.bool b) ∧ Below w.heap.size w w' := by
  subst hb; exact IsName_any s w (by unfold maxLen; omega) hT
theorem IsNameRB (s : ByteArray) (w : World) (hs : s.size ≤ 1048576) (b : Bool) (hb : isNm s.data.toList = b) :
    Calls Tryd.prog 15 #[.string s] w fun e w' => e = .returned (.bool b) ∧ w = w' := by
  subst hb; exact IsNameR_any s w hs
set_option maxRecDepth 100000 in
set_option maxHeartbeats 1600000 in
theorem LexNamed_long (s t : ByteArray) (w : World) (hT : Tabs w) (hl : 500 < s.size ∨ 500 < t.size) :
    Calls Tryd.prog 8 #[.string s, .string t] w fun e w' => e = .returned (.bool true) ∧ Below w.heap.size w w' := by
  have cS := shown_any w hT
  have hcase : (decide ((500 : Int) < s.size) = true) ∨ (decide ((500 : Int) < s.size) = false ∧ decide ((500 : Int) < t.size) = true) := by
    simp only [decide_eq_true_eq, decide_eq_false_iff_not]; omega
  clear hl hT
  rcases hcase with g0 | ⟨g1, g2⟩
  all_goals
    go_enter Tryd.func8, Tryd.ntmps8
    go_wp2_with fail
    refine cS.mono ?_; rintro e w1 ⟨rfl, b1⟩
    go_wp2
    go_ret
    exact ⟨rfl, b1⟩
set_option maxRecDepth 100000 in
set_option maxHeartbeats 4000000 in
theorem LexNamed_in (s t : ByteArray) (w : World) (hT : Tabs w) (hs : s.size ≤ 500) (ht : t.size ≤ 500) :
    Calls Tryd.prog 8 #[.string s, .string t] w fun e w' => e = .returned (.bool true) ∧ Below w.heap.size w w' := by
  have cS := shown_any w hT
  have d1 : decide ((500 : Int) < s.size) = false := decide_eq_false (by omega)
  have d2 : decide ((500 : Int) < t.size) = false := decide_eq_false (by omega)
  have z10 : (⟨#[10]⟩ : ByteArray).size = 1 := rfl
  have hcat1 := fun wx => run_string_add_sum (P := Tryd.prog) wx s ⟨#[10]⟩ (by omega)
  have hu1s : (s ++ ⟨#[10]⟩ : ByteArray).size = s.size + 1 := ByteArray.size_append
  have hcat2 := fun wx => run_string_add_sum (P := Tryd.prog) wx (s ++ ⟨#[10]⟩) t (by omega)
  have hus : (s ++ ⟨#[10]⟩ ++ t : ByteArray).size = s.size + 1 + t.size := by rw [ByteArray.size_append, hu1s]
  have hud : (s ++ ⟨#[10]⟩ ++ t : ByteArray).data.toList = s.data.toList ++ 10 :: t.data.toList := by
    rw [ByteArray.data_append, ByteArray.data_append, Array.toList_append, Array.toList_append, List.append_assoc]
    rfl
  have hcat3 := fun wx => run_string_add_sum (P := Tryd.prog) wx s t (by omega)
  have hvs : (s ++ t).size = s.size + t.size := ByteArray.size_append
  have hvd : (s ++ t).data.toList = s.data.toList ++ t.data.toList := by rw [ByteArray.data_append, Array.toList_append]
  have hcv := fun wx => Lib.run_convert_string_bytes (P := Tryd.prog) wx 9 22 5 (s ++ ⟨#[10]⟩ ++ t) Tryd.underlying9 Tryd.underlying22 Tryd.underlying5
  have hrd := fun wx => bytes_read wx (s ++ ⟨#[10]⟩ ++ t)
  generalize s ++ t = v at *
  generalize s ++ ⟨#[10]⟩ ++ t = u at *
  generalize s ++ ⟨#[10]⟩ = u1 at *
  have hus2 : u.size ≤ 1001 := by omega
  have hvs2 : v.size ≤ 1000 := by omega
  have HUL : Hid (u.data.toList.length = u.size) := by show _ = _; rw [Array.length_toList]; rfl
  have HR : Hid (∀ wx : World, Rd (Lib.bytesWorld wx 5 u) (wx.heap.size + 1) (some ⟨wx.heap.size, 0, none⟩) u.data.toList ∧ wx.grownBy (Lib.bytesWorld wx 5 u) none) := hrd
  have HUF : Hid (isNm u.data.toList = false) := by show _ = _; rw [hud]; exact isNm_ten _ _
  have HT : Hid (Tabs w) := hT
  have hok := nameS_ok u.data.toList
  have hnd := nameS_named s.data.toList t.data.toList
  rw [← hud] at hnd
  have hnl := nlen_le u.data.toList
  have hszs : s.data.toList.length = s.size := by rw [Array.length_toList]; rfl
  have hszt : t.data.toList.length = t.size := by rw [Array.length_toList]; rfl
  have happ := isNm_app s.data.toList t.data.toList
  rw [← hvd, hszs, hszt] at happ
  obtain ⟨⟨x0, m0, e0⟩, hn0⟩ : ∃ r, nameS u.data.toList = r := ⟨_, rfl⟩
  have hx0 : x0.length ≤ u.size := by
    have : x0 = (nameS u.data.toList).1 := by rw [hn0]
    rw [this]
    unfold nameS
    split
    · simp only [List.length_take]; rw [HUL.out]; omega
    · simp
  rw [hn0] at hok hnd
  simp only at hok
  obtain ⟨X, hX⟩ : ∃ X : ByteArray, X = ⟨x0.toArray⟩ := ⟨_, rfl⟩
  have hXs : X.size ≤ 1001 := by rw [hX]; show x0.toArray.size ≤ _; simp only [List.size_toArray]; omega
  have hXd : X.data.toList = x0 := by rw [hX]
  have HXX : Hid (X = ⟨x0.toArray⟩) := hX
  have HXD : Hid (X.data.toList = x0) := hXd
  clear hud hvd hrd hnl hX hXd hT hus hvs hu1s
  cases hx : isNm s.data.toList with
  | false =>
    have HX : Hid (isNm s.data.toList = false) := hx
    obtain ⟨yv, hy⟩ : ∃ yv, isNm t.data.toList = yv := ⟨_, rfl⟩
    have HY : Hid (isNm t.data.toList = yv) := hy
    clear hnd happ hx hy
    rcases hok with ⟨rfl, hxn⟩ | ⟨rfl, _⟩
    · have HN : Hid (nameS u.data.toList = (x0, m0, 0)) := hn0
      have HXN : Hid (isNm X.data.toList = true) := by show _ = _; rw [HXD.out]; exact hxn
      clear hn0 hxn
      go_enter Tryd.func8, Tryd.ntmps8
      go_wp2_with fail
      refine cS.mono ?_; rintro e w1 ⟨rfl, b1⟩
      have z1 := b1.size
      clear cS
      go_wp2_with fail
      refine (IsNameB s _ (by omega) (HT.out.below b1) false HX.out).mono ?_; rintro e w2 ⟨rfl, hb2⟩
      have b2 := b1.trans (hb2.mono z1)
      have z2 := b2.size
      go_wp2_with fail
      refine (IsNameB t _ (by omega) (HT.out.below b2) yv HY.out).mono ?_; rintro e w3 ⟨rfl, hb3⟩
      have b3 := b2.trans (hb3.mono z2)
      have z3 := b3.size
      clear hb2 hb3
      obtain ⟨r4, g4⟩ := HR.out w3
      have b4 : Below w.heap.size w (Lib.bytesWorld w3 5 u) := b3.grown g4 z3 (fun k hk => by cases hk)
      have z4 := b4.size
      go_wp2_with fail
      refine (NameJ _ _ _ u.data.toList _ _ r4 (by rw [HUL.out]; exact grownCap_ge _ _ _ _) (grownCap_le_maxLen _ _ _ _ (by unfold maxLen; omega)) (fun h => by cases h) (HT.out.below b4) HUL.out.symm x0 m0 0 HN.out X HXX.out).mono ?_; rintro e w5 ⟨rfl, hb5⟩
      have b5 := b4.trans (hb5.mono z4)
      have z5 := b5.size
      clear hb5 r4 g4 b4 z4
      go_wp2_with fail
      refine (IsNameRB s _ (by omega) false HX.out).mono ?_; rintro e w6 ⟨rfl, rfl⟩
      go_wp2_with fail
      refine (IsNameB u _ (by omega) (HT.out.below b5) false HUF.out).mono ?_; rintro e w7 ⟨rfl, hb7⟩
      have b7 := b5.trans (hb7.mono z5)
      have z7 := b7.size
      clear hb7
      go_wp2_with fail
      refine (IsNameB X _ (by omega) (HT.out.below b7) true HXN.out).mono ?_; rintro e w8 ⟨rfl, hb8⟩
      have b8 := b7.trans (hb8.mono z7)
      go_wp2
      go_ret
      exact ⟨rfl, b8⟩
    · have HN : Hid (nameS u.data.toList = (x0, m0, 2)) := hn0
      clear hn0
      go_enter Tryd.func8, Tryd.ntmps8
      go_wp2_with fail
      refine cS.mono ?_; rintro e w1 ⟨rfl, b1⟩
      have z1 := b1.size
      clear cS
      go_wp2_with fail
      refine (IsNameB s _ (by omega) (HT.out.below b1) false HX.out).mono ?_; rintro e w2 ⟨rfl, hb2⟩
      have b2 := b1.trans (hb2.mono z1)
      have z2 := b2.size
      go_wp2_with fail
      refine (IsNameB t _ (by omega) (HT.out.below b2) yv HY.out).mono ?_; rintro e w3 ⟨rfl, hb3⟩
      have b3 := b2.trans (hb3.mono z2)
      have z3 := b3.size
      clear hb2 hb3
      obtain ⟨r4, g4⟩ := HR.out w3
      have b4 : Below w.heap.size w (Lib.bytesWorld w3 5 u) := b3.grown g4 z3 (fun k hk => by cases hk)
      have z4 := b4.size
      go_wp2_with fail
      refine (NameJ _ _ _ u.data.toList _ _ r4 (by rw [HUL.out]; exact grownCap_ge _ _ _ _) (grownCap_le_maxLen _ _ _ _ (by unfold maxLen; omega)) (fun h => by cases h) (HT.out.below b4) HUL.out.symm x0 m0 2 HN.out X HXX.out).mono ?_; rintro e w5 ⟨rfl, hb5⟩
      have b5 := b4.trans (hb5.mono z4)
      have z5 := b5.size
      clear hb5 r4 g4 b4 z4
      go_wp2_with fail
      refine (IsNameRB s _ (by omega) false HX.out).mono ?_; rintro e w6 ⟨rfl, rfl⟩
      go_wp2_with fail
      refine (IsNameB u _ (by omega) (HT.out.below b5) false HUF.out).mono ?_; rintro e w7 ⟨rfl, hb7⟩
      have b7 := b5.trans (hb7.mono z5)
      have z7 := b7.size
      clear hb7
      go_wp2
      go_ret
      exact ⟨rfl, b7⟩
  | true =>
    have HX : Hid (isNm s.data.toList = true) := hx
    have hnd' := hnd hx
    simp only [Prod.mk.injEq] at hnd'
    obtain ⟨hx0s, hm0, rfl⟩ := hnd'
    have HN : Hid (nameS u.data.toList = (x0, m0, 0)) := hn0
    have HXN : Hid (isNm X.data.toList = true) := by show _ = _; rw [HXD.out, hx0s]; exact hx
    have hXsz : (X.toList == s.toList) = true := by rw [beq_iff_eq, toList_data, toList_data, HXD.out, hx0s]
    have hmm : ((m0 : Int) == (s.size : Int)) = true := by rw [beq_iff_eq, hm0, hszs]
    have hap := happ hx
    clear hok hn0 hnd hx hx0s hm0 happ
    cases hy : isNm t.data.toList with
    | false =>
      have HY : Hid (isNm t.data.toList = false) := hy
      clear hy hap
      go_enter Tryd.func8, Tryd.ntmps8
      go_wp2_with fail
      refine cS.mono ?_; rintro e w1 ⟨rfl, b1⟩
      have z1 := b1.size
      clear cS
      go_wp2_with fail
      refine (IsNameB s _ (by omega) (HT.out.below b1) true HX.out).mono ?_; rintro e w2 ⟨rfl, hb2⟩
      have b2 := b1.trans (hb2.mono z1)
      have z2 := b2.size
      go_wp2_with fail
      refine (IsNameB t _ (by omega) (HT.out.below b2) false HY.out).mono ?_; rintro e w3 ⟨rfl, hb3⟩
      have b3 := b2.trans (hb3.mono z2)
      have z3 := b3.size
      clear hb2 hb3
      obtain ⟨r4, g4⟩ := HR.out w3
      have b4 : Below w.heap.size w (Lib.bytesWorld w3 5 u) := b3.grown g4 z3 (fun k hk => by cases hk)
      have z4 := b4.size
      go_wp2_with fail
      refine (NameJ _ _ _ u.data.toList _ _ r4 (by rw [HUL.out]; exact grownCap_ge _ _ _ _) (grownCap_le_maxLen _ _ _ _ (by unfold maxLen; omega)) (fun h => by cases h) (HT.out.below b4) HUL.out.symm x0 m0 0 HN.out X HXX.out).mono ?_; rintro e w5 ⟨rfl, hb5⟩
      have b5 := b4.trans (hb5.mono z4)
      have z5 := b5.size
      clear hb5 r4 g4 b4 z4
      go_wp2_with fail
      refine (IsNameRB s _ (by omega) true HX.out).mono ?_; rintro e w6 ⟨rfl, rfl⟩
      go_wp2_with fail
      refine (IsNameB u _ (by omega) (HT.out.below b5) false HUF.out).mono ?_; rintro e w7 ⟨rfl, hb7⟩
      have b7 := b5.trans (hb7.mono z5)
      have z7 := b7.size
      clear hb7
      go_wp2_with fail
      refine (IsNameB X _ (by omega) (HT.out.below b7) true HXN.out).mono ?_; rintro e w8 ⟨rfl, hb8⟩
      have b8 := b7.trans (hb8.mono z7)
      go_wp2
      go_ret
      exact ⟨rfl, b8⟩
    | true =>
      have HY : Hid (isNm t.data.toList = true) := hy
      by_cases h40 : s.size + t.size ≤ 40
      · have HVN : Hid (isNm v.data.toList = true) := hap hy h40
        have h40' : (s.size : Int) + t.size ≤ 40 := by omega
        clear hy hap
        go_enter Tryd.func8, Tryd.ntmps8
        go_wp2_with fail
        refine cS.mono ?_; rintro e w1 ⟨rfl, b1⟩
        have z1 := b1.size
        clear cS
        go_wp2_with fail
        refine (IsNameB s _ (by omega) (HT.out.below b1) true HX.out).mono ?_; rintro e w2 ⟨rfl, hb2⟩
        have b2 := b1.trans (hb2.mono z1)
        have z2 := b2.size
        go_wp2_with fail
        refine (IsNameB t _ (by omega) (HT.out.below b2) true HY.out).mono ?_; rintro e w3 ⟨rfl, hb3⟩
        have b3 := b2.trans (hb3.mono z2)
        have z3 := b3.size
        clear hb2 hb3
        obtain ⟨r4, g4⟩ := HR.out w3
        have b4 : Below w.heap.size w (Lib.bytesWorld w3 5 u) := b3.grown g4 z3 (fun k hk => by cases hk)
        have z4 := b4.size
        go_wp2_with fail
        refine (NameJ _ _ _ u.data.toList _ _ r4 (by rw [HUL.out]; exact grownCap_ge _ _ _ _) (grownCap_le_maxLen _ _ _ _ (by unfold maxLen; omega)) (fun h => by cases h) (HT.out.below b4) HUL.out.symm x0 m0 0 HN.out X HXX.out).mono ?_; rintro e w5 ⟨rfl, hb5⟩
        have b5 := b4.trans (hb5.mono z4)
        have z5 := b5.size
        clear hb5 r4 g4 b4 z4
        go_wp2_with fail
        refine (IsNameRB s _ (by omega) true HX.out).mono ?_; rintro e w6 ⟨rfl, rfl⟩
        go_wp2_with fail
        refine (IsNameB v _ (by omega) (HT.out.below b5) true HVN.out).mono ?_; rintro e w6 ⟨rfl, hb6⟩
        have b6 := b5.trans (hb6.mono z5)
        have z6 := b6.size
        clear hb6
        go_wp2_with fail
        refine (IsNameB u _ (by omega) (HT.out.below b6) false HUF.out).mono ?_; rintro e w7 ⟨rfl, hb7⟩
        have b7 := b6.trans (hb7.mono z6)
        have z7 := b7.size
        clear hb7
        go_wp2_with fail
        refine (IsNameB X _ (by omega) (HT.out.below b7) true HXN.out).mono ?_; rintro e w8 ⟨rfl, hb8⟩
        have b8 := b7.trans (hb8.mono z7)
        go_wp2
        go_ret
        exact ⟨rfl, b8⟩
      · have h40' : decide ((s.size : Int) + t.size ≤ 40) = false := decide_eq_false (by omega)
        clear hy hap
        go_enter Tryd.func8, Tryd.ntmps8
        go_wp2_with fail
        refine cS.mono ?_; rintro e w1 ⟨rfl, b1⟩
        have z1 := b1.size
        clear cS
        go_wp2_with fail
        refine (IsNameB s _ (by omega) (HT.out.below b1) true HX.out).mono ?_; rintro e w2 ⟨rfl, hb2⟩
        have b2 := b1.trans (hb2.mono z1)
        have z2 := b2.size
        go_wp2_with fail
        refine (IsNameB t _ (by omega) (HT.out.below b2) true HY.out).mono ?_; rintro e w3 ⟨rfl, hb3⟩
        have b3 := b2.trans (hb3.mono z2)
        have z3 := b3.size
        clear hb2 hb3
        obtain ⟨r4, g4⟩ := HR.out w3
        have b4 : Below w.heap.size w (Lib.bytesWorld w3 5 u) := b3.grown g4 z3 (fun k hk => by cases hk)
        have z4 := b4.size
        go_wp2_with fail
        refine (NameJ _ _ _ u.data.toList _ _ r4 (by rw [HUL.out]; exact grownCap_ge _ _ _ _) (grownCap_le_maxLen _ _ _ _ (by unfold maxLen; omega)) (fun h => by cases h) (HT.out.below b4) HUL.out.symm x0 m0 0 HN.out X HXX.out).mono ?_; rintro e w5 ⟨rfl, hb5⟩
        have b5 := b4.trans (hb5.mono z4)
        have z5 := b5.size
        clear hb5 r4 g4 b4 z4
        go_wp2_with fail
        refine (IsNameRB s _ (by omega) true HX.out).mono ?_; rintro e w6 ⟨rfl, rfl⟩
        go_wp2_with fail
        refine (IsNameB u _ (by omega) (HT.out.below b5) false HUF.out).mono ?_; rintro e w7 ⟨rfl, hb7⟩
        have b7 := b5.trans (hb7.mono z5)
        have z7 := b7.size
        clear hb7
        go_wp2_with fail
        refine (IsNameB X _ (by omega) (HT.out.below b7) true HXN.out).mono ?_; rintro e w8 ⟨rfl, hb8⟩
        have b8 := b7.trans (hb8.mono z7)
        go_wp2
        go_ret
        exact ⟨rfl, b8⟩
end Go.Proofs.YtfimacfpgcdekaaDoor
