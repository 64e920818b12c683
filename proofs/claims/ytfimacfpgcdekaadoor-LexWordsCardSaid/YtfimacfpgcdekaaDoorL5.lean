/-
  The statement LexWords over the translated program: the call returns true, for every slice, place and two words, under the two tables of unicode/utf8 as its text lays them; nothing that was there is changed.
-/
import Derived.Test.YtfimacfpgcdekaaDoorW9
set_option linter.unusedVariables false
namespace Go.Proofs.YtfimacfpgcdekaaDoor
open Go.RowKit
theorem isB_empty (l : List UInt8) (k : Nat) : isB l k ⟨#[]⟩ = true := by
  have : (⟨#[]⟩ : ByteArray).size = 0 := rfl
  unfold isB; rw [this]; rfl
theorem data_append (s t : ByteArray) : (s ++ t).data.toList = s.data.toList ++ t.data.toList := by
  rw [ByteArray.data_append, Array.toList_append]
theorem isB_append (l : List UInt8) (k : Nat) (s t : ByteArray) : isB l k (s ++ t) = (isB l k s && isB l (k + s.size) t) := by
  unfold isB
  rw [ByteArray.size_append, data_append, List.take_add, List.drop_drop, Bool.eq_iff_iff]
  simp only [beq_iff_eq, Bool.and_eq_true]
  constructor
  · intro h
    have hl := congrArg List.length h
    simp only [List.length_append, List.length_take, List.length_drop, Array.length_toList] at hl
    have z1 : s.data.size = s.size := rfl
    have z2 : t.data.size = t.size := rfl
    exact List.append_inj h (by simp only [List.length_take, List.length_drop, Array.length_toList]; omega)
  · rintro ⟨h1, h2⟩; rw [h1, h2]
theorem isB_own (l : List UInt8) (k : Nat) (hk : k ≤ l.length) (s t : ByteArray) : isB (l.take k ++ (s ++ t).data.toList) k s = true := by
  unfold isB
  rw [List.drop_append_of_le_length (by simp; omega)]
  rw [List.drop_of_length_le (by simp; omega), List.nil_append, data_append, List.take_append_of_le_length (by simp), beq_iff_eq]
  rw [List.take_of_length_le (by simp)]

theorem bytes_rd (w : World) (s : ByteArray) : Rd (Lib.bytesWorld w 5 s) (w.heap.size + 1) (some ⟨w.heap.size, 0, none⟩) s.data.toList ∧ w.grownBy (Lib.bytesWorld w 5 s) none := by
  constructor
  · intro i hi
    refine ⟨_, rfl, by simp, ?_⟩
    have e : (⟨w.heap.size, 0, none⟩ : Addr).add i = ⟨w.heap.size, i, none⟩ := by unfold Addr.add; split <;> simp_all
    rw [e]
    exact Lib.bytesWorld_cell w 5 s i hi
  · exact ⟨rfl, rfl, rfl, by rw [Lib.bytesWorld_size]; omega, fun k hk _ => Lib.bytesWorld_at_old w 5 s k hk⟩
theorem Is_yesI (A : Option Addr) (c k : Nat) (kk : Int) (hkk : kk = (k : Int)) (l : List UInt8) (s : ByteArray) (B : Nat) (w : World) (h : Rd w B A l) (hk : k ≤ l.length) (hn : l.length ≤ c) (hc : c ≤ maxLen) (heq : isB l k s = true) :
    Calls Tryd.prog 23 #[.slice A l.length c, .int .i64 kk, .string s] w fun e w' => e = .returned (.tuple #[.int .i64 (kk + s.size), .bool true]) ∧ w = w' := by
  subst hkk; exact Is_yes A c k l s B w h hk hn hc heq
theorem Is_noI (A : Option Addr) (c k : Nat) (kk : Int) (hkk : kk = (k : Int)) (l : List UInt8) (s : ByteArray) (B : Nat) (w : World) (h : Rd w B A l) (hk : k ≤ l.length) (hn : l.length ≤ c) (hc : c ≤ maxLen) (hs : s.size ≤ maxLen) (heq : isB l k s = false) :
    Calls Tryd.prog 23 #[.slice A l.length c, .int .i64 kk, .string s] w fun e w' => e = .returned (.tuple #[.int .i64 kk, .bool false]) ∧ w = w' := by
  subst hkk; exact Is_no A c k l s B w h hk hn hc hs heq
/-- What the statement is asked of, in memory. -/
def WordsIn (A : Option Addr) (n c : Nat) (at_ : Int) (s t : ByteArray) : Value := .agg #[.slice A n c, .int .i64 at_, .string s, .string t]
set_option maxRecDepth 100000 in
set_option maxHeartbeats 1600000 in
theorem LexWords_long (A : Option Addr) (n c : Nat) (at_ : Int) (s t : ByteArray) (w : World) (hT : Tabs w) (hl : 500 < n ∨ 200 < s.size ∨ 200 < t.size) :
    Calls Tryd.prog 7 #[.agg #[.slice A n c, .int .i64 at_, .string s, .string t]] w fun e w' => e = .returned (.bool true) ∧ Below w.heap.size w w' := by
  have b0 : Below w.heap.size w (w.alloc (.cells #[.slice A n c, .int .i64 at_, .string s, .string t] 50)) := (Below.refl _ _).alloc (Nat.le_refl _) _
  have cS := shown_any (w.alloc (.cells #[.slice A n c, .int .i64 at_, .string s, .string t] 50)) (hT.below b0)
  have hcase : (decide ((500 : Int) < n) = true) ∨ (decide ((500 : Int) < n) = false ∧ decide ((200 : Int) < s.size) = true) ∨ (decide ((500 : Int) < n) = false ∧ decide ((200 : Int) < s.size) = false ∧ decide ((200 : Int) < t.size) = true) := by
    simp only [decide_eq_true_eq, decide_eq_false_iff_not]; omega
  clear hl hT
  rcases hcase with g0 | ⟨g1, g2⟩ | ⟨g1, g2, g3⟩
  all_goals
    go_enter Tryd.func7, Tryd.ntmps7
    go_wp2_with fail
    refine cS.mono ?_; rintro e w1 ⟨rfl, hb⟩
    have b1 := b0.trans (hb.mono b0.size)
    clear hb b0 cS
    go_wp2
    go_ret
    exact ⟨rfl, b1⟩
set_option maxRecDepth 100000 in
set_option maxHeartbeats 1600000 in
theorem LexWords_out (A : Option Addr) (n c : Nat) (at_ : Int) (s t : ByteArray) (w : World) (hT : Tabs w)
    (h1 : at_ < 0 ∨ (n : Int) < at_) (hl : n ≤ 500) (hs2 : s.size ≤ 200) (ht2 : t.size ≤ 200) :
    Calls Tryd.prog 7 #[.agg #[.slice A n c, .int .i64 at_, .string s, .string t]] w fun e w' => e = .returned (.bool true) ∧ Below w.heap.size w w' := by
  have b0 : Below w.heap.size w (w.alloc (.cells #[.slice A n c, .int .i64 at_, .string s, .string t] 50)) := (Below.refl _ _).alloc (Nat.le_refl _) _
  have cS := shown_any (w.alloc (.cells #[.slice A n c, .int .i64 at_, .string s, .string t] 50)) (hT.below b0)
  have HK : Hid (at_ < 0 ∨ (n : Int) < at_) := h1
  have d1 : decide ((500 : Int) < n) = false := decide_eq_false (by omega)
  have d2 : decide ((200 : Int) < s.size) = false := decide_eq_false (by omega)
  have d3 : decide ((200 : Int) < t.size) = false := decide_eq_false (by omega)
  have hcat := fun wx => run_string_add_sum (P := Tryd.prog) wx s t (by omega)
  generalize s ++ t = u at *
  have hcase : (at_ < 0 ∧ decide (at_ < 0) = true) ∨ (decide (at_ < 0) = false ∧ decide ((n : Int) < at_) = true) := by
    by_cases h : at_ < 0
    · exact .inl ⟨h, decide_eq_true h⟩
    · exact .inr ⟨decide_eq_false h, decide_eq_true (by omega)⟩
  clear h1 hl hs2 ht2 hT
  rcases hcase with ⟨g0, g1⟩ | ⟨g1, g2⟩
  all_goals
    go_enter Tryd.func7, Tryd.ntmps7
    go_wp2_with fail
    refine cS.mono ?_; rintro e w1 ⟨rfl, hb⟩
    have b1 := b0.trans (hb.mono b0.size)
    clear hb b0 cS
    go_wp2_with fail
    refine (Is_out _ _ _ _ _ _ HK.out).mono ?_; rintro e w2 ⟨rfl, rfl⟩
    go_wp2_with fail
    refine (Is_out _ _ _ _ _ _ HK.out).mono ?_; rintro e w2 ⟨rfl, rfl⟩
    go_wp2_with fail
    refine (Is_out _ _ _ _ _ _ HK.out).mono ?_; rintro e w2 ⟨rfl, rfl⟩
    go_wp2
    go_ret
    exact ⟨rfl, b1⟩
set_option maxRecDepth 100000 in
set_option maxHeartbeats 4000000 in
theorem LexWords_in (A : Option Addr) (c k : Nat) (l : List UInt8) (s t : ByteArray) (w : World) (h : Rd w w.heap.size A l) (hn : l.length ≤ c) (hc : c ≤ maxLen) (hA : A = none → c = 0) (hT : Tabs w)
    (hk : k ≤ l.length) (hl : l.length ≤ 500) (hs2 : s.size ≤ 200) (ht2 : t.size ≤ 200) :
    Calls Tryd.prog 7 #[.agg #[.slice A l.length c, .int .i64 k, .string s, .string t]] w fun e w' => e = .returned (.bool true) ∧ Below w.heap.size w w' := by
  have b0 : Below w.heap.size w (w.alloc (.cells #[.slice A l.length c, .int .i64 k, .string s, .string t] 50)) := (Below.refl _ _).alloc (Nat.le_refl _) _
  have cS := shown_any (w.alloc (.cells #[.slice A l.length c, .int .i64 k, .string s, .string t] 50)) (hT.below b0)
  have d1 : decide ((500 : Int) < l.length) = false := decide_eq_false (by omega)
  have d2 : decide ((200 : Int) < s.size) = false := decide_eq_false (by omega)
  have d3 : decide ((200 : Int) < t.size) = false := decide_eq_false (by omega)
  have d4 : decide ((k : Int) < 0) = false := decide_eq_false (by omega)
  have d5 : decide (l.length < k) = false := decide_eq_false (by omega)
  have hcat := fun wx => run_string_add_sum (P := Tryd.prog) wx s t (by omega)
  have hap := isB_append l k s t
  have hown0 := isB_own l k hk s t
  have hus : (s ++ t).size = s.size + t.size := ByteArray.size_append
  have hsl := fun wx => slice_h A l.length c k (by omega) wx
  have hcv := fun wx => Lib.run_convert_string_bytes (P := Tryd.prog) wx 9 22 5 (s ++ t) Tryd.underlying9 Tryd.underlying22 Tryd.underlying5
  have hrd2 := fun wx => (bytes_rd wx (s ++ t))
  generalize s ++ t = u at *
  have hus2 : u.size ≤ 400 := by omega
  have hul : u.data.toList.length = u.size := by simp only [Array.length_toList]; rfl
  have HU : Hid (u.size = s.size + t.size) := hus
  have HO : Hid (isB (l.take k ++ u.data.toList) k s = true) := hown0
  have HP : Hid (isB l k u = (isB l k s && isB l (k + s.size) t)) := hap
  have HT : Hid (Tabs w) := hT
  have HUL : Hid (u.data.toList.length = u.size) := hul
  have HR : Hid (∀ wx : World, Rd (Lib.bytesWorld wx 5 u) (wx.heap.size + 1) (some ⟨wx.heap.size, 0, none⟩) u.data.toList ∧ wx.grownBy (Lib.bytesWorld wx 5 u) none) := hrd2
  clear hus hown0 hap hT hul hrd2
  go_enter Tryd.func7, Tryd.ntmps7
  go_wp2_with fail
  refine cS.mono ?_; rintro e w1 ⟨rfl, hb⟩
  have b1 := b0.trans (hb.mono b0.size)
  have r1 := h.below b1
  clear hb b0 cS
  have z1 := b1.size
  have hS : s.size ≤ maxLen := by unfold maxLen; omega
  have hTt : t.size ≤ maxLen := by unfold maxLen; omega
  have hU : u.size ≤ maxLen := by unfold maxLen; omega
  cases his : isB l k s with
  | true =>
    go_wp2_with fail
    refine (Is_yes A c k l s _ _ r1 hk hn hc his).mono ?_; rintro e w2 ⟨rfl, rfl⟩
    have hks := isB_len his
    have e2 : isB l k u = isB l (k + s.size) t := by rw [HP.out, his, Bool.true_and]
    have HI : Hid (isB l k s = true) := his
    clear his
    cases hth : isB l (k + s.size) t with
    | true =>
      rw [hth] at e2
      have HE : Hid (isB l k u = true) := e2
      have HTh : Hid (isB l (k + s.size) t = true) := hth
      clear e2 hth
      go_wp2_with fail
      refine (Is_yes A c k l u _ _ r1 hk hn hc HE.out).mono ?_; rintro e w2 ⟨rfl, rfl⟩
      go_wp2_with fail
      refine (Is_yes A c k l ⟨#[]⟩ _ _ r1 hk hn hc (isB_empty l k)).mono ?_; rintro e w2 ⟨rfl, rfl⟩
      go_wp2_with fail
      refine (Is_yesI A c (k + s.size) _ (by omega) l t _ _ r1 (by omega) hn hc HTh.out).mono ?_; rintro e w2 ⟨rfl, rfl⟩
      have hA0 : cutA A c 0 = none → c = 0 := fun h => by have := cutA_none (k := 0) hA h; omega
      have r2 : Rd (w1.alloc (.cells #[] 5)) w.heap.size (cutA A c 0) (l.take k) := (r1.below ((Below.refl _ _).alloc z1 _)).cut (k := 0) (m := k) hn
      have o2 := Own.lit0 w1 w.heap.size z1
      go_wp2_with (at_builtin; refine wpList_app rfl (.tmp 96) (.tmp 99) rfl w.heap.size _ [] rfl o2 w.heap.size (cutA A c 0) k c (l.take k) rfl ?m1 r2 hA0 ?m2 ?m3 ?_)
      case m1 => simp; omega
      case m2 => simp; omega
      case m3 => simp; omega
      intro v1 w3 o3 g3
      have b3 : Below w.heap.size w w3 := (b1.alloc z1 _).grown g3 (by simp; omega) (fun k hk => by simp [Value.ownBlock] at hk; omega)
      have z3 := b3.size
      obtain ⟨r3, g4⟩ := HR.out w3
      have o4 := o3.old g4
      have b4 : Below w.heap.size w (Lib.bytesWorld w3 5 u) := b3.grown g4 z3 (fun k hk => by cases hk)
      have z4 := b4.size
      clear o2 r2 g3 hA0
      go_wp2_with (at_builtin; refine wpList_app rfl (.tmp 100) (.tmp 104) rfl w.heap.size _ (l.take k) rfl o4 _ _ u.size _ u.data.toList rfl ?m1 r3 ?m2 ?m3 z4 ?_)
      case m1 => exact HUL.out.symm
      case m2 => intro h; cases h
      case m3 => rw [HUL.out]; simp; omega
      intro v2 w5 o5 g5
      have b5 : Below w.heap.size w w5 := b4.grown g5 z4 (fun k hk => (o4.lt k hk).1)
      obtain ⟨A5, c5, hv5, r5, n5, m5, q5⟩ := o5.form
      have HV : Hid ((l.take k ++ u.data.toList).length = k + u.size) := by show _ = _; rw [List.length_append, HUL.out, List.length_take]; omega
      have cI := Is_yes A5 c5 k _ s _ _ r5 (by rw [HV.out]; omega) n5 m5 HO.out
      rw [HV.out] at cI hv5
      rw [hv5]
      clear o5 g5 o4 g4 r3 o3 hv5 r5 n5 m5 q5
      go_wp2_with fail
      refine cI.mono ?_; rintro e w2 ⟨rfl, rfl⟩
      have hue : Hid ((k : Int) + u.size = (k : Int) + s.size + t.size) := by have := HU.out; show _ = _; omega
      have hke : ((k : Int) + s.size == (k : Int) + s.size) = true := by simp
      clear cI
      have hue2 : ((k : Int) + u.size == (k : Int) + s.size + t.size) = true := by rw [beq_iff_eq]; exact hue.out
      go_wp2
      go_ret
      exact ⟨rfl, b5⟩
    | false =>
      rw [hth] at e2
      have HE : Hid (isB l k u = false) := e2
      have HTh : Hid (isB l (k + s.size) t = false) := hth
      clear e2 hth
      go_wp2_with fail
      refine (Is_no A c k l u _ _ r1 hk hn hc hU HE.out).mono ?_; rintro e w2 ⟨rfl, rfl⟩
      go_wp2_with fail
      refine (Is_yes A c k l ⟨#[]⟩ _ _ r1 hk hn hc (isB_empty l k)).mono ?_; rintro e w2 ⟨rfl, rfl⟩
      go_wp2_with fail
      refine (Is_noI A c (k + s.size) _ (by omega) l t _ _ r1 (by omega) hn hc hTt HTh.out).mono ?_; rintro e w2 ⟨rfl, rfl⟩
      have hA0 : cutA A c 0 = none → c = 0 := fun h => by have := cutA_none (k := 0) hA h; omega
      have r2 : Rd (w1.alloc (.cells #[] 5)) w.heap.size (cutA A c 0) (l.take k) := (r1.below ((Below.refl _ _).alloc z1 _)).cut (k := 0) (m := k) hn
      have o2 := Own.lit0 w1 w.heap.size z1
      go_wp2_with (at_builtin; refine wpList_app rfl (.tmp 96) (.tmp 99) rfl w.heap.size _ [] rfl o2 w.heap.size (cutA A c 0) k c (l.take k) rfl ?m1 r2 hA0 ?m2 ?m3 ?_)
      case m1 => simp; omega
      case m2 => simp; omega
      case m3 => simp; omega
      intro v1 w3 o3 g3
      have b3 : Below w.heap.size w w3 := (b1.alloc z1 _).grown g3 (by simp; omega) (fun k hk => by simp [Value.ownBlock] at hk; omega)
      have z3 := b3.size
      obtain ⟨r3, g4⟩ := HR.out w3
      have o4 := o3.old g4
      have b4 : Below w.heap.size w (Lib.bytesWorld w3 5 u) := b3.grown g4 z3 (fun k hk => by cases hk)
      have z4 := b4.size
      clear o2 r2 g3 hA0
      go_wp2_with (at_builtin; refine wpList_app rfl (.tmp 100) (.tmp 104) rfl w.heap.size _ (l.take k) rfl o4 _ _ u.size _ u.data.toList rfl ?m1 r3 ?m2 ?m3 z4 ?_)
      case m1 => exact HUL.out.symm
      case m2 => intro h; cases h
      case m3 => rw [HUL.out]; simp; omega
      intro v2 w5 o5 g5
      have b5 : Below w.heap.size w w5 := b4.grown g5 z4 (fun k hk => (o4.lt k hk).1)
      obtain ⟨A5, c5, hv5, r5, n5, m5, q5⟩ := o5.form
      have HV : Hid ((l.take k ++ u.data.toList).length = k + u.size) := by show _ = _; rw [List.length_append, HUL.out, List.length_take]; omega
      have cI := Is_yes A5 c5 k _ s _ _ r5 (by rw [HV.out]; omega) n5 m5 HO.out
      rw [HV.out] at cI hv5
      rw [hv5]
      clear o5 g5 o4 g4 r3 o3 hv5 r5 n5 m5 q5
      go_wp2_with fail
      refine cI.mono ?_; rintro e w2 ⟨rfl, rfl⟩
      have hue : Hid ((k : Int) + u.size = (k : Int) + s.size + t.size) := by have := HU.out; show _ = _; omega
      have hke : ((k : Int) + s.size == (k : Int) + s.size) = true := by simp
      clear cI
      go_wp2
      go_ret
      exact ⟨rfl, b5⟩
  | false =>
    have e2 : isB l k u = false := by rw [HP.out, his, Bool.false_and]
    go_wp2_with fail
    refine (Is_no A c k l s _ _ r1 hk hn hc hS his).mono ?_; rintro e w2 ⟨rfl, rfl⟩
    have HE : Hid (isB l k u = false) := e2
    clear his e2
    · go_wp2_with fail
      refine (Is_no A c k l u _ _ r1 hk hn hc hU HE.out).mono ?_; rintro e w2 ⟨rfl, rfl⟩
      go_wp2_with fail
      refine (Is_yes A c k l ⟨#[]⟩ _ _ r1 hk hn hc (isB_empty l k)).mono ?_; rintro e w2 ⟨rfl, rfl⟩
      go_wp2_with fail
      refine (Is_any A c k l t _ _ r1 hk hn hc hTt).mono ?_; rintro e w2 ⟨rfl, rfl⟩
      have hA0 : cutA A c 0 = none → c = 0 := fun h => by have := cutA_none (k := 0) hA h; omega
      have r2 : Rd (w1.alloc (.cells #[] 5)) w.heap.size (cutA A c 0) (l.take k) := (r1.below ((Below.refl _ _).alloc z1 _)).cut (k := 0) (m := k) hn
      have o2 := Own.lit0 w1 w.heap.size z1
      go_wp2_with (at_builtin; refine wpList_app rfl (.tmp 96) (.tmp 99) rfl w.heap.size _ [] rfl o2 w.heap.size (cutA A c 0) k c (l.take k) rfl ?m1 r2 hA0 ?m2 ?m3 ?_)
      case m1 => simp; omega
      case m2 => simp; omega
      case m3 => simp; omega
      intro v1 w3 o3 g3
      have b3 : Below w.heap.size w w3 := (b1.alloc z1 _).grown g3 (by simp; omega) (fun k hk => by simp [Value.ownBlock] at hk; omega)
      have z3 := b3.size
      obtain ⟨r3, g4⟩ := HR.out w3
      have o4 := o3.old g4
      have b4 : Below w.heap.size w (Lib.bytesWorld w3 5 u) := b3.grown g4 z3 (fun k hk => by cases hk)
      have z4 := b4.size
      clear o2 r2 g3 hA0
      go_wp2_with (at_builtin; refine wpList_app rfl (.tmp 100) (.tmp 104) rfl w.heap.size _ (l.take k) rfl o4 _ _ u.size _ u.data.toList rfl ?m1 r3 ?m2 ?m3 z4 ?_)
      case m1 => exact HUL.out.symm
      case m2 => intro h; cases h
      case m3 => rw [HUL.out]; simp; omega
      intro v2 w5 o5 g5
      have b5 : Below w.heap.size w w5 := b4.grown g5 z4 (fun k hk => (o4.lt k hk).1)
      obtain ⟨A5, c5, hv5, r5, n5, m5, q5⟩ := o5.form
      have HV : Hid ((l.take k ++ u.data.toList).length = k + u.size) := by show _ = _; rw [List.length_append, HUL.out, List.length_take]; omega
      have cI := Is_yes A5 c5 k _ s _ _ r5 (by rw [HV.out]; omega) n5 m5 HO.out
      rw [HV.out] at cI hv5
      rw [hv5]
      clear o5 g5 o4 g4 r3 o3 hv5 r5 n5 m5 q5
      go_wp2_with fail
      refine cI.mono ?_; rintro e w2 ⟨rfl, rfl⟩
      have hue : Hid ((k : Int) + u.size = (k : Int) + s.size + t.size) := by have := HU.out; show _ = _; omega
      have hke : ((k : Int) + s.size == (k : Int) + s.size) = true := by simp
      clear cI
      have hkk : ((k : Int) == (k : Int)) = true := by simp
      go_wp2
      go_ret
      exact ⟨rfl, b5⟩
end Go.Proofs.YtfimacfpgcdekaaDoor
