/-
  vidimusref01.Name, Take and Put over the translated program: what each returns, as the same plain functions that the project's own calls return.
-/
import Derived.Test.YtfimacfpgcdekaaDoorR3
set_option linter.unusedVariables false
namespace Go.Proofs.YtfimacfpgcdekaaDoor
open Go.RowKit
theorem nlen_yes (l : List UInt8) (k : Nat) (h : k < l.length) (h1 : (l.getD k 0).toNat ≠ 10) : nlen (l.drop k) = nlen (l.drop (k + 1)) + 1 := by
  rw [drop_at l k h]
  unfold nlen
  rw [List.takeWhile_cons_of_pos (p := fun c => c != 10)]
  · rfl
  · rw [bne_iff_ne]; intro e; rw [e] at h1; exact h1 rfl
theorem nlen_no (l : List UInt8) (k : Nat) (h : k < l.length → (l.getD k 0).toNat = 10) : nlen (l.drop k) = 0 := by
  by_cases hk : k < l.length
  · have h := h hk
    rw [drop_at l k hk]
    unfold nlen
    rw [List.takeWhile_cons_of_neg (p := fun c => c != 10)]
    · rfl
    · have : l.getD k 0 = 10 := UInt8.toNat_inj.1 h
      rw [this]; decide
  · rw [List.drop_of_length_le (by omega)]; rfl
set_option maxRecDepth 100000 in
set_option maxHeartbeats 1600000 in
theorem NameR_out (A : Option Addr) (n c : Nat) (k : Int) (w : World) (hk : k < 0 ∨ (n : Int) < k) :
    Calls Tryd.prog 11 #[.slice A n c, .int .i64 k] w fun e w' => e = .returned (.tuple #[.string ⟨#[]⟩, .int .i64 0, .int .i64 2]) ∧ w = w' := by
  have hcase : decide (k < 0) = true ∨ (decide (k < 0) = false ∧ decide ((n : Int) < k) = true) := by
    simp only [decide_eq_true_eq, decide_eq_false_iff_not]; omega
  clear hk
  rcases hcase with g1 | ⟨g1, g2⟩
  all_goals
    go_enter Tryd.func11, Tryd.ntmps11
    go_wp2
    go_ret3
    exact ⟨rfl, rfl⟩
set_option maxRecDepth 100000 in
set_option maxHeartbeats 1600000 in
theorem TakeR_out (A : Option Addr) (n c : Nat) (k : Int) (w : World) (hk : k < 0 ∨ (n : Int) < k) :
    Calls Tryd.prog 13 #[.slice A n c, .int .i64 k] w fun e w' => e = .returned (.tuple #[.int .i64 0, .int .i64 0, .int .i64 2]) ∧ w = w' := by
  have hcase : decide (k < 0) = true ∨ (decide (k < 0) = false ∧ decide ((n : Int) < k) = true) := by
    simp only [decide_eq_true_eq, decide_eq_false_iff_not]; omega
  clear hk
  rcases hcase with g1 | ⟨g1, g2⟩
  all_goals
    go_enter Tryd.func13, Tryd.ntmps13
    go_wp2
    go_ret3
    exact ⟨rfl, rfl⟩
set_option maxRecDepth 100000 in
set_option maxHeartbeats 1600000 in
theorem NameR_any (A : Option Addr) (c k : Nat) (l : List UInt8) (B : Nat) (w : World) (h : Rd w B A l) (hk : k ≤ l.length) (hn : l.length ≤ c) (hc : c ≤ maxLen) (hsm : l.length ≤ 1048576) :
    Calls Tryd.prog 11 #[.slice A l.length c, .int .i64 k] w fun e w' => e = .returned (resS k (nameS (l.drop k))) ∧ w = w' := by
  unfold maxLen at hc
  have g1 : decide ((k : Int) < 0) = false := decide_eq_false (by omega)
  have g2 : decide (l.length < k) = false := decide_eq_false (by omega)
  have hnl := nlen_le (l.drop k)
  simp only [List.length_drop] at hnl
  have hcv := conv_str (cutA A c k) (nlen (l.drop k)) (c - k) ((l.drop k).take (nlen (l.drop k))) B w (h.cut hn) (by simp only [List.length_take, List.length_drop]; omega)
  have cN := IsNameR_any ⟨((l.drop k).take (nlen (l.drop k))).toArray⟩ w (by show ((l.drop k).take (nlen (l.drop k))).toArray.size ≤ _; simp only [List.size_toArray, List.length_take, List.length_drop]; omega)
  simp only at cN
  obtain ⟨T, hT⟩ : ∃ T, k + nlen (l.drop k) = T := ⟨_, rfl⟩
  have hsl := fun wx => slice_lh A l.length c k (nlen (l.drop k)) (T : Int) (by omega) (by omega) wx
  unfold nameS
  have HT : Hid (k + nlen (l.drop k) = T) := hT
  have hTl : T ≤ l.length := by omega
  have hTk : k ≤ T := by omega
  have hres : resS k (if isNm ((l.drop k).take (nlen (l.drop k))) then ((l.drop k).take (nlen (l.drop k)), nlen (l.drop k), 0) else ([], 0, 2)) = if isNm ((l.drop k).take (nlen (l.drop k))) then .tuple #[.string ⟨((l.drop k).take (nlen (l.drop k))).toArray⟩, .int .i64 (T : Int), .int .i64 0] else .tuple #[.string ⟨#[]⟩, .int .i64 (k : Int), .int .i64 2] := by
    split
    · unfold resS; simp only; rw [hT]
    · rfl
  rw [hres]
  clear hT hnl hres
  generalize (l.drop k).take (nlen (l.drop k)) = t at *
  generalize cutA A c k = A' at *
  generalize c - k = c' at *
  obtain ⟨NL, hNL⟩ : ∃ NL, nlen (l.drop k) = NL := ⟨_, rfl⟩
  have HT2 : Hid (k + nlen (l.drop k) = T) := HT
  rw [hNL] at hcv hsl
  clear hNL HT
  have HH : Hid (Rd w B A l) := h
  clear h
  obtain ⟨RV, hRV⟩ : ∃ RV : Value, (if isNm t then .tuple #[.string ⟨t.toArray⟩, .int .i64 (T : Int), .int .i64 0] else .tuple #[.string ⟨#[]⟩, .int .i64 (k : Int), .int .i64 2]) = RV := ⟨_, rfl⟩
  rw [hRV]
  have HRV : Hid ((if isNm t then .tuple #[.string ⟨t.toArray⟩, .int .i64 (T : Int), .int .i64 0] else .tuple #[.string ⟨#[]⟩, .int .i64 (k : Int), .int .i64 2]) = RV) := hRV
  clear hRV
  go_enter Tryd.func11, Tryd.ntmps11
  go_wp2
  go_loop [7] (fun ii => ∃ j : Nat, k ≤ j ∧ j ≤ l.length ∧ ii = .int .i64 j ∧ Hid (j + nlen (l.drop j) = T)) (fun ii => l.length - (intOf ii).toNat)
  case atStart => exact ⟨k, Nat.le_refl _, hk, rfl, HT2⟩
  case round =>
    obtain ⟨j, hkj, hj, rfl, HJ⟩ := hrel
    clear HT2
    by_cases hlt : j < l.length
    · obtain ⟨ad, rfl, _, hcell⟩ := HH.out j hlt
      by_cases h10 : (l.getD j 0).toNat = 10
      · have HE : Hid (j = T) := by have e := HJ.out; rw [nlen_no l j (fun _ => h10)] at e; exact e
        have hE := HE.out
        subst hE
        rw [h10] at hcell
        have hcell' : w.cell? (ad.add j) = some (.int .u8 10) := hcell
        clear hcell HJ h10
        cases hnm : isNm t with
        | true =>
          rw [hnm] at cN
          have HNM : Hid (isNm t = true) := hnm
          clear hnm
          go_wp2_with (go_at_call 15; refine cN.mono ?_; rintro e w' ⟨rfl, rfl⟩)
          go_ret3
          exact ⟨by rw [← HRV.out, HNM.out]; rfl, rfl⟩
        | false =>
          rw [hnm] at cN
          have HNM : Hid (isNm t = false) := hnm
          clear hnm
          go_wp2_with (go_at_call 15; refine cN.mono ?_; rintro e w' ⟨rfl, rfl⟩)
          go_ret3
          exact ⟨by rw [← HRV.out, HNM.out]; rfl, rfl⟩
      · have HE : Hid (j + 1 + nlen (l.drop (j + 1)) = T) := by have e := HJ.out; rw [nlen_yes l j hlt h10] at e; show _ = _; omega
        have hb : (((l.getD j 0).toNat : Int) != 10) = true := by rw [bne_iff_ne]; omega
        generalize (l.getD j 0).toNat = v at *
        clear HJ h10 hsl hcv cN
        go_wp2
        go_round
        case rel => exact ⟨j + 1, by omega, by omega, by go_num, HE⟩
        case measure => simp [intOf]; omega
    · have HE : Hid (j = T) := by have e := HJ.out; rw [nlen_no l j (fun h => absurd h hlt)] at e; exact e
      have hE := HE.out
      subst hE
      clear HJ
      have hlt2 : decide (j < l.length) = false := decide_eq_false hlt
      cases hnm : isNm t with
      | true =>
        rw [hnm] at cN
        have HNM : Hid (isNm t = true) := hnm
        clear hnm
        go_wp2_with (go_at_call 15; refine cN.mono ?_; rintro e w' ⟨rfl, rfl⟩)
        go_ret3
        exact ⟨by rw [← HRV.out, HNM.out]; rfl, rfl⟩
      | false =>
        rw [hnm] at cN
        have HNM : Hid (isNm t = false) := hnm
        clear hnm
        go_wp2_with (go_at_call 15; refine cN.mono ?_; rintro e w' ⟨rfl, rfl⟩)
        go_ret3
        exact ⟨by rw [← HRV.out, HNM.out]; rfl, rfl⟩

theorem pow128 (j : Nat) (h : j ≤ 5) : (2 : Int) ^ (7 * j) ≤ 34359738368 := by
  have : j = 0 ∨ j = 1 ∨ j = 2 ∨ j = 3 ∨ j = 4 ∨ j = 5 := by omega
  rcases this with rfl | rfl | rfl | rfl | rfl | rfl <;> decide
set_option maxRecDepth 100000 in
set_option maxHeartbeats 1600000 in
theorem TakeR_any (A : Option Addr) (c k : Nat) (l : List UInt8) (B : Nat) (w : World) (h : Rd w B A l) (hk : k ≤ l.length) (hn : l.length ≤ c) (hc : c ≤ maxLen) (hsm : l.length ≤ 1048576) :
    Calls Tryd.prog 13 #[.slice A l.length c, .int .i64 k] w fun e w' => e = .returned (res3 k (takeS (l.drop k))) ∧ w = w' := by
  unfold maxLen at hc
  have g1 : decide ((k : Int) < 0) = false := decide_eq_false (by omega)
  have g2 : decide (l.length < k) = false := decide_eq_false (by omega)
  unfold takeS
  obtain ⟨t, ht⟩ : ∃ t, (l.drop k).take 5 = t := ⟨_, rfl⟩
  rw [ht]
  have HTL : Hid (t.length = min 5 (l.length - k)) := by show _ = _; rw [← ht, List.length_take, List.length_drop]
  have HTG : Hid (∀ j, j < t.length → t.getD j 0 = l.getD (k + j) 0) := by
    intro j hj
    have hl := HTL.out
    rw [← ht]
    simp only [List.getD_eq_getElem?_getD, List.getElem?_take, List.getElem?_drop]
    rw [if_pos (by omega)]
  obtain ⟨R, hR⟩ : ∃ R, takeF 0 0 t = R := ⟨_, rfl⟩
  rw [hR]
  have HR : Hid (takeF 0 0 t = R) := hR
  have HH : Hid (Rd w B A l) := h
  clear hR h ht
  go_enter Tryd.func13, Tryd.ntmps13
  go_wp2
  go_loop [7, 8, 9] (fun n o i => ∃ (j : Nat) (m P : Int), j ≤ 5 ∧ j ≤ l.length - k ∧ 0 ≤ m ∧ Hid (m < 2 ^ (7 * j)) ∧ Hid (P = 2 ^ (7 * j)) ∧ i = .int .i64 j ∧ n = .int .i64 m ∧ o = .int .i64 P ∧ Hid (takeF j m (t.drop j) = R)) (fun _ _ i => 5 - (intOf i).toNat)
  case atStart => exact ⟨0, 0, 1, by omega, by omega, by omega, (by decide : (0 : Int) < 2 ^ (7 * 0)), (by decide : (1 : Int) = 2 ^ (7 * 0)), rfl, rfl, rfl, HR⟩
  case round =>
    obtain ⟨j, m, P, hj5, hjl, hm0, hm1, HP, rfl, rfl, rfl, HJ⟩ := hrel
    by_cases hlt : j < 5 ∧ j < l.length - k
    · obtain ⟨hlt5, hltl⟩ := hlt
      have f1 : (j : Int) < 5 := by omega
      have f2 : (j : Int) < (l.length : Int) - k := by omega
      obtain ⟨ad, rfl, hb, hcell⟩ := HH.out (k + j) (by omega)
      have htl : j < t.length := by rw [HTL.out]; omega
      have e := HJ.out
      rw [drop_at t j htl, takeF, HTG.out j htl] at e
      have hv : (l.getD (k + j) 0).toNat < 256 := (l.getD (k + j) 0).toNat_lt
      have hv2 : ((l.getD (k + j) 0).toNat : Int) < 256 := by omega
      generalize (l.getD (k + j) 0).toNat = v at *
      obtain ⟨p0, p1⟩ := pow7 j (by omega)
      have hm1' := hm1.out
      have ps := pow7s j
      have hP := HP.out
      rw [← hP] at e p0 p1 hm1' ps
      have hPn : Hid (P * 128 = 2 ^ (7 * (j + 1))) := by show _ = _; rw [ps]; omega
      obtain ⟨X, hX⟩ : ∃ X, (v : Int) % 128 * P = X := ⟨_, rfl⟩
      rw [hX] at e
      have x0 : 0 ≤ X := by rw [← hX]; exact Int.mul_nonneg (by omega) (by omega)
      have x1 : X ≤ 127 * P := by rw [← hX]; exact Int.mul_le_mul_of_nonneg_right (by omega) (by omega)
      have hnext : Hid (m + X < 2 ^ (7 * (j + 1))) := by show _ < _; rw [ps]; omega
      have x2 : X ≤ 34091302912 := by omega
      have m2 : m ≤ 268435456 := by omega
      clear hm1 hm1' ps x1 HJ HR HP hP HTL HTG HH htl
      by_cases h128 : (128 : Int) ≤ v
      · rw [if_pos (by omega)] at e
        have HE : Hid (takeF (j + 1) (m + X) (t.drop (j + 1)) = R) := e
        have h128' : decide ((v : Int) < 128) = false := decide_eq_false (by omega)
        clear e
        go_wp2
        go_round
        case rel => exact ⟨j + 1, m + X, P * 128, by omega, by omega, by omega, hnext, hPn, by go_num, by go_num, by go_num, HE⟩
        case measure => simp [intOf]; omega
      · rw [if_neg (by omega)] at e
        have h128' : (v : Int) < 128 := by omega
        by_cases hbad : v = 0 ∧ 0 < j ∨ 2147483647 < m + X
        · rw [if_pos hbad] at e
          have HE : Hid (none = R) := e
          clear e
          have c3 : (decide (2147483647 < m + X) = true) ∨ (decide (2147483647 < m + X) = false ∧ 0 < j ∧ ((v : Int) == 0) = true) := by
            by_cases hb : 2147483647 < m + X
            · exact .inl (decide_eq_true hb)
            · exact .inr ⟨decide_eq_false hb, by omega, by rw [beq_iff_eq]; omega⟩
          clear hbad
          rcases c3 with c1 | ⟨c1, c2, c3⟩
          all_goals
            go_wp2
            go_ret3
            exact ⟨by rw [← HE.out]; rfl, rfl⟩
        · rw [if_neg hbad] at e
          have HE : Hid (some (m + X, j + 1) = R) := e
          clear e
          have c1 : decide (2147483647 < m + X) = false := decide_eq_false (by omega)
          have c3 : (0 < j ∧ ((v : Int) == 0) = false) ∨ ¬ 0 < j := by
            by_cases hj0 : 0 < j
            · exact .inl ⟨hj0, by rw [beq_eq_false_iff_ne]; omega⟩
            · exact .inr hj0
          have HK : Hid ((k : Int) + j + 1 = ((k + (j + 1) : Nat) : Int)) := by show _ = _; omega
          clear hbad
          rcases c3 with ⟨c2, c3⟩ | c2
          all_goals
            go_wp2
            go_ret3
            exact ⟨by rw [← HE.out]; show Ending.returned (.tuple #[_, .int .i64 _, _]) = Ending.returned (.tuple #[_, .int .i64 ((k + (j + 1) : Nat) : Int), _]); rw [← HK.out]; rfl, rfl⟩
    · have e := HJ.out
      rw [List.drop_of_length_le (by rw [HTL.out]; omega), takeF] at e
      have HE : Hid (none = R) := e
      have c3 : decide ((j : Int) < 5) = false ∨ ((j : Int) < 5 ∧ decide ((j : Int) < (l.length : Int) - k) = false) := by
        by_cases h5 : j < 5
        · exact .inr ⟨by omega, decide_eq_false (by omega)⟩
        · exact .inl (decide_eq_false (by omega))
      clear e HJ HR HTL HTG hm1 HP hlt
      rcases c3 with c1 | ⟨c1, c2⟩
      all_goals
        go_wp2
        go_ret3
        exact ⟨by rw [← HE.out]; rfl, rfl⟩
theorem bv_moreR (m : Nat) : Value.int .u8 (128 + (m : Int) % 128) = bv (UInt8.ofNat (m % 128 + 128)) := by
  rw [← bv_more, Int.add_comm]
set_option maxHeartbeats 400000 in
theorem PutR_out (n : Int) (w : World) (h : n < 0 ∨ 2147483647 < n) :
    Calls Tryd.prog 18 #[.int .i64 n] w fun e w' => e = .returned (.slice none 0 0) ∧ w = w' := by
  have c : (n < 0) ∨ (¬ n < 0 ∧ 2147483647 < n) := by omega
  rcases c with c | ⟨c1, c2⟩
  all_goals
    clear h
    go_enter Tryd.func18, Tryd.ntmps18
    go_wp2
    go_ret
    exact ⟨rfl, rfl⟩
set_option maxRecDepth 100000 in
set_option maxHeartbeats 800000 in
theorem PutR_any (n : Nat) (w : World) (hn : n ≤ 2147483647) :
    Calls Tryd.prog 18 #[.int .i64 n] w fun e w' => ∃ v, e = .returned v ∧ Own w' w.heap.size v (putL n) ∧ Below w.heap.size w w' := by
  obtain ⟨i0, hi0, hz0, hz1, hz2⟩ := info_parts u8_info
  have h5 := putL_five n hn
  obtain ⟨R, hR⟩ : ∃ R, putL n = R := ⟨_, rfl⟩
  rw [hR] at h5 ⊢
  have HR : Hid (putL n = R) := hR
  clear hR
  have hcl : decide ((2147483647 : Int) < n) = false := decide_eq_false (by omega)
  have hcl2 : decide ((n : Int) < 0) = false := decide_eq_false (by omega)
  go_enter Tryd.func18, Tryd.ntmps18
  go_wp2
  go_loopw [0, 3] (fun a v wr => ∃ (m : Nat) (l : List UInt8), m ≤ 2147483647 ∧ a = .int .i64 m ∧ Own wr w.heap.size v l ∧ Below w.heap.size w wr ∧ Hid (l ++ putL m = R)) (fun a _ _ => (intOf a).toNat)
  case atStart => exact ⟨n, [], hn, rfl, World.ownsRow_nil _ _ _ _, Below.refl _ _, HR⟩
  case round =>
    obtain ⟨m, l, hm, rfl, hown, hb, HJ⟩ := hrel
    have e := HJ.out
    have hle : l.length ≤ 5 := by rw [← e, List.length_append] at h5; omega
    clear h5 HR HJ
    by_cases h128 : 128 ≤ m
    · rw [putL_more m h128] at e
      have HE : Hid ((l ++ [UInt8.ofNat (m % 128 + 128)]) ++ putL (m / 128) = R) := by show _ = _; rw [List.append_assoc]; exact e
      clear e
      have h128' : (127 : Int) < m := by omega
      have hbs := hb.size
      go_wp2_with (first
        | (at_builtin; refine wpList_append_own _ rfl (.tmp 12) (.tmp 17) 22 rfl w.heap.size 5 i0 (.int .u8 0) 1 1 Tryd.underlying22 hi0 hz0 hz1 hz2 rfl (by decide) _ l.length (l.map bv) rfl (World.ownsRow.alloc hown _) ⟨wr.heap.size, 0, none⟩ 1 1 [.int .u8 (128 + (m : Int) % 128)] rfl rfl ?c1 ?c2 ?c3 ?c4 ?c5 ?_))
      case c1 => exact cell_one_new _ _ _
      case c2 => intro u hu; simp at hu; subst hu; rfl
      case c3 => unfold maxLen; omega
      case c4 => omega
      case c5 => simp; omega
      · intro v' w1 hown' hgrow _
        go_wp2
        go_roundw
        case rel => 
          refine ⟨m / 128, l ++ [UInt8.ofNat (m % 128 + 128)], by omega, by go_num, ?_, ?_, HE⟩
          · rw [bv_moreR] at hown'; exact Own.snoc (w := wr) hown'
          · exact (hb.alloc hbs _).grown hgrow (by simp; omega) (fun k hk => ((World.ownsRow.lt hown) k hk).1)
        case measure => simp [intOf]; omega
    · rw [putL_last m (by omega)] at e
      have HE : Hid (l ++ [UInt8.ofNat m] = R) := e
      clear e
      have h128' : (m : Int) ≤ 127 := by omega
      have hbs := hb.size
      go_wp2_with (first
        | (at_builtin; refine wpList_append_own _ rfl (.tmp 21) (.tmp 24) 22 rfl w.heap.size 5 i0 (.int .u8 0) 1 1 Tryd.underlying22 hi0 hz0 hz1 hz2 rfl (by decide) _ l.length (l.map bv) rfl (World.ownsRow.alloc hown _) ⟨wr.heap.size, 0, none⟩ 1 1 [.int .u8 (m : Int)] rfl rfl ?c1 ?c2 ?c3 ?c4 ?c5 ?_))
      case c1 => exact cell_one_new _ _ _
      case c2 => intro u hu; simp at hu; subst hu; rfl
      case c3 => unfold maxLen; omega
      case c4 => omega
      case c5 => simp; omega
      · intro v' w1 hown' hgrow _
        go_wp2
        go_ret
        refine ⟨_, rfl, ?_, (hb.alloc hbs _).grown hgrow (by simp; omega) (fun k hk => ((World.ownsRow.lt hown) k hk).1)⟩
        rw [← HE.out]
        rw [bv_last m (by omega)] at hown'; exact Own.snoc (w := wr) hown'
end Go.Proofs.YtfimacfpgcdekaaDoor
