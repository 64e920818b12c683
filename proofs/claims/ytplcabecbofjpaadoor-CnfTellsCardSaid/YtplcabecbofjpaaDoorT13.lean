/-
  The reference's Number.
-/
import Derived.Test.YtplcabecbofjpaaDoorProg
import Derived.WalkKit
import Derived.WalkSpells
import Derived.WalkLawsBesides
import Derived.Lib.Hide
import Derived.BigQuiet
import Derived.Deep.QuietTactic
import Derived.Deep.RegionWith
import Derived.Deep.RegionHeld3
import Derived.Test.YtplcabecbofjpaaDoorT12
set_option linter.unusedVariables false
namespace Go.Proofs.YtplcabecbofjpaaDoor
open Go.RowKit
/-- What the reference's loop over figures holds: the value so far, and whether it was too large. -/
def NumI (most : Int) (p : List UInt8) (n : Int) (big : Bool) : Prop :=
  0 ≤ n ∧ n ≤ 2147483647 ∧ (big = false → n = val 0 p ∧ n ≤ most) ∧ (big = true → most < val 0 p ∨ 2147483647 < val 0 p)
theorem NumI.next {most n : Int} {p : List UInt8} {big : Bool} (h : NumI most p n big) (hp : Digits p) (c : UInt8) (hc : 48 ≤ c.toNat ∧ c.toNat ≤ 57) :
    NumI most (p ++ [c]) (if most < n * 10 + (c.toNat : Int) - 48 ∨ 2147483647 < n * 10 + (c.toNat : Int) - 48 then 0 else n * 10 + (c.toNat : Int) - 48) (if most < n * 10 + (c.toNat : Int) - 48 ∨ 2147483647 < n * 10 + (c.toNat : Int) - 48 then true else big) := by
  obtain ⟨h0, h1, h2, h3⟩ := h
  have hv : 0 ≤ val 0 p := val_ge p 0 (by omega) hp
  refine ⟨by split <;> omega, by split <;> omega, ?_, ?_⟩
  · intro hb
    rw [val_snoc]
    by_cases hx : most < n * 10 + (c.toNat : Int) - 48 ∨ 2147483647 < n * 10 + (c.toNat : Int) - 48
    · rw [if_pos hx] at hb; cases hb
    · rw [if_neg hx] at hb ⊢
      obtain ⟨e, _⟩ := h2 hb
      omega
  · intro hb
    rw [val_snoc]
    cases big
    · obtain ⟨e, _⟩ := h2 rfl
      by_cases hx : most < n * 10 + (c.toNat : Int) - 48 ∨ 2147483647 < n * 10 + (c.toNat : Int) - 48
      · omega
      · rw [if_neg hx] at hb; cases hb
    · have := h3 rfl; omega
theorem digits_take (l : List UInt8) (k i : Nat) (h : i ≤ tw 57 (l.drop k)) : Digits ((l.drop k).take i) := by
  intro c hc
  obtain ⟨j, hj, e⟩ := List.mem_iff_getElem.1 hc
  have htl := tw_le 57 (l.drop k)
  simp only [List.length_take] at hj
  have := tw_digits 57 (l.drop k) j (by omega)
  rw [List.getElem_take] at e
  have e2 : (l.drop k).getD j 0 = c := by rw [List.getD_eq_getElem?_getD, List.getElem?_eq_getElem (by omega), Option.getD_some]; exact e
  rw [e2] at this
  exact this
theorem take_next (l : List UInt8) (k i : Nat) (h : k + i < l.length) : (l.drop k).take (i + 1) = (l.drop k).take i ++ [l.getD (k + i) 0] := by
  rw [List.take_succ_eq_append_getElem (by simp; omega)]
  congr 2
  simp [List.getD_eq_getElem?_getD, h]
/-- What the loop's end tells. -/
theorem num_end {l : List UInt8} {k : Nat} {most n : Int} {big : Bool} (h : NumI most ((l.drop k).take (tw 57 (l.drop k))) n big) (hb : numB (l.drop k) = false) :
    numberS (l.drop k) most = if big then (0, 0, 3) else (n, tw 57 (l.drop k), 0) := by
  obtain ⟨h0, h1, h2, h3⟩ := h
  have hd := digits_take l k _ (Nat.le_refl _)
  have hv := vf_val _ 0 (by omega) (by omega) hd
  unfold numberS
  rw [hb, if_neg (by simp)]
  unfold numV
  cases big
  · obtain ⟨e, e2⟩ := h2 rfl
    rcases hv with hv | ⟨_, hv⟩
    · rw [hv, ← e, if_neg (by omega)]
      rfl
    · omega
  · have := h3 rfl
    rw [if_pos (by rcases hv with hv | ⟨hv, _⟩ <;> omega)]
    rfl
set_option maxHeartbeats 3200000 in
set_option maxRecDepth 100000 in
theorem refNum_any (A : Option Addr) (c k : Nat) (most : Int) (l : List UInt8) (w : World) (h : Rd w w.heap.size A l) (hk : k ≤ l.length) (hn : l.length ≤ 1000000) (hm : 0 ≤ most) (hm2 : most ≤ 2147483647) :
    Calls Tryd.prog 82 #[.slice A l.length c, .int .i64 k, .int .i64 most] w (RetS w (res3 k (numberS (l.drop k) most))) := by
  have d0 : decide ((k : Int) < 0) = false := decide_eq_false (by omega)
  have d1 : decide ((l.length : Int) < k) = false := decide_eq_false (by omega)
  have d1' : decide (l.length < k) = false := decide_eq_false (by omega)
  obtain ⟨V, hV⟩ : ∃ V, res3 k (numberS (l.drop k) most) = V := ⟨_, rfl⟩
  rw [hV]
  have HV := Lib.hid hV
  have HR := Lib.hid h
  have HF := Lib.hid refFigure_any
  have hD := tw_le 57 (l.drop k)
  rw [List.length_drop] at hD
  have H0 : Hid (0 + tw 57 (l.drop (k + 0)) = tw 57 (l.drop k)) := by show _ = _; simp
  have N0 : Hid (NumI most ((l.drop k).take 0) 0 false) := ⟨by omega, by omega, fun _ => ⟨rfl, hm⟩, fun e => by cases e⟩
  clear hV h
  go_enter Tryd.func82, Tryd.ntmps82
  go_wp2
  go_loop [9, 10, 11] (fun e v b => ∃ (i : Nat) (n : Int) (big : Bool), k + i ≤ l.length ∧ e = .int .i64 ((k + i : Nat) : Int) ∧ v = .int .i64 n ∧ b = .bool big ∧ Hid (i + tw 57 (l.drop (k + i)) = tw 57 (l.drop k)) ∧ Hid (NumI most ((l.drop k).take i) n big)) (fun e _ _ => l.length - (intOf e).toNat)
  case atStart => exact ⟨0, 0, false, hk, rfl, rfl, rfl, H0, N0⟩
  case round =>
    obtain ⟨i, n, big, hi, rfl, rfl, rfl, HI, HN⟩ := hrel
    clear H0 N0
    have n0 := HN.out.1
    have n1 := HN.out.2.1
    generalize hE : k + i = E at *
    by_cases hlt : E < l.length
    · obtain ⟨a1, rfl, _, hc1⟩ := HR.out E hlt
      have e1 : decide ((E : Int) < l.length) = true := decide_eq_true (by omega)
      have e2 : decide (E < l.length) = true := decide_eq_true hlt
      have e3 : (E : Int) < l.length := by omega
      have C := HF.out (l.getD E 0) w
      by_cases hdg : 48 ≤ (l.getD E 0).toNat ∧ (l.getD E 0).toNat ≤ 57
      · rw [decide_eq_true hdg.1, decide_eq_true hdg.2, Bool.true_and] at C
        have hx : (l.drop k).take (i + 1) = (l.drop k).take i ++ [l.getD E 0] := by rw [← hE]; exact take_next l k i (by omega)
        have hty := tw_yes 57 l E hlt (by omega) (by have : (57 : UInt8).toNat = 57 := rfl; omega)
        have HI2 : Hid (i + 1 + tw 57 (l.drop (E + 1)) = tw 57 (l.drop k)) := by show _ = _; have := HI.out; omega
        have hN := HN.out.next (digits_take l k i (by have := HI.out; omega)) (l.getD E 0) hdg
        rw [← hx] at hN
        have HN2 := Lib.hid hN
        have hE1 : k + (i + 1) = E + 1 := by omega
        clear hx hty hN HI HN HV hE
        generalize (l.getD E 0).toNat = v at *
        have y0 : 0 ≤ n * 10 + (v : Int) - 48 := by omega
        have y1 : n * 10 + (v : Int) - 48 ≤ 30000000000 := by omega
        have cs : (decide (most < n * 10 + (v : Int) - 48) = true ∧ Hid (NumI most ((l.drop k).take (i + 1)) 0 true)) ∨ (decide (most < n * 10 + (v : Int) - 48) = false ∧ decide (2147483647 < n * 10 + (v : Int) - 48) = true ∧ Hid (NumI most ((l.drop k).take (i + 1)) 0 true)) ∨ (decide (most < n * 10 + (v : Int) - 48) = false ∧ decide (2147483647 < n * 10 + (v : Int) - 48) = false ∧ Hid (NumI most ((l.drop k).take (i + 1)) (n * 10 + (v : Int) - 48) big)) := by
          have hN := HN2.out
          by_cases g1 : most < n * 10 + (v : Int) - 48
          · rw [if_pos (.inl g1), if_pos (.inl g1)] at hN
            exact .inl ⟨decide_eq_true g1, hN⟩
          · by_cases g2 : 2147483647 < n * 10 + (v : Int) - 48
            · rw [if_pos (.inr g2), if_pos (.inr g2)] at hN
              exact .inr (.inl ⟨decide_eq_false g1, decide_eq_true g2, hN⟩)
            · rw [if_neg (by omega), if_neg (by omega)] at hN
              exact .inr (.inr ⟨decide_eq_false g1, decide_eq_false g2, hN⟩)
        clear HN2
        rcases cs with ⟨g1, HN3⟩ | ⟨g1, g2, HN3⟩ | ⟨g1, g2, HN3⟩
        all_goals
          go_wp2_with fail
          refine C.mono ?_; rintro e w' ⟨rfl, rfl⟩
          clear C
          go_wp2
          go_round
          case rel => exact ⟨i + 1, _, _, by omega, by rw [hE1]; go_num, rfl, rfl, by rw [hE1]; exact HI2, HN3⟩
          case measure => simp [intOf]; omega
      · have hf : (decide (48 ≤ (l.getD E 0).toNat) && decide ((l.getD E 0).toNat ≤ 57)) = false := by
          rw [Bool.eq_false_iff]; intro e; simp at e; exact hdg e
        rw [hf] at C
        have htn := tw_no 57 l E (fun _ hh => hdg ⟨by omega, by have : (57 : UInt8).toNat = 57 := rfl; omega⟩)
        have hTD : i = tw 57 (l.drop k) := by have := HI.out; omega
        have fin : (((E : Int) == (k : Int)) = true ∧ Hid (Value.tuple #[.int .i64 0, .int .i64 (k : Int), .int .i64 2] = V)) ∨ (((E : Int) == (k : Int)) = false ∧ k < l.length ∧ ((((l.getD k 0).toNat : Int) == 48) = true ∧ decide (1 < (E : Int) - (k : Int)) = true ∧ Hid (Value.tuple #[.int .i64 0, .int .i64 (k : Int), .int .i64 2] = V) ∨ (((((l.getD k 0).toNat : Int) == 48) = true ∧ decide (1 < (E : Int) - (k : Int)) = false) ∨ (((l.getD k 0).toNat : Int) == 48) = false) ∧ (big = true ∧ Hid (Value.tuple #[.int .i64 0, .int .i64 (k : Int), .int .i64 3] = V) ∨ big = false ∧ Hid (Value.tuple #[.int .i64 n, .int .i64 (E : Int), .int .i64 0] = V)))) := by
          have hg0 : (l.drop k).getD 0 0 = l.getD k 0 := by simp [List.getD_eq_getElem?_getD]
          by_cases hz : i = 0
          · left
            refine ⟨by rw [beq_iff_eq]; omega, ?_⟩
            show _ = _
            rw [← HV.out]
            have : numB (l.drop k) = true := by unfold numB; rw [← hTD, hz]; rfl
            unfold numberS
            rw [this, if_pos rfl]
            rfl
          · right
            refine ⟨by rw [beq_eq_false_iff_ne]; omega, by omega, ?_⟩
            have hne : (tw 57 (l.drop k) == 0) = false := by rw [beq_eq_false_iff_ne]; omega
            by_cases h48 : (l.getD k 0).toNat = 48
            · by_cases h1 : 1 < i
              · left
                refine ⟨by rw [beq_iff_eq]; omega, decide_eq_true (by omega), ?_⟩
                show _ = _
                rw [← HV.out]
                have e48 : l.getD k 0 = 48 := UInt8.toNat_inj.1 h48
                have : numB (l.drop k) = true := by unfold numB; rw [hg0, e48, ← hTD]; simp [h1]
                unfold numberS
                rw [this, if_pos rfl]
                rfl
              · right
                refine ⟨.inl ⟨by rw [beq_iff_eq]; omega, decide_eq_false (by omega)⟩, ?_⟩
                have hb : numB (l.drop k) = false := by unfold numB; rw [hne, ← hTD]; simp [h1]
                have hN := HN.out
                rw [hTD] at hN
                have hR := num_end hN hb
                cases big
                · right
                  refine ⟨rfl, ?_⟩
                  show _ = _
                  rw [← HV.out, hR, ← hTD, ← hE]; rfl
                · left
                  refine ⟨rfl, ?_⟩
                  show _ = _
                  rw [← HV.out, hR]; rfl
            · right
              refine ⟨.inr (by rw [beq_eq_false_iff_ne]; omega), ?_⟩
              have e48 : (l.getD k 0 == 48) = false := by rw [beq_eq_false_iff_ne]; intro e; rw [e] at h48; exact h48 rfl
              have hb : numB (l.drop k) = false := by unfold numB; rw [hne, hg0, e48]; rfl
              have hN := HN.out
              rw [hTD] at hN
              have hR := num_end hN hb
              cases big
              · right
                refine ⟨rfl, ?_⟩
                show _ = _
                rw [← HV.out, hR, ← hTD, ← hE]; rfl
              · left
                refine ⟨rfl, ?_⟩
                show _ = _
                rw [← HV.out, hR]; rfl
        clear HI HN HV hE htn hTD hdg hf
        generalize (l.getD E 0).toNat = v at *
        rcases fin with ⟨z1, HW⟩ | ⟨z1, hkl, fin⟩
        · go_wp2_with fail
          refine C.mono ?_; rintro e w' ⟨rfl, rfl⟩
          clear C
          go_wp2
          go_ret3
          exact ⟨by rw [← HW.out]; rfl, rfl⟩
        · obtain ⟨a2, ha2, _, hc2⟩ := HR.out k hkl
          obtain rfl := Option.some.inj ha2
          have hkl' : (k : Int) < l.length := by omega
          generalize (l.getD k 0).toNat = v2 at *
          rcases fin with ⟨z2, z3, HW⟩ | ⟨⟨z2, z3⟩ | z2, ⟨rfl, HW⟩ | ⟨rfl, HW⟩⟩
          all_goals
            go_wp2_with fail
            refine C.mono ?_; rintro e w' ⟨rfl, rfl⟩
            clear C
            go_wp2
            go_ret3
            exact ⟨by rw [← HW.out]; rfl, rfl⟩
    · have htn := tw_no 57 l E (fun hh => absurd hh hlt)
      have e1 : decide ((E : Int) < l.length) = false := decide_eq_false (by omega)
      have e2 : decide (E < l.length) = false := decide_eq_false hlt
      have hTD : i = tw 57 (l.drop k) := by have := HI.out; omega
      have fin : (((E : Int) == (k : Int)) = true ∧ Hid (Value.tuple #[.int .i64 0, .int .i64 (k : Int), .int .i64 2] = V)) ∨ (((E : Int) == (k : Int)) = false ∧ k < l.length ∧ ((((l.getD k 0).toNat : Int) == 48) = true ∧ decide (1 < (E : Int) - (k : Int)) = true ∧ Hid (Value.tuple #[.int .i64 0, .int .i64 (k : Int), .int .i64 2] = V) ∨ (((((l.getD k 0).toNat : Int) == 48) = true ∧ decide (1 < (E : Int) - (k : Int)) = false) ∨ (((l.getD k 0).toNat : Int) == 48) = false) ∧ (big = true ∧ Hid (Value.tuple #[.int .i64 0, .int .i64 (k : Int), .int .i64 3] = V) ∨ big = false ∧ Hid (Value.tuple #[.int .i64 n, .int .i64 (E : Int), .int .i64 0] = V)))) := by
        have hg0 : (l.drop k).getD 0 0 = l.getD k 0 := by simp [List.getD_eq_getElem?_getD]
        by_cases hz : i = 0
        · left
          refine ⟨by rw [beq_iff_eq]; omega, ?_⟩
          show _ = _
          rw [← HV.out]
          have : numB (l.drop k) = true := by unfold numB; rw [← hTD, hz]; rfl
          unfold numberS
          rw [this, if_pos rfl]
          rfl
        · right
          refine ⟨by rw [beq_eq_false_iff_ne]; omega, by omega, ?_⟩
          have hne : (tw 57 (l.drop k) == 0) = false := by rw [beq_eq_false_iff_ne]; omega
          by_cases h48 : (l.getD k 0).toNat = 48
          · by_cases h1 : 1 < i
            · left
              refine ⟨by rw [beq_iff_eq]; omega, decide_eq_true (by omega), ?_⟩
              show _ = _
              rw [← HV.out]
              have e48 : l.getD k 0 = 48 := UInt8.toNat_inj.1 h48
              have : numB (l.drop k) = true := by unfold numB; rw [hg0, e48, ← hTD]; simp [h1]
              unfold numberS
              rw [this, if_pos rfl]
              rfl
            · right
              refine ⟨.inl ⟨by rw [beq_iff_eq]; omega, decide_eq_false (by omega)⟩, ?_⟩
              have hb : numB (l.drop k) = false := by unfold numB; rw [hne, ← hTD]; simp [h1]
              have hN := HN.out
              rw [hTD] at hN
              have hR := num_end hN hb
              cases big
              · right
                refine ⟨rfl, ?_⟩
                show _ = _
                rw [← HV.out, hR, ← hTD, ← hE]; rfl
              · left
                refine ⟨rfl, ?_⟩
                show _ = _
                rw [← HV.out, hR]; rfl
          · right
            refine ⟨.inr (by rw [beq_eq_false_iff_ne]; omega), ?_⟩
            have e48 : (l.getD k 0 == 48) = false := by rw [beq_eq_false_iff_ne]; intro e; rw [e] at h48; exact h48 rfl
            have hb : numB (l.drop k) = false := by unfold numB; rw [hne, hg0, e48]; rfl
            have hN := HN.out
            rw [hTD] at hN
            have hR := num_end hN hb
            cases big
            · right
              refine ⟨rfl, ?_⟩
              show _ = _
              rw [← HV.out, hR, ← hTD, ← hE]; rfl
            · left
              refine ⟨rfl, ?_⟩
              show _ = _
              rw [← HV.out, hR]; rfl
      clear HI HN HV hE htn hTD
      rcases fin with ⟨z1, HW⟩ | ⟨z1, hkl, fin⟩
      · go_wp2
        go_ret3
        exact ⟨by rw [← HW.out]; rfl, rfl⟩
      · obtain ⟨a2, rfl, _, hc2⟩ := HR.out k hkl
        have hkl' : (k : Int) < l.length := by omega
        generalize (l.getD k 0).toNat = v2 at *
        rcases fin with ⟨z2, z3, HW⟩ | ⟨⟨z2, z3⟩ | z2, ⟨rfl, HW⟩ | ⟨rfl, HW⟩⟩
        all_goals
          go_wp2
          go_ret3
          exact ⟨by rw [← HW.out]; rfl, rfl⟩
end Go.Proofs.YtplcabecbofjpaaDoor
