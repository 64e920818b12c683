/-
  UnitSorts, walked.
-/
import Derived.Test.YtlebagdildpkmaaProg
import Derived.WalkKit
import Derived.WalkSpells
import Derived.WalkLawsBesides
import Derived.Lib.Hide
import Derived.BigQuiet
import Derived.Deep.QuietTactic
import Derived.Deep.RegionWith
import Derived.Deep.RegionHeld3
import Derived.Test.YtlebagdildpkmaaD1
import Derived.Test.YtlebagdildpkmaaB7
import Derived.IntWalk
set_option linter.unusedVariables false
namespace Go.Proofs.Ytlebagdildpkmaa
open Go.RowKit
theorem max_run (a b : Int) (E : Int) (h : (if a < b then b else a) = E) (ts : Array TypeId) (t : TypeId) (w : World) : (Builtin.max_ ts t #[.int .i64 a, .int .i64 b]).run Try.prog w = .ok (.int .i64 E) w := by
  rw [run_max_int2, h]
theorem sortF_self {l : List Int} : sortF (sortF l) = sortF l := sorted_uniq _ _ (sortF_lt _) (sortF_lt _) (fun x => sortF_mem _ x)
theorem sort_next {l : List Int} (hx : ∀ x ∈ l, -100000 ≤ x ∧ x ≤ 100000) {i : Nat} (h0 : 0 < i) (hi : i < (sortF l).length) : (((sortF l).getD (i - 1) 0).natAbs : Int) ≤ ((sortF l).getD i 0).natAbs ∧ (sortF l).getD i 0 ≠ (sortF l).getD (i - 1) 0 := by
  have h := List.pairwise_iff_getElem.1 (sortF_lt l) (i - 1) i (by omega) (by omega) (by omega)
  have e1 : (sortF l).getD i 0 = (sortF l)[i] := by simp [List.getD_eq_getElem?_getD, hi]
  have e2 : (sortF l).getD (i - 1) 0 = (sortF l)[i - 1] := by simp [List.getD_eq_getElem?_getD, show i - 1 < (sortF l).length by omega]
  rw [e1, e2]
  have b1 := hx _ ((sortF_mem l _).1 (List.getElem_mem hi))
  have b2 := hx _ ((sortF_mem l _).1 (List.getElem_mem (show i - 1 < (sortF l).length by omega)))
  rw [ltP_small b2.1 b2.2 b1.1 b1.2] at h
  refine ⟨by omega, fun e => ?_⟩
  rw [e] at h; omega
set_option maxHeartbeats 3000000 in
set_option maxRecDepth 100000 in
theorem sorts_in (AA : Option Addr) (k' : Nat) (n : Int) (c : List Int) (w : World) (hR : RI w w.heap.size AA c) (hm : mayF n [] c = true) :
    Calls Try.prog 9 #[.int .i64 n, .slice AA c.length k'] w (RetV w (.bool true)) := by
  obtain ⟨hM, _, l2, _, n0, n1, _, cx⟩ := may_parts hm
  have C1 := shown_any w
  have C2 : Hid (∀ wx, Below w.heap.size w wx → Calls Try.prog 11 #[.int .i64 n, .slice none 0 0, .slice AA c.length k'] wx (RetV wx (.bool true))) := Lib.hid fun wx hx => by
    have := may_any none AA 0 k' n [] c wx (fun i hi => absurd hi (by simp)) (hR.nx hx) (by simp [maxLen]) (by unfold maxLen; omega)
    rwa [hm] at this
  have C3 : Hid (∀ wx, Below w.heap.size w wx → Calls Try.prog 17 #[.slice AA c.length k'] wx (RetI wx (sortF c))) := Lib.hid fun wx hx => sort_any AA k' c wx (hR.nx hx) (by omega)
  have hsl := sortF_len c
  have HMI : Hid (∀ x, x ∈ sortF c ↔ x ∈ c) := Lib.hid (sortF_mem c)
  have HNX : Hid (∀ i, 0 < i → i < (sortF c).length → (((sortF c).getD (i - 1) 0).natAbs : Int) ≤ ((sortF c).getD i 0).natAbs ∧ (sortF c).getD i 0 ≠ (sortF c).getD (i - 1) 0) := Lib.hid fun i h0 hi => sort_next (fun x hx => by have := cx x hx; omega) h0 hi
  have HSS : Hid (sortF (sortF c) = sortF c) := Lib.hid sortF_self
  have HCX := Lib.hid cx
  have HR := Lib.hid hR
  clear hR hm hM cx
  go_enter Try.func9, Try.ntmps9
  go_wp2_with fail
  refine C1.mono ?_; rintro e w1 ⟨rfl, hb1⟩
  have c2 := C2.out w1 hb1
  have HB1 := Lib.hid hb1
  clear C1 C2 hb1
  go_wp2_with fail
  refine c2.mono ?_; rintro e w2 ⟨rfl, hb2⟩
  have hB2 := bnx HB1.out hb2
  have c3 := C3.out w2 hB2
  have HB2 := Lib.hid hB2
  clear c2 C3 hb2 HB1 hB2
  go_wp2_with fail
  refine c3.mono ?_; rintro e w3 ⟨v3, rfl, ho3, hb3⟩
  obtain ⟨As, ks, rfl, hrs, _⟩ := ho3.val
  have hB3 := bnx HB2.out hb3
  have HB3 := Lib.hid hB3
  have HRS := Lib.hid hrs
  have HRC := Lib.hid (HR.out.nx hB3)
  have CI : Hid (∀ wx x, Below w3.heap.size w3 wx → ∀ q, Calls Try.prog 21 #[.slice AA c.length k', .int .i64 x] (wx.drewN q) (fun e w' => e = .returned (.bool (c.contains x)) ∧ w' = wx.drewN q)) := Lib.hid fun wx x hx q => (In_any AA k' c x (wx.drewN q) (((HR.out.nx hB3).nx hx).nx (drw q)) (by unfold maxLen; omega)).mono fun e w' h => ⟨h.1, h.2.symm⟩
  have CS : Hid (∀ x, Calls Try.prog 21 #[.slice As (sortF c).length ks, .int .i64 x] w3 (RetS w3 (.bool ((sortF c).contains x)))) := Lib.hid fun x => In_any As ks (sortF c) x w3 hrs (by unfold maxLen; omega)
  clear c3 ho3 hb3 HB2 hB3 hrs HR
  have hsl2 : (sortF c).length ≤ 40 := by omega
  have C9 : Hid (∀ wx, Below w3.heap.size w3 wx → Calls Try.prog 17 #[.slice As (sortF c).length ks] wx (RetI wx (sortF c))) := Lib.hid fun wx hx => by
    have := sort_any As ks (sortF c) wx (HRS.out.nx hx) (by omega)
    rwa [HSS.out] at this
  clear HSS
  generalize sortF c = s at *
  go_wp2
  go_loopg [7] c.length (fun g s7 wr => ∃ j : Nat, j + g = c.length ∧ s7 = .int .i64 j ∧ w3 = wr)
  case atStart => exact ⟨0, by omega, rfl, rfl⟩
  case round =>
    obtain ⟨j, hj, rfl, rfl⟩ := hrel
    cases gk with
    | zero =>
      have q1 : ¬ ((j : Int) < c.length) := by omega
      have q2 : ¬ (j < c.length) := by omega
      go_wp2
      go_loopg [8] s.length (fun g s8 wr => ∃ i : Nat, i + g = s.length ∧ s8 = .int .i64 i ∧ Below w3.heap.size w3 wr)
      case atStart => exact ⟨0, by omega, rfl, Below.refl _ _⟩
      case round =>
        obtain ⟨i, hi, rfl, hbq⟩ := hrel
        have HBQ := Lib.hid hbq
        have HRQ := Lib.hid (HRS.out.nx hbq)
        cases gk with
        | zero =>
          have q3 : ¬ ((i : Int) < s.length) := by omega
          have q4 : ¬ (i < s.length) := by omega
          have d1 : decide ((s.length : Int) ≤ c.length) = true := decide_eq_true (by omega)
          have d2 : decide (s.length ≤ c.length) = true := decide_eq_true (by omega)
          have c9 := C9.out wr hbq
          clear hbq
          go_wp2_with fail
          refine c9.mono ?_; rintro e w5 ⟨v5, rfl, ho5, hb5⟩
          obtain ⟨A5, k5, rfl, hr5, _⟩ := ho5.val
          have c10 := Ints_any A5 As k5 ks s s w5 hr5 (HRQ.out.nx hb5) (by unfold maxLen; omega) (by unfold maxLen; omega)
          rw [show (s == s) = true by simp] at c10
          have HB5 := Lib.hid (bnx (bnx HB3.out HBQ.out) hb5)
          clear c9 ho5 hb5 hr5
          go_wp2_with fail
          refine c10.mono ?_; rintro e w6 ⟨rfl, hb6⟩
          have HB6 := Lib.hid (bnx HB5.out hb6)
          clear c10 hb6
          go_wp2
          go_ret
          exact ⟨rfl, HB6.out⟩
        | succ g =>
          have hil : i < s.length := by omega
          have hmem := (HMI.out _).1 (getD_mem s i hil)
          obtain ⟨x0, x1, x2⟩ := HCX.out _ hmem
          obtain ⟨ad, rfl, hab, hcz⟩ := HRQ.out i hil
          have hil' : (i : Int) < s.length := by omega
          have ci := Lib.hid (CI.out wr (s.getD i 0) hbq)
          clear hbq
          rw [show c.contains (s.getD i 0) = true by simpa using hmem] at ci
          by_cases hi0 : 0 < i
          · obtain ⟨y1, y2⟩ := HNX.out i hi0 hil
            have hil1 : i - 1 < s.length := by omega
            obtain ⟨ad', e', hab', hcz'⟩ := HRQ.out (i - 1) hil1
            cases e'
            obtain ⟨z0, z1, z2⟩ := HCX.out _ ((HMI.out _).1 (getD_mem s (i - 1) hil1))
            have e3 : IntKind.i64.wrap ((i : Int) - 1) = ((i - 1 : Nat) : Int) := by rw [IntWalk.i64_in _ (by omega)]; omega
            have e4 : wrap64 ((i : Int) - 1) = ((i - 1 : Nat) : Int) := by rw [IntWalk.wrap64_in _ (by omega)]; omega
            have e5 : (i : Int) - 1 = ((i - 1 : Nat) : Int) := by omega
            have m1 := max_run (s.getD i 0) (-(s.getD i 0)) ((s.getD i 0).natAbs : Int) (by split <;> omega)
            have m2 := max_run (s.getD (i - 1) 0) (-(s.getD (i - 1) 0)) ((s.getD (i - 1) 0).natAbs : Int) (by split <;> omega)
            generalize s.getD i 0 = x at *
            generalize s.getD (i - 1) 0 = y at *
            have d1 : decide ((x.natAbs : Int) < y.natAbs) = false := decide_eq_false (by omega)
            have d1' : decide (x.natAbs < y.natAbs) = false := decide_eq_false (by omega)
            have d2 : (x == y) = false := by rw [beq_eq_false_iff_ne]; exact y2
            have d3 : decide ((i : Int) > 0) = true := decide_eq_true (by omega)
            have d3' : decide ((0 : Int) < (i : Int)) = true := decide_eq_true (by omega)
            have d3'' : decide (0 < i) = true := decide_eq_true hi0
            have hl1 : ((i - 1 : Nat) : Int) < s.length := by omega
            clear hmem hi0 y1 y2
            generalize (x.natAbs : Int) = X at *
            generalize (y.natAbs : Int) = Y at *
            go_wp2
            go_quiet ((go_at_call 21; exact Calls.quiet_of_same (ci.out _)))
            go_wp2
            go_roundg g
            case measure => omega
            case rel => exact ⟨i + 1, by omega, by go_num, bnx HBQ.out (drw _)⟩
          · obtain rfl : i = 0 := by omega
            rw [show ad.add 0 = ad by simp [Addr.add]] at hcz
            generalize s.getD 0 0 = x at *
            clear hmem hi0
            have d3 : decide ((0 : Int) > 0) = false := decide_eq_false (by omega)
            go_wp2
            go_quiet ((go_at_call 21; exact Calls.quiet_of_same (ci.out _)))
            go_wp2
            go_roundg g
            case measure => omega
            case rel => exact ⟨1, by omega, by first | rfl | go_num, bnx HBQ.out (drw _)⟩
    | succ g =>
      have hjl : j < c.length := by omega
      have hmem := (HMI.out _).2 (getD_mem c j hjl)
      obtain ⟨ad, rfl, hab, hcz⟩ := HRC.out j hjl
      have hjl' : (j : Int) < c.length := by omega
      have c8 := CS.out (c.getD j 0)
      rw [show s.contains (c.getD j 0) = true by simpa using hmem] at c8
      clear hmem
      generalize c.getD j 0 = x at *
      go_wp2_with fail
      refine c8.mono ?_; rintro e wa ⟨rfl, rfl⟩
      clear c8
      go_wp2
      go_roundg g
      case measure => omega
      case rel => exact ⟨j + 1, by omega, by go_num, rfl⟩
end Go.Proofs.Ytlebagdildpkmaa
