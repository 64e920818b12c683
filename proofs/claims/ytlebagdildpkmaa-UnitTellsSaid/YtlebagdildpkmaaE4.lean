/-
  The reference's Close, walked.
-/
import Derived.Test.YtlebagdildpkmaaProg
import Derived.WalkKit
import Derived.WalkSpells
import Derived.WalkLawsBesides
import Derived.Lib.Hide
import Derived.BigQuiet
import Derived.Deep.QuietTactic
import Derived.Deep.RegionWith
import Derived.Deep.RegionHeld3
import Derived.Test.YtlebagdildpkmaaE3
set_option linter.unusedVariables false
namespace Go.Proofs.Ytlebagdildpkmaa
open Go.RowKit
theorem ret_clash {w w' : World} {L : List (List Int)} {A : List Int} (h : Clash L A) (hb : Below w.heap.size w w') : RetIB w (closeL L A) (clashB L A) (.returned (.tuple #[.slice none 0 0, .bool true])) w' := by
  have hc := (clashB_iff L A).2 h
  rw [hc, closeL_clash hc]
  exact ⟨_, rfl, OwnI.nil _ _, hb⟩
set_option maxHeartbeats 3000000 in
set_option maxRecDepth 100000 in
theorem refClose_any (LA AA : Option Addr) (k k' : Nat) (n : Int) (L : List (List Int)) (A : List Int) (w : World) (hL : RCk w w.heap.size LA L) (hR : RI w w.heap.size AA A) (hM : May L A) (hl : L.length ≤ 1000) (hal : A.length ≤ 90000) (hx : ∀ z, Forced L A z → z ≠ 0 ∧ -60 ≤ z ∧ z ≤ 60) :
    Calls Try.prog 13 #[.int .i64 n, .slice LA L.length k, .slice AA A.length k'] w (RetIB w (closeL L A) (clashB L A)) := by
  have C1 := refSort_any AA k' A w hR hM.alit hal
  have HL := Lib.hid hL
  have HM := Lib.hid hM
  have HX := Lib.hid hx
  have hs0 : ∀ z ∈ sortF A, Forced L A z := fun z hz => .given z ((sortF_mem A z).1 hz)
  have HS0 := Lib.hid hs0
  clear hL hR hM hx hs0
  go_enter Try.func13, Try.ntmps13
  go_wp2_with fail
  refine C1.mono ?_; rintro e w1 ⟨v1, rfl, ho1, hb1⟩
  obtain ⟨A1, k1, rfl, hr1, _, h1k, h1m⟩ := ho1.val
  have hfl : (sortF A).length ≤ 90000 := by have := sortF_len A; omega
  have HO1 := Lib.hid ho1
  have HB1 := Lib.hid hb1
  have HR1 := Lib.hid hr1
  have HSO : Hid ((∀ y ∈ sortF A, -y ∉ sortF A) → Sofar L A (sortF A)) := Lib.hid fun h => ⟨sortF_lt _, HS0.out, fun z hz => (sortF_mem A z).2 hz, h⟩
  clear C1 ho1 hb1 hr1 h1k h1m
  generalize sortF A = F0 at *
  go_wp2
  go_loopg [9] F0.length (fun g s9 wr => ∃ i : Nat, i + g = F0.length ∧ s9 = .int .i64 i ∧ Hid (∀ y ∈ F0.take i, -y ∉ F0) ∧ w1 = wr)
  case atStart => exact ⟨0, by omega, rfl, Lib.hid (by simp), rfl⟩
  case round =>
    obtain ⟨i, hi, rfl, HI, rfl⟩ := hrel
    cases gk with
    | succ g =>
      have hil : i < F0.length := by omega
      have hil' : (i : Int) < F0.length := by omega
      have hm := getD_mem F0 i hil
      obtain ⟨x0, x1, x2⟩ := HX.out _ (HS0.out _ hm)
      obtain ⟨ad, rfl, hab, hcz⟩ := HR1.out i hil
      have htk := take_snocI F0 i hil
      have c2 := In_any (some ad) k1 F0 (-(F0.getD i 0)) w1 HR1.out (by unfold maxLen; omega)
      have HFO := Lib.hid (HS0.out _ hm)
      have HTK := Lib.hid htk
      clear hm htk
      generalize F0.getD i 0 = x at *
      by_cases hx : -x ∈ F0
      · rw [show F0.contains (-x) = true by simpa using hx] at c2
        have HCL : Hid (Clash L A) := Lib.hid (.inl ⟨x, HFO.out, HS0.out _ hx⟩)
        clear hx
        go_wp2_with fail
        refine c2.mono ?_; rintro e w2 ⟨rfl, rfl⟩
        clear c2
        go_wp2
        go_ret2
        exact ret_clash HCL.out HB1.out
      · rw [show F0.contains (-x) = false by simpa using hx] at c2
        have HNX := Lib.hid hx
        clear hx
        go_wp2_with fail
        refine c2.mono ?_; rintro e w2 ⟨rfl, rfl⟩
        clear c2
        go_wp2
        go_roundg g
        case measure => omega
        case rel =>
          refine ⟨i + 1, by omega, by go_num, Lib.hid ?_, rfl⟩
          rw [HTK.out]; intro y hy
          rcases List.mem_append.1 hy with e | e
          · exact HI.out y e
          · rw [List.mem_singleton.1 e]; exact HNX.out
    | zero =>
      have q1 : ¬ ((i : Int) < F0.length) := by omega
      have q2 : ¬ (i < F0.length) := by omega
      have hsf : Sofar L A F0 := HSO.out (fun y hy => HI.out y (by rw [List.take_of_length_le (by omega)]; exact hy))
      have hf121 := hsf.len HM.out HX.out
      have HSF := Lib.hid hsf
      clear hsf HI HSO
      go_wp2
      go_loopg [8] (122 - F0.length) (fun g s8 wr => ∃ (v : Value) (F : List Int), s8 = v ∧ F.length + g = 122 ∧ OwnI wr w.heap.size v F ∧ Below w.heap.size w wr ∧ Hid (Sofar L A F))
      case atStart => exact ⟨_, F0, rfl, by omega, HO1.out, HB1.out, HSF⟩
      case round =>
        obtain ⟨v, F, rfl, hFg, hO, hb, HS⟩ := hrel
        have hFl := HS.out.len HM.out HX.out
        obtain ⟨AF, kF, rfl, hrF, zF, _⟩ := hO.val
        have HO2 := Lib.hid hO
        have HB2 := Lib.hid hb
        have HRF := Lib.hid hrF
        have HZF := Lib.hid zF
        clear HO1 HB1 HR1 HSF hO hb hrF zF
        cases gk with
        | zero => omega
        | succ g =>
          generalize wr = wz at *
          go_wp2
          go_loopg [11, 12] L.length (fun g s11 s12 wr => ∃ (j : Nat) (more : Int), j + g = L.length ∧ s12 = .int .i64 j ∧ s11 = .int .i64 more ∧ Hid (Known L F j more) ∧ wz = wr)
          case atStart => exact ⟨0, 0, by omega, rfl, rfl, Lib.hid (Known.first L F), rfl⟩
          case round =>
            obtain ⟨j, more, hj, rfl, rfl, HK, rfl⟩ := hrel
            cases gk with
            | succ g2 =>
              have hjl : j < L.length := by omega
              have hjl' : (j : Int) < L.length := by omega
              obtain ⟨a1, A2, k2, rfl, hab, hc1, ru, m1, m2⟩ := (HL.out.nx HB2.out) j hjl
              have hmu := getD_memC L j hjl
              have hsp := lf_spec (F := F) (HM.out.lits _ hmu) (L.getD j []).length 0 0 (by omega) (Seen.first F _)
              rw [List.drop_zero] at hsp
              have c3 := left_any AF A2 kF k2 F (L.getD j []) wz HRF.out ru (HM.out.lits _ hmu) (by unfold maxLen; omega) (HM.out.lens _ hmu)
              obtain ⟨a, b, hab2⟩ : ∃ a b, lf F 0 (L.getD j []) = (a, b) := ⟨_, _, rfl⟩
              rw [hab2] at hsp c3
              simp only at hsp c3
              rcases hsp with ⟨rfl, rfl, hall⟩ | ⟨rfl, hxm, hx1, hx2, hall⟩ | ⟨rfl, rfl, htwo⟩
              · have HCL : Hid (Clash L A) := Lib.hid (.inr ⟨_, hmu, fun y hy => HS.out.sound _ (hall y hy)⟩)
                clear hall ru hab2 hmu
                generalize L.getD j [] = u at *
                go_wp2_with fail
                refine c3.mono ?_; rintro e w3 ⟨rfl, rfl⟩
                clear c3
                go_wp2
                go_ret2
                exact ret_clash HCL.out HB2.out
              · have hx0 := (HM.out.lits _ hmu _ hxm).1
                have HK2 := Lib.hid (HK.out.one hjl hx0 hx1 hx2 hxm hall)
                clear hall ru hab2 hmu hxm hx1 hx2 hx0
                generalize L.getD j [] = u at *
                go_wp2_with fail
                refine c3.mono ?_; rintro e w3 ⟨rfl, rfl⟩
                clear c3
                go_wp2
                go_roundg g2
                case measure => omega
                case rel => exact ⟨j + 1, a, by omega, by go_num, rfl, HK2, rfl⟩
              · have HK2 := Lib.hid (HK.out.two hjl htwo)
                clear htwo ru hab2 hmu
                generalize L.getD j [] = u at *
                go_wp2_with fail
                refine c3.mono ?_; rintro e w3 ⟨rfl, rfl⟩
                clear c3
                go_wp2
                go_roundg g2
                case measure => omega
                case rel => exact ⟨j + 1, more, by omega, by go_num, rfl, HK2, rfl⟩
            | zero =>
              have q3 : ¬ ((j : Int) < L.length) := by omega
              have q4 : ¬ (j < L.length) := by omega
              obtain rfl : j = L.length := by omega
              by_cases h0 : more = 0
              · subst h0
                have HCL := Lib.hid (HK.out.closed HS.out)
                clear HK
                go_wp2
                go_ret2
                refine ⟨_, by rw [HCL.out.no]; rfl, ?_, HB2.out⟩
                rw [HCL.out.eq, sortF_id HS.out.lt]; exact HO2.out
              · have d0 : (more == 0) = false := by rw [beq_eq_false_iff_ne]; exact h0
                obtain ⟨hfo, hm1, hm2⟩ := HK.out.forced h0 HS.out
                have hsn := HS.out.next h0 hfo hm1 hm2
                have hln := HS.out.next_len hm1
                have HSN := Lib.hid hsn
                have HLN := Lib.hid hln
                have hlit : Lits (F ++ [more]) := fun y hy => by
                  rcases List.mem_append.1 hy with e | e
                  · exact HS.out.lits HM.out y e
                  · rw [List.mem_singleton.1 e]; exact hfo.lit HM.out.lits HM.out.alit
                have HLI := Lib.hid hlit
                have he := empty_own wz
                have hbe := bal (Below.refl wz.heap.size wz) (.cells #[] 3)
                have r1 := HRF.out.nx hbe
                clear HK hfo hm1 hm2 hsn hln hlit h0
                go_wp2_with (first | (at_builtin; refine wpIs rfl (.tmp 54) (.tmp 55) rfl _ [] rfl he AF kF F rfl r1 HZF.out hbe (by simp) (by omega) ?_) | fail)
                intro v4 w4 ho4 hb4
                obtain ⟨A4, k4, rfl, _⟩ := ho4.val
                clear he hbe r1
                go_wp2_with (first | (at_builtin; refine wpI1 rfl (.tmp 56) (.tmp 58) rfl _ F rfl ho4 more rfl hb4 (by omega) ?_) | fail)
                intro v5 w5 ho5 hb5
                obtain ⟨A5, k5, hv5, hr5, _⟩ := ho5.val
                have c6 := refSort_any A5 k5 (F ++ [more]) w5 hr5 HLI.out (by simp; omega)
                obtain ⟨nb, hnb⟩ : ∃ nb, (F ++ [more]).length = nb := ⟨_, rfl⟩
                rw [hnb] at hv5 c6
                subst hv5
                have HB5 := Lib.hid (bnx HB2.out hb5)
                clear ho4 hb4 ho5 hb5 hr5 hnb
                go_wp2_with fail
                (with_reducible refine c6.mono ?_); rintro e w6 ⟨v6, rfl, ho6, hb6⟩
                have HO6 := Lib.hid (ho6.base HB5.out.size)
                have HB6 := Lib.hid (bnx HB5.out hb6)
                clear c6 ho6 hb6
                go_wp2
                go_roundg g
                case measure => omega
                case rel => exact ⟨v6, sortF (F ++ [more]), rfl, by rw [HLN.out]; omega, HO6.out, HB6.out, HSN⟩
end Go.Proofs.Ytlebagdildpkmaa
