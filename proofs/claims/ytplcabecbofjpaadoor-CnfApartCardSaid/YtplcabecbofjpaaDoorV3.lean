/-
  CnfApart, walked.
-/
import Derived.Test.YtplcabecbofjpaaDoorProg
import Derived.WalkKit
import Derived.WalkSpells
import Derived.WalkLawsBesides
import Derived.Lib.Hide
import Derived.BigQuiet
import Derived.Deep.QuietTactic
import Derived.Deep.RegionWith
import Derived.Deep.RegionHeld3
import Derived.Test.YtplcabecbofjpaaDoorV1
set_option linter.unusedVariables false
namespace Go.Proofs.YtplcabecbofjpaaDoor
open Go.RowKit
set_option maxRecDepth 100000 in
set_option maxHeartbeats 16000000 in
theorem apart_walk (A A' Am An : Option Addr) (c c' cm cn : Nat) (N N' : Int) (L L' : List (List Int)) (m n : List Bool) (w : World) (h : RC w w.heap.size A L) (h' : RC w w.heap.size A' L') (hm : RB w w.heap.size Am m) (hn : RB w w.heap.size An n)
    (l1 : L.length ≤ maxLen) (l2 : L'.length ≤ maxLen) (l3 : m.length ≤ maxLen) (l4 : n.length ≤ maxLen) (hP : Pow w.heap.size w) :
    Calls Tryd.prog 7 #[.agg #[.int .i64 N, .slice A L.length c, .int .i64 N', .slice A' L'.length c', .slice Am m.length cm, .slice An n.length cn]] w (RetV w (.bool true)) := by
  have hb0 := bal (Below.refl w.heap.size w) (.cells #[.int .i64 N, .slice A L.length c, .int .i64 N', .slice A' L'.length c', .slice Am m.length cm, .slice An n.length cn] 58)
  have hb1 := bal hb0 (.cells #[.int .i64 N, .slice A L.length c] 24)
  have hb2 := bal hb1 (.cells #[.int .i64 N', .slice A' L'.length c'] 24)
  have q0 : ((((w.alloc (.cells #[.int .i64 N, .slice A L.length c, .int .i64 N', .slice A' L'.length c', .slice Am m.length cm, .slice An n.length cn] 58)).alloc (.cells #[.int .i64 N, .slice A L.length c] 24)).alloc (.cells #[.int .i64 N', .slice A' L'.length c'] 24))).cell? ⟨w.heap.size + 1, 0, none⟩ = some (.int .i64 N) := by go_simp
  have q1 : ((((w.alloc (.cells #[.int .i64 N, .slice A L.length c, .int .i64 N', .slice A' L'.length c', .slice Am m.length cm, .slice An n.length cn] 58)).alloc (.cells #[.int .i64 N, .slice A L.length c] 24)).alloc (.cells #[.int .i64 N', .slice A' L'.length c'] 24))).cell? ⟨w.heap.size + 1, 1, none⟩ = some (.slice A L.length c) := by go_simp
  have q2 : ((((w.alloc (.cells #[.int .i64 N, .slice A L.length c, .int .i64 N', .slice A' L'.length c', .slice Am m.length cm, .slice An n.length cn] 58)).alloc (.cells #[.int .i64 N, .slice A L.length c] 24)).alloc (.cells #[.int .i64 N', .slice A' L'.length c'] 24))).cell? ⟨w.heap.size + 1 + 1, 0, none⟩ = some (.int .i64 N') := by go_simp
  have q3 : ((((w.alloc (.cells #[.int .i64 N, .slice A L.length c, .int .i64 N', .slice A' L'.length c', .slice Am m.length cm, .slice An n.length cn] 58)).alloc (.cells #[.int .i64 N, .slice A L.length c] 24)).alloc (.cells #[.int .i64 N', .slice A' L'.length c'] 24))).cell? ⟨w.heap.size + 1 + 1, 1, none⟩ = some (.slice A' L'.length c') := by go_simp
  have qs : w.heap.size + 1 + 1 < ((((w.alloc (.cells #[.int .i64 N, .slice A L.length c, .int .i64 N', .slice A' L'.length c', .slice Am m.length cm, .slice An n.length cn] 58)).alloc (.cells #[.int .i64 N, .slice A L.length c] 24)).alloc (.cells #[.int .i64 N', .slice A' L'.length c'] 24))).heap.size := by simp
  have HB := Lib.hid hb2
  have HR := Lib.hid (h.nx hb2)
  have HR' := Lib.hid (h'.nx hb2)
  have HM := Lib.hid (hm.nx hb2)
  have HM' := Lib.hid (hn.nx hb2)
  have HP := Lib.hid (hP.nx hb2)
  have L1 := Lib.hid l1
  have L2 := Lib.hid l2
  have L3 := Lib.hid l3
  have L4 := Lib.hid l4
  generalize hw0 : (((w.alloc (.cells #[.int .i64 N, .slice A L.length c, .int .i64 N', .slice A' L'.length c', .slice Am m.length cm, .slice An n.length cn] 58)).alloc (.cells #[.int .i64 N, .slice A L.length c] 24)).alloc (.cells #[.int .i64 N', .slice A' L'.length c'] 24)) = w0 at *
  have HW0 := Lib.hid hw0
  have HK : Hid (∀ wx, Below w0.heap.size w0 wx → wx.cell? ⟨w.heap.size + 1, 0, none⟩ = some (.int .i64 N) ∧ wx.cell? ⟨w.heap.size + 1, 1, none⟩ = some (.slice A L.length c) ∧ wx.cell? ⟨w.heap.size + 1 + 1, 0, none⟩ = some (.int .i64 N') ∧ wx.cell? ⟨w.heap.size + 1 + 1, 1, none⟩ = some (.slice A' L'.length c') ∧ w.heap.size + 1 < wx.heap.size ∧ w.heap.size + 1 + 1 < wx.heap.size) := fun wx hb => ⟨(hb.cell (p := ⟨w.heap.size + 1, 0, none⟩) (by simp; omega)).trans q0, (hb.cell (p := ⟨w.heap.size + 1, 1, none⟩) (by simp; omega)).trans q1, (hb.cell (p := ⟨w.heap.size + 1 + 1, 0, none⟩) (by simp; omega)).trans q2, (hb.cell (p := ⟨w.heap.size + 1 + 1, 1, none⟩) (by simp; omega)).trans q3, by have := hb.size; omega, by have := hb.size; omega⟩
  have lm : m.length ≤ 9223372036854775807 := l3
  have ln : n.length ≤ 9223372036854775807 := l4
  clear hw0 hb0 hb1 hb2 h h' hm hn hP l1 l2 l3 l4 q0 q1 q2 q3 qs
  have C1 := shown_any w0 HP.out
  go_enter Tryd.func7, Tryd.ntmps7
  go_wp2_with fail
  rw [HW0.out]
  refine C1.mono ?_; rintro e w1 ⟨rfl, hE1⟩
  clear C1
  obtain ⟨p0, p1, p2, p3, ps1, ps2⟩ := HK.out w1 hE1
  have C2 := Small_any A c N 40 L w1 (HR.out.nx hE1) L1.out
  generalize hs1 : smallF 40 L = b1 at C2
  go_wp2_with fail
  refine C2.mono ?_; rintro e w2 ⟨rfl, hb2⟩
  have hE2 := bnx hE1 hb2
  clear C2 hb2 hE1 p0 p1 p2 p3 ps1 ps2
  obtain ⟨p0, p1, p2, p3, ps1, ps2⟩ := HK.out w2 hE2
  cases b1
  case false =>
    have hB := bnx HB.out hE2
    clear hE2
    go_wp2
    go_ret
    exact ⟨rfl, hB⟩
  have C3 := Small_any A' c' N' 40 L' w2 (HR'.out.nx hE2) L2.out
  generalize hs2 : smallF 40 L' = b2 at C3
  go_wp2_with fail
  refine C3.mono ?_; rintro e w3 ⟨rfl, hb3⟩
  have hE3 := bnx hE2 hb3
  clear C3 hb3 hE2 p0 p1 p2 p3 ps1 ps2
  obtain ⟨p0, p1, p2, p3, ps1, ps2⟩ := HK.out w3 hE3
  cases b2
  case false =>
    have hB := bnx HB.out hE3
    clear hE3
    go_wp2
    go_ret
    exact ⟨rfl, hB⟩
  by_cases hm1 : m.length ≤ 100
  case neg =>
    have d1 : decide ((100 : Int) < m.length) = true := decide_eq_true (by omega)
    have hB := bnx HB.out hE3
    clear hE3
    go_wp2
    go_ret
    exact ⟨rfl, hB⟩
  by_cases hn1 : n.length ≤ 100
  case neg =>
    have d1 : decide ((100 : Int) < m.length) = false := decide_eq_false (by omega)
    have d2 : decide ((100 : Int) < n.length) = true := decide_eq_true (by omega)
    have hB := bnx HB.out hE3
    clear hE3
    go_wp2
    go_ret
    exact ⟨rfl, hB⟩
  have d1 : decide ((100 : Int) < m.length) = false := decide_eq_false (by omega)
  have d2 : decide ((100 : Int) < n.length) = false := decide_eq_false (by omega)
  have C4 := refRight_any A c N L w3 (HR.out.nx hE3) L1.out
  generalize hr1 : rightF N L = b3 at C4
  go_wp2_with fail
  refine C4.mono ?_; rintro e w4 ⟨rfl, hb4⟩
  have hE4 := bnx hE3 hb4
  clear C4 hb4 hE3 p0 p1 p2 p3 ps1 ps2
  obtain ⟨p0, p1, p2, p3, ps1, ps2⟩ := HK.out w4 hE4
  cases b3
  case false =>
    have hB := bnx HB.out hE4
    clear hE4
    go_wp2
    go_ret
    exact ⟨rfl, hB⟩
  have C5 := refRight_any A' c' N' L' w4 (HR'.out.nx hE4) L2.out
  generalize hr2 : rightF N' L' = b4 at C5
  go_wp2_with fail
  refine C5.mono ?_; rintro e w5 ⟨rfl, hb5⟩
  have hE5 := bnx hE4 hb5
  clear C5 hb5 hE4 p0 p1 p2 p3 ps1 ps2
  obtain ⟨p0, p1, p2, p3, ps1, ps2⟩ := HK.out w5 hE5
  cases b4
  case false =>
    have hB := bnx HB.out hE5
    clear hE5
    go_wp2
    go_ret
    exact ⟨rfl, hB⟩
  have C6 := Print_yes A c N L w5 (HR.out.nx hE5) (HP.out.nx hE5) hr1
  have es := print_apart hr1 hr2 (by have := print_short hs1 hr1; omega)
  have em := mod_apart m n hm1 hn1
  have HR2 := Lib.hid hr2
  have HHM := Lib.hid hm1
  have HHN := Lib.hid hn1
  clear hs1 hs2 hr1 hr2 hm1 hn1
  have hst : ∃ b, (printS N L == printS N' L') = b ∧ sameF N N' L L' = b := by
    by_cases e : N = N' ∧ L = L'
    · refine ⟨true, by simpa using es.2 e, by simp [sameF, e.1, e.2]⟩
    · refine ⟨false, ?_, ?_⟩
      · rw [beq_eq_false_iff_ne]; exact fun e2 => e (es.1 e2)
      · unfold sameF
        rw [Bool.eq_false_iff]
        intro e2
        simp at e2
        exact e e2
  have hmt : ∃ b, (modS m == modS n) = b ∧ (m == n) = b := by
    by_cases e : m = n
    · exact ⟨true, by simp [e], by simp [e]⟩
    · exact ⟨false, by rw [beq_eq_false_iff_ne]; exact fun e2 => e (em.1 e2), by simp [e]⟩
  clear es em
  obtain ⟨S, hS⟩ : ∃ S, S = strOf (printS N L) := ⟨_, rfl⟩
  obtain ⟨T, hT⟩ : ∃ T, T = strOf (printS N' L') := ⟨_, rfl⟩
  rw [show (⟨(printS N L).toArray⟩ : ByteArray) = S from hS.symm] at C6
  obtain ⟨bs, hst1, hst2⟩ := hst
  obtain ⟨bm, hmt1, hmt2⟩ := hmt
  have s1 : (S.toList == T.toList) = bs := by rw [hS, hT, toList_data, toList_data]; exact hst1
  have HT := Lib.hid hT
  clear hS hT hst1
  go_wp2_with fail
  refine C6.mono ?_; rintro e w6 ⟨rfl, hb6⟩
  have hE6 := bnx hE5 hb6
  clear C6 hb6 hE5 p0 p1 p2 p3 ps1 ps2
  obtain ⟨p0, p1, p2, p3, ps1, ps2⟩ := HK.out w6 hE6
  have C7 := Print_yes A' c' N' L' w6 (HR'.out.nx hE6) (HP.out.nx hE6) HR2.out
  rw [show (⟨(printS N' L').toArray⟩ : ByteArray) = T from HT.out.symm] at C7
  go_wp2_with fail
  refine C7.mono ?_; rintro e w7 ⟨rfl, hb7⟩
  have hE7 := bnx hE6 hb7
  clear C7 hb7 hE6 p0 p1 p2 p3 ps1 ps2
  obtain ⟨p0, p1, p2, p3, ps1, ps2⟩ := HK.out w7 hE7
  have C8 := refSame_any A A' c c' N N' L L' w7 (HR.out.nx hE7) (HR'.out.nx hE7) L1.out L2.out
  rw [hst2] at C8
  obtain ⟨U, hU⟩ : ∃ U, U = strOf (modS m) := ⟨_, rfl⟩
  obtain ⟨V, hV⟩ : ∃ V, V = strOf (modS n) := ⟨_, rfl⟩
  have u1 : (U.toList == V.toList) = bm := by rw [hU, hV, toList_data, toList_data]; exact hmt1
  have HU := Lib.hid hU
  have HV := Lib.hid hV
  have HMT := Lib.hid hmt2
  clear hst2 hmt2 hmt1 hU hV
  cases bs <;> cases bm
  all_goals
    go_wp2_with fail
    refine C8.mono ?_; rintro e w8 ⟨rfl, hb8⟩
    have hE8 := bnx hE7 hb8
    clear C8 hb8 hE7 p0 p1 p2 p3 ps1 ps2
    have C9 := PrintModel_any Am cm m w8 (HM.out.nx hE8) (by have := HHM.out; omega) (HP.out.nx hE8)
    rw [show (⟨(modS m).toArray⟩ : ByteArray) = U from HU.out.symm] at C9
    go_wp2_with fail
    refine C9.mono ?_; rintro e w9 ⟨rfl, hb9⟩
    have hE9 := bnx hE8 hb9
    clear C9 hb9 hE8
    have C10 := PrintModel_any An cn n w9 (HM'.out.nx hE9) (by have := HHN.out; omega) (HP.out.nx hE9)
    rw [show (⟨(modS n).toArray⟩ : ByteArray) = V from HV.out.symm] at C10
    go_wp2_with fail
    refine C10.mono ?_; rintro e w10 ⟨rfl, hb10⟩
    have hE10 := bnx hE9 hb10
    clear C10 hb10 hE9
    have C11 := Flags_any Am An cm cn m n w10 (HM.out.nx hE10) (HM'.out.nx hE10) L3.out L4.out
    rw [HMT.out] at C11
    go_wp2_with fail
    refine C11.mono ?_; rintro e w11 ⟨rfl, hb11⟩
    have hB := bnx HB.out (bnx hE10 hb11)
    clear C11 hb11 hE10
    go_wp2
    go_ret
    exact ⟨rfl, hB⟩
end Go.Proofs.YtplcabecbofjpaaDoor
