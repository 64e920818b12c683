/-
  CnfModels, walked.
-/
import Derived.Test.YtplcabecbofjpaaDoorProg
import Derived.WalkKit
import Derived.WalkSpells
import Derived.WalkLawsBesides
import Derived.Lib.Hide
import Derived.BigQuiet
import Derived.Deep.QuietTactic
import Derived.Deep.RegionWith
import Derived.Deep.RegionHeld3
import Derived.Test.YtplcabecbofjpaaDoorT11
set_option linter.unusedVariables false
namespace Go.Proofs.YtplcabecbofjpaaDoor
open Go.RowKit
theorem rdVals_long : ∀ (r v : Nat) (t : List UInt8) (M : List Bool), (rdVals r v t M).1.length ≤ M.length + r
  | 0, _, _, M => by simp [rdVals]
  | r + 1, v, t, M => by
    rw [rdVals]
    split
    · simp
    · have := rdVals_long r (v + 1) (t.drop (rdVal t v).2.1) (M ++ [(rdVal t v).1])
      simp only [List.length_append, List.length_cons, List.length_nil] at this
      simp only
      omega
theorem parseM_long (l : List UInt8) (n : Nat) : (parseM l n).1.length ≤ n := by
  have := rdVals_long n 1 (l.drop 2) []
  unfold parseM
  repeat' split
  all_goals simp only [List.length_nil] at *
  all_goals omega
set_option maxRecDepth 100000 in
set_option maxHeartbeats 16000000 in
theorem models_walk (A Am Ab : Option Addr) (c cm cb : Nat) (N x : Int) (L : List (List Int)) (m : List Bool) (l : List UInt8) (w : World) (h : RC w w.heap.size A L) (hm : RB w w.heap.size Am m) (hb : Rd w w.heap.size Ab l)
    (l1 : L.length ≤ maxLen) (l2 : m.length ≤ maxLen) (l3 : l.length ≤ cb) (l4 : cb ≤ maxLen) (hP : Pow w.heap.size w) :
    Calls Tryd.prog 4 #[.agg #[.slice Am m.length cm, .slice Ab l.length cb, .int .i64 x, .int .i64 N, .slice A L.length c]] w (RetV w (.bool true)) := by
  have hb0 := bal (Below.refl w.heap.size w) (.cells #[.slice Am m.length cm, .slice Ab l.length cb, .int .i64 x, .int .i64 N, .slice A L.length c] 42)
  have hb1 := bal hb0 (.cells #[.int .i64 N, .slice A L.length c] 24)
  have q0 : ((w.alloc (.cells #[.slice Am m.length cm, .slice Ab l.length cb, .int .i64 x, .int .i64 N, .slice A L.length c] 42)).alloc (.cells #[.int .i64 N, .slice A L.length c] 24)).cell? ⟨w.heap.size + 1, 0, none⟩ = some (.int .i64 N) := by go_simp
  have q1 : ((w.alloc (.cells #[.slice Am m.length cm, .slice Ab l.length cb, .int .i64 x, .int .i64 N, .slice A L.length c] 42)).alloc (.cells #[.int .i64 N, .slice A L.length c] 24)).cell? ⟨w.heap.size + 1, 1, none⟩ = some (.slice A L.length c) := by go_simp
  have qs : w.heap.size + 1 < ((w.alloc (.cells #[.slice Am m.length cm, .slice Ab l.length cb, .int .i64 x, .int .i64 N, .slice A L.length c] 42)).alloc (.cells #[.int .i64 N, .slice A L.length c] 24)).heap.size := by simp
  have HB := Lib.hid hb1
  have HR := Lib.hid (h.nx hb1)
  have HM := Lib.hid (hm.nx hb1)
  have HD := Lib.hid ((hb.below hb1).mono hb1.size)
  have HP := Lib.hid (hP.nx hb1)
  have L1 := Lib.hid l1
  have L2 := Lib.hid l2
  have L3 := Lib.hid l3
  have L4 := Lib.hid l4
  generalize hw0 : (w.alloc (.cells #[.slice Am m.length cm, .slice Ab l.length cb, .int .i64 x, .int .i64 N, .slice A L.length c] 42)).alloc (.cells #[.int .i64 N, .slice A L.length c] 24) = w0 at *
  have HW0 := Lib.hid hw0
  have HK : Hid (∀ wx, Below w0.heap.size w0 wx → wx.cell? ⟨w.heap.size + 1, 0, none⟩ = some (.int .i64 N) ∧ wx.cell? ⟨w.heap.size + 1, 1, none⟩ = some (.slice A L.length c) ∧ w.heap.size + 1 < wx.heap.size) := fun wx hb => ⟨(hb.cell (p := ⟨w.heap.size + 1, 0, none⟩) (by simp; omega)).trans q0, (hb.cell (p := ⟨w.heap.size + 1, 1, none⟩) (by simp; omega)).trans q1, by have := hb.size; omega⟩
  have lm : m.length ≤ 9223372036854775807 := l2
  have lb : l.length ≤ 9223372036854775807 := by have : cb ≤ 9223372036854775807 := l4; omega
  clear hw0 hb0 hb1 h hm hb hP l1 l2 l3 l4 q0 q1 qs
  have C1 := shown_any w0 HP.out
  go_enter Tryd.func4, Tryd.ntmps4
  go_wp2_with fail
  rw [HW0.out]
  refine C1.mono ?_; rintro e w1 ⟨rfl, hE1⟩
  clear C1
  obtain ⟨p0, p1, ps⟩ := HK.out w1 hE1
  by_cases hm1 : m.length ≤ 100
  case neg =>
    have d1 : decide ((100 : Int) < m.length) = true := decide_eq_true (by omega)
    have hB := bnx HB.out hE1
    clear hE1
    go_wp2
    go_ret
    exact ⟨rfl, hB⟩
  have d1 : decide ((100 : Int) < m.length) = false := decide_eq_false (by omega)
  by_cases hl1 : l.length ≤ 2000
  case neg =>
    have d2 : decide ((2000 : Int) < l.length) = true := decide_eq_true (by omega)
    have hB := bnx HB.out hE1
    clear hE1
    go_wp2
    go_ret
    exact ⟨rfl, hB⟩
  have d2 : decide ((2000 : Int) < l.length) = false := decide_eq_false (by omega)
  by_cases hx0 : 0 ≤ x
  case neg =>
    have d3 : decide (x < 0) = true := decide_eq_true (by omega)
    have hB := bnx HB.out hE1
    clear hE1
    go_wp2
    go_ret
    exact ⟨rfl, hB⟩
  have d3 : decide (x < 0) = false := decide_eq_false (by omega)
  by_cases hx1 : x ≤ 1000
  case neg =>
    have d4 : decide (1000 < x) = true := decide_eq_true (by omega)
    have hB := bnx HB.out hE1
    clear hE1
    go_wp2
    go_ret
    exact ⟨rfl, hB⟩
  have d4 : decide (1000 < x) = false := decide_eq_false (by omega)
  have C2 := Small_any A c N 40 L w1 (HR.out.nx hE1) L1.out
  generalize hs1 : smallF 40 L = b1 at C2
  go_wp2_with fail
  refine C2.mono ?_; rintro e w2 ⟨rfl, hb2⟩
  have hE2 := bnx hE1 hb2
  clear C2 hb2 hE1 p0 p1 ps
  cases b1
  case false =>
    have hB := bnx HB.out hE2
    clear hE2
    go_wp2
    go_ret
    exact ⟨rfl, hB⟩
  obtain ⟨n, rfl⟩ := Int.eq_ofNat_of_zero_le hx0
  have hn1 : n ≤ 1000 := by omega
  obtain ⟨sL, _⟩ := small_parts hs1
  have C3 := ParseModel_any Ab cb n l w2 ((HD.out.below hE2).mono hE2.size) L3.out L4.out (by omega) (HP.out.nx hE2)
  have HSL := Lib.hid sL
  have HM1 := Lib.hid hm1
  have HL1 := Lib.hid hl1
  have HN1 := Lib.hid hn1
  have HXM : Hid ((parseM l n).1.length ≤ maxLen) := by
    show _ ≤ _
    have := parseM_long l n
    unfold maxLen; omega
  clear hs1 hx0 hx1 sL hm1 hl1 hn1
  obtain ⟨X, hX⟩ : ∃ X, parseM l n = X := ⟨_, rfl⟩
  rw [hX] at C3 HXM
  have HX := Lib.hid hX
  clear hX
  obtain ⟨XM, XK, XE⟩ := X
  simp only at C3
  go_wp2_with fail
  refine C3.mono ?_; rintro e w3 ⟨A3, c3, rfl, r3, _, hb3⟩
  have hE3 := bnx hE2 hb3
  clear C3 hb3 hE2
  have C4 := refParseModel_any Ab cb n l w3 ((HD.out.below hE3).mono hE3.size) HL1.out HN1.out
  rw [HX.out] at C4
  simp only at C4
  go_wp2_with fail
  refine C4.mono ?_; rintro e w4 ⟨A4, c4, rfl, r4, _, hb4⟩
  have hE4 := bnx hE3 hb4
  have r34 := r3.nx hb4
  clear C4 hb4 hE3 r3
  have C5 := PrintModel_any Am cm m w4 (HM.out.nx hE4) (by have := HM1.out; omega) (HP.out.nx hE4)
  obtain ⟨U, hU⟩ : ∃ U, U = strOf (modS m) := ⟨_, rfl⟩
  rw [show (⟨(modS m).toArray⟩ : ByteArray) = U from hU.symm] at C5
  have HU := Lib.hid hU
  clear hU
  go_wp2_with fail
  refine C5.mono ?_; rintro e w5 ⟨rfl, hb5⟩
  have hE5 := bnx hE4 hb5
  have r35 := r34.nx hb5
  have r45 := r4.nx hb5
  clear C5 hb5 hE4 r34 r4
  have C6 := refPrintModel_any Am cm m w5 (HM.out.nx hE5) HM1.out
  rw [← HU.out] at C6
  go_wp2_with fail
  refine C6.mono ?_; rintro e w6 ⟨rfl, hb6⟩
  have hE6 := bnx hE5 hb6
  have r36 := r35.nx hb6
  have r46 := r45.nx hb6
  clear C6 hb6 hE5 r35 r45
  have C7 := Flags_any A3 A4 c3 c4 XM XM w6 r36 r46 HXM.out HXM.out
  rw [show (XM == XM) = true by simp] at C7
  go_wp2_with fail
  refine C7.mono ?_; rintro e w7 ⟨rfl, hb7⟩
  have hE7 := bnx hE6 hb7
  have HE7 := Lib.hid hE7
  clear C7 hb7 hE6 r36 r46 hE7 HXM HX
  go_wp2
  go_loopw [14] (fun i wr => ∃ j : Nat, j ≤ L.length ∧ i = .int .i64 j ∧ Below w0.heap.size w0 wr) (fun i _ => L.length - (intOf i).toNat)
  case atStart => exact ⟨0, Nat.zero_le _, rfl, HE7.out⟩
  case round =>
    obtain ⟨j, hj, rfl, hE⟩ := hrel
    obtain ⟨p0, p1, ps⟩ := HK.out wr hE
    have hSL := HSL.out
    by_cases hlt : j < L.length
    · obtain ⟨a1, A1, k1, rfl, hab, hc1, r1, m1⟩ := (HR.out.nx hE) j hlt
      have hlt' : (j : Int) < L.length := by omega
      have hj0 : (0 : Int) ≤ j := by omega
      have hrm := HM.out.nx hE
      generalize L.getD j [] = u at *
      have HC25 : Hid (∀ wx, Below wr.heap.size wr wx → Calls Tryd.prog 30 #[.slice A1 u.length k1, .slice Am m.length cm] wx (RetV wx (.bool (clT u m)))) := fun wx hb => Clause_any A1 Am k1 cm u m wx (r1.nx hb) (hrm.nx hb) m1 L2.out
      have HC26 : Hid (∀ wx, Below wr.heap.size wr wx → Calls Tryd.prog 31 #[.slice A1 u.length k1, .slice Am m.length cm] wx (RetS wx (.bool (clT u m)))) := fun wx hb => refClause_any A1 Am k1 cm u m wx (r1.nx hb) (hrm.nx hb) m1 L2.out
      have HKK : Hid (∀ wx, Below wr.heap.size wr wx → wx.cell? ⟨w.heap.size + 1, 1, none⟩ = some (.slice (some a1) L.length c) ∧ wx.cell? (a1.add j) = some (.slice A1 u.length k1)) := fun wx hb => ⟨(hb.cell (p := ⟨w.heap.size + 1, 1, none⟩) ps).trans p1, (hb.cell (p := a1.add j) (by rw [block_add]; exact hab)).trans hc1⟩
      have hU := (Below.refl wr.heap.size wr).drew
      have K0 := HKK.out _ hU
      have HEr := Lib.hid hE
      clear hrm r1 hE
      generalize clT u m = b at *
      cases b
      all_goals
        go_wp2_with fail
        go_region_held3 (fun w' => w'.cell? ⟨w.heap.size + 1, 1, none⟩ = some (.slice (some a1) L.length c) ∧ w'.cell? (a1.add j) = some (.slice A1 u.length k1))
          (first | exact K0 | exact K1)
          (first
            | (go_at_call 30; ((with_reducible refine (HC25.out _ hU).mono ?_); rintro e u1 ⟨rfl, hu1⟩; have U1 := bnx hU hu1; have K1 := HKK.out _ U1))
            | (go_at_call 31; ((with_reducible refine (HC26.out _ U1).mono ?_); rintro e u2 ⟨rfl, rfl⟩)))
        all_goals
          have HU1 := Lib.hid (bnx HEr.out U1)
          clear K0 K1 HKK
          go_wp2
          go_roundw
          case rel => exact ⟨j + 1, by omega, by go_num, HU1.out⟩
          case measure => simp [intOf]; omega
    · have hrm := HM.out.nx hE
      have hrc := HR.out.nx hE
      have HH1 : Hid (∀ wx, Below wr.heap.size wr wx → Calls Tryd.prog 32 #[.agg #[.int .i64 N, .slice A L.length c], .slice Am m.length cm] wx (RetV wx (.bool (hoT L m)))) := fun wx hb => Holds_any A Am c cm N L m wx (hrc.nx hb) (hrm.nx hb) L1.out L2.out
      have HH2 : Hid (∀ wx, Below wr.heap.size wr wx → Calls Tryd.prog 33 #[.agg #[.int .i64 N, .slice A L.length c], .slice Am m.length cm] wx (RetV wx (.bool (hoT L m)))) := fun wx hb => refHolds_any A Am c cm N L m wx (hrc.nx hb) (hrm.nx hb) L1.out L2.out
      have HKK : Hid (∀ wx, Below wr.heap.size wr wx → wx.cell? ⟨w.heap.size + 1, 0, none⟩ = some (.int .i64 N) ∧ wx.cell? ⟨w.heap.size + 1, 1, none⟩ = some (.slice A L.length c)) := fun wx hb => ⟨(hb.cell (p := ⟨w.heap.size + 1, 0, none⟩) ps).trans p0, (hb.cell (p := ⟨w.heap.size + 1, 1, none⟩) ps).trans p1⟩
      have hU := (Below.refl wr.heap.size wr).drew
      have K0 := HKK.out _ hU
      have HEr := Lib.hid (bnx HB.out hE)
      clear hrm hrc hE
      generalize hoT L m = b at *
      cases b
      all_goals
        go_wp2_with fail
        go_region_held3 (fun w' => w'.cell? ⟨w.heap.size + 1, 0, none⟩ = some (.int .i64 N) ∧ w'.cell? ⟨w.heap.size + 1, 1, none⟩ = some (.slice A L.length c))
          (first | exact K0 | exact K1 | exact K2)
          (first
            | (go_at_call 32; ((with_reducible refine (HH1.out _ hU).mono ?_); rintro e u1 ⟨rfl, hu1⟩; have U1 := bnx hU hu1; have K1 := HKK.out _ U1))
            | (go_at_call 33; ((with_reducible refine (HH2.out _ U1).mono ?_); rintro e u2 ⟨rfl, hu2⟩; have U2 := bnx U1 hu2; have K2 := HKK.out _ U2)))
        all_goals
          have HU2 := Lib.hid (bnx HEr.out U2)
          clear K0 K1 K2 HKK
          go_wp2
          go_ret
          exact ⟨rfl, HU2.out⟩
end Go.Proofs.YtplcabecbofjpaaDoor
