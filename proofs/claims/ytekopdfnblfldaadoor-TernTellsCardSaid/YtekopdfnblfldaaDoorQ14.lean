/-
  One statement's walk: TernTells.
-/
import Derived.Test.YtekopdfnblfldaaDoorProg
import Derived.WalkKit
import Derived.WalkSpells
import Derived.WalkLawsBesides
import Derived.Lib.Hide
import Derived.BigQuiet
import Derived.Deep.QuietTactic
import Derived.Deep.RegionWith
import Derived.Deep.RegionHeld3
import Derived.Test.YtekopdfnblfldaaDoorQ11
set_option linter.unusedVariables false
namespace Go.Proofs.YtekopdfnblfldaaDoor
open Go.RowKit
set_option maxRecDepth 100000 in
set_option maxHeartbeats 8000000 in
theorem tells_any (A1 A2 : Option Addr) (c1 c2 : Nat) (x y : List Int) (w : World) (hT : TB w) (h1 : RT w w.heap.size A1 x) (h2 : RT w w.heap.size A2 y) (n1 : Nn x) (n2 : Nn y) (m1 : x.length ≤ maxLen) (m2 : y.length ≤ maxLen) :
    Calls Tryd.prog 3 #[.slice A1 x.length c1, .slice A2 y.length c2] w (RetV w (.bool true)) := by
  have C0 := shown_any w hT
  have HT := Lib.hid hT
  have H1 := Lib.hid h1
  have H2 := Lib.hid h2
  have HM := Lib.hid (And.intro m1 m2)
  have HN := Lib.hid (And.intro n1 n2)
  unfold maxLen at m1 m2
  clear hT h1 h2 n1 n2
  by_cases q0 : 100 < x.length
  · have d0 : decide (100 < x.length) = true := decide_eq_true q0
    have f0 : decide ((100 : Int) < (x.length : Int)) = true := decide_eq_true (by omega)
    clear HN
    go_enter Tryd.func3, Tryd.ntmps3
    go_wp2_with fail
    refine C0.mono ?_; rintro e w0 ⟨rfl, h0⟩
    clear C0
    go_wp2
    go_ret
    exact ⟨rfl, h0⟩
  have d0 : decide (100 < x.length) = false := decide_eq_false q0
  have f0 : decide ((100 : Int) < (x.length : Int)) = false := decide_eq_false (by omega)
  by_cases q1 : 100 < y.length
  · have d1 : decide (100 < y.length) = true := decide_eq_true q1
    have f1 : decide ((100 : Int) < (y.length : Int)) = true := decide_eq_true (by omega)
    clear HN
    go_enter Tryd.func3, Tryd.ntmps3
    go_wp2_with fail
    refine C0.mono ?_; rintro e w0 ⟨rfl, h0⟩
    clear C0
    go_wp2
    go_ret
    exact ⟨rfl, h0⟩
  have d1 : decide (100 < y.length) = false := decide_eq_false q1
  have f1 : decide ((100 : Int) < (y.length : Int)) = false := decide_eq_false (by omega)
  by_cases i0 : isTri x = false
  · skip
    clear HN
    go_enter Tryd.func3, Tryd.ntmps3
    go_wp2_with fail
    refine C0.mono ?_; rintro e w0 ⟨rfl, h0⟩
    clear C0
    have t := IsTri_any A1 c1 x w0 (H1.out.nx h0) HM.out.1
    rw [i0] at t
    go_wp2_with fail
    refine t.mono ?_; rintro e w' ⟨rfl, rfl⟩
    clear t
    have t := refIsTri_any A1 c1 x w0 (H1.out.nx h0) HM.out.1
    rw [i0] at t
    go_wp2_with fail
    refine t.mono ?_; rintro e w' ⟨rfl, rfl⟩
    clear t
    have t := refIsTri_any A1 c1 x w0 (H1.out.nx h0) HM.out.1
    rw [i0] at t
    go_wp2_with fail
    refine t.mono ?_; rintro e w' ⟨rfl, rfl⟩
    clear t
    go_wp2
    go_ret
    exact ⟨rfl, h0⟩
  replace i0 : isTri x = true := by simpa using i0
  by_cases i1 : isTri y = false
  · skip
    clear HN
    go_enter Tryd.func3, Tryd.ntmps3
    go_wp2_with fail
    refine C0.mono ?_; rintro e w0 ⟨rfl, h0⟩
    clear C0
    have t := IsTri_any A1 c1 x w0 (H1.out.nx h0) HM.out.1
    rw [i0] at t
    go_wp2_with fail
    refine t.mono ?_; rintro e w' ⟨rfl, rfl⟩
    clear t
    have t := refIsTri_any A1 c1 x w0 (H1.out.nx h0) HM.out.1
    rw [i0] at t
    go_wp2_with fail
    refine t.mono ?_; rintro e w' ⟨rfl, rfl⟩
    clear t
    have t := refIsTri_any A1 c1 x w0 (H1.out.nx h0) HM.out.1
    rw [i0] at t
    go_wp2_with fail
    refine t.mono ?_; rintro e w' ⟨rfl, rfl⟩
    clear t
    have t := refIsTri_any A2 c2 y w0 (H2.out.nx h0) HM.out.2
    rw [i1] at t
    go_wp2_with fail
    refine t.mono ?_; rintro e w' ⟨rfl, rfl⟩
    clear t
    go_wp2
    go_ret
    exact ⟨rfl, h0⟩
  replace i1 : isTri y = true := by simpa using i1
  have b0 : x.length ≤ 100 := by omega
  have HIX := Lib.hid (And.intro (isTri_in i0 HN.out.1) (isTri_in i1 HN.out.2))
  clear HN
  go_enter Tryd.func3, Tryd.ntmps3
  go_wp2_with fail
  refine C0.mono ?_; rintro e w0 ⟨rfl, h0⟩
  clear C0
  have t := IsTri_any A1 c1 x w0 (H1.out.nx h0) HM.out.1
  rw [i0] at t
  go_wp2_with fail
  refine t.mono ?_; rintro e w' ⟨rfl, rfl⟩
  clear t
  have t := refIsTri_any A1 c1 x w0 (H1.out.nx h0) HM.out.1
  rw [i0] at t
  go_wp2_with fail
  refine t.mono ?_; rintro e w' ⟨rfl, rfl⟩
  clear t
  have t := refIsTri_any A1 c1 x w0 (H1.out.nx h0) HM.out.1
  rw [i0] at t
  go_wp2_with fail
  refine t.mono ?_; rintro e w' ⟨rfl, rfl⟩
  clear t
  have t := refIsTri_any A2 c2 y w0 (H2.out.nx h0) HM.out.2
  rw [i1] at t
  go_wp2_with fail
  refine t.mono ?_; rintro e w' ⟨rfl, rfl⟩
  clear t
  have HB0 := Lib.hid h0
  have HT0 := Lib.hid (HT.out.nx h0)
  have R1 := Lib.hid (H1.out.nx h0)
  have R2 := Lib.hid (H2.out.nx h0)
  clear h0 i0 i1 HT H1 H2
  go_wp2
  go_loopg [6] x.length (fun g s wr => ∃ j : Nat, j + g = x.length ∧ s = .int .i64 j ∧ Below w0.heap.size w0 wr)
  case atStart => exact ⟨0, by omega, rfl, Below.refl _ _⟩
  case round =>
    obtain ⟨j, hj, rfl, hbel⟩ := hrel
    cases gk with
    | succ g =>
      have hjl : j < x.length := by omega
      have hjl' : (j : Int) < x.length := by omega
      obtain ⟨ad, rfl, hab, hp⟩ := R1.out j hjl
      have hp' := (hbel.cell (p := ad.add j) (by rw [block_add]; exact hab)).trans hp
      have hx0 := (HIX.out.1.at j).1
      have CN : Hid (∀ n, Calls Tryd.prog 13 #[.int .u8 (x.getD j 0)] (wr.drewN n) (RetS (wr.drewN n) (.int .u8 (not3 (x.getD j 0))))) := Lib.hid fun n => Not_any _ _
      have CM : Hid (∀ n, Calls Tryd.prog 14 #[.int .u8 (x.getD j 0)] (wr.drewN n) (RetS (wr.drewN n) (.int .u8 (not3 (x.getD j 0))))) := Lib.hid fun n => refNot_any _ _
      by_cases hjm : j < y.length
      · have g1 : decide (j < y.length) = true := decide_eq_true hjm
        have g2 : decide ((j : Int) < (y.length : Int)) = true := decide_eq_true (by omega)
        have hjm' : (j : Int) < y.length := by omega
        obtain ⟨ad2, rfl, hab2, hp2⟩ := R2.out j hjm
        have hp2' := (hbel.cell (p := ad2.add j) (by rw [block_add]; exact hab2)).trans hp2
        have hy0 := (HIX.out.2.at j).1
        have CA : Hid (∀ n, Calls Tryd.prog 15 #[.int .u8 (x.getD j 0), .int .u8 (y.getD j 0)] (wr.drewN n) fun e w' => e = .returned (.int .u8 (and3 (x.getD j 0) (y.getD j 0))) ∧ ∃ m, w' = (wr.drewN n).drewN m) := Lib.hid fun n => And_q _ _ hx0 hy0 _ (HT0.out.nx (bnx hbel (drw n)))
        have CB : Hid (∀ n, Calls Tryd.prog 16 #[.int .u8 (x.getD j 0), .int .u8 (y.getD j 0)] (wr.drewN n) (RetS (wr.drewN n) (.int .u8 (and3 (x.getD j 0) (y.getD j 0))))) := Lib.hid fun n => refAnd_any _ _ _
        generalize and3 (x.getD j 0) (y.getD j 0) = av at *
        generalize not3 (x.getD j 0) = nv at *
        generalize x.getD j 0 = xv at *
        generalize y.getD j 0 = yv at *
        have z1 : (av != av) = false := by simp
        have z2 : (nv != nv) = false := by simp
        have HBEL := Lib.hid hbel
        clear hp hp2 hbel hx0 hy0
        go_wp2
        go_quiet (first | exact quietS (CN.out _) | exact quietS (CM.out _) | exact Calls.quiet_of (CA.out _) | exact quietS (CB.out _))
        go_wp2
        go_roundg g
        case measure => omega
        case rel => exact ⟨j + 1, by omega, by go_num, bnx HBEL.out (drw _)⟩
      · have g1 : decide (j < y.length) = false := decide_eq_false hjm
        have g2 : decide ((j : Int) < (y.length : Int)) = false := decide_eq_false (by omega)
        generalize not3 (x.getD j 0) = nv at *
        generalize x.getD j 0 = xv at *
        have z2 : (nv != nv) = false := by simp
        have HBEL := Lib.hid hbel
        clear hp hbel hx0 hjm
        go_wp2
        go_quiet (first | exact quietS (CN.out _) | exact quietS (CM.out _))
        go_wp2
        go_roundg g
        case measure => omega
        case rel => exact ⟨j + 1, by omega, by go_num, bnx HBEL.out (drw _)⟩
    | zero =>
      have q1 : ¬ ((j : Int) < x.length) := by omega
      have q2 : ¬ (j < x.length) := by omega
      have k1 := Below_any A1 A2 c1 c2 x y wr (R1.out.nx hbel) (R2.out.nx hbel) HM.out.1
      have k2 := refBelow_any A1 A2 c1 c2 x y wr (R1.out.nx hbel) (R2.out.nx hbel) HM.out.1
      have HBEL := Lib.hid hbel
      have KT : Hid (∀ wx, Below wr.heap.size wr wx → Calls Tryd.prog 19 #[.slice A1 x.length c1] wx (RetV wx (.string (strO (textS x)))) ∧ Calls Tryd.prog 20 #[.slice A1 x.length c1] wx (RetV wx (.string (strO (textS x))))) := Lib.hid fun wx hx => ⟨Text_any A1 c1 x wx ((R1.out.nx HBEL.out).nx hx) (by omega) (fun v hv => (HIX.out.1 v hv).1), refText_any A1 c1 x wx ((R1.out.nx HBEL.out).nx hx) (by omega)⟩
      generalize strO (textS x) = S at *
      generalize belowT x y = bb at *
      have z1 : (bb == bb) = true := by simp
      clear hbel
      go_wp2_with fail
      refine k1.mono ?_; rintro e w' ⟨rfl, rfl⟩
      clear k1
      go_wp2_with fail
      refine k2.mono ?_; rintro e wa ⟨rfl, ha⟩
      have HA := Lib.hid ha
      have k3 := (KT.out wa ha).1
      clear k2 ha
      go_wp2_with fail
      refine k3.mono ?_; rintro e wb ⟨rfl, hb⟩
      have HBb := Lib.hid (bnx HA.out hb)
      have k4 := (KT.out wb HBb.out).2
      clear k3 hb
      go_wp2_with fail
      refine k4.mono ?_; rintro e wc ⟨rfl, hc⟩
      have HC := Lib.hid (bnx HB0.out (bnx HBEL.out (bnx HBb.out hc)))
      clear k4 hc
      go_wp2
      go_ret
      exact ⟨rfl, HC.out⟩
end Go.Proofs.YtekopdfnblfldaaDoor
