/-
  One statement's walk: TernBelow.
  How the arguments of the statements that take a struct, or an array of rows, are opened.
-/
import Derived.Test.YtekopdfnblfldaaDoorProg
import Derived.WalkKit
import Derived.WalkSpells
import Derived.WalkLawsBesides
import Derived.Lib.Hide
import Derived.BigQuiet
import Derived.Deep.QuietTactic
import Derived.Deep.RegionWith
import Derived.Deep.RegionHeld3
import Derived.Test.YtekopdfnblfldaaDoorQ13
import Derived.Test.YtekopdfnblfldaaDoorQ12
set_option linter.unusedVariables false
/- One statement's walk: TernBelow. -/
namespace Go.Proofs.YtekopdfnblfldaaDoor
open Go.RowKit
theorem bel1_iff (a b : Int) : bel1 a b = true ↔ a = b ∨ b = 2 := by simp [bel1]
theorem bel1_and {a b c d : Int} (h1 : bel1 a c = true) (h2 : bel1 b d = true) : bel1 (and3 a b) (and3 c d) = true := by
  rw [bel1_iff] at *
  unfold and3
  repeat' split
  all_goals omega
theorem bel1_not {a c : Int} (h1 : bel1 a c = true) : bel1 (not3 a) (not3 c) = true := by
  rw [bel1_iff] at *
  unfold not3
  repeat' split
  all_goals omega
theorem bel1_lt {v u : List Int} (h : belowT v u = true) (l : Int) : bel1 (lt3 v l) (lt3 u l) = true := by
  obtain ⟨hl, hv⟩ := (belowT_iff v u).1 h
  unfold lt3
  rw [hl]
  split
  · rfl
  · split
    · exact bel1_not (hv _ (by omega))
    · exact hv _ (by omega)
theorem belowT_app {l m p q : List Int} (h1 : belowT l m = true) (h2 : belowT p q = true) : belowT (l ++ p) (m ++ q) = true := by
  obtain ⟨a1, a2⟩ := (belowT_iff l m).1 h1
  obtain ⟨b1, b2⟩ := (belowT_iff p q).1 h2
  refine (belowT_iff _ _).2 ⟨by simp; omega, fun i hi => ?_⟩
  rw [List.length_append] at hi
  by_cases hil : i < l.length
  · have := a2 i hil
    simpa [List.getD_eq_getElem?_getD, List.getElem?_append_left hil, List.getElem?_append_left (show i < m.length by omega)] using this
  · have := b2 (i - l.length) (by omega)
    simpa [List.getD_eq_getElem?_getD, List.getElem?_append_right (show l.length ≤ i by omega), List.getElem?_append_right (show m.length ≤ i by omega), ← a1] using this
theorem belowT_vals {b c : List Int} (G : List Pr) (h : belowT b c = true) : belowT (vals3 b G) (vals3 c G) = true := by
  induction G generalizing b c with
  | nil => exact h
  | cons g G ih =>
    refine ih (belowT_app h ?_)
    have := bel1_and (bel1_lt h g.1) (bel1_lt h g.2)
    simp [belowT, this]
theorem belowT_valsOf {s1 s2 i1 i2 : List Int} (G : List Pr) (h1 : belowT s1 s2 = true) (h2 : belowT i1 i2 = true) : belowT (valsOf3 s1 i1 G) (valsOf3 s2 i2 G) = true :=
  belowT_vals G (belowT_app (l := [0]) (m := [0]) (by decide) (belowT_app h2 h1))
theorem belowT_map {α : Type} {v u : List Int} (h : belowT v u = true) (l : List α) (f : α → Int) : belowT (l.map (fun a => lt3 v (f a))) (l.map (fun a => lt3 u (f a))) = true := by
  refine (belowT_iff _ _).2 ⟨by simp, fun i hi => ?_⟩
  rw [List.length_map] at hi
  have := bel1_lt h (f l[i])
  simpa [List.getD_eq_getElem?_getD, hi] using this
set_option maxHeartbeats 1000000 in
theorem May9_any (I : Int) (AL AG AO AB AC AN : Option Addr) (cL cG cO cB cC cN : Nat) (L G : List Pr) (O D C : List Int) (N : List Nm) (w : World) (hA : RA w w.heap.size AL AG AO AB AC AN L G O D C N) (lO : O.length ≤ maxLen) (lD : D.length ≤ maxLen) (lC : C.length ≤ maxLen) (lN : N.length ≤ maxLen) :
    Calls Tryd.prog 21 #[.agg #[.int .i64 I, .slice AL L.length cL, .slice AG G.length cG, .slice AO O.length cO, .slice AB D.length cB, .slice AC C.length cC, .slice AN N.length cN]] w (RetP w (Md I L G O D C ∧ I ≤ 40 ∧ L.length ≤ 40 ∧ G.length ≤ 40 ∧ O.length ≤ 40 ∧ D.length ≤ 40 ∧ C.length ≤ 40)) := by
  have hb := bal (Below.refl w.heap.size w) (.cells #[.int .i64 I, .slice AL L.length cL, .slice AG G.length cG, .slice AO O.length cO, .slice AB D.length cB, .slice AC C.length cC, .slice AN N.length cN] 35)
  have C1 := May_any I AL AG AO AB AC AN cL cG cO cB cC cN L G O D C N _ (hA.nx hb) lO lD lC lN
  clear hA
  go_enter Tryd.func21, Tryd.ntmps21
  go_wp2_with fail
  refine C1.mono ?_; rintro e u ⟨b, rfl, p, hu⟩
  have HP := Lib.hid p
  have HB := Lib.hid (bnx hb hu)
  clear C1 p hu hb
  go_wp2
  go_ret
  exact ⟨b, rfl, fun h => ⟨(HP.out h).1, (HP.out h).2.1, (HP.out h).2.2.1, (HP.out h).2.2.2.1, (HP.out h).2.2.2.2.1, (HP.out h).2.2.2.2.2.1, (HP.out h).2.2.2.2.2.2.1⟩, HB.out⟩
def RetS3L (w0 : World) (n o d c : List Int) (x : Int) (e : Ending) (w' : World) : Prop := RetS3 w0 n o d c x e w'
set_option maxRecDepth 100000 in
set_option maxHeartbeats 8000000 in
theorem below_any (I : Int) (AL AG AO AB AC AN : Option Addr) (cL cG cO cB cC cN : Nat) (L G : List Pr) (O D C : List Int) (N : List Nm) (A1 A2 B1 B2 : Option Addr) (k1 k2 j1 j2 : Nat) (s1 s2 i1 i2 : List Int) (w : World) (hT : TB w) (hA : RA w w.heap.size AL AG AO AB AC AN L G O D C N) (lO : O.length ≤ maxLen) (lD : D.length ≤ maxLen) (lC : C.length ≤ maxLen) (lN : N.length ≤ maxLen)
    (h1 : RT w w.heap.size A1 s1) (h2 : RT w w.heap.size A2 s2) (h3 : RT w w.heap.size B1 i1) (h4 : RT w w.heap.size B2 i2) (n1 : Nn s1) (n2 : Nn s2) (n3 : Nn i1) (n4 : Nn i2) (m1 : s1.length ≤ maxLen) (m2 : s2.length ≤ maxLen) (m3 : i1.length ≤ maxLen) (m4 : i2.length ≤ maxLen) :
    Calls Tryd.prog 5 #[.agg #[.int .i64 I, .slice AL L.length cL, .slice AG G.length cG, .slice AO O.length cO, .slice AB D.length cB, .slice AC C.length cC, .slice AN N.length cN], .agg #[.slice A1 s1.length k1, .slice A2 s2.length k2], .agg #[.slice B1 i1.length j1, .slice B2 i2.length j2]] w (RetV w (.bool true)) := by
  have hb := bal (bal (bal (Below.refl w.heap.size w) (.cells #[.int .i64 I, .slice AL L.length cL, .slice AG G.length cG, .slice AO O.length cO, .slice AB D.length cB, .slice AC C.length cC, .slice AN N.length cN] 35)) (.cells #[.slice A1 s1.length k1, .slice A2 s2.length k2] 51)) (.cells #[.slice B1 i1.length j1, .slice B2 i2.length j2] 51)
  have hk : KA (((w.alloc (.cells #[.int .i64 I, .slice AL L.length cL, .slice AG G.length cG, .slice AO O.length cO, .slice AB D.length cB, .slice AC C.length cC, .slice AN N.length cN] 35)).alloc (.cells #[.slice A1 s1.length k1, .slice A2 s2.length k2] 51)).alloc (.cells #[.slice B1 i1.length j1, .slice B2 i2.length j2] 51)) w.heap.size I AL AG AO AB AC AN cL cG cO cB cC cN L G O D C N := by constructor <;> go_simp
  have ha : (((w.alloc (.cells #[.int .i64 I, .slice AL L.length cL, .slice AG G.length cG, .slice AO O.length cO, .slice AB D.length cB, .slice AC C.length cC, .slice AN N.length cN] 35)).alloc (.cells #[.slice A1 s1.length k1, .slice A2 s2.length k2] 51)).alloc (.cells #[.slice B1 i1.length j1, .slice B2 i2.length j2] 51)).cell? ⟨w.heap.size + 1, 0, none⟩ = some (.slice A1 s1.length k1) ∧ (((w.alloc (.cells #[.int .i64 I, .slice AL L.length cL, .slice AG G.length cG, .slice AO O.length cO, .slice AB D.length cB, .slice AC C.length cC, .slice AN N.length cN] 35)).alloc (.cells #[.slice A1 s1.length k1, .slice A2 s2.length k2] 51)).alloc (.cells #[.slice B1 i1.length j1, .slice B2 i2.length j2] 51)).cell? ⟨w.heap.size + 1, 1, none⟩ = some (.slice A2 s2.length k2) ∧ (((w.alloc (.cells #[.int .i64 I, .slice AL L.length cL, .slice AG G.length cG, .slice AO O.length cO, .slice AB D.length cB, .slice AC C.length cC, .slice AN N.length cN] 35)).alloc (.cells #[.slice A1 s1.length k1, .slice A2 s2.length k2] 51)).alloc (.cells #[.slice B1 i1.length j1, .slice B2 i2.length j2] 51)).cell? ⟨w.heap.size + 2, 0, none⟩ = some (.slice B1 i1.length j1) ∧ (((w.alloc (.cells #[.int .i64 I, .slice AL L.length cL, .slice AG G.length cG, .slice AO O.length cO, .slice AB D.length cB, .slice AC C.length cC, .slice AN N.length cN] 35)).alloc (.cells #[.slice A1 s1.length k1, .slice A2 s2.length k2] 51)).alloc (.cells #[.slice B1 i1.length j1, .slice B2 i2.length j2] 51)).cell? ⟨w.heap.size + 2, 1, none⟩ = some (.slice B2 i2.length j2) := by
    refine ⟨?_, ?_, ?_, ?_⟩ <;> go_simp
  have hs0 : (((w.alloc (.cells #[.int .i64 I, .slice AL L.length cL, .slice AG G.length cG, .slice AO O.length cO, .slice AB D.length cB, .slice AC C.length cC, .slice AN N.length cN] 35)).alloc (.cells #[.slice A1 s1.length k1, .slice A2 s2.length k2] 51)).alloc (.cells #[.slice B1 i1.length j1, .slice B2 i2.length j2] 51)).heap.size = w.heap.size + 3 := by simp
  have CSH := shown_any (((w.alloc (.cells #[.int .i64 I, .slice AL L.length cL, .slice AG G.length cG, .slice AO O.length cO, .slice AB D.length cB, .slice AC C.length cC, .slice AN N.length cN] 35)).alloc (.cells #[.slice A1 s1.length k1, .slice A2 s2.length k2] 51)).alloc (.cells #[.slice B1 i1.length j1, .slice B2 i2.length j2] 51)) (hT.nx hb)
  have HTB := Lib.hid (hT.nx hb)
  have HA := Lib.hid (hA.nx hb)
  have R1 := Lib.hid (h1.nx hb)
  have R2 := Lib.hid (h2.nx hb)
  have R3 := Lib.hid (h3.nx hb)
  have R4 := Lib.hid (h4.nx hb)
  have HS0 := Lib.hid hs0
  have HB := Lib.hid hb
  have HKX0 := Lib.hid hk
  have HAR0 := Lib.hid ha
  have CM := May9_any I AL AG AO AB AC AN cL cG cO cB cC cN L G O D C N
  have HCM := Lib.hid (fun wx h => CM wx h lO lD lC lN)
  have HN := Lib.hid (And.intro n1 (And.intro n2 (And.intro n3 n4)))
  have HM := Lib.hid (And.intro m1 (And.intro m2 (And.intro m3 m4)))
  unfold maxLen at m1 m2 m3 m4
  clear hA hb hk ha hs0 h1 h2 h3 h4 CM lO lD lC lN hT n1 n2 n3 n4
  go_enter Tryd.func5, Tryd.ntmps5
  go_wp2_with fail
  refine CSH.mono ?_; rintro e u1 ⟨rfl, hu1⟩
  try rw [show w.heap.size + 1 + 1 = w.heap.size + 2 by omega]
  generalize (((w.alloc (.cells #[.int .i64 I, .slice AL L.length cL, .slice AG G.length cG, .slice AO O.length cO, .slice AB D.length cB, .slice AC C.length cC, .slice AN N.length cN] 35)).alloc (.cells #[.slice A1 s1.length k1, .slice A2 s2.length k2] 51)).alloc (.cells #[.slice B1 i1.length j1, .slice B2 i2.length j2] 51)) = w0 at *
  have HKX : Hid (∀ wx, Below w0.heap.size w0 wx → KA wx w.heap.size I AL AG AO AB AC AN cL cG cO cB cC cN L G O D C N) := Lib.hid fun wx hx => HKX0.out.nx hx (by have := HS0.out; omega)
  have HAR : Hid (∀ wx, Below w0.heap.size w0 wx → wx.cell? ⟨w.heap.size + 1, 0, none⟩ = some (.slice A1 s1.length k1) ∧ wx.cell? ⟨w.heap.size + 1, 1, none⟩ = some (.slice A2 s2.length k2) ∧ wx.cell? ⟨w.heap.size + 2, 0, none⟩ = some (.slice B1 i1.length j1) ∧ wx.cell? ⟨w.heap.size + 2, 1, none⟩ = some (.slice B2 i2.length j2)) := Lib.hid fun wx hx => by
    obtain ⟨q0, q1, q2, q3⟩ := HAR0.out
    have := HS0.out
    exact ⟨(hx.cell (p := ⟨w.heap.size + 1, 0, none⟩) (by show w.heap.size + 1 < _; omega)).trans q0, (hx.cell (p := ⟨w.heap.size + 1, 1, none⟩) (by show w.heap.size + 1 < _; omega)).trans q1, (hx.cell (p := ⟨w.heap.size + 2, 0, none⟩) (by show w.heap.size + 2 < _; omega)).trans q2, (hx.cell (p := ⟨w.heap.size + 2, 1, none⟩) (by show w.heap.size + 2 < _; omega)).trans q3⟩
  have Hu1 := Lib.hid hu1
  have FIN : Hid (∀ wx, Below w0.heap.size w0 wx → Below w.heap.size w wx) := Lib.hid fun wx hx => HB.out.trans (hx.mono HB.out.size)
  clear CSH hu1 HKX0 HAR0 HS0 HB
  obtain ⟨k0, k1_, k2_, k3, k4, k5, k6⟩ := HKX.out u1 Hu1.out
  have C1 := HCM.out u1 (HA.out.nx Hu1.out)
  go_wp2_with fail
  refine C1.mono ?_; rintro e u2 ⟨bm, rfl, pm, hu2⟩
  have Hu2 := Lib.hid (bnx Hu1.out hu2)
  have HP := Lib.hid pm
  clear C1 hu2 pm HCM k0 k1_ k2_ k3 k4 k5 k6
  obtain ⟨r0, r1, r2, r3⟩ := HAR.out u2 Hu2.out
  cases bm
  · go_wp2
    go_ret
    exact ⟨rfl, FIN.out _ Hu2.out⟩
  have hMd := HP.out rfl
  have HMd := Lib.hid hMd.1
  have HX := Lib.hid hMd.2
  clear HP hMd
  by_cases q0 : 60 < s1.length
  · have d0 : decide (60 < s1.length) = true := decide_eq_true q0
    have f0 : decide ((60 : Int) < (s1.length : Int)) = true := decide_eq_true (by omega)
    go_wp2
    go_ret
    exact ⟨rfl, FIN.out _ Hu2.out⟩
  have d0 : decide (60 < s1.length) = false := decide_eq_false q0
  have f0 : decide ((60 : Int) < (s1.length : Int)) = false := decide_eq_false (by omega)
  by_cases q1 : 60 < i1.length
  · have d1 : decide (60 < i1.length) = true := decide_eq_true q1
    have f1 : decide ((60 : Int) < (i1.length : Int)) = true := decide_eq_true (by omega)
    go_wp2
    go_ret
    exact ⟨rfl, FIN.out _ Hu2.out⟩
  have d1 : decide (60 < i1.length) = false := decide_eq_false q1
  have f1 : decide ((60 : Int) < (i1.length : Int)) = false := decide_eq_false (by omega)
  have C2 := refBelow_any A1 A2 k1 k2 s1 s2 u2 (R1.out.nx Hu2.out) (R2.out.nx Hu2.out) HM.out.1
  by_cases qa : belowT s1 s2 = false
  · rw [qa] at C2
    go_wp2_with fail
    refine C2.mono ?_; rintro e u3 ⟨rfl, hu3⟩
    have Hu3 := Lib.hid (bnx Hu2.out hu3)
    clear C2 hu3 r0 r1 r2 r3
    obtain ⟨r0, r1, r2, r3⟩ := HAR.out u3 Hu3.out
    go_wp2
    go_ret
    exact ⟨rfl, FIN.out _ Hu3.out⟩
  replace qa : belowT s1 s2 = true := by simpa using qa
  rw [qa] at C2
  go_wp2_with fail
  refine C2.mono ?_; rintro e u3 ⟨rfl, hu3⟩
  have Hu3 := Lib.hid (bnx Hu2.out hu3)
  clear C2 hu3 r0 r1 r2 r3
  obtain ⟨r0, r1, r2, r3⟩ := HAR.out u3 Hu3.out
  have C3 := refBelow_any B1 B2 j1 j2 i1 i2 u3 (R3.out.nx Hu3.out) (R4.out.nx Hu3.out) HM.out.2.2.1
  by_cases qb : belowT i1 i2 = false
  · rw [qb] at C3
    go_wp2_with fail
    refine C3.mono ?_; rintro e u4 ⟨rfl, hu4⟩
    have Hu4 := Lib.hid (bnx Hu3.out hu4)
    clear C3 hu4 r0 r1 r2 r3
    go_wp2
    go_ret
    exact ⟨rfl, FIN.out _ Hu4.out⟩
  replace qb : belowT i1 i2 = true := by simpa using qb
  rw [qb] at C3
  go_wp2_with fail
  refine C3.mono ?_; rintro e u4 ⟨rfl, hu4⟩
  have Hu4 := Lib.hid (bnx Hu3.out hu4)
  clear C3 hu4 r0 r1 r2 r3
  have HV1 : Hid (∀ wx, Below w0.heap.size w0 wx → Calls Tryd.prog 22 #[.agg #[.int .i64 I, .slice AL L.length cL, .slice AG G.length cG, .slice AO O.length cO, .slice AB D.length cB, .slice AC C.length cC, .slice AN N.length cN], .slice A1 s1.length k1, .slice B1 i1.length j1] wx (RetR0 wx (orNil (fit3 I L s1 i1) (valsOf3 s1 i1 G)) (errX (fit3 I L s1 i1)))) := Lib.hid fun wx hx => Values3_any I AL AG AO AB AC AN cL cG cO cB cC cN L G O D C N A1 B1 k1 j1 s1 i1 wx (HTB.out.nx hx) (HA.out.nx hx) (R1.out.nx hx) (R3.out.nx hx) HN.out.1 HN.out.2.2.1 HM.out.1 HM.out.2.2.1 HMd.out
  have HS1 : Hid (∀ wx, Below w0.heap.size w0 wx → Calls Tryd.prog 24 #[.agg #[.int .i64 I, .slice AL L.length cL, .slice AG G.length cG, .slice AO O.length cO, .slice AB D.length cB, .slice AC C.length cC, .slice AN N.length cN], .slice A1 s1.length k1, .slice B1 i1.length j1] wx (RetS3 wx (orNil (fit3 I L s1 i1) (nextL3 L G s1 i1)) (orNil (fit3 I L s1 i1) (tellL3 O G s1 i1)) (orNil (fit3 I L s1 i1) (tellL3 D G s1 i1)) (orNil (fit3 I L s1 i1) (tellL3 C G s1 i1)) (errX (fit3 I L s1 i1)))) := Lib.hid fun wx hx => Step3_any I AL AG AO AB AC AN cL cG cO cB cC cN L G O D C N A1 B1 k1 j1 s1 i1 wx (HTB.out.nx hx) (HA.out.nx hx) (R1.out.nx hx) (R3.out.nx hx) HN.out.1 HN.out.2.2.1 HM.out.1 HM.out.2.2.1 HMd.out
  have HV2 : Hid (∀ wx, Below w0.heap.size w0 wx → Calls Tryd.prog 22 #[.agg #[.int .i64 I, .slice AL L.length cL, .slice AG G.length cG, .slice AO O.length cO, .slice AB D.length cB, .slice AC C.length cC, .slice AN N.length cN], .slice A2 s2.length k2, .slice B2 i2.length j2] wx (RetR0 wx (orNil (fit3 I L s2 i2) (valsOf3 s2 i2 G)) (errX (fit3 I L s2 i2)))) := Lib.hid fun wx hx => Values3_any I AL AG AO AB AC AN cL cG cO cB cC cN L G O D C N A2 B2 k2 j2 s2 i2 wx (HTB.out.nx hx) (HA.out.nx hx) (R2.out.nx hx) (R4.out.nx hx) HN.out.2.1 HN.out.2.2.2 HM.out.2.1 HM.out.2.2.2 HMd.out
  have HS2 : Hid (∀ wx, Below w0.heap.size w0 wx → Calls Tryd.prog 24 #[.agg #[.int .i64 I, .slice AL L.length cL, .slice AG G.length cG, .slice AO O.length cO, .slice AB D.length cB, .slice AC C.length cC, .slice AN N.length cN], .slice A2 s2.length k2, .slice B2 i2.length j2] wx (RetS3 wx (orNil (fit3 I L s2 i2) (nextL3 L G s2 i2)) (orNil (fit3 I L s2 i2) (tellL3 O G s2 i2)) (orNil (fit3 I L s2 i2) (tellL3 D G s2 i2)) (orNil (fit3 I L s2 i2) (tellL3 C G s2 i2)) (errX (fit3 I L s2 i2)))) := Lib.hid fun wx hx => Step3_any I AL AG AO AB AC AN cL cG cO cB cC cN L G O D C N A2 B2 k2 j2 s2 i2 wx (HTB.out.nx hx) (HA.out.nx hx) (R2.out.nx hx) (R4.out.nx hx) HN.out.2.1 HN.out.2.2.2 HM.out.2.1 HM.out.2.2.2 HMd.out
  have HL : Hid ((orNil (fit3 I L s1 i1) (valsOf3 s1 i1 G)).length ≤ maxLen ∧ (orNil (fit3 I L s1 i1) (nextL3 L G s1 i1)).length ≤ maxLen ∧ (orNil (fit3 I L s1 i1) (tellL3 O G s1 i1)).length ≤ maxLen ∧ (orNil (fit3 I L s1 i1) (tellL3 D G s1 i1)).length ≤ maxLen ∧ (orNil (fit3 I L s1 i1) (tellL3 C G s1 i1)).length ≤ maxLen) := Lib.hid (by
    have := HX.out
    have e1 := valsOf3_length s1 i1 G
    unfold maxLen
    cases fit3 I L s1 i1 <;> simp [orNil, nextL3, tellL3, e1] <;> omega)
  have CC : Hid (errX (fit3 I L s1 i1) = 7 ∨ (errX (fit3 I L s1 i1) = 0 ∧ errX (fit3 I L s2 i2) = 7) ∨ (errX (fit3 I L s1 i1) = 0 ∧ errX (fit3 I L s2 i2) = 0 ∧ belowT (orNil (fit3 I L s1 i1) (valsOf3 s1 i1 G)) (orNil (fit3 I L s2 i2) (valsOf3 s2 i2 G)) = true ∧ belowT (orNil (fit3 I L s1 i1) (nextL3 L G s1 i1)) (orNil (fit3 I L s2 i2) (nextL3 L G s2 i2)) = true ∧ belowT (orNil (fit3 I L s1 i1) (tellL3 O G s1 i1)) (orNil (fit3 I L s2 i2) (tellL3 O G s2 i2)) = true ∧ belowT (orNil (fit3 I L s1 i1) (tellL3 D G s1 i1)) (orNil (fit3 I L s2 i2) (tellL3 D G s2 i2)) = true ∧ belowT (orNil (fit3 I L s1 i1) (tellL3 C G s1 i1)) (orNil (fit3 I L s2 i2) (tellL3 C G s2 i2)) = true)) := Lib.hid (by
    have hv := belowT_valsOf G qa qb
    cases fit3 I L s1 i1
    · exact .inl rfl
    · cases fit3 I L s2 i2
      · exact .inr (.inl ⟨rfl, rfl⟩)
      · exact .inr (.inr ⟨rfl, rfl, hv, belowT_map hv L (fun p => p.1), belowT_map hv O id, belowT_map hv D id, belowT_map hv C id⟩))
  clear HN HM HTB HA R1 R2 R3 R4 HMd HX qa qb
  generalize (orNil (fit3 I L s1 i1) (valsOf3 s1 i1 G)) = TV1 at *
  generalize orNil (fit3 I L s1 i1) (nextL3 L G s1 i1) = TN1 at *
  generalize orNil (fit3 I L s1 i1) (tellL3 O G s1 i1) = TO1 at *
  generalize orNil (fit3 I L s1 i1) (tellL3 D G s1 i1) = TD1 at *
  generalize orNil (fit3 I L s1 i1) (tellL3 C G s1 i1) = TC1 at *
  generalize errX (fit3 I L s1 i1) = x1 at *
  generalize (orNil (fit3 I L s2 i2) (valsOf3 s2 i2 G)) = TV2 at *
  generalize orNil (fit3 I L s2 i2) (nextL3 L G s2 i2) = TN2 at *
  generalize orNil (fit3 I L s2 i2) (tellL3 O G s2 i2) = TO2 at *
  generalize orNil (fit3 I L s2 i2) (tellL3 D G s2 i2) = TD2 at *
  generalize orNil (fit3 I L s2 i2) (tellL3 C G s2 i2) = TC2 at *
  generalize errX (fit3 I L s2 i2) = x2 at *
  obtain ⟨k0, k1_, k2_, k3, k4, k5, k6⟩ := HKX.out u4 Hu4.out
  obtain ⟨r0, r1, r2, r3⟩ := HAR.out u4 Hu4.out
  have c := HV1.out u4 Hu4.out
  go_wp2_with fail
  refine c.mono ?_; rintro e a1 ⟨AV1, cV1, rfl, rv, _, _, _, ha⟩
  have Ha1 := Lib.hid (bnx Hu4.out ha)
  have RV1 := Lib.hid rv
  clear c rv ha k0 k1_ k2_ k3 k4 k5 k6 r0 r1 r2 r3
  obtain ⟨k0, k1_, k2_, k3, k4, k5, k6⟩ := HKX.out a1 Ha1.out
  obtain ⟨r0, r1, r2, r3⟩ := HAR.out a1 Ha1.out
  have c := HV2.out a1 Ha1.out
  go_wp2_with fail
  refine c.mono ?_; rintro e a2 ⟨AV2, cV2, rfl, rv, _, _, _, ha⟩
  have Ha2 := Lib.hid (bnx Ha1.out ha)
  have RV1 := Lib.hid (RV1.out.nx ha)
  have RV2 := Lib.hid rv
  clear c rv ha k0 k1_ k2_ k3 k4 k5 k6 r0 r1 r2 r3
  obtain ⟨k0, k1_, k2_, k3, k4, k5, k6⟩ := HKX.out a2 Ha2.out
  obtain ⟨r0, r1, r2, r3⟩ := HAR.out a2 Ha2.out
  have c := HS1.out a2 Ha2.out
  go_wp2_with fail
  refine c.mono ?_; rintro e b1 ⟨vn, vo, vd, vc, rfl, ⟨An1, cn1, rfl, rn, _⟩, ⟨Ao1, co1, rfl, ro, _⟩, ⟨Ad1, cd1, rfl, rd, _⟩, ⟨Ac1, cc1, rfl, rc, _⟩, hb⟩
  have hx := bal (Below.refl b1.heap.size b1) (.cells #[.slice Ao1 TO1.length co1, .slice Ad1 TD1.length cd1, .slice Ac1 TC1.length cc1] 44)
  have ht := T3.new b1 (.slice Ao1 TO1.length co1) (.slice Ad1 TD1.length cd1) (.slice Ac1 TC1.length cc1) 44
  have hl : b1.heap.size < (b1.alloc (.cells #[.slice Ao1 TO1.length co1, .slice Ad1 TD1.length cd1, .slice Ac1 TC1.length cc1] 44)).heap.size := by simp
  have Hz1 := Lib.hid (bnx (bnx Ha2.out hb) hx)
  have RV1 := Lib.hid (RV1.out.nx (bnx hb hx))
  have RV2 := Lib.hid (RV2.out.nx (bnx hb hx))
  have RN1 := Lib.hid (rn.nx hx)
  have RO1 := Lib.hid (ro.nx hx)
  have RD1 := Lib.hid (rd.nx hx)
  have RC1 := Lib.hid (rc.nx hx)
  have HT1 := Lib.hid ht
  have HL1 := Lib.hid hl
  clear c hb hx ht hl rn ro rd rc k0 k1_ k2_ k3 k4 k5 k6 r0 r1 r2 r3
  go_upto_region 7 with fail
  generalize b1.alloc (.cells #[.slice Ao1 TO1.length co1, .slice Ad1 TD1.length cd1, .slice Ac1 TC1.length cc1] 44) = z1 at *
  obtain ⟨g1, hg1⟩ : ∃ b, b1.heap.size = b := ⟨_, rfl⟩
  rw [hg1] at HT1 HL1 ⊢
  clear hg1
  obtain ⟨k0, k1_, k2_, k3, k4, k5, k6⟩ := HKX.out z1 Hz1.out
  obtain ⟨r0, r1, r2, r3⟩ := HAR.out z1 Hz1.out
  have c := HS2.out z1 Hz1.out
  go_wp2_with fail
  refine c.mono ?_; rintro e b2 ⟨vn, vo, vd, vc, rfl, ⟨An2, cn2, rfl, rn, _⟩, ⟨Ao2, co2, rfl, ro, _⟩, ⟨Ad2, cd2, rfl, rd, _⟩, ⟨Ac2, cc2, rfl, rc, _⟩, hb⟩
  have hx := bal (Below.refl b2.heap.size b2) (.cells #[.slice Ao2 TO2.length co2, .slice Ad2 TD2.length cd2, .slice Ac2 TC2.length cc2] 44)
  have ht := T3.new b2 (.slice Ao2 TO2.length co2) (.slice Ad2 TD2.length cd2) (.slice Ac2 TC2.length cc2) 44
  have hl : b2.heap.size < (b2.alloc (.cells #[.slice Ao2 TO2.length co2, .slice Ad2 TD2.length cd2, .slice Ac2 TC2.length cc2] 44)).heap.size := by simp
  have Hz2 := Lib.hid (bnx (bnx Hz1.out hb) hx)
  have RV1 := Lib.hid (RV1.out.nx (bnx hb hx))
  have RV2 := Lib.hid (RV2.out.nx (bnx hb hx))
  have RN1 := Lib.hid (RN1.out.nx (bnx hb hx))
  have RO1 := Lib.hid (RO1.out.nx (bnx hb hx))
  have RD1 := Lib.hid (RD1.out.nx (bnx hb hx))
  have RC1 := Lib.hid (RC1.out.nx (bnx hb hx))
  have HT1 := Lib.hid (HT1.out.nx (bnx hb hx) HL1.out)
  have HL1 := Lib.hid (Nat.lt_of_lt_of_le HL1.out (bnx hb hx).size)
  have RN2 := Lib.hid (rn.nx hx)
  have RO2 := Lib.hid (ro.nx hx)
  have RD2 := Lib.hid (rd.nx hx)
  have RC2 := Lib.hid (rc.nx hx)
  have HT2 := Lib.hid ht
  have HL2 := Lib.hid hl
  clear c hb hx ht hl rn ro rd rc k0 k1_ k2_ k3 k4 k5 k6 r0 r1 r2 r3
  go_upto_region 8 with fail
  generalize b2.alloc (.cells #[.slice Ao2 TO2.length co2, .slice Ad2 TD2.length cd2, .slice Ac2 TC2.length cc2] 44) = z2 at *
  obtain ⟨g2, hg2⟩ : ∃ b, b2.heap.size = b := ⟨_, rfl⟩
  rw [hg2] at HT2 HL2 ⊢
  clear hg2
  clear HV1 HV2 HS1 HS2 HKX HAR
  rcases CC.out with rfl | ⟨rfl, rfl⟩ | ⟨rfl, rfl, pV, pN, pO, pD, pC⟩
  · by_cases hx2 : (x2 == 7) = true
    · go_wp2
      go_ret
      exact ⟨rfl, FIN.out _ Hz2.out⟩
    · go_wp2
      go_ret
      exact ⟨rfl, FIN.out _ Hz2.out⟩
  · go_wp2
    go_ret
    exact ⟨rfl, FIN.out _ Hz2.out⟩
  obtain ⟨e0, e1, e2, _, _, _⟩ := HT1.out
  obtain ⟨y0, y1, y2, _, _, _⟩ := HT2.out
  have KB : Hid (∀ wx, Below z2.heap.size z2 wx → Calls Tryd.prog 18 #[.slice Ao1 TO1.length co1, .slice Ao2 TO2.length co2] wx (RetV wx (.bool true)) ∧ Calls Tryd.prog 18 #[.slice Ad1 TD1.length cd1, .slice Ad2 TD2.length cd2] wx (RetV wx (.bool true)) ∧ Calls Tryd.prog 18 #[.slice Ac1 TC1.length cc1, .slice Ac2 TC2.length cc2] wx (RetV wx (.bool true)) ∧ Calls Tryd.prog 18 #[.slice AV1 TV1.length cV1, .slice AV2 TV2.length cV2] wx (RetV wx (.bool true)) ∧ Calls Tryd.prog 18 #[.slice An1 TN1.length cn1, .slice An2 TN2.length cn2] wx (RetV wx (.bool true))) := Lib.hid fun wx hx => by
    have g1 := refBelow_any Ao1 Ao2 co1 co2 TO1 TO2 wx (RO1.out.nx hx) (RO2.out.nx hx) HL.out.2.2.1
    have g2 := refBelow_any Ad1 Ad2 cd1 cd2 TD1 TD2 wx (RD1.out.nx hx) (RD2.out.nx hx) HL.out.2.2.2.1
    have g3 := refBelow_any Ac1 Ac2 cc1 cc2 TC1 TC2 wx (RC1.out.nx hx) (RC2.out.nx hx) HL.out.2.2.2.2
    have g4 := refBelow_any AV1 AV2 cV1 cV2 TV1 TV2 wx (RV1.out.nx hx) (RV2.out.nx hx) HL.out.1
    have g5 := refBelow_any An1 An2 cn1 cn2 TN1 TN2 wx (RN1.out.nx hx) (RN2.out.nx hx) HL.out.2.1
    rw [pO] at g1
    rw [pD] at g2
    rw [pC] at g3
    rw [pV] at g4
    rw [pN] at g5
    exact ⟨g1, g2, g3, g4, g5⟩
  clear pV pN pO pD pC
  have c := (KB.out z2 (Below.refl _ _)).1
  go_wp2_with fail
  refine c.mono ?_; rintro e y0_ ⟨rfl, hy⟩
  have Hy0 := Lib.hid (hy)
  clear c hy e0 e1 e2 y0 y1 y2
  obtain ⟨e0, e1, e2, _, _, _⟩ := HT1.out.nx Hy0.out HL1.out
  obtain ⟨y0, y1, y2, _, _, _⟩ := HT2.out.nx Hy0.out HL2.out
  have c := (KB.out y0_ Hy0.out).2.1
  go_wp2_with fail
  refine c.mono ?_; rintro e y1_ ⟨rfl, hy⟩
  have Hy1 := Lib.hid (bnx Hy0.out hy)
  clear c hy e0 e1 e2 y0 y1 y2
  obtain ⟨e0, e1, e2, _, _, _⟩ := HT1.out.nx Hy1.out HL1.out
  obtain ⟨y0, y1, y2, _, _, _⟩ := HT2.out.nx Hy1.out HL2.out
  have c := (KB.out y1_ Hy1.out).2.2.1
  go_wp2_with fail
  refine c.mono ?_; rintro e y2_ ⟨rfl, hy⟩
  have Hy2 := Lib.hid (bnx Hy1.out hy)
  clear c hy e0 e1 e2 y0 y1 y2
  obtain ⟨e0, e1, e2, _, _, _⟩ := HT1.out.nx Hy2.out HL1.out
  obtain ⟨y0, y1, y2, _, _, _⟩ := HT2.out.nx Hy2.out HL2.out
  have c := (KB.out y2_ Hy2.out).2.2.2.1
  go_wp2_with fail
  refine c.mono ?_; rintro e y3_ ⟨rfl, hy⟩
  have Hy3 := Lib.hid (bnx Hy2.out hy)
  clear c hy e0 e1 e2 y0 y1 y2
  obtain ⟨e0, e1, e2, _, _, _⟩ := HT1.out.nx Hy3.out HL1.out
  obtain ⟨y0, y1, y2, _, _, _⟩ := HT2.out.nx Hy3.out HL2.out
  have c := (KB.out y3_ Hy3.out).2.2.2.2
  go_wp2_with fail
  refine c.mono ?_; rintro e y4_ ⟨rfl, hy⟩
  have Hy4 := Lib.hid (bnx Hy3.out hy)
  clear c hy e0 e1 e2 y0 y1 y2
  go_wp2
  go_ret
  exact ⟨rfl, FIN.out _ (bnx Hz2.out Hy4.out)⟩
end Go.Proofs.YtekopdfnblfldaaDoor
/- How the arguments of the statements that take a struct, or an array of rows, are opened. -/
namespace Go.Proofs.YtekopdfnblfldaaDoor
open Go.RowKit
open Go.Shelf Go.ChangeShapes Go.WideShapes Go.ChangeAt Go.RowKit Go.Lib Go.Joins
theorem cells37 : Tryd.prog.cellsOf 37 = 10 := by kernel_rfl
set_option maxRecDepth 100000 in
theorem opened37 {H : Type} {enc : TypeId × Value → H} {W : World} {fuel : Nat} {cs : Array Value} {y : DataW H × List MemPlace} (hsz : cs.size = Tryd.prog.cellsOf 37) (h : DataW.trod enc Tryd.prog W 0 (fun _ => true) true fuel 37 (Value.agg cs).cells.toList = some y) :
    ∃ (I : Int) (AL AG AO AB AC AN : Option Addr) (cL cG cO cB cC cN : Nat) (L G : List Pr) (O D C : List Int) (N : List Nm), ∃ (AS AI : Option Addr) (ks ki : Nat) (st inp : List Int) (l : Int), cs = #[.int .i64 I, .slice AL L.length cL, .slice AG G.length cG, .slice AO O.length cO, .slice AB D.length cB, .slice AC C.length cC, .slice AN N.length cN, .slice AS st.length ks, .slice AI inp.length ki, .int .i64 l] ∧ RA W W.heap.size AL AG AO AB AC AN L G O D C N ∧ (O.length ≤ maxLen ∧ D.length ≤ maxLen ∧ C.length ≤ maxLen ∧ N.length ≤ maxLen) ∧
      (RT W W.heap.size AS st ∧ st.length ≤ ks ∧ ks ≤ maxLen ∧ (AS = none → ks = 0) ∧ Nn st) ∧ (RT W W.heap.size AI inp ∧ inp.length ≤ ki ∧ ki ≤ maxLen ∧ (AI = none → ki = 0) ∧ Nn inp) ∧ -9223372036854775808 ≤ l ∧ l ≤ 9223372036854775807 := by
  obtain ⟨l⟩ := cs
  match l, hsz.trans cells37 with
  | [v0, v1, v2, v3, v4, v5, v6, v7, v8, v9], _ =>
    obtain ⟨xs, k, hk, hxy, _, hxl, hf⟩ := DataW.trod_struct Tryd.underlying37 h
    match xs, hxl with
    | [y0, y1, y2, y3], _ =>
      have g0 := hf 0 _ rfl
      have g1 := hf 1 _ rfl
      have g2 := hf 2 _ rfl
      have g3 := hf 3 _ rfl
      simp [cells3, cells35, cells22, Value.cells] at g0 g1 g2 g3
      obtain ⟨I, AL, AG, AO, AB, AC, AN, cL, cG, cO, cB, cC, cN, L, G, O, D, C, N, e, hRA, ⟨nL, nG, nO, nD, nC, nN⟩, ⟨mL, mG, mO, mD, mC, mN⟩, zG, zO, zB, zC⟩ := opened_aig g0
      obtain ⟨AS, cS, S, rfl, r1, n1, m1, z1, nn1⟩ := opened22 g1
      obtain ⟨AI, cI, S2, rfl, r2, n2, m2, z2, nn2⟩ := opened22 g2
      obtain ⟨i, e3, _, w3⟩ := DataW.trod_int Tryd.underlying3 g3
      have hb := bounds_i64 w3
      simp at e e3
      obtain ⟨rfl, rfl, rfl, rfl, rfl, rfl, rfl⟩ := e
      subst e3
      exact ⟨I, AL, AG, AO, AB, AC, AN, cL, cG, cO, cB, cC, cN, L, G, O, D, C, N, AS, AI, cS, cI, S, S2, i, rfl, hRA, ⟨by omega, by omega, by omega, by omega⟩, ⟨r1, n1, m1, z1, nn1⟩, ⟨r2, n2, m2, z2, nn2⟩, hb⟩
theorem cells64 : Tryd.prog.cellsOf 64 = 10 := by kernel_rfl
set_option maxRecDepth 100000 in
theorem opened64 {H : Type} {enc : TypeId × Value → H} {W : World} {fuel : Nat} {cs : Array Value} {y : DataW H × List MemPlace} (hsz : cs.size = Tryd.prog.cellsOf 64) (h : DataW.trod enc Tryd.prog W 0 (fun _ => true) true fuel 64 (Value.agg cs).cells.toList = some y) :
    ∃ (I : Int) (AL AG AO AB AC AN : Option Addr) (cL cG cO cB cC cN : Nat) (L G : List Pr) (O D C : List Int) (N : List Nm), ∃ (AS AI : Option Addr) (ks ki : Nat) (st inp : List Bool) (l : Int), cs = #[.int .i64 I, .slice AL L.length cL, .slice AG G.length cG, .slice AO O.length cO, .slice AB D.length cB, .slice AC C.length cC, .slice AN N.length cN, .slice AS st.length ks, .slice AI inp.length ki, .int .i64 l] ∧ RA W W.heap.size AL AG AO AB AC AN L G O D C N ∧ (O.length ≤ maxLen ∧ D.length ≤ maxLen ∧ C.length ≤ maxLen ∧ N.length ≤ maxLen) ∧
      (RB W W.heap.size AS st ∧ st.length ≤ ks ∧ ks ≤ maxLen ∧ (AS = none → ks = 0)) ∧ (RB W W.heap.size AI inp ∧ inp.length ≤ ki ∧ ki ≤ maxLen ∧ (AI = none → ki = 0)) ∧ -9223372036854775808 ≤ l ∧ l ≤ 9223372036854775807 := by
  obtain ⟨l⟩ := cs
  match l, hsz.trans cells64 with
  | [v0, v1, v2, v3, v4, v5, v6, v7, v8, v9], _ =>
    obtain ⟨xs, k, hk, hxy, _, hxl, hf⟩ := DataW.trod_struct Tryd.underlying64 h
    match xs, hxl with
    | [y0, y1, y2, y3], _ =>
      have g0 := hf 0 _ rfl
      have g1 := hf 1 _ rfl
      have g2 := hf 2 _ rfl
      have g3 := hf 3 _ rfl
      simp [cells3, cells35, cells53, Value.cells] at g0 g1 g2 g3
      obtain ⟨I, AL, AG, AO, AB, AC, AN, cL, cG, cO, cB, cC, cN, L, G, O, D, C, N, e, hRA, ⟨nL, nG, nO, nD, nC, nN⟩, ⟨mL, mG, mO, mD, mC, mN⟩, zG, zO, zB, zC⟩ := opened_aig g0
      obtain ⟨AS, cS, S, rfl, r1, n1, m1, z1⟩ := opened53 g1
      obtain ⟨AI, cI, S2, rfl, r2, n2, m2, z2⟩ := opened53 g2
      obtain ⟨i, e3, _, w3⟩ := DataW.trod_int Tryd.underlying3 g3
      have hb := bounds_i64 w3
      simp at e e3
      obtain ⟨rfl, rfl, rfl, rfl, rfl, rfl, rfl⟩ := e
      subst e3
      exact ⟨I, AL, AG, AO, AB, AC, AN, cL, cG, cO, cB, cC, cN, L, G, O, D, C, N, AS, AI, cS, cI, S, S2, i, rfl, hRA, ⟨by omega, by omega, by omega, by omega⟩, ⟨r1, n1, m1, z1⟩, ⟨r2, n2, m2, z2⟩, hb⟩
theorem okWide_array {P : Program} {w : World} {r : Reach} {base : Nat} {t : TypeId} {v : Value} {n : Nat} {e : TypeId} (ht : P.underlying t = some (.array n e)) (h : Value.okWide P w r base t v) : ∃ cs, v = .agg cs ∧ cs.size = P.cellsOf t := by
  unfold Value.okWide at h
  rw [ht] at h
  obtain ⟨cs, h1, h2, _⟩ := h
  exact ⟨cs, h1, h2⟩
theorem cells51 : Tryd.prog.cellsOf 51 = 2 := by kernel_rfl
set_option maxRecDepth 100000 in
theorem opened51 {H : Type} {enc : TypeId × Value → H} {W : World} {fuel : Nat} {cs : Array Value} {y : DataW H × List MemPlace} (hsz : cs.size = Tryd.prog.cellsOf 51) (h : DataW.trod enc Tryd.prog W 0 (fun _ => true) true fuel 51 (Value.agg cs).cells.toList = some y) :
    ∃ (A1 A2 : Option Addr) (k1 k2 : Nat) (s1 s2 : List Int), cs = #[.slice A1 s1.length k1, .slice A2 s2.length k2] ∧ RT W W.heap.size A1 s1 ∧ RT W W.heap.size A2 s2 ∧ s1.length ≤ maxLen ∧ s2.length ≤ maxLen ∧ Nn s1 ∧ Nn s2 := by
  obtain ⟨l⟩ := cs
  match l, hsz.trans cells51 with
  | [v0, v1], _ =>
    obtain ⟨xs, k, hk, hxy, _, hxl, hf⟩ := DataW.trod_array Tryd.underlying51 h
    match xs, hxl with
    | [y0, y1], _ =>
      have g0 := hf 0 (by omega)
      have g1 := hf 1 (by omega)
      simp [cells22, Value.cells] at g0 g1
      obtain ⟨AS, cS, S, rfl, r1, n1, m1, z1, p1⟩ := opened22 g0
      obtain ⟨AI, cI, S2, rfl, r2, n2, m2, z2, p2⟩ := opened22 g1
      exact ⟨AS, AI, cS, cI, S, S2, rfl, r1, r2, by omega, by omega, p1, p2⟩
end Go.Proofs.YtekopdfnblfldaaDoor
