/-
  CnfBack, walked.
-/
import Derived.Test.YtplcabecbofjpaaDoorProg
import Derived.WalkKit
import Derived.WalkSpells
import Derived.WalkLawsBesides
import Derived.Lib.Hide
import Derived.BigQuiet
import Derived.Deep.QuietTactic
import Derived.Deep.RegionWith
import Derived.Deep.RegionHeld3
import Derived.Test.YtplcabecbofjpaaDoorV1
set_option linter.unusedVariables false
namespace Go.Proofs.YtplcabecbofjpaaDoor
open Go.RowKit
set_option maxHeartbeats 1600000 in
theorem back_out (A Ab Am : Option Addr) (c cb cm : Nat) (N : Int) (L : List (List Int)) (l m : Nat) (w : World) (h : RC w w.heap.size A L) (hn : L.length ≤ maxLen) (hl : l ≤ maxLen) (hm : m ≤ maxLen) (hP : Pow w.heap.size w)
    (ho : smallF 40 L = false ∨ 2000 < l ∨ 100 < m) :
    Calls Tryd.prog 5 #[.agg #[.int .i64 N, .slice A L.length c], .slice Ab l cb, .slice Am m cm] w (RetV w (.bool true)) := by
  unfold maxLen at hm hl
  have hb := bal (Below.refl w.heap.size w) (.cells #[.int .i64 N, .slice A L.length c] 24)
  obtain ⟨q0, q1⟩ := box_cells w (.int .i64 N) (.slice A L.length c) 24
  have qs : w.heap.size < (w.alloc (.cells #[.int .i64 N, .slice A L.length c] 24)).heap.size := by simp
  have HB := Lib.hid hb
  have HR := Lib.hid (h.nx hb)
  have HP := Lib.hid (hP.nx hb)
  have HN := Lib.hid hn
  generalize hw0 : w.alloc (.cells #[.int .i64 N, .slice A L.length c] 24) = w0 at *
  have HW0 := Lib.hid hw0
  have cs : (smallF 40 L = false) ∨ (smallF 40 L = true ∧ decide ((2000 : Int) < l) = true) ∨ (smallF 40 L = true ∧ decide ((2000 : Int) < l) = false ∧ decide ((100 : Int) < m) = true) := by
    cases hs : smallF 40 L
    · exact .inl rfl
    · rw [hs] at ho
      by_cases h1 : 2000 < l
      · exact .inr (.inl ⟨rfl, decide_eq_true (by omega)⟩)
      · refine .inr (.inr ⟨rfl, decide_eq_false (by omega), decide_eq_true ?_⟩)
        rcases ho with h | h | h
        · cases h
        · omega
        · omega
  clear hw0 hb h hP ho hn
  have C1 := shown_any w0 HP.out
  have stepS : ∀ w1, Below w0.heap.size w0 w1 → Calls Tryd.prog 16 #[.agg #[.int .i64 N, .slice A L.length c], .int .i64 40] w1 (RetV w1 (.bool (smallF 40 L))) := fun w1 hb => Small_any A c N 40 L w1 (HR.out.nx hb) HN.out
  have HS := Lib.hid stepS
  clear stepS HN
  rcases cs with c1 | ⟨c1, c2⟩ | ⟨c1, c2, c3⟩
  all_goals
    rw [c1] at HS
    clear c1
    go_enter Tryd.func5, Tryd.ntmps5
    go_wp2_with fail
    rw [HW0.out]
    refine C1.mono ?_; rintro e w1 ⟨rfl, hb1⟩
    have p0 := (hb1.cell (p := ⟨w.heap.size, 0, none⟩) qs).trans q0
    have p1 := (hb1.cell (p := ⟨w.heap.size, 1, none⟩) qs).trans q1
    have ps : w.heap.size < w1.heap.size := by have := hb1.size; omega
    have C2 := HS.out w1 hb1
    have HB1 := Lib.hid hb1
    clear C1 hb1
    go_wp2_with fail
    refine C2.mono ?_; rintro e w2 ⟨rfl, hb2⟩
    have hB := bnx HB.out (bnx HB1.out hb2)
    clear C2 hb2 p0 p1 ps
    go_wp2
    go_ret
    exact ⟨rfl, hB⟩
set_option maxHeartbeats 8000000 in
set_option maxRecDepth 100000 in
theorem back_in_y_y (A Ab Am : Option Addr) (c cb cm : Nat) (N : Int) (L : List (List Int)) (l : List UInt8) (m : List Bool) (w : World) (h : RC w w.heap.size A L) (hb : Rd w w.heap.size Ab l) (hbl : l.length ≤ cb) (hbc : cb ≤ maxLen) (hm : RB w w.heap.size Am m) (hP : Pow w.heap.size w)
    (hs : smallF 40 L = true) (hl : l.length ≤ 2000) (hml : m.length ≤ 100) (hr : rightF N L = true) (hq : (parseS l).2.2 = 0) :
    Calls Tryd.prog 5 #[.agg #[.int .i64 N, .slice A L.length c], .slice Ab l.length cb, .slice Am m.length cm] w (RetV w (.bool true)) := by
  obtain ⟨sL, sC⟩ := small_parts hs
  have hn : L.length ≤ maxLen := by unfold maxLen; omega
  have hmm : m.length ≤ maxLen := by unfold maxLen; omega
  have d1 : decide ((2000 : Int) < l.length) = false := decide_eq_false (by omega)
  have d2 : decide ((100 : Int) < m.length) = false := decide_eq_false (by omega)
  have hbx := bal (Below.refl w.heap.size w) (.cells #[.int .i64 N, .slice A L.length c] 24)
  obtain ⟨q0, q1⟩ := box_cells w (.int .i64 N) (.slice A L.length c) 24
  have qs : w.heap.size < (w.alloc (.cells #[.int .i64 N, .slice A L.length c] 24)).heap.size := by simp
  have HB := Lib.hid hbx
  have HR := Lib.hid (h.nx hbx)
  have HD := Lib.hid ((hb.below hbx).mono hbx.size)
  have HM := Lib.hid (hm.nx hbx)
  have HP := Lib.hid (hP.nx hbx)
  have HN := Lib.hid hn
  have HMM := Lib.hid hmm
  have HBL := Lib.hid hbl
  have HBC := Lib.hid hbc
  have HRt := Lib.hid hr
  have HSm := Lib.hid hs
  have HQ := Lib.hid hq
  have kc := fun (wx : World) (S : ByteArray) => Lib.run_convert_string_bytes (P := Tryd.prog) wx 9 25 5 S Tryd.underlying9 Tryd.underlying25 Tryd.underlying5
  generalize hw0 : w.alloc (.cells #[.int .i64 N, .slice A L.length c] 24) = w0 at *
  have HW0 := Lib.hid hw0
  have HQ0 := Lib.hid q0
  have HQ1 := Lib.hid q1
  have C1 := shown_any w0 HP.out
  have HS : Hid (∀ w1, Below w0.heap.size w0 w1 → Calls Tryd.prog 16 #[.agg #[.int .i64 N, .slice A L.length c], .int .i64 40] w1 (RetV w1 (.bool true))) := by intro w1 hb; rw [← hs]; exact Small_any A c N 40 L w1 (HR.out.nx hb) HN.out
  clear hw0 hb hbl hbc hbx h hm hP hn hmm hs hr sC q0 q1 hq sL
  go_enter Tryd.func5, Tryd.ntmps5
  go_wp2_with fail
  rw [HW0.out]
  refine C1.mono ?_; rintro e w1 ⟨rfl, hb1⟩
  have p0 := (hb1.cell (p := ⟨w.heap.size, 0, none⟩) qs).trans HQ0.out
  have p1 := (hb1.cell (p := ⟨w.heap.size, 1, none⟩) qs).trans HQ1.out
  have ps : w.heap.size < w1.heap.size := by have := hb1.size; omega
  have C2 := HS.out w1 hb1
  have HB1 := Lib.hid hb1
  clear C1 hb1 HS
  go_wp2_with fail
  refine C2.mono ?_; rintro e w2 ⟨rfl, hb2⟩
  have hE2 := bnx HB1.out hb2
  clear C2 hb2 p0 p1 ps HB1
  have p0 := (hE2.cell (p := ⟨w.heap.size, 0, none⟩) qs).trans HQ0.out
  have p1 := (hE2.cell (p := ⟨w.heap.size, 1, none⟩) qs).trans HQ1.out
  have ps : w.heap.size < w2.heap.size := by have := hE2.size; omega
  have C3 := Print_yes A c N L w2 (HR.out.nx hE2) (HP.out.nx hE2) HRt.out
  have hsh := print_short HSm.out HRt.out
  have hpp := parse_print HRt.out (by omega)
  obtain ⟨S, hS⟩ : ∃ S, S = strOf (printS N L) := ⟨_, rfl⟩
  have hZ : (printS N L).length = S.size := by rw [hS, strOf_size]
  rw [show (⟨(printS N L).toArray⟩ : ByteArray) = S from hS.symm] at C3
  have HS := Lib.hid hS
  have HZ := Lib.hid hZ
  have HPP := Lib.hid hpp
  have HSH := Lib.hid hsh
  clear hS hZ hpp hsh
  go_wp2_with fail
  refine C3.mono ?_; rintro e w3 ⟨rfl, hb3⟩
  have hE3 := bnx hE2 hb3
  clear C3 hb3 p0 p1 ps hE2
  have p0 := (hE3.cell (p := ⟨w.heap.size, 0, none⟩) qs).trans HQ0.out
  have p1 := (hE3.cell (p := ⟨w.heap.size, 1, none⟩) qs).trans HQ1.out
  have ps : w.heap.size < w3.heap.size := by have := hE3.size; omega
  have C4 := refRight_any A c N L w3 (HR.out.nx hE3) HN.out
  rw [HRt.out] at C4
  go_wp2_with fail
  refine C4.mono ?_; rintro e w4 ⟨rfl, hb4⟩
  have hE4 := bnx hE3 hb4
  clear C4 hb4 p0 p1 ps hE3
  have C5 := parse_bytes w4 S _ HS.out (by have := HSH.out; omega)
  rw [HPP.out, HZ.out] at C5
  have kc4 := kc w4 S
  go_wp2_with fail
  refine C5.mono ?_; rintro e w5 ⟨A5, c5, rfl, r5, _, hb5⟩
  have hE5 := bnx hE4 hb5
  have hA := bal (Below.refl w5.heap.size w5) (.cells #[.int .i64 N, .slice A5 L.length c5] 24)
  have hE6 := bnx hE5 hA
  have r6 := r5.nx hA
  obtain ⟨g0, g1⟩ := box_cells w5 (.int .i64 N) (.slice A5 L.length c5) 24
  have gs : w5.heap.size < (w5.alloc (.cells #[.int .i64 N, .slice A5 L.length c5] 24)).heap.size := by simp
  clear C5 hb5 hE4 hE5 r5 hA kc4
  have p0 := (hE6.cell (p := ⟨w.heap.size, 0, none⟩) qs).trans HQ0.out
  have p1 := (hE6.cell (p := ⟨w.heap.size, 1, none⟩) qs).trans HQ1.out
  have ps : w.heap.size < (w5.alloc (.cells #[.int .i64 N, .slice A5 L.length c5] 24)).heap.size := by have := hE6.size; omega
  have C6 := refSame_any A A5 c c5 N N L L (w5.alloc (.cells #[.int .i64 N, .slice A5 L.length c5] 24)) (HR.out.nx hE6) r6 HN.out HN.out
  rw [sameF_self] at C6
  go_wp2_with fail
  refine C6.mono ?_; rintro e w7 ⟨rfl, hb7⟩
  have hE7 := bnx hE6 hb7
  clear C6 hb7 p0 p1 ps hE6 r6 g0 g1 gs HS HZ HPP HSH
  have C7 := PrintModel_any Am cm m w7 (HM.out.nx hE7) (by omega) (HP.out.nx hE7)
  obtain ⟨T, hT⟩ : ∃ T, T = strOf (modS m) := ⟨_, rfl⟩
  have hY : (modS m).length = T.size := by rw [hT, strOf_size]
  rw [show (⟨(modS m).toArray⟩ : ByteArray) = T from hT.symm] at C7
  have HT := Lib.hid hT
  have HY := Lib.hid hY
  have HML := Lib.hid hml
  clear hT hY hml
  go_wp2_with fail
  refine C7.mono ?_; rintro e w8 ⟨rfl, hb8⟩
  have hE8 := bnx hE7 hb8
  clear C7 hb8 hE7
  have C8 := model_bytes w8 T _ m.length HT.out (by have := mod_short m HML.out; omega) (by have := HML.out; omega) (HP.out.nx hE8)
  rw [parseM_print, HY.out] at C8
  have kc8 := kc w8 T
  go_wp2_with fail
  refine C8.mono ?_; rintro e w9 ⟨A9, c9, rfl, r9, _, hb9⟩
  have hE9 := bnx hE8 hb9
  clear C8 hb9 hE8 kc8
  have C9 := Flags_any Am A9 cm c9 m m w9 (HM.out.nx hE9) r9 HMM.out HMM.out
  rw [show (m == m) = true by simp] at C9
  go_wp2_with fail
  refine C9.mono ?_; rintro e w10 ⟨rfl, hb10⟩
  have hE10 := bnx hE9 hb10
  clear C9 hb10 hE9 r9 HT HY
  have C10 := Parse_any Ab cb l w10 ((HD.out.below hE10).mono hE10.size) HBL.out HBC.out
  obtain ⟨rt, pt, kt⟩ := parse_back HQ.out
  rw [HQ.out, kt] at C10
  clear kt kc HR
  generalize (parseS l).1.1 = N' at *
  generalize (parseS l).1.2 = L' at *
  have hn' : L'.length ≤ maxLen := by obtain ⟨_, _, hh, _⟩ := right_parts rt; unfold maxLen; omega
  have dz : decide ((l.length : Int) < 0) = false := decide_eq_false (by omega)
  have HRT := Lib.hid rt
  have HPT := Lib.hid pt
  have HN' := Lib.hid hn'
  clear rt pt hn'
  go_wp2_with fail
  refine C10.mono ?_; rintro e w11 ⟨A11, c11, rfl, r11, _, hb11⟩
  have hE11 := bnx hE10 hb11
  have hA := bal (Below.refl w11.heap.size w11) (.cells #[.int .i64 N', .slice A11 L'.length c11] 24)
  have hE12 := bnx hE11 hA
  have r12 := r11.nx hA
  obtain ⟨g0, g1⟩ := box_cells w11 (.int .i64 N') (.slice A11 L'.length c11) 24
  have gs : w11.heap.size < (w11.alloc (.cells #[.int .i64 N', .slice A11 L'.length c11] 24)).heap.size := by simp
  clear C10 hb11 hE10 hE11 r11 hA
  have C11 := Print_yes A11 c11 N' L' (w11.alloc (.cells #[.int .i64 N', .slice A11 L'.length c11] 24)) r12 (HP.out.nx hE12) HRT.out
  rw [HPT.out] at C11
  generalize hw12 : w11.alloc (.cells #[.int .i64 N', .slice A11 L'.length c11] 24) = w12 at *
  have HW12 := Lib.hid hw12
  clear hw12
  go_wp2_with fail
  rw [HW12.out]
  go_wp2_with fail
  refine C11.mono ?_; rintro e w13 ⟨rfl, hb13⟩
  have hE13 := bnx hE12 hb13
  have r13 := r12.nx hb13
  have f0 := (hb13.cell (p := ⟨w11.heap.size, 0, none⟩) gs).trans g0
  have f1 := (hb13.cell (p := ⟨w11.heap.size, 1, none⟩) gs).trans g1
  have fs : w11.heap.size < w13.heap.size := by have := hb13.size; omega
  clear C11 hb13 hE12 r12 g0 g1 gs HW12
  have C12 := refRight_any A11 c11 N' L' w13 r13 HN'.out
  rw [HRT.out] at C12
  have cv := conv_str Ab l.length cb l w0.heap.size w13 (HD.out.below hE13) rfl
  go_wp2_with fail
  refine C12.mono ?_; rintro e w14 ⟨rfl, hb14⟩
  have hB := bnx HB.out (bnx hE13 hb14)
  clear C12 hb14 r13 f0 f1 fs cv
  go_wp2
  go_ret
  exact ⟨rfl, hB⟩
set_option maxHeartbeats 8000000 in
set_option maxRecDepth 100000 in
theorem back_in_y_n (A Ab Am : Option Addr) (c cb cm : Nat) (N : Int) (L : List (List Int)) (l : List UInt8) (m : List Bool) (w : World) (h : RC w w.heap.size A L) (hb : Rd w w.heap.size Ab l) (hbl : l.length ≤ cb) (hbc : cb ≤ maxLen) (hm : RB w w.heap.size Am m) (hP : Pow w.heap.size w)
    (hs : smallF 40 L = true) (hl : l.length ≤ 2000) (hml : m.length ≤ 100) (hr : rightF N L = true) (hq : ((parseS l).2.2 != 0) = true) :
    Calls Tryd.prog 5 #[.agg #[.int .i64 N, .slice A L.length c], .slice Ab l.length cb, .slice Am m.length cm] w (RetV w (.bool true)) := by
  obtain ⟨sL, sC⟩ := small_parts hs
  have hn : L.length ≤ maxLen := by unfold maxLen; omega
  have hmm : m.length ≤ maxLen := by unfold maxLen; omega
  have d1 : decide ((2000 : Int) < l.length) = false := decide_eq_false (by omega)
  have d2 : decide ((100 : Int) < m.length) = false := decide_eq_false (by omega)
  have hbx := bal (Below.refl w.heap.size w) (.cells #[.int .i64 N, .slice A L.length c] 24)
  obtain ⟨q0, q1⟩ := box_cells w (.int .i64 N) (.slice A L.length c) 24
  have qs : w.heap.size < (w.alloc (.cells #[.int .i64 N, .slice A L.length c] 24)).heap.size := by simp
  have HB := Lib.hid hbx
  have HR := Lib.hid (h.nx hbx)
  have HD := Lib.hid ((hb.below hbx).mono hbx.size)
  have HM := Lib.hid (hm.nx hbx)
  have HP := Lib.hid (hP.nx hbx)
  have HN := Lib.hid hn
  have HMM := Lib.hid hmm
  have HBL := Lib.hid hbl
  have HBC := Lib.hid hbc
  have HRt := Lib.hid hr
  have HSm := Lib.hid hs
  have HQ := Lib.hid hq
  have kc := fun (wx : World) (S : ByteArray) => Lib.run_convert_string_bytes (P := Tryd.prog) wx 9 25 5 S Tryd.underlying9 Tryd.underlying25 Tryd.underlying5
  generalize hw0 : w.alloc (.cells #[.int .i64 N, .slice A L.length c] 24) = w0 at *
  have HW0 := Lib.hid hw0
  have HQ0 := Lib.hid q0
  have HQ1 := Lib.hid q1
  have C1 := shown_any w0 HP.out
  have HS : Hid (∀ w1, Below w0.heap.size w0 w1 → Calls Tryd.prog 16 #[.agg #[.int .i64 N, .slice A L.length c], .int .i64 40] w1 (RetV w1 (.bool true))) := by intro w1 hb; rw [← hs]; exact Small_any A c N 40 L w1 (HR.out.nx hb) HN.out
  clear hw0 hb hbl hbc hbx h hm hP hn hmm hs hr sC q0 q1 hq sL
  go_enter Tryd.func5, Tryd.ntmps5
  go_wp2_with fail
  rw [HW0.out]
  refine C1.mono ?_; rintro e w1 ⟨rfl, hb1⟩
  have p0 := (hb1.cell (p := ⟨w.heap.size, 0, none⟩) qs).trans HQ0.out
  have p1 := (hb1.cell (p := ⟨w.heap.size, 1, none⟩) qs).trans HQ1.out
  have ps : w.heap.size < w1.heap.size := by have := hb1.size; omega
  have C2 := HS.out w1 hb1
  have HB1 := Lib.hid hb1
  clear C1 hb1 HS
  go_wp2_with fail
  refine C2.mono ?_; rintro e w2 ⟨rfl, hb2⟩
  have hE2 := bnx HB1.out hb2
  clear C2 hb2 p0 p1 ps HB1
  have p0 := (hE2.cell (p := ⟨w.heap.size, 0, none⟩) qs).trans HQ0.out
  have p1 := (hE2.cell (p := ⟨w.heap.size, 1, none⟩) qs).trans HQ1.out
  have ps : w.heap.size < w2.heap.size := by have := hE2.size; omega
  have C3 := Print_yes A c N L w2 (HR.out.nx hE2) (HP.out.nx hE2) HRt.out
  have hsh := print_short HSm.out HRt.out
  have hpp := parse_print HRt.out (by omega)
  obtain ⟨S, hS⟩ : ∃ S, S = strOf (printS N L) := ⟨_, rfl⟩
  have hZ : (printS N L).length = S.size := by rw [hS, strOf_size]
  rw [show (⟨(printS N L).toArray⟩ : ByteArray) = S from hS.symm] at C3
  have HS := Lib.hid hS
  have HZ := Lib.hid hZ
  have HPP := Lib.hid hpp
  have HSH := Lib.hid hsh
  clear hS hZ hpp hsh
  go_wp2_with fail
  refine C3.mono ?_; rintro e w3 ⟨rfl, hb3⟩
  have hE3 := bnx hE2 hb3
  clear C3 hb3 p0 p1 ps hE2
  have p0 := (hE3.cell (p := ⟨w.heap.size, 0, none⟩) qs).trans HQ0.out
  have p1 := (hE3.cell (p := ⟨w.heap.size, 1, none⟩) qs).trans HQ1.out
  have ps : w.heap.size < w3.heap.size := by have := hE3.size; omega
  have C4 := refRight_any A c N L w3 (HR.out.nx hE3) HN.out
  rw [HRt.out] at C4
  go_wp2_with fail
  refine C4.mono ?_; rintro e w4 ⟨rfl, hb4⟩
  have hE4 := bnx hE3 hb4
  clear C4 hb4 p0 p1 ps hE3
  have C5 := parse_bytes w4 S _ HS.out (by have := HSH.out; omega)
  rw [HPP.out, HZ.out] at C5
  have kc4 := kc w4 S
  go_wp2_with fail
  refine C5.mono ?_; rintro e w5 ⟨A5, c5, rfl, r5, _, hb5⟩
  have hE5 := bnx hE4 hb5
  have hA := bal (Below.refl w5.heap.size w5) (.cells #[.int .i64 N, .slice A5 L.length c5] 24)
  have hE6 := bnx hE5 hA
  have r6 := r5.nx hA
  obtain ⟨g0, g1⟩ := box_cells w5 (.int .i64 N) (.slice A5 L.length c5) 24
  have gs : w5.heap.size < (w5.alloc (.cells #[.int .i64 N, .slice A5 L.length c5] 24)).heap.size := by simp
  clear C5 hb5 hE4 hE5 r5 hA kc4
  have p0 := (hE6.cell (p := ⟨w.heap.size, 0, none⟩) qs).trans HQ0.out
  have p1 := (hE6.cell (p := ⟨w.heap.size, 1, none⟩) qs).trans HQ1.out
  have ps : w.heap.size < (w5.alloc (.cells #[.int .i64 N, .slice A5 L.length c5] 24)).heap.size := by have := hE6.size; omega
  have C6 := refSame_any A A5 c c5 N N L L (w5.alloc (.cells #[.int .i64 N, .slice A5 L.length c5] 24)) (HR.out.nx hE6) r6 HN.out HN.out
  rw [sameF_self] at C6
  go_wp2_with fail
  refine C6.mono ?_; rintro e w7 ⟨rfl, hb7⟩
  have hE7 := bnx hE6 hb7
  clear C6 hb7 p0 p1 ps hE6 r6 g0 g1 gs HS HZ HPP HSH
  have C7 := PrintModel_any Am cm m w7 (HM.out.nx hE7) (by omega) (HP.out.nx hE7)
  obtain ⟨T, hT⟩ : ∃ T, T = strOf (modS m) := ⟨_, rfl⟩
  have hY : (modS m).length = T.size := by rw [hT, strOf_size]
  rw [show (⟨(modS m).toArray⟩ : ByteArray) = T from hT.symm] at C7
  have HT := Lib.hid hT
  have HY := Lib.hid hY
  have HML := Lib.hid hml
  clear hT hY hml
  go_wp2_with fail
  refine C7.mono ?_; rintro e w8 ⟨rfl, hb8⟩
  have hE8 := bnx hE7 hb8
  clear C7 hb8 hE7
  have C8 := model_bytes w8 T _ m.length HT.out (by have := mod_short m HML.out; omega) (by have := HML.out; omega) (HP.out.nx hE8)
  rw [parseM_print, HY.out] at C8
  have kc8 := kc w8 T
  go_wp2_with fail
  refine C8.mono ?_; rintro e w9 ⟨A9, c9, rfl, r9, _, hb9⟩
  have hE9 := bnx hE8 hb9
  clear C8 hb9 hE8 kc8
  have C9 := Flags_any Am A9 cm c9 m m w9 (HM.out.nx hE9) r9 HMM.out HMM.out
  rw [show (m == m) = true by simp] at C9
  go_wp2_with fail
  refine C9.mono ?_; rintro e w10 ⟨rfl, hb10⟩
  have hE10 := bnx hE9 hb10
  clear C9 hb10 hE9 r9 HT HY
  have C10 := Parse_any Ab cb l w10 ((HD.out.below hE10).mono hE10.size) HBL.out HBC.out
  have pn := parse_no (l := l) (by simpa using HQ.out)
  have pl := parse_len l
  have hE' := HQ.out
  rw [pn] at C10
  clear pn kc HR
  generalize (parseS l).2.1 = K at *
  generalize (parseS l).2.2 = E at *
  have dz : decide ((K : Int) < 0) = false := decide_eq_false (by omega)
  have dl : decide ((l.length : Int) < K) = false := decide_eq_false (by omega)
  go_wp2_with fail
  refine C10.mono ?_; rintro e w11 ⟨A11, c11, rfl, r11, _, hb11⟩
  have hE11 := bnx hE10 hb11
  have hA := bal (Below.refl w11.heap.size w11) (.cells #[.int .i64 0, .slice A11 0 c11] 24)
  have hE12 := bnx hE11 hA
  have r12 := r11.nx hA
  obtain ⟨g0, g1⟩ := box_cells w11 (.int .i64 0) (.slice A11 0 c11) 24
  have gs : w11.heap.size < (w11.alloc (.cells #[.int .i64 0, .slice A11 0 c11] 24)).heap.size := by simp
  have C11 := refSame_any A11 none c11 0 0 0 [] [] (w11.alloc (.cells #[.int .i64 0, .slice A11 0 c11] 24)) r12 (fun i hi => absurd hi (by simp)) (by decide) (by decide)
  rw [sameF_self] at C11
  clear C10 hb11 hE10 hE11 r11 hA r12
  generalize hw12 : w11.alloc (.cells #[.int .i64 0, .slice A11 0 c11] 24) = w12 at *
  have HW12 := Lib.hid hw12
  clear hw12
  go_wp2_with fail
  rw [HW12.out]
  go_wp2_with fail
  refine C11.mono ?_; rintro e w14 ⟨rfl, hb14⟩
  have hB := bnx HB.out (bnx hE12 hb14)
  clear C11 hb14 g0 g1 gs HW12 hE12
  go_wp2
  go_ret
  exact ⟨rfl, hB⟩
set_option maxHeartbeats 8000000 in
set_option maxRecDepth 100000 in
theorem back_in_n_y (A Ab Am : Option Addr) (c cb cm : Nat) (N : Int) (L : List (List Int)) (l : List UInt8) (m : List Bool) (w : World) (h : RC w w.heap.size A L) (hb : Rd w w.heap.size Ab l) (hbl : l.length ≤ cb) (hbc : cb ≤ maxLen) (hm : RB w w.heap.size Am m) (hP : Pow w.heap.size w)
    (hs : smallF 40 L = true) (hl : l.length ≤ 2000) (hml : m.length ≤ 100) (hr : rightF N L = false) (hq : (parseS l).2.2 = 0) :
    Calls Tryd.prog 5 #[.agg #[.int .i64 N, .slice A L.length c], .slice Ab l.length cb, .slice Am m.length cm] w (RetV w (.bool true)) := by
  obtain ⟨sL, sC⟩ := small_parts hs
  have hn : L.length ≤ maxLen := by unfold maxLen; omega
  have hmm : m.length ≤ maxLen := by unfold maxLen; omega
  have d1 : decide ((2000 : Int) < l.length) = false := decide_eq_false (by omega)
  have d2 : decide ((100 : Int) < m.length) = false := decide_eq_false (by omega)
  have hbx := bal (Below.refl w.heap.size w) (.cells #[.int .i64 N, .slice A L.length c] 24)
  obtain ⟨q0, q1⟩ := box_cells w (.int .i64 N) (.slice A L.length c) 24
  have qs : w.heap.size < (w.alloc (.cells #[.int .i64 N, .slice A L.length c] 24)).heap.size := by simp
  have HB := Lib.hid hbx
  have HR := Lib.hid (h.nx hbx)
  have HD := Lib.hid ((hb.below hbx).mono hbx.size)
  have HM := Lib.hid (hm.nx hbx)
  have HP := Lib.hid (hP.nx hbx)
  have HN := Lib.hid hn
  have HMM := Lib.hid hmm
  have HBL := Lib.hid hbl
  have HBC := Lib.hid hbc
  have HRt := Lib.hid hr
  have HSm := Lib.hid hs
  have HQ := Lib.hid hq
  have kc := fun (wx : World) (S : ByteArray) => Lib.run_convert_string_bytes (P := Tryd.prog) wx 9 25 5 S Tryd.underlying9 Tryd.underlying25 Tryd.underlying5
  generalize hw0 : w.alloc (.cells #[.int .i64 N, .slice A L.length c] 24) = w0 at *
  have HW0 := Lib.hid hw0
  have HQ0 := Lib.hid q0
  have HQ1 := Lib.hid q1
  have C1 := shown_any w0 HP.out
  have HS : Hid (∀ w1, Below w0.heap.size w0 w1 → Calls Tryd.prog 16 #[.agg #[.int .i64 N, .slice A L.length c], .int .i64 40] w1 (RetV w1 (.bool true))) := by intro w1 hb; rw [← hs]; exact Small_any A c N 40 L w1 (HR.out.nx hb) HN.out
  clear hw0 hb hbl hbc hbx h hm hP hn hmm hs hr sC q0 q1 hq sL
  go_enter Tryd.func5, Tryd.ntmps5
  go_wp2_with fail
  rw [HW0.out]
  refine C1.mono ?_; rintro e w1 ⟨rfl, hb1⟩
  have p0 := (hb1.cell (p := ⟨w.heap.size, 0, none⟩) qs).trans HQ0.out
  have p1 := (hb1.cell (p := ⟨w.heap.size, 1, none⟩) qs).trans HQ1.out
  have ps : w.heap.size < w1.heap.size := by have := hb1.size; omega
  have C2 := HS.out w1 hb1
  have HB1 := Lib.hid hb1
  clear C1 hb1 HS
  go_wp2_with fail
  refine C2.mono ?_; rintro e w2 ⟨rfl, hb2⟩
  have hE2 := bnx HB1.out hb2
  clear C2 hb2 p0 p1 ps HB1
  have p0 := (hE2.cell (p := ⟨w.heap.size, 0, none⟩) qs).trans HQ0.out
  have p1 := (hE2.cell (p := ⟨w.heap.size, 1, none⟩) qs).trans HQ1.out
  have ps : w.heap.size < w2.heap.size := by have := hE2.size; omega
  have C3 := Print_no A c N L w2 (HR.out.nx hE2) HN.out HRt.out
  go_wp2_with fail
  refine C3.mono ?_; rintro e w3 ⟨rfl, hb3⟩
  have hE3 := bnx hE2 hb3
  clear C3 hb3 p0 p1 ps hE2
  have p0 := (hE3.cell (p := ⟨w.heap.size, 0, none⟩) qs).trans HQ0.out
  have p1 := (hE3.cell (p := ⟨w.heap.size, 1, none⟩) qs).trans HQ1.out
  have ps : w.heap.size < w3.heap.size := by have := hE3.size; omega
  have C4 := refRight_any A c N L w3 (HR.out.nx hE3) HN.out
  rw [HRt.out] at C4
  go_wp2_with fail
  refine C4.mono ?_; rintro e w7 ⟨rfl, hb4⟩
  have hE7 := bnx hE3 hb4
  clear C4 hb4 p0 p1 ps hE3
  have C7 := PrintModel_any Am cm m w7 (HM.out.nx hE7) (by omega) (HP.out.nx hE7)
  obtain ⟨T, hT⟩ : ∃ T, T = strOf (modS m) := ⟨_, rfl⟩
  have hY : (modS m).length = T.size := by rw [hT, strOf_size]
  rw [show (⟨(modS m).toArray⟩ : ByteArray) = T from hT.symm] at C7
  have HT := Lib.hid hT
  have HY := Lib.hid hY
  have HML := Lib.hid hml
  clear hT hY hml
  go_wp2_with fail
  refine C7.mono ?_; rintro e w8 ⟨rfl, hb8⟩
  have hE8 := bnx hE7 hb8
  clear C7 hb8 hE7
  have C8 := model_bytes w8 T _ m.length HT.out (by have := mod_short m HML.out; omega) (by have := HML.out; omega) (HP.out.nx hE8)
  rw [parseM_print, HY.out] at C8
  have kc8 := kc w8 T
  go_wp2_with fail
  refine C8.mono ?_; rintro e w9 ⟨A9, c9, rfl, r9, _, hb9⟩
  have hE9 := bnx hE8 hb9
  clear C8 hb9 hE8 kc8
  have C9 := Flags_any Am A9 cm c9 m m w9 (HM.out.nx hE9) r9 HMM.out HMM.out
  rw [show (m == m) = true by simp] at C9
  go_wp2_with fail
  refine C9.mono ?_; rintro e w10 ⟨rfl, hb10⟩
  have hE10 := bnx hE9 hb10
  clear C9 hb10 hE9 r9 HT HY
  have C10 := Parse_any Ab cb l w10 ((HD.out.below hE10).mono hE10.size) HBL.out HBC.out
  obtain ⟨rt, pt, kt⟩ := parse_back HQ.out
  rw [HQ.out, kt] at C10
  clear kt kc HR
  generalize (parseS l).1.1 = N' at *
  generalize (parseS l).1.2 = L' at *
  have hn' : L'.length ≤ maxLen := by obtain ⟨_, _, hh, _⟩ := right_parts rt; unfold maxLen; omega
  have dz : decide ((l.length : Int) < 0) = false := decide_eq_false (by omega)
  have HRT := Lib.hid rt
  have HPT := Lib.hid pt
  have HN' := Lib.hid hn'
  clear rt pt hn'
  go_wp2_with fail
  refine C10.mono ?_; rintro e w11 ⟨A11, c11, rfl, r11, _, hb11⟩
  have hE11 := bnx hE10 hb11
  have hA := bal (Below.refl w11.heap.size w11) (.cells #[.int .i64 N', .slice A11 L'.length c11] 24)
  have hE12 := bnx hE11 hA
  have r12 := r11.nx hA
  obtain ⟨g0, g1⟩ := box_cells w11 (.int .i64 N') (.slice A11 L'.length c11) 24
  have gs : w11.heap.size < (w11.alloc (.cells #[.int .i64 N', .slice A11 L'.length c11] 24)).heap.size := by simp
  clear C10 hb11 hE10 hE11 r11 hA
  have C11 := Print_yes A11 c11 N' L' (w11.alloc (.cells #[.int .i64 N', .slice A11 L'.length c11] 24)) r12 (HP.out.nx hE12) HRT.out
  rw [HPT.out] at C11
  generalize hw12 : w11.alloc (.cells #[.int .i64 N', .slice A11 L'.length c11] 24) = w12 at *
  have HW12 := Lib.hid hw12
  clear hw12
  go_wp2_with fail
  rw [HW12.out]
  go_wp2_with fail
  refine C11.mono ?_; rintro e w13 ⟨rfl, hb13⟩
  have hE13 := bnx hE12 hb13
  have r13 := r12.nx hb13
  have f0 := (hb13.cell (p := ⟨w11.heap.size, 0, none⟩) gs).trans g0
  have f1 := (hb13.cell (p := ⟨w11.heap.size, 1, none⟩) gs).trans g1
  have fs : w11.heap.size < w13.heap.size := by have := hb13.size; omega
  clear C11 hb13 hE12 r12 g0 g1 gs HW12
  have C12 := refRight_any A11 c11 N' L' w13 r13 HN'.out
  rw [HRT.out] at C12
  have cv := conv_str Ab l.length cb l w0.heap.size w13 (HD.out.below hE13) rfl
  go_wp2_with fail
  refine C12.mono ?_; rintro e w14 ⟨rfl, hb14⟩
  have hB := bnx HB.out (bnx hE13 hb14)
  clear C12 hb14 r13 f0 f1 fs cv
  go_wp2
  go_ret
  exact ⟨rfl, hB⟩
set_option maxHeartbeats 8000000 in
set_option maxRecDepth 100000 in
theorem back_in_n_n (A Ab Am : Option Addr) (c cb cm : Nat) (N : Int) (L : List (List Int)) (l : List UInt8) (m : List Bool) (w : World) (h : RC w w.heap.size A L) (hb : Rd w w.heap.size Ab l) (hbl : l.length ≤ cb) (hbc : cb ≤ maxLen) (hm : RB w w.heap.size Am m) (hP : Pow w.heap.size w)
    (hs : smallF 40 L = true) (hl : l.length ≤ 2000) (hml : m.length ≤ 100) (hr : rightF N L = false) (hq : ((parseS l).2.2 != 0) = true) :
    Calls Tryd.prog 5 #[.agg #[.int .i64 N, .slice A L.length c], .slice Ab l.length cb, .slice Am m.length cm] w (RetV w (.bool true)) := by
  obtain ⟨sL, sC⟩ := small_parts hs
  have hn : L.length ≤ maxLen := by unfold maxLen; omega
  have hmm : m.length ≤ maxLen := by unfold maxLen; omega
  have d1 : decide ((2000 : Int) < l.length) = false := decide_eq_false (by omega)
  have d2 : decide ((100 : Int) < m.length) = false := decide_eq_false (by omega)
  have hbx := bal (Below.refl w.heap.size w) (.cells #[.int .i64 N, .slice A L.length c] 24)
  obtain ⟨q0, q1⟩ := box_cells w (.int .i64 N) (.slice A L.length c) 24
  have qs : w.heap.size < (w.alloc (.cells #[.int .i64 N, .slice A L.length c] 24)).heap.size := by simp
  have HB := Lib.hid hbx
  have HR := Lib.hid (h.nx hbx)
  have HD := Lib.hid ((hb.below hbx).mono hbx.size)
  have HM := Lib.hid (hm.nx hbx)
  have HP := Lib.hid (hP.nx hbx)
  have HN := Lib.hid hn
  have HMM := Lib.hid hmm
  have HBL := Lib.hid hbl
  have HBC := Lib.hid hbc
  have HRt := Lib.hid hr
  have HSm := Lib.hid hs
  have HQ := Lib.hid hq
  have kc := fun (wx : World) (S : ByteArray) => Lib.run_convert_string_bytes (P := Tryd.prog) wx 9 25 5 S Tryd.underlying9 Tryd.underlying25 Tryd.underlying5
  generalize hw0 : w.alloc (.cells #[.int .i64 N, .slice A L.length c] 24) = w0 at *
  have HW0 := Lib.hid hw0
  have HQ0 := Lib.hid q0
  have HQ1 := Lib.hid q1
  have C1 := shown_any w0 HP.out
  have HS : Hid (∀ w1, Below w0.heap.size w0 w1 → Calls Tryd.prog 16 #[.agg #[.int .i64 N, .slice A L.length c], .int .i64 40] w1 (RetV w1 (.bool true))) := by intro w1 hb; rw [← hs]; exact Small_any A c N 40 L w1 (HR.out.nx hb) HN.out
  clear hw0 hb hbl hbc hbx h hm hP hn hmm hs hr sC q0 q1 hq sL
  go_enter Tryd.func5, Tryd.ntmps5
  go_wp2_with fail
  rw [HW0.out]
  refine C1.mono ?_; rintro e w1 ⟨rfl, hb1⟩
  have p0 := (hb1.cell (p := ⟨w.heap.size, 0, none⟩) qs).trans HQ0.out
  have p1 := (hb1.cell (p := ⟨w.heap.size, 1, none⟩) qs).trans HQ1.out
  have ps : w.heap.size < w1.heap.size := by have := hb1.size; omega
  have C2 := HS.out w1 hb1
  have HB1 := Lib.hid hb1
  clear C1 hb1 HS
  go_wp2_with fail
  refine C2.mono ?_; rintro e w2 ⟨rfl, hb2⟩
  have hE2 := bnx HB1.out hb2
  clear C2 hb2 p0 p1 ps HB1
  have p0 := (hE2.cell (p := ⟨w.heap.size, 0, none⟩) qs).trans HQ0.out
  have p1 := (hE2.cell (p := ⟨w.heap.size, 1, none⟩) qs).trans HQ1.out
  have ps : w.heap.size < w2.heap.size := by have := hE2.size; omega
  have C3 := Print_no A c N L w2 (HR.out.nx hE2) HN.out HRt.out
  go_wp2_with fail
  refine C3.mono ?_; rintro e w3 ⟨rfl, hb3⟩
  have hE3 := bnx hE2 hb3
  clear C3 hb3 p0 p1 ps hE2
  have p0 := (hE3.cell (p := ⟨w.heap.size, 0, none⟩) qs).trans HQ0.out
  have p1 := (hE3.cell (p := ⟨w.heap.size, 1, none⟩) qs).trans HQ1.out
  have ps : w.heap.size < w3.heap.size := by have := hE3.size; omega
  have C4 := refRight_any A c N L w3 (HR.out.nx hE3) HN.out
  rw [HRt.out] at C4
  go_wp2_with fail
  refine C4.mono ?_; rintro e w7 ⟨rfl, hb4⟩
  have hE7 := bnx hE3 hb4
  clear C4 hb4 p0 p1 ps hE3
  have C7 := PrintModel_any Am cm m w7 (HM.out.nx hE7) (by omega) (HP.out.nx hE7)
  obtain ⟨T, hT⟩ : ∃ T, T = strOf (modS m) := ⟨_, rfl⟩
  have hY : (modS m).length = T.size := by rw [hT, strOf_size]
  rw [show (⟨(modS m).toArray⟩ : ByteArray) = T from hT.symm] at C7
  have HT := Lib.hid hT
  have HY := Lib.hid hY
  have HML := Lib.hid hml
  clear hT hY hml
  go_wp2_with fail
  refine C7.mono ?_; rintro e w8 ⟨rfl, hb8⟩
  have hE8 := bnx hE7 hb8
  clear C7 hb8 hE7
  have C8 := model_bytes w8 T _ m.length HT.out (by have := mod_short m HML.out; omega) (by have := HML.out; omega) (HP.out.nx hE8)
  rw [parseM_print, HY.out] at C8
  have kc8 := kc w8 T
  go_wp2_with fail
  refine C8.mono ?_; rintro e w9 ⟨A9, c9, rfl, r9, _, hb9⟩
  have hE9 := bnx hE8 hb9
  clear C8 hb9 hE8 kc8
  have C9 := Flags_any Am A9 cm c9 m m w9 (HM.out.nx hE9) r9 HMM.out HMM.out
  rw [show (m == m) = true by simp] at C9
  go_wp2_with fail
  refine C9.mono ?_; rintro e w10 ⟨rfl, hb10⟩
  have hE10 := bnx hE9 hb10
  clear C9 hb10 hE9 r9 HT HY
  have C10 := Parse_any Ab cb l w10 ((HD.out.below hE10).mono hE10.size) HBL.out HBC.out
  have pn := parse_no (l := l) (by simpa using HQ.out)
  have pl := parse_len l
  have hE' := HQ.out
  rw [pn] at C10
  clear pn kc HR
  generalize (parseS l).2.1 = K at *
  generalize (parseS l).2.2 = E at *
  have dz : decide ((K : Int) < 0) = false := decide_eq_false (by omega)
  have dl : decide ((l.length : Int) < K) = false := decide_eq_false (by omega)
  go_wp2_with fail
  refine C10.mono ?_; rintro e w11 ⟨A11, c11, rfl, r11, _, hb11⟩
  have hE11 := bnx hE10 hb11
  have hA := bal (Below.refl w11.heap.size w11) (.cells #[.int .i64 0, .slice A11 0 c11] 24)
  have hE12 := bnx hE11 hA
  have r12 := r11.nx hA
  obtain ⟨g0, g1⟩ := box_cells w11 (.int .i64 0) (.slice A11 0 c11) 24
  have gs : w11.heap.size < (w11.alloc (.cells #[.int .i64 0, .slice A11 0 c11] 24)).heap.size := by simp
  have C11 := refSame_any A11 none c11 0 0 0 [] [] (w11.alloc (.cells #[.int .i64 0, .slice A11 0 c11] 24)) r12 (fun i hi => absurd hi (by simp)) (by decide) (by decide)
  rw [sameF_self] at C11
  clear C10 hb11 hE10 hE11 r11 hA r12
  generalize hw12 : w11.alloc (.cells #[.int .i64 0, .slice A11 0 c11] 24) = w12 at *
  have HW12 := Lib.hid hw12
  clear hw12
  go_wp2_with fail
  rw [HW12.out]
  go_wp2_with fail
  refine C11.mono ?_; rintro e w14 ⟨rfl, hb14⟩
  have hB := bnx HB.out (bnx hE12 hb14)
  clear C11 hb14 g0 g1 gs HW12 hE12
  go_wp2
  go_ret
  exact ⟨rfl, hB⟩
end Go.Proofs.YtplcabecbofjpaaDoor
