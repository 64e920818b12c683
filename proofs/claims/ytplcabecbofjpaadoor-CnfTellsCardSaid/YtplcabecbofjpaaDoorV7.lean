/-
  CnfTells, walked.
-/
import Derived.Test.YtplcabecbofjpaaDoorProg
import Derived.WalkKit
import Derived.WalkSpells
import Derived.WalkLawsBesides
import Derived.Lib.Hide
import Derived.BigQuiet
import Derived.Deep.QuietTactic
import Derived.Deep.RegionWith
import Derived.Deep.RegionHeld3
import Derived.Test.YtplcabecbofjpaaDoorT21
import Derived.Test.YtplcabecbofjpaaDoorT16
import Derived.Test.YtplcabecbofjpaaDoorV2
import Derived.Test.YtplcabecbofjpaaDoorS14
import Derived.Deep.Cut
set_option linter.unusedVariables false
namespace Go.Proofs.YtplcabecbofjpaaDoor
open Go.RowKit
theorem parse_none (l : List UInt8) (h : (parseS l).2.2 ≠ 0) : (parseS l).1.2 = [] := by
  unfold parseS at *
  by_cases h1 : 100000 < l.length
  · rw [if_pos h1]
  · rw [if_neg h1] at h ⊢
    by_cases h2 : (rdHead l).2.2.2 ≠ 0
    · rw [if_pos h2]
    · rw [if_neg h2] at h ⊢
      by_cases h3 : (rdCls (rdHead l).1 (rdHead l).2.1.toNat (l.drop (rdHead l).2.2.1) []).2.2 ≠ 0
      · rw [if_pos h3]
      · rw [if_neg h3] at h ⊢
        by_cases h4 : (rdHead l).2.2.1 + (rdCls (rdHead l).1 (rdHead l).2.1.toNat (l.drop (rdHead l).2.2.1) []).2.1 < l.length
        · rw [if_pos h4]
        · rw [if_neg h4] at h; exact absurd rfl h
theorem parse_few (l : List UInt8) : (parseS l).1.2.length ≤ 20000 := by
  by_cases h : (parseS l).2.2 = 0
  · have h1 := (parse_back h).1
    simp [rightF] at h1; omega
  · rw [parse_none l h]; simp
set_option maxRecDepth 100000 in
set_option maxHeartbeats 16000000 in
theorem tells_walk (A A' Ab : Option Addr) (c c' cb : Nat) (N N' : Int) (L L' : List (List Int)) (l : List UInt8) (w : World) (h : RC w w.heap.size A L) (h' : RC w w.heap.size A' L') (hb : Rd w w.heap.size Ab l)
    (l1 : L.length ≤ maxLen) (l2 : L'.length ≤ maxLen) (l3 : l.length ≤ cb) (l4 : cb ≤ maxLen) (hP : Pow w.heap.size w) :
    Calls Tryd.prog 3 #[.agg #[.int .i64 N, .slice A L.length c], .agg #[.int .i64 N', .slice A' L'.length c'], .slice Ab l.length cb] w (RetV w (.bool true)) := by
  have hb0 := bal (Below.refl w.heap.size w) (.cells #[.int .i64 N, .slice A L.length c] 24)
  have hb1 := bal hb0 (.cells #[.int .i64 N', .slice A' L'.length c'] 24)
  have q0 : ((w.alloc (.cells #[.int .i64 N, .slice A L.length c] 24)).alloc (.cells #[.int .i64 N', .slice A' L'.length c'] 24)).cell? ⟨w.heap.size, 0, none⟩ = some (.int .i64 N) := by go_simp
  have q1 : ((w.alloc (.cells #[.int .i64 N, .slice A L.length c] 24)).alloc (.cells #[.int .i64 N', .slice A' L'.length c'] 24)).cell? ⟨w.heap.size, 1, none⟩ = some (.slice A L.length c) := by go_simp
  have q2 : ((w.alloc (.cells #[.int .i64 N, .slice A L.length c] 24)).alloc (.cells #[.int .i64 N', .slice A' L'.length c'] 24)).cell? ⟨w.heap.size + 1, 0, none⟩ = some (.int .i64 N') := by go_simp
  have q3 : ((w.alloc (.cells #[.int .i64 N, .slice A L.length c] 24)).alloc (.cells #[.int .i64 N', .slice A' L'.length c'] 24)).cell? ⟨w.heap.size + 1, 1, none⟩ = some (.slice A' L'.length c') := by go_simp
  have qs : w.heap.size + 1 < ((w.alloc (.cells #[.int .i64 N, .slice A L.length c] 24)).alloc (.cells #[.int .i64 N', .slice A' L'.length c'] 24)).heap.size := by simp
  have HB := Lib.hid hb1
  have HR := Lib.hid (h.nx hb1)
  have HR' := Lib.hid (h'.nx hb1)
  have HD := Lib.hid ((hb.below hb1).mono hb1.size)
  have HP := Lib.hid (hP.nx hb1)
  have L1 := Lib.hid l1
  have L2 := Lib.hid l2
  have L3 := Lib.hid l3
  have L4 := Lib.hid l4
  generalize hw0 : (w.alloc (.cells #[.int .i64 N, .slice A L.length c] 24)).alloc (.cells #[.int .i64 N', .slice A' L'.length c'] 24) = w0 at *
  have HW0 := Lib.hid hw0
  have HK : Hid (∀ wx, Below w0.heap.size w0 wx → wx.cell? ⟨w.heap.size, 0, none⟩ = some (.int .i64 N) ∧ wx.cell? ⟨w.heap.size, 1, none⟩ = some (.slice A L.length c) ∧ wx.cell? ⟨w.heap.size + 1, 0, none⟩ = some (.int .i64 N') ∧ wx.cell? ⟨w.heap.size + 1, 1, none⟩ = some (.slice A' L'.length c') ∧ w.heap.size < wx.heap.size ∧ w.heap.size + 1 < wx.heap.size) := fun wx hb => ⟨(hb.cell (p := ⟨w.heap.size, 0, none⟩) (by simp; omega)).trans q0, (hb.cell (p := ⟨w.heap.size, 1, none⟩) (by simp; omega)).trans q1, (hb.cell (p := ⟨w.heap.size + 1, 0, none⟩) (by simp; omega)).trans q2, (hb.cell (p := ⟨w.heap.size + 1, 1, none⟩) (by simp; omega)).trans q3, by have := hb.size; omega, by have := hb.size; omega⟩
  have lb : l.length ≤ 9223372036854775807 := by have : cb ≤ 9223372036854775807 := l4; omega
  clear hw0 hb0 hb1 h h' hb hP l1 l2 l3 l4 q0 q1 q2 q3 qs
  have C1 := shown_any w0 HP.out
  go_enter Tryd.func3, Tryd.ntmps3
  go_wp2_with fail
  rw [HW0.out]
  refine C1.mono ?_; rintro e w1 ⟨rfl, hE1⟩
  clear C1
  obtain ⟨p0, p1, p2, p3, ps0, ps1⟩ := HK.out w1 hE1
  have C2 := Small_any A c N 40 L w1 (HR.out.nx hE1) L1.out
  generalize hs1 : smallF 40 L = b1 at C2
  go_wp2_with fail
  refine C2.mono ?_; rintro e w2 ⟨rfl, hb2⟩
  have hE2 := bnx hE1 hb2
  clear C2 hb2 hE1 p0 p1 p2 p3 ps0 ps1
  obtain ⟨p0, p1, p2, p3, ps0, ps1⟩ := HK.out w2 hE2
  cases b1
  case false =>
    have hB := bnx HB.out hE2
    clear hE2
    go_wp2
    go_ret
    exact ⟨rfl, hB⟩
  have C3 := Small_any A' c' N' 40 L' w2 (HR'.out.nx hE2) L2.out
  generalize hs2 : smallF 40 L' = b2 at C3
  go_wp2_with fail
  refine C3.mono ?_; rintro e w3 ⟨rfl, hb3⟩
  have hE3 := bnx hE2 hb3
  clear C3 hb3 hE2 p0 p1 p2 p3 ps0 ps1
  obtain ⟨p0, p1, p2, p3, ps0, ps1⟩ := HK.out w3 hE3
  cases b2
  case false =>
    have hB := bnx HB.out hE3
    clear hE3
    go_wp2
    go_ret
    exact ⟨rfl, hB⟩
  by_cases hl1 : l.length ≤ 2000
  case neg =>
    have d2 : decide ((2000 : Int) < l.length) = true := decide_eq_true (by omega)
    have hB := bnx HB.out hE3
    clear hE3
    go_wp2
    go_ret
    exact ⟨rfl, hB⟩
  have d2 : decide ((2000 : Int) < l.length) = false := decide_eq_false (by omega)
  obtain ⟨S, E, CP, CR⟩ : ∃ (S : ByteArray) (E : Int), (∀ wx, Below w0.heap.size w0 wx → Calls Tryd.prog 17 #[.agg #[.int .i64 N, .slice A L.length c]] wx (RetV wx (.tuple #[.string S, .int .i64 E]))) ∧ (∀ wx, Below w0.heap.size w0 wx → Calls Tryd.prog 18 #[.agg #[.int .i64 N, .slice A L.length c]] wx (RetV wx (.tuple #[.string S, .int .i64 E]))) := by
    cases hr : rightF N L
    · exact ⟨⟨#[]⟩, 1, fun wx hx => Print_no A c N L wx (HR.out.nx hx) L1.out hr, fun wx hx => refPrint_no A c N L wx (HR.out.nx hx) L1.out hr⟩
    · exact ⟨strOf (printS N L), 0, fun wx hx => Print_yes A c N L wx (HR.out.nx hx) (HP.out.nx hx) hr, fun wx hx => refPrint_yes A c N L wx (HR.out.nx hx) hs1 hr⟩
  have HCR := Lib.hid CR
  have C4 := CP w3 hE3
  have HL1 := Lib.hid hl1
  have hpl := parse_few l
  obtain ⟨⟨⟨Np, Lp⟩, K, Ep⟩, hp⟩ : ∃ r, parseS l = r := ⟨_, rfl⟩
  have CQ : ∀ wx, Below w0.heap.size w0 wx → Calls Tryd.prog 19 #[.slice Ab l.length cb] wx (RetP wx Np Lp K Ep) := fun wx hx => by
    have := Parse_any Ab cb l wx ((HD.out.below hx).mono hx.size) L3.out L4.out
    rw [hp] at this; exact this
  have CQ2 : ∀ wx, Below w0.heap.size w0 wx → Calls Tryd.prog 20 #[.slice Ab l.length cb] wx (RetP wx Np Lp K Ep) := fun wx hx => by
    have := refParse_in Ab cb l wx ((HD.out.below hx).mono hx.size) HL1.out
    rw [hp] at this; exact this
  rw [hp] at hpl
  have HCQ := Lib.hid CQ
  have HCQ2 := Lib.hid CQ2
  have HPL : Hid (Lp.length ≤ maxLen) := by show _ ≤ _; simp only at hpl; unfold maxLen; omega
  clear hs1 hs2 CP CR CQ CQ2 hp hpl hl1
  go_wp2_with fail
  refine C4.mono ?_; rintro e w4 ⟨rfl, hb4⟩
  have hE4 := bnx hE3 hb4
  clear C4 hb4 hE3 p0 p1 p2 p3 ps0 ps1
  obtain ⟨p0, p1, p2, p3, ps0, ps1⟩ := HK.out w4 hE4
  have C5 := HCR.out w4 hE4
  go_wp2_with fail
  refine C5.mono ?_; rintro e w5 ⟨rfl, hb5⟩
  have hE5 := bnx hE4 hb5
  clear C5 hb5 hE4 p0 p1 p2 p3 ps0 ps1
  have C6 := HCQ.out w5 hE5
  go_wp2_with fail
  refine C6.mono ?_; rintro e w6 ⟨Ax, cx, rfl, hrx, _, hb6⟩
  have hE6 := bal (bnx hE5 hb6) (.cells #[.int .i64 Np, .slice Ax Lp.length cx] 24)
  have hrx6 := hrx.nx (bal (Below.refl _ _) (.cells #[.int .i64 Np, .slice Ax Lp.length cx] 24))
  have x0 : (w6.alloc (.cells #[.int .i64 Np, .slice Ax Lp.length cx] 24)).cell? ⟨w6.heap.size, 0, none⟩ = some (.int .i64 Np) := by go_simp
  have x1 : (w6.alloc (.cells #[.int .i64 Np, .slice Ax Lp.length cx] 24)).cell? ⟨w6.heap.size, 1, none⟩ = some (.slice Ax Lp.length cx) := by go_simp
  have xs : w6.heap.size < (w6.alloc (.cells #[.int .i64 Np, .slice Ax Lp.length cx] 24)).heap.size := by simp
  have C7 := HCQ2.out _ hE6
  have X0 := Lib.hid x0
  have X1 := Lib.hid x1
  have XS := Lib.hid xs
  have HX6 := Lib.hid hrx6
  have HE6 := Lib.hid hE6
  clear C6 hb6 hE5 hrx hE6 hrx6 x0 x1 xs
  go_wp2_with fail
  refine C7.mono ?_; rintro e w7 ⟨Ay, cy, rfl, hry, _, hb7⟩
  have hA7 := bal (Below.refl w7.heap.size w7) (.cells #[.int .i64 Np, .slice Ay Lp.length cy] 24)
  have hb7' := bal hb7 (.cells #[.int .i64 Np, .slice Ay Lp.length cy] 24)
  have hE7 := bnx HE6.out hb7'
  have hrx7 := HX6.out.nx hb7'
  have hry7 := hry.nx hA7
  have x0 := (hb7'.cell (p := ⟨w6.heap.size, 0, none⟩) XS.out).trans X0.out
  have x1 := (hb7'.cell (p := ⟨w6.heap.size, 1, none⟩) XS.out).trans X1.out
  have y0 : (w7.alloc (.cells #[.int .i64 Np, .slice Ay Lp.length cy] 24)).cell? ⟨w7.heap.size, 0, none⟩ = some (.int .i64 Np) := by go_simp
  have y1 : (w7.alloc (.cells #[.int .i64 Np, .slice Ay Lp.length cy] 24)).cell? ⟨w7.heap.size, 1, none⟩ = some (.slice Ay Lp.length cy) := by go_simp
  have xs : w6.heap.size < (w7.alloc (.cells #[.int .i64 Np, .slice Ay Lp.length cy] 24)).heap.size := by have := hb7'.size; have := XS.out; omega
  have ys : w7.heap.size < (w7.alloc (.cells #[.int .i64 Np, .slice Ay Lp.length cy] 24)).heap.size := by simp
  clear C7 hb7 hA7 hb7' hry
  go_upto_region 8 with fail
  generalize w7.alloc (.cells #[.int .i64 Np, .slice Ay Lp.length cy] 24) = w8 at *
  obtain ⟨p0, p1, p2, p3, ps0, ps1⟩ := HK.out w8 hE7
  have HKK : Hid (∀ wx, Below w8.heap.size w8 wx → wx.cell? ⟨w.heap.size, 0, none⟩ = some (.int .i64 N) ∧ wx.cell? ⟨w.heap.size, 1, none⟩ = some (.slice A L.length c) ∧ wx.cell? ⟨w.heap.size + 1, 0, none⟩ = some (.int .i64 N') ∧ wx.cell? ⟨w.heap.size + 1, 1, none⟩ = some (.slice A' L'.length c') ∧ wx.cell? ⟨w6.heap.size, 0, none⟩ = some (.int .i64 Np) ∧ wx.cell? ⟨w6.heap.size, 1, none⟩ = some (.slice Ax Lp.length cx) ∧ wx.cell? ⟨w7.heap.size, 0, none⟩ = some (.int .i64 Np) ∧ wx.cell? ⟨w7.heap.size, 1, none⟩ = some (.slice Ay Lp.length cy)) := fun wx hb => ⟨(hb.cell (p := ⟨w.heap.size, 0, none⟩) ps0).trans p0, (hb.cell (p := ⟨w.heap.size, 1, none⟩) ps0).trans p1, (hb.cell (p := ⟨w.heap.size + 1, 0, none⟩) ps1).trans p2, (hb.cell (p := ⟨w.heap.size + 1, 1, none⟩) ps1).trans p3, (hb.cell (p := ⟨w6.heap.size, 0, none⟩) xs).trans x0, (hb.cell (p := ⟨w6.heap.size, 1, none⟩) xs).trans x1, (hb.cell (p := ⟨w7.heap.size, 0, none⟩) ys).trans y0, (hb.cell (p := ⟨w7.heap.size, 1, none⟩) ys).trans y1⟩
  have H1 : Hid (∀ wx, Below w8.heap.size w8 wx → Calls Tryd.prog 21 #[.agg #[.int .i64 N, .slice A L.length c]] wx (RetV wx (.bool (rightF N L)))) := fun wx hx => Right_any A c N L wx (HR.out.nx (bnx hE7 hx)) L1.out
  have H2 : Hid (∀ wx, Below w8.heap.size w8 wx → Calls Tryd.prog 22 #[.agg #[.int .i64 N, .slice A L.length c]] wx (RetV wx (.bool (rightF N L)))) := fun wx hx => refRight_any A c N L wx (HR.out.nx (bnx hE7 hx)) L1.out
  have H3 : Hid (∀ wx, Below w8.heap.size w8 wx → Calls Tryd.prog 23 #[.agg #[.int .i64 N, .slice A L.length c], .agg #[.int .i64 N', .slice A' L'.length c']] wx (RetV wx (.bool (sameF N N' L L')))) := fun wx hx => Same_any A A' c c' N N' L L' wx (HR.out.nx (bnx hE7 hx)) (HR'.out.nx (bnx hE7 hx)) L1.out L2.out
  have H4 : Hid (∀ wx, Below w8.heap.size w8 wx → Calls Tryd.prog 24 #[.agg #[.int .i64 N, .slice A L.length c], .agg #[.int .i64 N', .slice A' L'.length c']] wx (RetV wx (.bool (sameF N N' L L')))) := fun wx hx => refSame_any A A' c c' N N' L L' wx (HR.out.nx (bnx hE7 hx)) (HR'.out.nx (bnx hE7 hx)) L1.out L2.out
  have H5 : Hid (∀ wx, Below w8.heap.size w8 wx → Calls Tryd.prog 24 #[.agg #[.int .i64 Np, .slice Ax Lp.length cx], .agg #[.int .i64 Np, .slice Ay Lp.length cy]] wx (RetV wx (.bool true))) := fun wx hx => by
    have := refSame_any Ax Ay cx cy Np Np Lp Lp wx (hrx7.nx hx) (hry7.nx hx) HPL.out HPL.out
    rw [show sameF Np Np Lp Lp = true by simp [sameF]] at this
    exact this
  have hU := (Below.refl w8.heap.size w8).drew
  have K0 := HKK.out _ hU
  have HEr := Lib.hid (bnx HB.out hE7)
  clear hrx7 hry7 hE7 p0 p1 p2 p3 ps0 ps1 x0 x1 y0 y1 xs ys HX6 HE6 X0 X1 XS
  generalize rightF N L = br at *
  generalize sameF N N' L L' = bs at *
  cases br <;> cases bs
  all_goals
    go_region_held3 (fun w' => w'.cell? ⟨w.heap.size, 0, none⟩ = some (.int .i64 N) ∧ w'.cell? ⟨w.heap.size, 1, none⟩ = some (.slice A L.length c) ∧ w'.cell? ⟨w.heap.size + 1, 0, none⟩ = some (.int .i64 N') ∧ w'.cell? ⟨w.heap.size + 1, 1, none⟩ = some (.slice A' L'.length c') ∧ w'.cell? ⟨w6.heap.size, 0, none⟩ = some (.int .i64 Np) ∧ w'.cell? ⟨w6.heap.size, 1, none⟩ = some (.slice Ax Lp.length cx) ∧ w'.cell? ⟨w7.heap.size, 0, none⟩ = some (.int .i64 Np) ∧ w'.cell? ⟨w7.heap.size, 1, none⟩ = some (.slice Ay Lp.length cy))
      (first | exact K0 | exact K1 | exact K2 | exact K3 | exact K4 | exact K5)
      (first
        | (go_at_call 21; ((with_reducible refine (H1.out _ hU).mono ?_); rintro e u1 ⟨rfl, hu1⟩; have U1 := bnx hU hu1; have K1 := HKK.out _ U1))
        | (go_at_call 22; ((with_reducible refine (H2.out _ U1).mono ?_); rintro e u2 ⟨rfl, hu2⟩; have U2 := bnx U1 hu2; have K2 := HKK.out _ U2))
        | (go_at_call 23; ((with_reducible refine (H3.out _ U2).mono ?_); rintro e u3 ⟨rfl, hu3⟩; have U3 := bnx U2 hu3; have K3 := HKK.out _ U3))
        | (go_at_call 24; ((with_reducible refine (H4.out _ U3).mono ?_); rintro e u4 ⟨rfl, hu4⟩; have U4 := bnx U3 hu4; have K4 := HKK.out _ U4))
        | (go_at_call 24; ((with_reducible refine (H5.out _ U4).mono ?_); rintro e u5 ⟨rfl, hu5⟩; have U5 := bnx U4 hu5; have K5 := HKK.out _ U5)))
    all_goals
      have HU5 := Lib.hid (bnx HEr.out U5)
      clear K0 K1 K2 K3 K4 K5 HKK
      go_wp2
      go_ret
      exact ⟨rfl, HU5.out⟩
end Go.Proofs.YtplcabecbofjpaaDoor
