/-
  shown.
  DrupSound, walked.
-/
import Derived.Test.YtahedhpffjgimaaDoorProg
import Derived.WalkKit
import Derived.WalkSpells
import Derived.WalkLawsBesides
import Derived.Lib.Hide
import Derived.BigQuiet
import Derived.Deep.QuietTactic
import Derived.Deep.RegionWith
import Derived.Deep.RegionHeld3
import Derived.Test.YtahedhpffjgimaaDoorQ20
import Derived.Test.YtahedhpffjgimaaDoorQ11
set_option linter.unusedVariables false
/- shown. -/
namespace Go.Proofs.YtahedhpffjgimaaDoor
open Go.RowKit
open Go.Lib Go.Sort
set_option maxRecDepth 100000 in
set_option maxHeartbeats 4000000 in
theorem dshown_any (w : World) (hP : Pow w.heap.size w) : Calls Tryd.prog 15 #[] w (RetV w (.bool true)) := by
  obtain ⟨f0, f1⟩ := exD_f w
  have hs := exD_size w
  have x1 := exD_below w
  have x2 := exD_rc w
  have kb := Lib.run_convert_bytes_const (P := Tryd.prog) (exD w) 35 5 #[.int .u8 49, .int .u8 32, .int .u8 48, .int .u8 10, .int .u8 48, .int .u8 10] 6 6 Tryd.underlying35 Tryd.underlying5
  have hr5 := litRd (exD w) [49, 32, 48, 10, 48, 10] #[.int .u8 49, .int .u8 32, .int .u8 48, .int .u8 10, .int .u8 48, .int .u8 10] (6, 7) rfl
  have hA5 := bal (Below.refl (exD w).heap.size (exD w)) (.cells #[.int .u8 49, .int .u8 32, .int .u8 48, .int .u8 10, .int .u8 48, .int .u8 10] 5 (6, 7))
  have hsz5 : ((exD w).alloc (.cells #[.int .u8 49, .int .u8 32, .int .u8 48, .int .u8 10, .int .u8 48, .int .u8 10] 5 (6, 7))).heap.size = w.heap.size + 1 + 1 + 1 + 1 + 1 + 1 + 1 := by simp [hs]
  rw [hs] at kb hr5
  have g0 := (hA5.cell (p := ⟨w.heap.size + 1 + 1 + 1 + 1 + 1, 0, none⟩) (by show w.heap.size + 1 + 1 + 1 + 1 + 1 < _; omega)).trans f0
  have g1 := (hA5.cell (p := ⟨w.heap.size + 1 + 1 + 1 + 1 + 1, 1, none⟩) (by show w.heap.size + 1 + 1 + 1 + 1 + 1 < _; omega)).trans f1
  have hB5 := bnx x1 hA5
  have x5 := x2.nx hA5
  generalize hw5 : (exD w).alloc (.cells #[.int .u8 49, .int .u8 32, .int .u8 48, .int .u8 10, .int .u8 48, .int .u8 10] 5 (6, 7)) = w5 at *
  have HW5 := Lib.hid hw5
  rw [← hw5] at kb
  unfold exD at kb HW5
  have C1 := PParse_any (some ⟨w.heap.size + 1 + 1 + 1 + 1 + 1 + 1, 0, none⟩) 6 2 [49, 32, 48, 10, 48, 10] w5 (by rw [hsz5]; exact hr5) (by decide) (by decide) (by decide) (by decide) (by decide)
  rw [ex_parseD] at C1
  have HX := Lib.hid x5
  have HB := Lib.hid hB5
  have HG := Lib.hid (And.intro g0 g1)
  have HP := Lib.hid hP
  have hlt : w.heap.size + 1 + 1 + 1 + 1 + 1 < w5.heap.size := by omega
  clear f0 f1 x1 x2 hr5 hA5 g0 g1 hB5 x5 hw5 hP hs
  go_enter Tryd.func15, Tryd.ntmps15
  go_wp2_with fail
  rw [HW5.out]
  clear kb
  refine C1.mono ?_; rintro e w6 ⟨v, rfl, ho, hb6⟩
  obtain ⟨A, c, rfl, hrs, _⟩ := ho.val
  have g0 := (hb6.cell (p := ⟨w.heap.size + 1 + 1 + 1 + 1 + 1, 0, none⟩) hlt).trans HG.out.1
  have g1 := (hb6.cell (p := ⟨w.heap.size + 1 + 1 + 1 + 1 + 1, 1, none⟩) hlt).trans HG.out.2
  have C2 := Check_any (some ⟨w.heap.size + 1 + 1 + 1 + 1, 0, none⟩) A 4 c 2 L4 P2 w6 (HX.out.nx hb6) hrs ex_gd (by decide) ex_lits
  rw [ex_check] at C2
  have HB6 := Lib.hid (And.intro (bnx HB.out hb6) hb6)
  have HR6 := Lib.hid hrs
  clear C1 ho hb6 hrs
  go_wp2_with fail
  refine C2.mono ?_; rintro e w7 ⟨rfl, hb7⟩
  have hlt6 : w.heap.size + 1 + 1 + 1 + 1 + 1 < w6.heap.size := by have := HB6.out.2.size; omega
  have g0' := (hb7.cell (p := ⟨w.heap.size + 1 + 1 + 1 + 1 + 1, 0, none⟩) hlt6).trans g0
  have g1' := (hb7.cell (p := ⟨w.heap.size + 1 + 1 + 1 + 1 + 1, 1, none⟩) hlt6).trans g1
  have C3 := Check_any (some ⟨w.heap.size + 1 + 1 + 1 + 1, 0, none⟩) none 4 0 2 L4 [] w7 ((HX.out.nx HB6.out.2).nx hb7) (fun i hi => absurd hi (by simp)) ex_gd (by decide) (fun s hs => absurd hs (by simp))
  rw [ex_none] at C3
  have HB7 := Lib.hid (bnx HB6.out.1 hb7)
  have HR7 := Lib.hid (HR6.out.nx hb7)
  clear C2 hb7 g0 g1
  go_wp2_with fail
  refine C3.mono ?_; rintro e w8 ⟨rfl, hb8⟩
  have HB8 := Lib.hid (bnx HB7.out hb8)
  have HR8 := Lib.hid (HR7.out.nx hb8)
  have C4 := PRight_any A c 2 P2 w8 HR8.out (by decide)
  rw [ex_rightP] at C4
  clear C3 hb8 g0' g1'
  go_wp2_with fail
  refine C4.mono ?_; rintro e w9 ⟨rfl, hb9⟩
  have HB9 := Lib.hid (bnx HB8.out hb9)
  have HR9 := Lib.hid (HR8.out.nx hb9)
  have C5 := PSame_any A A c c P2 P2 w9 HR9.out HR9.out (by decide) (by decide)
  rw [sameP_self] at C5
  clear C4 hb9
  go_wp2_with fail
  refine C5.mono ?_; rintro e w10 ⟨rfl, hb10⟩
  have HB10 := Lib.hid (bnx HB9.out hb10)
  have HR10 := Lib.hid (HR9.out.nx hb10)
  have C6 := PPrint_any A c P2 w10 HR10.out (HP.out.nx HB10.out) ex_okp
  rw [ex_printP] at C6
  clear C5 hb10
  go_wp2_with fail
  refine C6.mono ?_; rintro e w11 ⟨rfl, hb11⟩
  have HB11 := Lib.hid (bnx HB10.out hb11)
  clear C6 hb11
  go_wp2
  go_ret
  exact ⟨rfl, HB11.out⟩
end Go.Proofs.YtahedhpffjgimaaDoor
/- DrupSound, walked. -/
namespace Go.Proofs.YtahedhpffjgimaaDoor
open Go.RowKit
open Go.Lib Go.Sort
theorem may_gd {n : Int} {L : List (List Int)} {P : List Stp} (h : mayD n L P = true) : Gd L 1000 ∧ P.length ≤ 1000 ∧ (∀ s ∈ P, Lits s.2 ∧ s.2.length ≤ 1000) := by
  obtain ⟨h0, h1, h2, h3, h4, h5, _, _⟩ := mayD_parts h
  refine ⟨⟨by omega, fun c hc => ⟨fun x hx => ?_, by have := (h4 c hc).1; omega⟩⟩, by omega, fun s hs => ⟨fun x hx => ?_, by have := (h5 s hs).1; omega⟩⟩
  · have := (h4 c hc).2 x hx
    omega
  · have := (h5 s hs).2 x hx
    omega
theorem may_len {n : Int} {L : List (List Int)} {P : List Stp} (h : mayD n L P = true) : L.length ≤ 20 ∧ P.length ≤ 20 ∧ 0 ≤ n ∧ n ≤ 40 := by
  obtain ⟨h0, h1, h2, h3, _⟩ := mayD_parts h
  exact ⟨h2, h3, h0, h1⟩
/-- The formula's variable, at the statement's beginning; and the contracts of what each statement asks first. -/
structure Start (w : World) (LA PA : Option Addr) (k kp : Nat) (n : Int) (L : List (List Int)) (P : List Stp) : Prop where
  c1 : ∀ wx, Below w.heap.size w wx → Calls Tryd.prog 15 #[] wx (RetV wx (.bool true))
  c2 : ∀ wx, Below w.heap.size w wx → Calls Tryd.prog 25 #[.agg #[.int .i64 n, .slice LA L.length k], .slice PA P.length kp] wx (RetV wx (.bool (mayD n L P)))
theorem Start.mk' (w : World) (LA PA : Option Addr) (k kp : Nat) (n : Int) (L : List (List Int)) (P : List Stp) (hL : RCk w w.heap.size LA L) (hP : RS w w.heap.size PA P) (hn : L.length ≤ maxLen) (hp : P.length ≤ maxLen) (hW : Pow w.heap.size w) : Start w LA PA k kp n L P :=
  ⟨fun wx hx => dshown_any wx (hW.nx hx), fun wx hx => may_any LA PA k kp n L P wx (hL.nx hx) (hP.nx hx) hn hp⟩
set_option maxHeartbeats 4000000 in
set_option maxRecDepth 100000 in
theorem sound_out (LA PA MA : Option Addr) (k kp km mm : Nat) (n : Int) (L : List (List Int)) (P : List Stp) (w : World) (hst : Start w LA PA k kp n L P) (hmm : mm ≤ maxLen) (h : mayD n L P = false ∨ (mayD n L P = true ∧ (mm : Int) ≠ n)) :
    Calls Tryd.prog 6 #[.agg #[.int .i64 n, .slice LA L.length k], .slice PA P.length kp, .slice MA mm km] w (RetV w (.bool true)) := by
  unfold maxLen at hmm
  have F0 := FW.first w LA k n L
  have C1 := hst.c1 _ F0.bel
  have HS := Lib.hid hst
  have HF := Lib.hid F0
  clear hst F0
  rcases h with h | ⟨h, hne⟩
  · go_enter Tryd.func6, Tryd.ntmps6
    go_wp2_with fail
    refine C1.mono ?_; rintro e w1 ⟨rfl, hb⟩
    have F1 := Lib.hid (HF.out.nx hb)
    have p0 := F1.out.f0
    have p1 := F1.out.f1
    have c2 := HS.out.c2 _ F1.out.bel
    rw [h] at c2
    clear C1 hb h
    go_wp2_with fail
    refine c2.mono ?_; rintro e w2 ⟨rfl, hb⟩
    have HB := Lib.hid (F1.out.nx hb).bel
    clear c2 hb
    go_wp2
    go_ret
    exact ⟨rfl, HB.out⟩
  · have dn : ((mm : Int) != n) = true := by simp [hne]
    clear hne
    go_enter Tryd.func6, Tryd.ntmps6
    go_wp2_with fail
    refine C1.mono ?_; rintro e w1 ⟨rfl, hb⟩
    have F1 := Lib.hid (HF.out.nx hb)
    have p0 := F1.out.f0
    have p1 := F1.out.f1
    have c2 := HS.out.c2 _ F1.out.bel
    rw [h] at c2
    clear C1 hb h
    go_wp2_with fail
    refine c2.mono ?_; rintro e w2 ⟨rfl, hb⟩
    have F2 := Lib.hid (F1.out.nx hb)
    have q0 := F2.out.f0
    clear c2 hb p0 p1
    go_wp2
    go_ret
    exact ⟨rfl, F2.out.bel⟩
set_option maxHeartbeats 8000000 in
set_option maxRecDepth 100000 in
theorem sound_in (LA PA MA : Option Addr) (k kp km : Nat) (n : Int) (L : List (List Int)) (P : List Stp) (m : List Bool) (w : World) (hL : RCk w w.heap.size LA L) (hP : RS w w.heap.size PA P) (hB : RB w w.heap.size MA m) (hst : Start w LA PA k kp n L P) (hm : mayD n L P = true) (hn : (m.length : Int) = n) :
    Calls Tryd.prog 6 #[.agg #[.int .i64 n, .slice LA L.length k], .slice PA P.length kp, .slice MA m.length km] w (RetV w (.bool true)) := by
  obtain ⟨g1, g2, g3⟩ := may_gd hm
  obtain ⟨l1, l2, n0, n1⟩ := may_len hm
  obtain ⟨_, _, _, _, hx4, hx5, _, _⟩ := mayD_parts hm
  have dn : ((m.length : Int) != n) = false := by simp [hn]
  have hml : m.length ≤ 40 := by omega
  obtain ⟨I, hI⟩ : ∃ I, (checkQ (setsOf L) 0 P).1 = I := ⟨_, rfl⟩
  obtain ⟨E, hE⟩ : ∃ E, (checkQ (setsOf L) 0 P).2 = E := ⟨_, rfl⟩
  have hbd := checkQ_bd P (setsOf L) 0
  rw [hI, hE, Nat.zero_add] at hbd
  have hsd : hoT L m = true → E ≠ 0 ∧ ∀ i, i < P.length → i < I → (P.getD i (true, [])).1 = false → clT (P.getD i (true, [])).2 m = true := fun hh => by
    have := checkQ_sound (m := m) P (setsOf L) 0 (by rw [hoT_sets]; exact hh) (fun s hs x hx => by have := (hx5 s hs).2 x hx; omega)
    rw [hI, hE] at this
    exact ⟨this.1, fun i h1 h2 h3 => this.2 i h1 (by omega) h3⟩
  have F0 := FW.first w LA k n L
  have C1 := hst.c1 _ F0.bel
  have C2 : Hid (∀ wx, Below w.heap.size w wx → Calls Tryd.prog 25 #[.agg #[.int .i64 n, .slice LA L.length k], .slice PA P.length kp] wx (RetV wx (.bool true))) := Lib.hid fun wx hx => by have := hst.c2 wx hx; rwa [hm] at this
  have C3 : Hid (∀ wx, Below w.heap.size w wx → Calls Tryd.prog 28 #[.agg #[.int .i64 n, .slice LA L.length k], .slice MA m.length km] wx (RetV wx (.bool (hoT L m)))) := Lib.hid fun wx hx => refHolds_any LA MA k km n L m wx (hL.nx hx).rc (hB.nx hx) (by unfold maxLen; omega) (by unfold maxLen; omega)
  have C4 : Hid (∀ wx, Below w.heap.size w wx → Calls Tryd.prog 26 #[.agg #[.int .i64 n, .slice LA L.length k], .slice PA P.length kp] wx (RetV wx (.tuple #[.int .i64 (I : Int), .int .i64 E]))) := Lib.hid fun wx hx => by
    have := Check_any LA PA k kp n L P wx (hL.nx hx) (hP.nx hx) g1 g2 g3
    unfold RetII at this
    rw [hI, hE] at this
    exact this
  have HP := Lib.hid (And.intro hP (And.intro hB hx5))
  have HF := Lib.hid F0
  have HSD := Lib.hid hsd
  obtain ⟨_, hIl, hEc⟩ := hbd
  clear hst F0 hL hP hB hm hn hx4 hx5 g1 g2 g3 hI hE hsd n0 n1
  go_enter Tryd.func6, Tryd.ntmps6
  go_wp2_with fail
  refine C1.mono ?_; rintro e w1 ⟨rfl, hb⟩
  have F1 := Lib.hid (HF.out.nx hb)
  have p0 := F1.out.f0
  have p1 := F1.out.f1
  have c2 := C2.out _ F1.out.bel
  clear C1 hb
  go_wp2_with fail
  refine c2.mono ?_; rintro e w2 ⟨rfl, hb⟩
  have F2 := Lib.hid (F1.out.nx hb)
  have q0 := F2.out.f0
  have q1 := F2.out.f1
  have c3 := C3.out _ F2.out.bel
  clear c2 hb p0 p1
  go_wp2_with fail
  refine c3.mono ?_; rintro e w3 ⟨rfl, hb⟩
  have F3 := Lib.hid (F2.out.nx hb)
  have p0 := F3.out.f0
  have p1 := F3.out.f1
  have c4 := C4.out _ F3.out.bel
  clear c3 hb q0 q1
  go_wp2_with fail
  refine c4.mono ?_; rintro e w4 ⟨rfl, hb⟩
  have F4 := Lib.hid (F3.out.nx hb)
  clear c4 hb p0 p1
  have hi1 : decide ((I : Int) < 0) = false := decide_eq_false (by omega)
  have hi2 : decide (P.length < I) = false := decide_eq_false (by omega)
  have HE : Hid (E = 0 ∨ E = 4 ∨ E = 6) := Lib.hid hEc
  clear hEc
  cases hh : hoT L m
  · have HB := Lib.hid F4.out.bel
    rcases HE.out with rfl | rfl | rfl
    all_goals
      clear HE HSD
      go_wp2
      go_loopw [11] (fun i wr => i = .int .i64 0 ∧ Below w.heap.size w wr) (fun _ _ => 0)
      case atStart => exact ⟨rfl, HB.out⟩
      case round =>
        obtain ⟨rfl, hb⟩ := hrel
        have HB2 := Lib.hid hb
        clear hb
        rcases Nat.eq_zero_or_pos I with h0 | h0
        · have e1 : ¬ ((0 : Int) < I) := by omega
          clear hi1 hi2 hIl
          go_wp2
          go_ret
          exact ⟨rfl, HB2.out⟩
        · have e1 : ((0 : Int) < I) := by omega
          clear hi1 hi2 hIl
          go_wp2
          go_ret
          exact ⟨rfl, HB2.out⟩
  · obtain ⟨hE0, hcl⟩ := HSD.out hh
    have HCL := Lib.hid hcl
    have HE' : Hid (E = 4 ∨ E = 6) := Lib.hid (by have := HE.out; omega)
    have HB := Lib.hid F4.out.bel
    have HI := Lib.hid hIl
    clear HE HSD hcl hE0 hh hIl
    rcases HE'.out with rfl | rfl
    all_goals
      clear HE'
      go_wp2
      go_loopg [11] I (fun g s11 wr => ∃ j : Nat, j + g = I ∧ s11 = .int .i64 j ∧ Below w.heap.size w wr)
      case atStart => exact ⟨0, by omega, rfl, HB.out⟩
      case round =>
        obtain ⟨j, hj, rfl, hb⟩ := hrel
        by_cases hlt : j < I
        · obtain ⟨g, rfl⟩ : ∃ g, gk = g + 1 := ⟨gk - 1, by omega⟩
          have hjl : j < P.length := by have := HI.out; omega
          obtain ⟨ad, A1, c1, rfl, hab, hc0, hc1, hr, hlc, hcm⟩ := HP.out.1 j hjl
          have hcc0 := (hb.cell (p := ad.add (j * 2)) (by rw [block_add]; exact hab)).trans hc0
          have hcc1 := (hb.cell (p := ⟨(ad.add (j * 2)).block, (ad.add (j * 2)).off + 1, none⟩) (by show (ad.add (j * 2)).block < _; rw [block_add]; exact hab)).trans hc1
          have hjl' : (j : Int) < P.length := by omega
          have hlt' : (j : Int) < I := by omega
          have hrr := (hr.below hb).mono hb.size
          have hcl := HCL.out j hjl hlt
          obtain ⟨ub, hub⟩ : ∃ ub, P.getD j (true, []) = ub := ⟨_, rfl⟩
          rw [hub] at hcc0 hcc1 hlc hrr hcl
          obtain ⟨d, u⟩ := ub
          simp only at hcc0 hcc1 hlc hrr hcl
          have HB2 := Lib.hid hb
          have C := refClause_any A1 MA c1 km u m wr hrr ((HP.out.2.1.below hb).mono hb.size) (by omega) (by unfold maxLen; omega)
          clear hc0 hc1 hr hrr hub hb
          cases d
          · rw [hcl rfl] at C
            clear hcl
            go_wp2_with fail
            refine C.mono ?_; rintro e w5 ⟨rfl, rfl⟩
            clear C
            go_wp2
            go_roundg g
            case rel => exact ⟨j + 1, by omega, by go_num, HB2.out⟩
            case measure => omega
          · clear hcl C
            go_wp2
            go_roundg g
            case rel => exact ⟨j + 1, by omega, by go_num, HB2.out⟩
            case measure => omega
        · obtain rfl : j = I := by omega
          have e1 : ¬ ((j : Int) < j) := by omega
          have HB2 := Lib.hid hb
          clear hb
          go_wp2
          go_ret
          exact ⟨rfl, HB2.out⟩
theorem sound_any (LA PA MA : Option Addr) (k kp km : Nat) (n : Int) (L : List (List Int)) (P : List Stp) (m : List Bool) (w : World) (hL : RCk w w.heap.size LA L) (hP : RS w w.heap.size PA P) (hB : RB w w.heap.size MA m) (hl : L.length ≤ maxLen) (hp : P.length ≤ maxLen) (hmm : m.length ≤ maxLen) (hW : Pow w.heap.size w) :
    Calls Tryd.prog 6 #[.agg #[.int .i64 n, .slice LA L.length k], .slice PA P.length kp, .slice MA m.length km] w (RetV w (.bool true)) := by
  have hst := Start.mk' w LA PA k kp n L P hL hP hl hp hW
  cases hm : mayD n L P
  · exact sound_out LA PA MA k kp km m.length n L P w hst hmm (.inl hm)
  · by_cases e : (m.length : Int) = n
    · exact sound_in LA PA MA k kp km n L P m w hL hP hB hst hm e
    · exact sound_out LA PA MA k kp km m.length n L P w hst hmm (.inr ⟨hm, e⟩)
end Go.Proofs.YtahedhpffjgimaaDoor
