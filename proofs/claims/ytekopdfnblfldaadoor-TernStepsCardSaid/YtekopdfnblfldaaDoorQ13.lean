/-
  One statement's walk: TernBelows.
-/
import Derived.Test.YtekopdfnblfldaaDoorProg
import Derived.WalkKit
import Derived.WalkSpells
import Derived.WalkLawsBesides
import Derived.Lib.Hide
import Derived.BigQuiet
import Derived.Deep.QuietTactic
import Derived.Deep.RegionWith
import Derived.Deep.RegionHeld3
import Derived.Test.YtekopdfnblfldaaDoorQ11
set_option linter.unusedVariables false
namespace Go.Proofs.YtekopdfnblfldaaDoor
open Go.RowKit
theorem bel1_refl (x : Int) : bel1 x x = true := by simp [bel1]
theorem belowT_iff (l m : List Int) : belowT l m = true ↔ l.length = m.length ∧ ∀ i, i < l.length → bel1 (l.getD i 0) (m.getD i 0) = true := by
  unfold belowT
  rw [Bool.and_eq_true, decide_eq_true_eq, List.all_eq_true]
  constructor
  · rintro ⟨hl, h⟩
    refine ⟨hl, fun i hi => ?_⟩
    have := h (l[i], m[i]'(by omega)) (by
      rw [List.mem_iff_getElem]
      exact ⟨i, by simp; omega, by simp⟩)
    simpa [List.getD_eq_getElem?_getD, hi, show i < m.length by omega] using this
  · rintro ⟨hl, h⟩
    refine ⟨hl, fun p hp => ?_⟩
    obtain ⟨i, hi, rfl⟩ := List.mem_iff_getElem.1 hp
    rw [List.length_zip] at hi
    have g1 : i < l.length := by omega
    have g2 : i < m.length := by omega
    have := h i g1
    simpa [List.getD_eq_getElem?_getD, g1, g2] using this
theorem ext_getD {l m : List Int} (hl : l.length = m.length) (h : ∀ i, i < l.length → l.getD i 0 = m.getD i 0) : l = m := by
  apply List.ext_getElem hl
  intro i h1 h2
  have := h i h1
  simpa [List.getD_eq_getElem?_getD, h1, h2] using this
theorem belowT_refl (l : List Int) : belowT l l = true := (belowT_iff l l).2 ⟨rfl, fun i _ => bel1_refl _⟩
theorem belowT_trans {l m k : List Int} (h1 : belowT l m = true) (h2 : belowT m k = true) : belowT l k = true := by
  obtain ⟨a1, a2⟩ := (belowT_iff l m).1 h1
  obtain ⟨b1, b2⟩ := (belowT_iff m k).1 h2
  refine (belowT_iff l k).2 ⟨by omega, fun i hi => ?_⟩
  have c1 := a2 i hi
  have c2 := b2 i (by omega)
  generalize l.getD i 0 = a at *
  generalize m.getD i 0 = b at *
  generalize k.getD i 0 = c at *
  simp [bel1] at c1 c2 ⊢
  omega
theorem belowT_anti (l m : List Int) : (belowT l m && belowT m l) = (l == m) := by
  apply Bool.eq_iff_iff.2
  rw [Bool.and_eq_true, beq_iff_eq]
  constructor
  · rintro ⟨h1, h2⟩
    obtain ⟨a1, a2⟩ := (belowT_iff l m).1 h1
    obtain ⟨b1, b2⟩ := (belowT_iff m l).1 h2
    refine ext_getD a1 fun i hi => ?_
    have c1 := a2 i hi
    have c2 := b2 i (by omega)
    generalize l.getD i 0 = a at *
    generalize m.getD i 0 = b at *
    simp [bel1] at c1 c2
    omega
  · rintro rfl
    exact ⟨belowT_refl _, belowT_refl _⟩
def noX (l : List Int) : Bool := l.all (fun v => v != 2)
theorem belowT_noX (l m : List Int) (h : noX l = true) : belowT m l = (l == m) := by
  apply Bool.eq_iff_iff.2
  rw [beq_iff_eq]
  constructor
  · intro h1
    obtain ⟨a1, a2⟩ := (belowT_iff m l).1 h1
    refine ext_getD a1.symm fun i hi => ?_
    have c1 := a2 i (by omega)
    have c2 : l.getD i 0 ≠ 2 := by
      have := List.all_eq_true.1 h (l.getD i 0) (by simp [List.getD_eq_getElem?_getD, hi])
      simpa using this
    generalize l.getD i 0 = a at *
    generalize m.getD i 0 = b at *
    simp [bel1] at c1
    omega
  · rintro rfl
    exact belowT_refl _
theorem noX_next (l : List Int) (j : Nat) (h : j < l.length) : noX (l.take (j + 1)) = (noX (l.take j) && (l.getD j 0 != 2)) := by
  have e : l[j]? = some (l.getD j 0) := by simp [List.getD_eq_getElem?_getD, h]
  unfold noX
  rw [List.take_add_one, e, List.all_append]
  simp
theorem belowT_all (l : List Int) : belowT l (List.replicate l.length 2) = true := by
  refine (belowT_iff _ _).2 ⟨by simp, fun i hi => ?_⟩
  simp [bel1, List.getD_eq_getElem?_getD, hi]
def rowX (n j : Nat) : List Int := List.replicate j 2 ++ List.replicate (n - j) 0
theorem rowX_len (n j : Nat) (h : j ≤ n) : (rowX n j).length = n := by simp [rowX]; omega
theorem rowX_next (n j : Nat) (h : j < n) : rowX n (j + 1) = (rowX n j).set j 2 := by
  unfold rowX
  rw [show n - j = (n - (j + 1)) + 1 by omega, List.replicate_succ (n := n - (j + 1)), List.set_append_right _ _ (by simp), List.replicate_succ']
  simp
set_option maxRecDepth 100000 in
set_option maxHeartbeats 8000000 in
theorem belows_any (A1 A2 A3 : Option Addr) (c1 c2 c3 : Nat) (x y z : List Int) (w : World) (hT : TB w) (h1 : RT w w.heap.size A1 x) (h2 : RT w w.heap.size A2 y) (h3 : RT w w.heap.size A3 z) (n1 : Nn x) (n2 : Nn y) (n3 : Nn z) (m1 : x.length ≤ maxLen) (m2 : y.length ≤ maxLen) (m3 : z.length ≤ maxLen) :
    Calls Tryd.prog 8 #[.slice A1 x.length c1, .slice A2 y.length c2, .slice A3 z.length c3] w (RetV w (.bool true)) := by
  have C0 := shown_any w hT
  have HT := Lib.hid hT
  have H1 := Lib.hid h1
  have H2 := Lib.hid h2
  have H3 := Lib.hid h3
  have HM := Lib.hid (And.intro m1 (And.intro m2 m3))
  have HN := Lib.hid (And.intro n1 (And.intro n2 n3))
  unfold maxLen at m1 m2 m3
  clear hT h1 h2 h3 n1 n2 n3
  by_cases q0 : 100 < x.length
  · have d0 : decide (100 < x.length) = true := decide_eq_true q0
    have f0 : decide ((100 : Int) < (x.length : Int)) = true := decide_eq_true (by omega)
    clear HN HM
    go_enter Tryd.func8, Tryd.ntmps8
    go_wp2_with fail
    refine C0.mono ?_; rintro e w0 ⟨rfl, h0⟩
    clear C0
    go_wp2
    go_ret
    exact ⟨rfl, h0⟩
  have d0 : decide (100 < x.length) = false := decide_eq_false q0
  have f0 : decide ((100 : Int) < (x.length : Int)) = false := decide_eq_false (by omega)
  by_cases q1 : 100 < y.length
  · have d1 : decide (100 < y.length) = true := decide_eq_true q1
    have f1 : decide ((100 : Int) < (y.length : Int)) = true := decide_eq_true (by omega)
    clear HN HM
    go_enter Tryd.func8, Tryd.ntmps8
    go_wp2_with fail
    refine C0.mono ?_; rintro e w0 ⟨rfl, h0⟩
    clear C0
    go_wp2
    go_ret
    exact ⟨rfl, h0⟩
  have d1 : decide (100 < y.length) = false := decide_eq_false q1
  have f1 : decide ((100 : Int) < (y.length : Int)) = false := decide_eq_false (by omega)
  by_cases q2 : 100 < z.length
  · have d2 : decide (100 < z.length) = true := decide_eq_true q2
    have f2 : decide ((100 : Int) < (z.length : Int)) = true := decide_eq_true (by omega)
    clear HN HM
    go_enter Tryd.func8, Tryd.ntmps8
    go_wp2_with fail
    refine C0.mono ?_; rintro e w0 ⟨rfl, h0⟩
    clear C0
    go_wp2
    go_ret
    exact ⟨rfl, h0⟩
  have d2 : decide (100 < z.length) = false := decide_eq_false q2
  have f2 : decide ((100 : Int) < (z.length : Int)) = false := decide_eq_false (by omega)
  by_cases i0 : isTri x = false
  · have HMX := HM
    clear HN
    go_enter Tryd.func8, Tryd.ntmps8
    go_wp2_with fail
    refine C0.mono ?_; rintro e w0 ⟨rfl, h0⟩
    clear C0
    have t0 := refIsTri_any A1 c1 x w0 (H1.out.nx h0) HMX.out.1
    rw [i0] at t0
    go_wp2_with fail
    refine t0.mono ?_; rintro e w' ⟨rfl, rfl⟩
    clear t0
    go_wp2
    go_ret
    exact ⟨rfl, h0⟩
  replace i0 : isTri x = true := by simpa using i0
  by_cases i1 : isTri y = false
  · have HMX := HM
    clear HN
    go_enter Tryd.func8, Tryd.ntmps8
    go_wp2_with fail
    refine C0.mono ?_; rintro e w0 ⟨rfl, h0⟩
    clear C0
    have t0 := refIsTri_any A1 c1 x w0 (H1.out.nx h0) HMX.out.1
    rw [i0] at t0
    go_wp2_with fail
    refine t0.mono ?_; rintro e w' ⟨rfl, rfl⟩
    clear t0
    have t1 := refIsTri_any A2 c2 y w0 (H2.out.nx h0) HMX.out.2.1
    rw [i1] at t1
    go_wp2_with fail
    refine t1.mono ?_; rintro e w' ⟨rfl, rfl⟩
    clear t1
    go_wp2
    go_ret
    exact ⟨rfl, h0⟩
  replace i1 : isTri y = true := by simpa using i1
  by_cases i2 : isTri z = false
  · have HMX := HM
    clear HN
    go_enter Tryd.func8, Tryd.ntmps8
    go_wp2_with fail
    refine C0.mono ?_; rintro e w0 ⟨rfl, h0⟩
    clear C0
    have t0 := refIsTri_any A1 c1 x w0 (H1.out.nx h0) HMX.out.1
    rw [i0] at t0
    go_wp2_with fail
    refine t0.mono ?_; rintro e w' ⟨rfl, rfl⟩
    clear t0
    have t1 := refIsTri_any A2 c2 y w0 (H2.out.nx h0) HMX.out.2.1
    rw [i1] at t1
    go_wp2_with fail
    refine t1.mono ?_; rintro e w' ⟨rfl, rfl⟩
    clear t1
    have t2 := refIsTri_any A3 c3 z w0 (H3.out.nx h0) HMX.out.2.2
    rw [i2] at t2
    go_wp2_with fail
    refine t2.mono ?_; rintro e w' ⟨rfl, rfl⟩
    clear t2
    go_wp2
    go_ret
    exact ⟨rfl, h0⟩
  replace i2 : isTri z = true := by simpa using i2
  have HMX := HM
  have b0 : x.length ≤ 100 := by omega
  have HIN := Lib.hid (And.intro (isTri_in i0 HN.out.1) (isTri_in i1 HN.out.2.1))
  clear HN
  go_enter Tryd.func8, Tryd.ntmps8
  go_wp2_with fail
  refine C0.mono ?_; rintro e w0 ⟨rfl, h0⟩
  clear C0
  have t0 := refIsTri_any A1 c1 x w0 (H1.out.nx h0) HMX.out.1
  rw [i0] at t0
  go_wp2_with fail
  refine t0.mono ?_; rintro e w' ⟨rfl, rfl⟩
  clear t0
  have t1 := refIsTri_any A2 c2 y w0 (H2.out.nx h0) HMX.out.2.1
  rw [i1] at t1
  go_wp2_with fail
  refine t1.mono ?_; rintro e w' ⟨rfl, rfl⟩
  clear t1
  have t2 := refIsTri_any A3 c3 z w0 (H3.out.nx h0) HMX.out.2.2
  rw [i2] at t2
  go_wp2_with fail
  refine t2.mono ?_; rintro e w' ⟨rfl, rfl⟩
  clear t2
  have mk := mkT 22 Tryd.underlying22 x.length (x.length : Int) rfl (by omega) w0
  have hbb := bt_made w0 x.length
  have hb2 := bal (Below.refl w0.heap.size w0) (mkOT x.length)
  have HIX := Lib.hid HIN.out.1
  clear i0 i1 i2 HT HIN
  generalize w0.alloc (mkOT x.length) = w2 at *
  have hr0 : BT w2 w0.heap.size (rowX x.length 0) := by unfold rowX; simpa using hbb
  have HR0 := Lib.hid hr0
  have HB2 := Lib.hid hb2
  have HB0 := Lib.hid h0
  clear hbb hb2 hr0 h0
  go_wp2
  go_loopg [9, 10] x.length (fun g s9 s10 wr => ∃ j : Nat, j + g = x.length ∧ s10 = .int .i64 j ∧ s9 = .bool (noX (x.take j)) ∧ BT wr w0.heap.size (rowX x.length j) ∧ Below w0.heap.size w0 wr)
  case atStart => exact ⟨0, by omega, rfl, rfl, HR0.out, HB2.out⟩
  case round =>
    obtain ⟨j, hj, rfl, rfl, hrow, hbel⟩ := hrel
    cases gk with
    | succ g =>
      have hjl : j < x.length := by omega
      have hjl' : (j : Int) < x.length := by omega
      obtain ⟨ad, rfl, hab, hp⟩ := H1.out j hjl
      have hp' := (hbel.cell (p := ad.add j) (by rw [block_add]; exact Nat.lt_of_lt_of_le hab HB0.out.size)).trans ((HB0.out.cell (p := ad.add j) (by rw [block_add]; exact hab)).trans hp)
      have hnext := rowX_next x.length j hjl
      have hnx := noX_next x j hjl
      have hlen := rowX_len x.length j (by omega)
      have hcell := hrow.cell j (by omega)
      have hfroz := hrow.frozen j
      have hgr : w0.heap.size < wr.heap.size := hrow.lt
      have hne : ad.block ≠ w0.heap.size := by have := HB0.out.size; omega
      have hpx : ∀ v, (wr.setCell ⟨w0.heap.size, j, none⟩ v).cell? (ad.add j) = some (.int .u8 (x.getD j 0)) := fun v => by
        rw [World.cell?_setCell_other _ _ _ _ (by intro e; have := congrArg Addr.block e; rw [block_add] at this; first | exact hne this | exact hne this.symm)]
        exact hp'
      generalize (rowX x.length j).getD j 0 = u at *
      generalize x.getD j 0 = v at *
      generalize noX (x.take j) = bb at *
      have HX := Lib.hid hnx
      have HNX := Lib.hid hnext
      have HROW := Lib.hid hrow
      have HBEL := Lib.hid hbel
      have hpx2 := hpx (.int .u8 2)
      clear hnext hnx hrow hbel hp hlen hpx
      cases bb
      · have HF : Hid (noX (x.take (j + 1)) = false) := by show _ = _; rw [HX.out]; rfl
        go_wp2
        go_roundg g
        case measure => omega
        case rel => exact ⟨j + 1, by omega, by go_num, by rw [HF.out], by rw [HNX.out]; exact HROW.out.store _ _, HBEL.out.setCell (Nat.le_refl _) _⟩
      · have HF : Hid (noX (x.take (j + 1)) = (v != 2)) := by show _ = _; rw [HX.out]; rfl
        go_wp2
        go_roundg g
        case measure => omega
        case rel => exact ⟨j + 1, by omega, by go_num, by rw [HF.out], by rw [HNX.out]; exact HROW.out.store _ _, HBEL.out.setCell (Nat.le_refl _) _⟩
    | zero =>
      have q1 : ¬ ((j : Int) < x.length) := by omega
      have q2 : ¬ (j < x.length) := by omega
      have ej : j = x.length := by omega
      have HNO : Hid (noX (x.take j) = noX x) := by show _ = _; rw [ej, List.take_length]
      have HALL : Hid (rowX x.length j = List.replicate x.length 2) := by show _ = _; rw [ej]; simp [rowX]
      have hB := bnx HB0.out hbel
      have HR := Lib.hid hrow.rb
      have hlr := rowX_len x.length j (by omega)
      have hal : BT wr w0.heap.size (List.replicate x.length 2) := by rw [← HALL.out]; exact hrow
      have HAL := Lib.hid hal
      have HWR := Lib.hid hB
      have KB : Hid (∀ wx, Below wr.heap.size wr wx → Calls Tryd.prog 17 #[.slice A1 x.length c1, .slice A2 y.length c2] wx (RetS wx (.bool (belowT x y))) ∧ Calls Tryd.prog 17 #[.slice A1 x.length c1, .slice A1 x.length c1] wx (RetS wx (.bool true)) ∧ Calls Tryd.prog 17 #[.slice A2 y.length c2, .slice A3 z.length c3] wx (RetS wx (.bool (belowT y z))) ∧ Calls Tryd.prog 17 #[.slice A1 x.length c1, .slice A3 z.length c3] wx (RetS wx (.bool (belowT x z))) ∧ Calls Tryd.prog 17 #[.slice A2 y.length c2, .slice A1 x.length c1] wx (RetS wx (.bool (belowT y x))) ∧ Calls Tryd.prog 26 #[.slice A1 x.length c1, .slice A2 y.length c2] wx (RetV wx (.bool (x == y))) ∧ Calls Tryd.prog 17 #[.slice A1 x.length c1, .slice (some ⟨w0.heap.size, 0, none⟩) x.length x.length] wx (RetS wx (.bool true)) ∧ Calls Tryd.prog 19 #[.slice A1 x.length c1] wx (RetV wx (.string (strO (textS x))))) := Lib.hid fun wx hx => by
        have hb := bnx HWR.out hx
        have r1 := H1.out.nx hb
        have r2 := H2.out.nx hb
        have r3 := H3.out.nx hb
        have r4 : RT wx wx.heap.size (some ⟨w0.heap.size, 0, none⟩) (List.replicate x.length 2) := HAL.out.rb.nx hx
        have g1 := Below_any A1 A1 c1 c1 x x wx r1 r1 HM.out.1
        have g2 := Below_any A1 (some ⟨w0.heap.size, 0, none⟩) c1 x.length x _ wx r1 r4 HM.out.1
        rw [belowT_refl] at g1
        rw [belowT_all, List.length_replicate] at g2
        exact ⟨Below_any A1 A2 c1 c2 x y wx r1 r2 HM.out.1, g1, Below_any A2 A3 c2 c3 y z wx r2 r3 HM.out.2.1, Below_any A1 A3 c1 c3 x z wx r1 r3 HM.out.1, Below_any A2 A1 c2 c1 y x wx r2 r1 HM.out.2.1, Same_any A1 A2 c1 c2 x y wx r1 r2 HM.out.1, g2, Text_any A1 c1 x wx r1 (by omega) (fun v hv => (HIX.out v hv).1)⟩
      have hS : (strO (textS x)).size = x.length := textS_len x
      have LT : Hid (belowT x y = true → belowT y z = true → belowT x z = true) := Lib.hid fun a b => belowT_trans a b
      have LA := Lib.hid (belowT_anti x y)
      have LN := Lib.hid (fun h => belowT_noX x y h)
      generalize strO (textS x) = S at *
      generalize belowT x y = xy at *
      generalize belowT y z = yz at *
      generalize belowT x z = xz at *
      generalize belowT y x = yx at *
      generalize (x == y) = sm at *
      rw [HNO.out]
      generalize noX x = no at *
      have eS : ((S.size : Int) == (x.length : Int)) = true := by rw [hS]; simp
      have LX : xy = true → yz = true → xz = true := LT.out
      have LE : (xy && yx) = sm := LA.out
      have LO : no = true → yx = sm := LN.out
      clear hrow hbel hB hal hlr hS HNO HALL HR LT LA LN
      have CC : (xy = true ∧ yz = true ∧ xz = true ∧ yx = true ∧ sm = true) ∨ (xy = true ∧ yz = true ∧ xz = true ∧ yx = false ∧ sm = false) ∨ (xy = true ∧ yz = false ∧ yx = true ∧ sm = true) ∨ (xy = true ∧ yz = false ∧ yx = false ∧ sm = false) ∨ (xy = false ∧ sm = false) := by
        cases xy <;> cases yz <;> cases yx <;> simp_all
      have hno : no = true → yx = sm := LO
      clear LX LE LO
      have k1 := (KB.out wr (Below.refl _ _)).1
      go_wp2_with fail
      refine k1.mono ?_; rintro e w' ⟨rfl, rfl⟩
      clear k1
      have k2 := (KB.out wr (Below.refl _ _)).2.1
      go_wp2_with fail
      refine k2.mono ?_; rintro e w' ⟨rfl, rfl⟩
      clear k2
      have FIN : Hid (∀ wx, Below wr.heap.size wr wx → Below w.heap.size w wx) := Lib.hid fun wx hx => bnx HWR.out hx
      rcases CC with ⟨rfl, rfl, rfl, rfl, rfl⟩ | ⟨rfl, rfl, rfl, rfl, rfl⟩ | ⟨rfl, rfl, rfl, rfl⟩ | ⟨rfl, rfl, rfl, rfl⟩ | ⟨rfl, rfl⟩
      · skip
        have k := (KB.out wr (Below.refl _ _)).2.2.1
        go_wp2_with fail
        refine k.mono ?_; rintro e w' ⟨rfl, rfl⟩
        clear k
        have k := (KB.out wr (Below.refl _ _)).2.2.2.1
        go_wp2_with fail
        refine k.mono ?_; rintro e w' ⟨rfl, rfl⟩
        clear k
        have k := (KB.out wr (Below.refl _ _)).2.2.2.2.1
        go_wp2_with fail
        refine k.mono ?_; rintro e w' ⟨rfl, rfl⟩
        clear k
        have k := (KB.out wr (Below.refl _ _)).2.2.2.2.2.1
        go_wp2_with fail
        refine k.mono ?_; rintro e va ⟨rfl, hva⟩
        have Hva := Lib.hid (hva)
        clear k hva
        cases no
        · skip
          have k := (KB.out va Hva.out).2.2.2.2.2.2.1
          go_wp2_with fail
          refine k.mono ?_; rintro e w' ⟨rfl, rfl⟩
          clear k
          have k := (KB.out va Hva.out).2.2.2.2.2.2.2
          go_wp2_with fail
          refine k.mono ?_; rintro e ut ⟨rfl, hut⟩
          have Hut := Lib.hid (bnx Hva.out hut)
          clear k hut
          go_wp2
          go_ret
          exact ⟨rfl, FIN.out _ Hut.out⟩
        · skip
          have k := (KB.out va Hva.out).2.2.2.2.2.2.1
          go_wp2_with fail
          refine k.mono ?_; rintro e w' ⟨rfl, rfl⟩
          clear k
          have k := (KB.out va Hva.out).2.2.2.2.1
          go_wp2_with fail
          refine k.mono ?_; rintro e w' ⟨rfl, rfl⟩
          clear k
          have k := (KB.out va Hva.out).2.2.2.2.2.1
          go_wp2_with fail
          refine k.mono ?_; rintro e us ⟨rfl, hus⟩
          have Hus := Lib.hid (bnx Hva.out hus)
          clear k hus
          have k := (KB.out us Hus.out).2.2.2.2.2.2.2
          go_wp2_with fail
          refine k.mono ?_; rintro e ut ⟨rfl, hut⟩
          have Hut := Lib.hid (bnx Hus.out hut)
          clear k hut
          go_wp2
          go_ret
          exact ⟨rfl, FIN.out _ Hut.out⟩
      · skip
        have k := (KB.out wr (Below.refl _ _)).2.2.1
        go_wp2_with fail
        refine k.mono ?_; rintro e w' ⟨rfl, rfl⟩
        clear k
        have k := (KB.out wr (Below.refl _ _)).2.2.2.1
        go_wp2_with fail
        refine k.mono ?_; rintro e w' ⟨rfl, rfl⟩
        clear k
        have k := (KB.out wr (Below.refl _ _)).2.2.2.2.1
        go_wp2_with fail
        refine k.mono ?_; rintro e w' ⟨rfl, rfl⟩
        clear k
        have k := (KB.out wr (Below.refl _ _)).2.2.2.2.2.1
        go_wp2_with fail
        refine k.mono ?_; rintro e va ⟨rfl, hva⟩
        have Hva := Lib.hid (hva)
        clear k hva
        cases no
        · skip
          have k := (KB.out va Hva.out).2.2.2.2.2.2.1
          go_wp2_with fail
          refine k.mono ?_; rintro e w' ⟨rfl, rfl⟩
          clear k
          have k := (KB.out va Hva.out).2.2.2.2.2.2.2
          go_wp2_with fail
          refine k.mono ?_; rintro e ut ⟨rfl, hut⟩
          have Hut := Lib.hid (bnx Hva.out hut)
          clear k hut
          go_wp2
          go_ret
          exact ⟨rfl, FIN.out _ Hut.out⟩
        · skip
          have k := (KB.out va Hva.out).2.2.2.2.2.2.1
          go_wp2_with fail
          refine k.mono ?_; rintro e w' ⟨rfl, rfl⟩
          clear k
          have k := (KB.out va Hva.out).2.2.2.2.1
          go_wp2_with fail
          refine k.mono ?_; rintro e w' ⟨rfl, rfl⟩
          clear k
          have k := (KB.out va Hva.out).2.2.2.2.2.1
          go_wp2_with fail
          refine k.mono ?_; rintro e us ⟨rfl, hus⟩
          have Hus := Lib.hid (bnx Hva.out hus)
          clear k hus
          have k := (KB.out us Hus.out).2.2.2.2.2.2.2
          go_wp2_with fail
          refine k.mono ?_; rintro e ut ⟨rfl, hut⟩
          have Hut := Lib.hid (bnx Hus.out hut)
          clear k hut
          go_wp2
          go_ret
          exact ⟨rfl, FIN.out _ Hut.out⟩
      · skip
        have k := (KB.out wr (Below.refl _ _)).2.2.1
        go_wp2_with fail
        refine k.mono ?_; rintro e w' ⟨rfl, rfl⟩
        clear k
        have k := (KB.out wr (Below.refl _ _)).2.2.2.2.1
        go_wp2_with fail
        refine k.mono ?_; rintro e w' ⟨rfl, rfl⟩
        clear k
        have k := (KB.out wr (Below.refl _ _)).2.2.2.2.2.1
        go_wp2_with fail
        refine k.mono ?_; rintro e va ⟨rfl, hva⟩
        have Hva := Lib.hid (hva)
        clear k hva
        cases no
        · skip
          have k := (KB.out va Hva.out).2.2.2.2.2.2.1
          go_wp2_with fail
          refine k.mono ?_; rintro e w' ⟨rfl, rfl⟩
          clear k
          have k := (KB.out va Hva.out).2.2.2.2.2.2.2
          go_wp2_with fail
          refine k.mono ?_; rintro e ut ⟨rfl, hut⟩
          have Hut := Lib.hid (bnx Hva.out hut)
          clear k hut
          go_wp2
          go_ret
          exact ⟨rfl, FIN.out _ Hut.out⟩
        · skip
          have k := (KB.out va Hva.out).2.2.2.2.2.2.1
          go_wp2_with fail
          refine k.mono ?_; rintro e w' ⟨rfl, rfl⟩
          clear k
          have k := (KB.out va Hva.out).2.2.2.2.1
          go_wp2_with fail
          refine k.mono ?_; rintro e w' ⟨rfl, rfl⟩
          clear k
          have k := (KB.out va Hva.out).2.2.2.2.2.1
          go_wp2_with fail
          refine k.mono ?_; rintro e us ⟨rfl, hus⟩
          have Hus := Lib.hid (bnx Hva.out hus)
          clear k hus
          have k := (KB.out us Hus.out).2.2.2.2.2.2.2
          go_wp2_with fail
          refine k.mono ?_; rintro e ut ⟨rfl, hut⟩
          have Hut := Lib.hid (bnx Hus.out hut)
          clear k hut
          go_wp2
          go_ret
          exact ⟨rfl, FIN.out _ Hut.out⟩
      · skip
        have k := (KB.out wr (Below.refl _ _)).2.2.1
        go_wp2_with fail
        refine k.mono ?_; rintro e w' ⟨rfl, rfl⟩
        clear k
        have k := (KB.out wr (Below.refl _ _)).2.2.2.2.1
        go_wp2_with fail
        refine k.mono ?_; rintro e w' ⟨rfl, rfl⟩
        clear k
        have k := (KB.out wr (Below.refl _ _)).2.2.2.2.2.1
        go_wp2_with fail
        refine k.mono ?_; rintro e va ⟨rfl, hva⟩
        have Hva := Lib.hid (hva)
        clear k hva
        cases no
        · skip
          have k := (KB.out va Hva.out).2.2.2.2.2.2.1
          go_wp2_with fail
          refine k.mono ?_; rintro e w' ⟨rfl, rfl⟩
          clear k
          have k := (KB.out va Hva.out).2.2.2.2.2.2.2
          go_wp2_with fail
          refine k.mono ?_; rintro e ut ⟨rfl, hut⟩
          have Hut := Lib.hid (bnx Hva.out hut)
          clear k hut
          go_wp2
          go_ret
          exact ⟨rfl, FIN.out _ Hut.out⟩
        · skip
          have k := (KB.out va Hva.out).2.2.2.2.2.2.1
          go_wp2_with fail
          refine k.mono ?_; rintro e w' ⟨rfl, rfl⟩
          clear k
          have k := (KB.out va Hva.out).2.2.2.2.1
          go_wp2_with fail
          refine k.mono ?_; rintro e w' ⟨rfl, rfl⟩
          clear k
          have k := (KB.out va Hva.out).2.2.2.2.2.1
          go_wp2_with fail
          refine k.mono ?_; rintro e us ⟨rfl, hus⟩
          have Hus := Lib.hid (bnx Hva.out hus)
          clear k hus
          have k := (KB.out us Hus.out).2.2.2.2.2.2.2
          go_wp2_with fail
          refine k.mono ?_; rintro e ut ⟨rfl, hut⟩
          have Hut := Lib.hid (bnx Hus.out hut)
          clear k hut
          go_wp2
          go_ret
          exact ⟨rfl, FIN.out _ Hut.out⟩
      · skip
        have k := (KB.out wr (Below.refl _ _)).2.2.2.2.2.1
        go_wp2_with fail
        refine k.mono ?_; rintro e va ⟨rfl, hva⟩
        have Hva := Lib.hid (hva)
        clear k hva
        cases no
        · skip
          have k := (KB.out va Hva.out).2.2.2.2.2.2.1
          go_wp2_with fail
          refine k.mono ?_; rintro e w' ⟨rfl, rfl⟩
          clear k
          have k := (KB.out va Hva.out).2.2.2.2.2.2.2
          go_wp2_with fail
          refine k.mono ?_; rintro e ut ⟨rfl, hut⟩
          have Hut := Lib.hid (bnx Hva.out hut)
          clear k hut
          go_wp2
          go_ret
          exact ⟨rfl, FIN.out _ Hut.out⟩
        · obtain rfl : yx = false := hno rfl
          have k := (KB.out va Hva.out).2.2.2.2.2.2.1
          go_wp2_with fail
          refine k.mono ?_; rintro e w' ⟨rfl, rfl⟩
          clear k
          have k := (KB.out va Hva.out).2.2.2.2.1
          go_wp2_with fail
          refine k.mono ?_; rintro e w' ⟨rfl, rfl⟩
          clear k
          have k := (KB.out va Hva.out).2.2.2.2.2.1
          go_wp2_with fail
          refine k.mono ?_; rintro e us ⟨rfl, hus⟩
          have Hus := Lib.hid (bnx Hva.out hus)
          clear k hus
          have k := (KB.out us Hus.out).2.2.2.2.2.2.2
          go_wp2_with fail
          refine k.mono ?_; rintro e ut ⟨rfl, hut⟩
          have Hut := Lib.hid (bnx Hus.out hut)
          clear k hut
          go_wp2
          go_ret
          exact ⟨rfl, FIN.out _ Hut.out⟩
end Go.Proofs.YtekopdfnblfldaaDoor
