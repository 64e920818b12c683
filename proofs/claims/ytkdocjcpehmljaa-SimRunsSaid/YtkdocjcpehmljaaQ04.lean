/-
  The reference's Values, lits and Start.
  The reference's Start.
-/
import Derived.Test.YtkdocjcpehmljaaProg
import Derived.WalkKit
import Derived.WalkSpells
import Derived.WalkLawsBesides
import Derived.Lib.Hide
import Derived.BigQuiet
import Derived.Deep.QuietTactic
import Derived.Deep.RegionWith
import Derived.Deep.RegionHeld3
import Derived.Test.YtkdocjcpehmljaaQ03
import Derived.Deep.LoopGhost
import Derived.WalkMore
set_option linter.unusedVariables false
/- The reference's Values, lits and Start. -/
namespace Go.Proofs.Ytkdocjcpehmljaa
open Go.RowKit
set_option maxHeartbeats 2000000 in
theorem refValues_no (I : Int) (AL AG AO AB AC AN : Option Addr) (cL cG cO cB cC cN : Nat) (L G : List Pr) (O D C : List Int) (N : List Nm) (AS AI : Option Addr) (cs ci : Nat) (st inp : List Bool) (w : World) (h : ¬ (st.length = L.length ∧ (inp.length : Int) = I)) :
    Calls Try.prog 14 #[.agg #[.int .i64 I, .slice AL L.length cL, .slice AG G.length cG, .slice AO O.length cO, .slice AB D.length cB, .slice AC C.length cC, .slice AN N.length cN], .slice AS st.length cs, .slice AI inp.length ci] w (RetB0 w [] 7) := by
  have hb := bal (Below.refl w.heap.size w) (.cells #[.int .i64 I, .slice AL L.length cL, .slice AG G.length cG, .slice AO O.length cO, .slice AB D.length cB, .slice AC C.length cC, .slice AN N.length cN] 27)
  by_cases h1 : st.length = L.length
  · have d1 : ((st.length : Int) != (L.length : Int)) = false := by simp [h1]
    have d2 : ((inp.length : Int) != I) = true := by simp; intro e; exact h ⟨h1, e⟩
    clear h h1
    go_enter Try.func14, Try.ntmps14
    go_wp2
    go_ret2
    exact ⟨none, 0, rfl, RB.nil _ _ _, fun _ => rfl, by simp, by simp [maxLen], hb⟩
  · have d1 : ((st.length : Int) != (L.length : Int)) = true := by simp; omega
    clear h h1
    go_enter Try.func14, Try.ntmps14
    go_wp2
    go_ret2
    exact ⟨none, 0, rfl, RB.nil _ _ _, fun _ => rfl, by simp, by simp [maxLen], hb⟩
theorem own_one (w : World) (b : Bool) : OwnB (w.alloc (.cells #[.bool b] 4)) w.heap.size (.slice (some ⟨w.heap.size, 0, none⟩) 1 1) [b] := by
  have := World.ownsRow_lit (e := 4) (size := 1) (base := w.heap.size) w #[.bool b] 1 (Nat.le_refl _) (by simp [maxLen]) rfl
  unfold OwnB
  simpa using this
set_option maxRecDepth 100000 in
set_option maxHeartbeats 4000000 in
theorem refValues_yes (I : Int) (AL AG AO AB AC AN : Option Addr) (cL cG cO cB cC cN : Nat) (L G : List Pr) (O D C : List Int) (N : List Nm) (AS AI : Option Addr) (cs ci : Nat) (st inp : List Bool) (w : World) (hA : RA w w.heap.size AL AG AO AB AC AN L G O D C N) (hS : RB w w.heap.size AS st) (hI : RB w w.heap.size AI inp) (zS : AS = none → cs = 0) (zI : AI = none → ci = 0) (hM : Md I L G O D C) (h1 : st.length = L.length) (h2 : (inp.length : Int) = I) :
    Calls Try.prog 14 #[.agg #[.int .i64 I, .slice AL L.length cL, .slice AG G.length cG, .slice AO O.length cO, .slice AB D.length cB, .slice AC C.length cC, .slice AN N.length cN], .slice AS st.length cs, .slice AI inp.length ci] w (RetB0 w (valsOf st inp G) 0) := by
  have hb := bal (Below.refl w.heap.size w) (.cells #[.int .i64 I, .slice AL L.length cL, .slice AG G.length cG, .slice AO O.length cO, .slice AB D.length cB, .slice AC C.length cC, .slice AN N.length cN] 27)
  have d1 : ((st.length : Int) != (L.length : Int)) = false := by simp [h1]
  have d2 : ((inp.length : Int) != I) = false := by simp [h2]
  have m1 : inp.length ≤ 1000000 := by have := hM.i1; omega
  have m2 : st.length ≤ 1000000 := by have := hM.nl; omega
  have m3 := hM.ng
  have ht := hM.tp
  rw [show 1 + I.toNat + L.length = 1 + inp.length + st.length by omega] at ht
  obtain ⟨T, hT⟩ : ∃ T, valsOf st inp G = T := ⟨_, rfl⟩
  rw [hT]
  have HTT := Lib.hid hT
  have hbox : (w.alloc (.cells #[.int .i64 I, .slice AL L.length cL, .slice AG G.length cG, .slice AO O.length cO, .slice AB D.length cB, .slice AC C.length cC, .slice AN N.length cN] 27)).cell? ⟨w.heap.size, 2, none⟩ = some (.slice AG G.length cG) := by go_simp
  have hs0 : (w.alloc (.cells #[.int .i64 I, .slice AL L.length cL, .slice AG G.length cG, .slice AO O.length cO, .slice AB D.length cB, .slice AC C.length cC, .slice AN N.length cN] 27)).heap.size = w.heap.size + 1 := by simp
  have ho : OwnB ((w.alloc (.cells #[.int .i64 I, .slice AL L.length cL, .slice AG G.length cG, .slice AO O.length cO, .slice AB D.length cB, .slice AC C.length cC, .slice AN N.length cN] 27)).alloc (.cells #[.bool false] 4)) (w.heap.size + 1) (.slice (some ⟨w.heap.size + 1, 0, none⟩) 1 1) [false] := by
    have := own_one (w.alloc (.cells #[.int .i64 I, .slice AL L.length cL, .slice AG G.length cG, .slice AO O.length cO, .slice AB D.length cB, .slice AC C.length cC, .slice AN N.length cN] 27)) false
    rwa [hs0] at this
  have hb1 := bal (Below.refl _ (w.alloc (.cells #[.int .i64 I, .slice AL L.length cL, .slice AG G.length cG, .slice AO O.length cO, .slice AB D.length cB, .slice AC C.length cC, .slice AN N.length cN] 27))) (.cells #[.bool false] 4)
  have HG := Lib.hid (hA.g.nx hb)
  have HS := Lib.hid (hS.nx hb)
  have HI := Lib.hid (hI.nx hb)
  have HT := Lib.hid ht
  have HZS := Lib.hid zS
  have HB := Lib.hid hb
  clear hA hS hI hM h1 h2 ht hT zS hb
  go_enter Try.func14, Try.ntmps14
  have HIx := HI.out.nx hb1
  go_wp2_with (first | (at_builtin; refine wpBs (z := w.alloc (.cells #[.int .i64 I, .slice AL L.length cL, .slice AG G.length cG, .slice AO O.length cO, .slice AB D.length cB, .slice AC C.length cC, .slice AN N.length cN] 27)) rfl (.tmp 26) (.tmp 27) rfl (w.heap.size + 1) _ [false] rfl ho AI ci inp rfl HIx (by simp) (by simp) hb1 (by simp; omega) zI ?_) | fail)
  intro v1 w1 ho1 hb2
  rw [← hs0] at hb2 ho1
  generalize w.alloc (.cells #[.int .i64 I, .slice AL L.length cL, .slice AG G.length cG, .slice AO O.length cO, .slice AB D.length cB, .slice AC C.length cC, .slice AN N.length cN] 27) = w0 at *
  have HS0 := Lib.hid hs0
  clear hs0
  have hB1 := hb1.trans hb2
  have HSx := HS.out.nx hB1
  clear ho hb1 HIx hb2
  go_wp2_with (first | (at_builtin; refine wpBs (z := w0) rfl (.tmp 29) (.tmp 30) rfl _ _ ([false] ++ inp) rfl ho1 AS cs st rfl HSx hB1.size (Nat.le_refl _) hB1 (by simp; omega) HZS.out ?_) | fail)
  intro v2 w2 ho2 hb3
  have hB2 := hB1.trans hb3
  have ho2 : OwnB w2 w0.heap.size v2 (false :: (inp ++ st)) := by simpa using ho2
  obtain ⟨base, hbs⟩ : ∃ b, false :: (inp ++ st) = b := ⟨_, rfl⟩
  have hlb : base.length = 1 + inp.length + st.length := by rw [← hbs]; simp; omega
  rw [hbs] at ho2
  have HTB : Hid (vals base G = T) := Lib.hid (by rw [← hbs]; exact HTT.out)
  have hto := HT.out
  rw [← hlb] at hto
  have HTO := Lib.hid hto
  have HO2 := Lib.hid ho2
  have HB2 := Lib.hid hB2
  have HBX := Lib.hid hbox
  clear ho1 hB1 HSx hb3 hto HT HTT hbs ho2 hB2 hbox
  go_wp2
  go_loopg [8, 9] G.length (fun g s8 s9 wr => ∃ j : Nat, j + g = G.length ∧ s9 = .int .i64 j ∧ OwnB wr w0.heap.size s8 (vals base (G.take j)) ∧ Below w0.heap.size w0 wr)
  case atStart => exact ⟨0, by omega, rfl, HO2.out, HB2.out⟩
  case round =>
    obtain ⟨j, hj, rfl, hrow, hbel⟩ := hrel
    have hc2 := (hbel.cell (p := ⟨w.heap.size, 2, none⟩) (by show w.heap.size < _; have := HS0.out; omega)).trans HBX.out
    have hfb := HB.out.trans (hbel.mono HB.out.size)
    have hlen : (vals base (G.take j)).length = base.length + j := by rw [vals_length, List.length_take]; omega
    cases gk with
    | zero =>
      have q1 : ¬ ((j : Int) < G.length) := by omega
      have q2 : ¬ (j < G.length) := by omega
      rw [show G.take j = G from List.take_of_length_le (by omega), HTB.out] at hrow
      obtain ⟨A, c, rfl, r1, r2, r3, r4⟩ := hrow.val
      have HQ := Lib.hid (And.intro r1 (And.intro r2 (And.intro r3 (And.intro r4 hfb))))
      clear r1 r2 r3 r4 hfb hrow hbel hlen
      go_wp2
      go_ret2
      exact ⟨A, c, rfl, HQ.out.1, HQ.out.2.1, HQ.out.2.2.1, HQ.out.2.2.2.1, HQ.out.2.2.2.2⟩
    | succ g =>
      have hjl : j < G.length := by omega
      have hjl' : (j : Int) < G.length := by omega
      obtain ⟨ad, rfl, hab, hp0, hp1⟩ := HG.out j hjl
      have hp0' : wr.cell? (ad.add (j * 2)) = some (.int .i64 (G.getD j (0, 0)).1) := (hbel.cell (by rw [block_add]; exact hab)).trans hp0
      have hp1' : wr.cell? ⟨(ad.add (j * 2)).block, (ad.add (j * 2)).off + 1, none⟩ = some (.int .i64 (G.getD j (0, 0)).2) := (hbel.cell (by show (ad.add (j * 2)).block < _; rw [block_add]; exact hab)).trans hp1
      obtain ⟨t1, t2, t3⟩ := HTO.out j hjl
      have hnext := vals_next base G j hjl
      obtain ⟨A, c, rfl, r1, r2, r3, r4⟩ := hrow.val
      have hmx : (vals base (G.take j)).length ≤ 3000000 := by rw [hlen]; omega
      generalize vals base (G.take j) = M at *
      generalize G.getD j (0, 0) = p at *
      obtain ⟨pa, pb⟩ := p
      simp only at hp0' hp1' t1 t2 t3 hnext
      have C1 := refLit_any A c M pa wr r1 (by unfold maxLen; omega) (by omega) (by omega)
      have C2 := refLit_any A c M pb wr r1 (by unfold maxLen; omega) (by omega) (by omega)
      have HN := Lib.hid hnext
      generalize lt M pa = xa at *
      generalize lt M pb = xb at *
      have HROW := Lib.hid hrow
      have HBEL := Lib.hid hbel
      have hown := hrow
      have HM := Lib.hid hmx
      clear hnext hfb hp0 hp1 hlen r1 r2 r3 r4 t1 t2 t3 hrow hmx
      go_wp2_with fail
      refine C1.mono ?_; rintro e w' ⟨rfl, rfl⟩
      clear C1
      go_wp2_with fail
      refine C2.mono ?_; rintro e w' ⟨rfl, rfl⟩
      clear C2
      cases xa
      · go_wp2_with (first | (at_builtin; refine wpB1 (z := w0) rfl (.tmp 55) (.tmp 60) rfl _ M rfl hown false rfl HBEL.out (by have := HM.out; omega) ?_) | fail)
        intro v3 w3 ho3 hb3
        have HO3 := Lib.hid ho3
        have HB3 := Lib.hid hb3
        clear hown ho3 hb3 hbel hc2 hp0' hp1'
        go_wp2
        go_roundg g
        case measure => omega
        case rel => exact ⟨j + 1, by omega, by go_num, by rw [HN.out]; exact HO3.out, HB3.out⟩
      · go_wp2_with (first | (at_builtin; refine wpB1 (z := w0) rfl (.tmp 55) (.tmp 60) rfl _ M rfl hown xb rfl HBEL.out (by have := HM.out; omega) ?_) | fail)
        intro v3 w3 ho3 hb3
        have HO3 := Lib.hid ho3
        have HB3 := Lib.hid hb3
        clear hown ho3 hb3 hbel hc2 hp0' hp1'
        go_wp2
        go_roundg g
        case measure => omega
        case rel => exact ⟨j + 1, by omega, by go_num, by rw [HN.out]; exact HO3.out, HB3.out⟩
set_option maxHeartbeats 2000000 in
theorem reflits_any (A Av : Option Addr) (c cv : Nat) (l : List Int) (v : List Bool) (w : World) (h : RI w w.heap.size A l) (hv : RB w w.heap.size Av v) (hl : l.length ≤ 1000000) (hm : v.length ≤ maxLen) (hlit : Lits l) :
    Calls Try.prog 31 #[.slice Av v.length cv, .slice A l.length c] w (RetB w (l.map (lt v))) := by
  have H := Lib.hid h
  have HV := Lib.hid hv
  have HLI := Lib.hid hlit
  clear h hv hlit
  go_enter Try.func31, Try.ntmps31
  go_wp2
  go_loopg [5, 6] l.length (fun g s5 s6 wr => ∃ j : Nat, j + g = l.length ∧ s6 = .int .i64 j ∧ OwnB wr w.heap.size s5 ((l.take j).map (lt v)) ∧ Below w.heap.size w wr)
  case atStart => exact ⟨0, by omega, rfl, OwnB.nil _ _, Below.refl _ _⟩
  case round =>
    obtain ⟨j, hj, rfl, hrow, hbel⟩ := hrel
    cases gk with
    | zero =>
      have q1 : ¬ ((j : Int) < l.length) := by omega
      have q2 : ¬ (j < l.length) := by omega
      rw [show l.take j = l from List.take_of_length_le (by omega)] at hrow
      obtain ⟨A2, c2, rfl, r1, r2, r3, r4⟩ := hrow.val
      have HQ := Lib.hid (And.intro r1 (And.intro r2 (And.intro r3 (And.intro r4 hbel))))
      generalize l.map (lt v) = T at *
      clear r1 r2 r3 r4 hrow hbel
      go_wp2
      go_ret
      exact ⟨A2, c2, rfl, HQ.out.1, HQ.out.2.1, HQ.out.2.2.1, HQ.out.2.2.2.1, HQ.out.2.2.2.2⟩
    | succ g =>
      have hjl : j < l.length := by omega
      have hjl' : (j : Int) < l.length := by omega
      obtain ⟨ad, rfl, hab, hp⟩ := H.out j hjl
      have hp' := (hbel.cell (p := ad.add j) (by rw [block_add]; exact hab)).trans hp
      obtain ⟨x0, x1⟩ := HLI.out.at j hjl
      have hnext : (l.take (j + 1)).map (lt v) = (l.take j).map (lt v) ++ [lt v (l.getD j 0)] := by
        have e : l.take (j + 1) = l.take j ++ [l.getD j 0] := by rw [List.take_add_one]; simp [List.getD_eq_getElem?_getD, hjl]
        rw [e, List.map_append]; rfl
      have hmx : ((l.take j).map (lt v)).length ≤ 1000000 := by simp; omega
      have C1 := refLit_any Av cv v (l.getD j 0) wr (HV.out.nx hbel) hm (by omega) (by omega)
      generalize (l.take j).map (lt v) = M at *
      generalize lt v (l.getD j 0) = y at *
      generalize l.getD j 0 = x at *
      have HN := Lib.hid hnext
      have HBEL := Lib.hid hbel
      have HM := Lib.hid hmx
      clear hnext hp hmx
      go_wp2_with fail
      refine C1.mono ?_; rintro e w' ⟨rfl, rfl⟩
      clear C1
      go_wp2_with (first | (at_builtin; refine wpB1 (z := w) rfl (.tmp 13) (.tmp 20) rfl _ M rfl hrow y rfl HBEL.out (by have := HM.out; omega) ?_) | fail)
      intro v3 w3 ho3 hb3
      have HO3 := Lib.hid ho3
      have HB3 := Lib.hid hb3
      clear hrow ho3 hb3 hbel hp'
      go_wp2
      go_roundg g
      case measure => omega
      case rel => exact ⟨j + 1, by omega, by go_num, by rw [HN.out]; exact HO3.out, HB3.out⟩
end Go.Proofs.Ytkdocjcpehmljaa
/- The reference's Start. -/
namespace Go.Proofs.Ytkdocjcpehmljaa
open Go.RowKit
set_option maxHeartbeats 2000000 in
theorem refStart_no (I : Int) (AL AG AO AB AC AN : Option Addr) (cL cG cO cB cC cN : Nat) (L G : List Pr) (O D C : List Int) (N : List Nm) (AS : Option Addr) (cs : Nat) (st : List Bool) (w : World) (h : ¬ (st.length = L.length)) :
    Calls Try.prog 18 #[.agg #[.int .i64 I, .slice AL L.length cL, .slice AG G.length cG, .slice AO O.length cO, .slice AB D.length cB, .slice AC C.length cC, .slice AN N.length cN], .slice AS st.length cs] w (RetB0 w [] 7) := by
  have hb := bal (Below.refl w.heap.size w) (.cells #[.int .i64 I, .slice AL L.length cL, .slice AG G.length cG, .slice AO O.length cO, .slice AB D.length cB, .slice AC C.length cC, .slice AN N.length cN] 27)
  have d1 : ((st.length : Int) != (L.length : Int)) = true := by simp; omega
  clear h
  go_enter Try.func18, Try.ntmps18
  go_wp2
  go_ret2
  exact ⟨none, 0, rfl, RB.nil _ _ _, fun _ => rfl, by simp, by simp [maxLen], hb⟩
set_option maxRecDepth 100000 in
set_option maxHeartbeats 4000000 in
theorem refStart_yes (I : Int) (AL AG AO AB AC AN : Option Addr) (cL cG cO cB cC cN : Nat) (L G : List Pr) (O D C : List Int) (N : List Nm) (AS : Option Addr) (cs : Nat) (st : List Bool) (w : World) (hL : RP w w.heap.size AL L) (hS : RB w w.heap.size AS st) (nl : L.length ≤ 1000000) (h1 : st.length = L.length) :
    Calls Try.prog 18 #[.agg #[.int .i64 I, .slice AL L.length cL, .slice AG G.length cG, .slice AO O.length cO, .slice AB D.length cB, .slice AC C.length cC, .slice AN N.length cN], .slice AS st.length cs] w (RetB0 w (startL L st) 0) := by
  have hb := bal (Below.refl w.heap.size w) (.cells #[.int .i64 I, .slice AL L.length cL, .slice AG G.length cG, .slice AO O.length cO, .slice AB D.length cB, .slice AC C.length cC, .slice AN N.length cN] 27)
  have d1 : ((st.length : Int) != (L.length : Int)) = false := by simp [h1]
  have hc0 : (w.alloc (.cells #[.int .i64 I, .slice AL L.length cL, .slice AG G.length cG, .slice AO O.length cO, .slice AB D.length cB, .slice AC C.length cC, .slice AN N.length cN] 27)).cell? ⟨w.heap.size, 1, none⟩ = some (.slice AL L.length cL) := by go_simp
  have hs0 : (w.alloc (.cells #[.int .i64 I, .slice AL L.length cL, .slice AG G.length cG, .slice AO O.length cO, .slice AB D.length cB, .slice AC C.length cC, .slice AN N.length cN] 27)).heap.size = w.heap.size + 1 := by simp
  obtain ⟨R, hR⟩ : ∃ R, startL L st = R := ⟨_, rfl⟩
  have hlr : R.length = st.length := by rw [← hR]; exact startL_len L st h1
  have hat : ∀ j, j < st.length → R.getD j false = ini (L.getD j (0, 0)).2 (st.getD j false) := fun j hj => by rw [← hR]; exact startL_at L st h1 j hj
  rw [hR]
  have HAT := Lib.hid hat
  have HLR := Lib.hid hlr
  have H1 := Lib.hid h1
  have HL := Lib.hid hL
  have HS := Lib.hid hS
  have HB := Lib.hid hb
  have HC := Lib.hid hc0
  have HS0 := Lib.hid hs0
  clear hat hlr h1 hL hS hR
  go_enter Try.func18, Try.ntmps18
  go_wp2
  generalize w.alloc (.cells #[.int .i64 I, .slice AL L.length cL, .slice AG G.length cG, .slice AO O.length cO, .slice AB D.length cB, .slice AC C.length cC, .slice AN N.length cN] 27) = w0 at *
  clear hs0 hc0 hb
  go_loopg [6, 7] L.length (fun g s6 s7 wr => ∃ j : Nat, j + g = L.length ∧ s7 = .int .i64 j ∧ OwnB wr w0.heap.size s6 (R.take j) ∧ Below w0.heap.size w0 wr)
  case atStart => exact ⟨0, by omega, rfl, OwnB.nil _ _, Below.refl _ _⟩
  case round =>
    obtain ⟨j, hj, rfl, hrow, hbel⟩ := hrel
    have hh1 := H1.out
    have hc1 := (hbel.cell (p := ⟨w.heap.size, 1, none⟩) (by show w.heap.size < _; have := HS0.out; omega)).trans HC.out
    have hfb := HB.out.trans (hbel.mono HB.out.size)
    cases gk with
    | zero =>
      have q1 : ¬ ((j : Int) < L.length) := by omega
      have q2 : ¬ (j < L.length) := by omega
      rw [show R.take j = R from List.take_of_length_le (by rw [HLR.out]; omega)] at hrow
      obtain ⟨A, c, rfl, r1, r2, r3, r4⟩ := hrow.val
      have HQ := Lib.hid (And.intro r1 (And.intro r2 (And.intro r3 (And.intro r4 hfb))))
      clear r1 r2 r3 r4 hfb hrow hbel hh1
      go_wp2
      go_ret2
      exact ⟨A, c, rfl, HQ.out.1, HQ.out.2.1, HQ.out.2.2.1, HQ.out.2.2.2.1, HQ.out.2.2.2.2⟩
    | succ g =>
      have hjl : j < L.length := by omega
      have hjl' : (j : Int) < L.length := by omega
      have hjs' : (j : Int) < st.length := by omega
      obtain ⟨ad, rfl, hab, hp0, hp1⟩ := HL.out j hjl
      obtain ⟨ast, rfl, hbs, hq⟩ := HS.out j (by omega)
      have hp1' := (hfb.cell (p := ⟨(ad.add (j * 2)).block, (ad.add (j * 2)).off + 1, none⟩) (by show (ad.add (j * 2)).block < _; rw [block_add]; exact hab)).trans hp1
      have hq' := (hfb.cell (p := ast.add j) (by rw [block_add]; exact hbs)).trans hq
      have hgj := HAT.out j (by omega)
      have hnext : R.take (j + 1) = R.take j ++ [R.getD j false] := by rw [List.take_add_one]; simp [List.getD_eq_getElem?_getD, show j < R.length by have := HLR.out; omega]
      rw [hgj] at hnext
      have hml : (R.take j).length ≤ 1000000 := by rw [List.length_take]; omega
      generalize R.take j = M at *
      generalize L.getD j (0, 0) = p at *
      obtain ⟨x, y⟩ := p
      generalize st.getD j false = u at *
      simp only at hp1' hnext
      have HN := Lib.hid hnext
      have HBEL := Lib.hid hbel
      have HML := Lib.hid hml
      clear hnext hgj hp0 hp1 hq hfb hbel hh1 hml
      by_cases y0 : y = 0
      · subst y0
        go_wp2_with (first | (at_builtin; refine wpB1 (z := w0) rfl (.tmp 36) (.tmp 37) rfl _ M rfl hrow false rfl HBEL.out (by have := HML.out; omega) ?_) | fail)
        intro v3 w3 ho3 hb3
        have HO3 := Lib.hid ho3
        have HB3 := Lib.hid hb3
        clear hrow ho3 hb3 hc1 hp1' hq'
        go_wp2
        go_roundg g
        case measure => omega
        case rel => exact ⟨j + 1, by omega, by go_num, by rw [HN.out]; exact HO3.out, HB3.out⟩
      · have dy0 : decide (y = 0) = false := decide_eq_false y0
        by_cases y1 : y = 1
        · subst y1
          go_wp2_with (first | (at_builtin; refine wpB1 (z := w0) rfl (.tmp 41) (.tmp 42) rfl _ M rfl hrow true rfl HBEL.out (by have := HML.out; omega) ?_) | fail)
          intro v3 w3 ho3 hb3
          have HO3 := Lib.hid ho3
          have HB3 := Lib.hid hb3
          clear hrow ho3 hb3 hc1 hp1' hq'
          go_wp2
          go_roundg g
          case measure => omega
          case rel => exact ⟨j + 1, by omega, by go_num, by rw [HN.out]; exact HO3.out, HB3.out⟩
        · have dy1 : decide (y = 1) = false := decide_eq_false y1
          have HN2 := Lib.hid (show R.take (j + 1) = M ++ [u] by rw [HN.out]; simp [ini, y0, y1])
          go_wp2_with (first | (at_builtin; refine wpB1 (z := w0) rfl (.tmp 27) (.tmp 32) rfl _ M rfl hrow u rfl HBEL.out (by have := HML.out; omega) ?_) | fail)
          intro v3 w3 ho3 hb3
          have HO3 := Lib.hid ho3
          have HB3 := Lib.hid hb3
          clear hrow ho3 hb3 hc1 hp1' hq'
          go_wp2
          go_roundg g
          case measure => omega
          case rel => exact ⟨j + 1, by omega, by go_num, by rw [HN2.out]; exact HO3.out, HB3.out⟩
end Go.Proofs.Ytkdocjcpehmljaa
