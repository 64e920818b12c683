/-
  sim.Values, Clone and Start over the translated program.
  The frame of every statement of this seat: how arguments are opened. Nothing is assumed.
-/
import Derived.Test.YtkdocjcpehmljaaProg
import Derived.WalkKit
import Derived.WalkSpells
import Derived.WalkLawsBesides
import Derived.Lib.Hide
import Derived.BigQuiet
import Derived.Deep.QuietTactic
import Derived.Deep.RegionWith
import Derived.Deep.RegionHeld3
import Derived.Test.YtkdocjcpehmljaaQ02
import Derived.Lib.SmallJoins
import Derived.Lib.SliceRun
import Derived.Test.YtkdocjcpehmljaaRows
import Derived.ProofKit
import Derived.OpenShut
import Derived.PinnedBridge
import Derived.Lib.LaidIn
import Derived.Deep.Slices
import Derived.Deep.SlicePairs
import Derived.Deep.DeepHandedRow
import Derived.Deep.DeepWitnessRowRef
import Derived.SizedLaws
set_option linter.unusedVariables false
/- sim.Values, Clone and Start over the translated program. -/
namespace Go.Proofs.Ytkdocjcpehmljaa
open Go.RowKit
/-- Readings of a model's rows. -/
structure RA (w : World) (B : Nat) (AL AG AO AB AC AN : Option Addr) (L G : List Pr) (O D C : List Int) (N : List Nm) : Prop where
  l : RP w B AL L
  g : RP w B AG G
  o : RI w B AO O
  d : RI w B AB D
  c : RI w B AC C
  n : RN w B AN N
theorem RA.nx {w w' : World} {AL AG AO AB AC AN : Option Addr} {L G : List Pr} {O D C : List Int} {N : List Nm} (h : RA w w.heap.size AL AG AO AB AC AN L G O D C N) (hb : Below w.heap.size w w') : RA w' w'.heap.size AL AG AO AB AC AN L G O D C N :=
  ⟨h.l.nx hb, h.g.nx hb, h.o.nx hb, h.d.nx hb, h.c.nx hb, (h.n.below hb).mono hb.size⟩
/-- A model that may be asked about. -/
structure Md (I : Int) (L G : List Pr) (O D C : List Int) : Prop where
  i0 : 0 ≤ I
  i1 : I ≤ 1000000
  nl : L.length ≤ 1000000
  ng : G.length ≤ 1000000
  no : O.length ≤ 1000000
  nd : D.length ≤ 1000000
  nc : C.length ≤ 1000000
  lo : Lits O
  ld : Lits D
  lc : Lits C
  ll : LitsP L
  tp : topo (1 + I.toNat + L.length) G
/-- Values of all variables. -/
def valsOf (st inp : List Bool) (G : List Pr) : List Bool := vals (false :: (inp ++ st)) G
theorem valsOf_length (st inp : List Bool) (G : List Pr) : (valsOf st inp G).length = 1 + inp.length + st.length + G.length := by
  unfold valsOf; rw [vals_length]; simp; omega
set_option maxHeartbeats 2000000 in
theorem Values_no (I : Int) (AL AG AO AB AC AN : Option Addr) (cL cG cO cB cC cN : Nat) (L G : List Pr) (O D C : List Int) (N : List Nm) (AS AI : Option Addr) (cs ci : Nat) (st inp : List Bool) (w : World) (h : ¬ (st.length = L.length ∧ (inp.length : Int) = I)) :
    Calls Try.prog 13 #[.agg #[.int .i64 I, .slice AL L.length cL, .slice AG G.length cG, .slice AO O.length cO, .slice AB D.length cB, .slice AC C.length cC, .slice AN N.length cN], .slice AS st.length cs, .slice AI inp.length ci] w (RetB0 w [] 7) := by
  have hb := bal (Below.refl w.heap.size w) (.cells #[.int .i64 I, .slice AL L.length cL, .slice AG G.length cG, .slice AO O.length cO, .slice AB D.length cB, .slice AC C.length cC, .slice AN N.length cN] 27)
  by_cases h1 : st.length = L.length
  · have d1 : ((st.length : Int) != (L.length : Int)) = false := by simp [h1]
    have d2 : ((inp.length : Int) != I) = true := by simp; intro e; exact h ⟨h1, e⟩
    clear h h1
    go_enter Try.func13, Try.ntmps13
    go_wp2
    go_ret2
    exact ⟨none, 0, rfl, RB.nil _ _ _, fun _ => rfl, by simp, by simp [maxLen], hb⟩
  · have d1 : ((st.length : Int) != (L.length : Int)) = true := by simp; omega
    clear h h1
    go_enter Try.func13, Try.ntmps13
    go_wp2
    go_ret2
    exact ⟨none, 0, rfl, RB.nil _ _ _, fun _ => rfl, by simp, by simp [maxLen], hb⟩
set_option maxHeartbeats 2000000 in
theorem Values_yes (I : Int) (AL AG AO AB AC AN : Option Addr) (cL cG cO cB cC cN : Nat) (L G : List Pr) (O D C : List Int) (N : List Nm) (AS AI : Option Addr) (cs ci : Nat) (st inp : List Bool) (w : World) (hA : RA w w.heap.size AL AG AO AB AC AN L G O D C N) (hS : RB w w.heap.size AS st) (hI : RB w w.heap.size AI inp) (hM : Md I L G O D C) (h1 : st.length = L.length) (h2 : (inp.length : Int) = I) :
    Calls Try.prog 13 #[.agg #[.int .i64 I, .slice AL L.length cL, .slice AG G.length cG, .slice AO O.length cO, .slice AB D.length cB, .slice AC C.length cC, .slice AN N.length cN], .slice AS st.length cs, .slice AI inp.length ci] w (RetB0 w (valsOf st inp G) 0) := by
  have hb := bal (Below.refl w.heap.size w) (.cells #[.int .i64 I, .slice AL L.length cL, .slice AG G.length cG, .slice AO O.length cO, .slice AB D.length cB, .slice AC C.length cC, .slice AN N.length cN] 27)
  have d1 : ((st.length : Int) != (L.length : Int)) = false := by simp [h1]
  have d2 : ((inp.length : Int) != I) = false := by simp [h2]
  have m1 := hM.i1
  have m2 := hM.nl
  have ht := hM.tp
  rw [show 1 + I.toNat + L.length = 1 + inp.length + st.length by omega] at ht
  have CV := valuesOf_any I AL AG AO AB AC AN cL cG cO cB cC cN L G O D C N AS AI cs ci st inp _ (hA.g.nx hb) (hS.nx hb) (hI.nx hb) h2.symm h1.symm (by omega) (by omega) hM.ng ht
  unfold valsOf
  generalize vals (false :: (inp ++ st)) G = T at *
  clear hA hS hI hM h1 h2 ht
  go_enter Try.func13, Try.ntmps13
  go_wp2_with fail
  refine CV.mono ?_; rintro e w' ⟨A', c', rfl, q1, q2, q3, q4, q5⟩
  have hq := bnx hb q5
  have HQ := Lib.hid (And.intro q1 (And.intro q2 (And.intro q3 (And.intro q4 hq))))
  clear CV q1 q2 q3 q4 q5 hq hb
  go_wp2
  go_ret2
  exact ⟨A', c', rfl, HQ.out.1, HQ.out.2.1, HQ.out.2.2.1, HQ.out.2.2.2.1, HQ.out.2.2.2.2⟩
/-- A call that tells a row of flags of its own. -/
def RetO (w0 : World) (l : List Bool) (e : Ending) (w' : World) : Prop := ∃ v, e = .returned v ∧ OwnB w' w0.heap.size v l ∧ Below w0.heap.size w0 w'
set_option maxHeartbeats 1000000 in
theorem clone_any (A : Option Addr) (c : Nat) (l : List Bool) (w : World) (h : RB w w.heap.size A l) (hl : l.length ≤ 1000000) : Calls Try.prog 32 #[.slice A l.length c] w (RetO w l) := by
  have q28 : ∀ (w : World) (a : Option Addr) (n c n' c' : Nat), (binOp .eql 28 (.slice a n c) (.slice none n' c')).run Try.prog w = .ok (.bool a.isNone) w := fun w a n c n' c' => Lib.run_eql_slice_nil w _ _ a n c n' c' Try.underlying28
  cases A with
  | none =>
    have h0 : l = [] := by
      cases l with
      | nil => rfl
      | cons x l => obtain ⟨ad, e, _⟩ := h 0 (by simp); cases e
    subst h0
    clear h
    go_enter Try.func32, Try.ntmps32
    go_wp2
    go_ret
    exact ⟨_, rfl, OwnB.nil _ _, Below.refl _ _⟩
  | some ad =>
    have HH := h.nx (bal (Below.refl w.heap.size w) (.cells #[] 4))
    have ho : OwnB (w.alloc (.cells #[] 4)) w.heap.size (.slice (some ⟨w.heap.size, 0, none⟩) 0 0) [] := World.ownsRow_made w #[] 0 (Nat.le_refl _) (Nat.zero_le _) rfl
    have hb := bal (Below.refl w.heap.size w) (.cells #[] 4)
    clear h
    go_enter Try.func32, Try.ntmps32
    go_wp2_with (first | (at_builtin; refine wpBs (z := w) rfl (.tmp 5) (.tmp 6) rfl w.heap.size _ [] rfl ho (some ad) c l rfl HH (by simp) (Nat.le_refl _) hb (by simp; omega) (fun e => by cases e) ?_) | fail)
    intro v' w1 hown hbel
    clear ho HH
    have hfin := hb.trans hbel
    go_wp2
    go_ret
    exact ⟨v', rfl, by simpa using hown, hfin⟩
theorem OwnB.store {w : World} {base g cap n : Nat} {S : List Bool} (hn : S.length = n) (h : OwnB w base (.slice (some ⟨g, 0, none⟩) n cap) S) {j : Nat} (hj : j < n) :
    base ≤ g ∧ g < w.heap.size ∧ w.cell? ⟨g, j, none⟩ = some (.bool (S.getD j false)) ∧ w.frozen? ⟨g, j, none⟩ = false ∧ ∀ b, OwnB (w.setCell ⟨g, j, none⟩ (.bool b)) base (.slice (some ⟨g, 0, none⟩) n cap) (S.set j b) := by
  subst hn
  refine ⟨(World.ownsRow.lt h g rfl).1, (World.ownsRow.lt h g rfl).2, ?_, World.ownsRow.frozenAt h j, ?_⟩
  · rw [World.ownsRow.cellAt h j (by omega)]
    simp [List.getD_eq_getElem?_getD, hj]
  · intro b
    have := (World.ownsRow.stored h j (.bool b)).1
    unfold OwnB
    simpa [List.map_set] using this
theorem OwnB.form {w : World} {base c : Nat} {A : Option Addr} {S : List Bool} (h : OwnB w base (.slice A S.length c) S) (hn : 0 < S.length) : ∃ g, A = some ⟨g, 0, none⟩ := by
  obtain ⟨g, cap, e⟩ := Go.Joins.ownsRow_form h hn
  cases e
  exact ⟨g, rfl⟩
/-- A latch's value at first. -/
def ini (r : Int) (b : Bool) : Bool := if r = 0 then false else if r = 1 then true else b
def startL (L : List Pr) (f : List Bool) : List Bool := (L.zip f).map (fun x => ini x.1.2 x.2)
theorem startL_len (L : List Pr) (f : List Bool) (h : f.length = L.length) : (startL L f).length = f.length := by simp [startL]; omega
theorem startL_at (L : List Pr) (f : List Bool) (h : f.length = L.length) (j : Nat) (hj : j < f.length) : (startL L f).getD j false = ini (L.getD j (0, 0)).2 (f.getD j false) := by
  have h1 : j < L.length := by omega
  simp [startL, List.getD_eq_getElem?_getD, hj, h1, List.getElem?_map]
  rw [List.getElem?_eq_getElem (by simp; omega)]
  simp
/-- The first state while it is filled. -/
def rowS (R f : List Bool) (j : Nat) : List Bool := R.take j ++ f.drop j
theorem rowS_len (R f : List Bool) (h : R.length = f.length) (j : Nat) (hj : j ≤ f.length) : (rowS R f j).length = f.length := by simp [rowS]; omega
theorem rowS_full (R f : List Bool) (h : R.length = f.length) : rowS R f f.length = R := by
  unfold rowS
  rw [List.drop_length, List.append_nil, List.take_of_length_le (by omega)]
theorem rowS_next (R f : List Bool) (h : R.length = f.length) (j : Nat) (hj : j < f.length) : rowS R f (j + 1) = (rowS R f j).set j (R.getD j false) := by
  unfold rowS
  have hl : (R.take j).length = j := by rw [List.length_take]; omega
  have e : R.take (j + 1) = R.take j ++ [R.getD j false] := by rw [List.take_add_one]; simp [List.getD_eq_getElem?_getD, show j < R.length by omega]
  rw [e, dropB f j hj, List.set_append_right _ _ (by omega), hl, Nat.sub_self, List.set_cons_zero, List.append_assoc]
  rfl
theorem rowS_stay (R f : List Bool) (h : R.length = f.length) (j : Nat) (hj : j < f.length) (he : R.getD j false = f.getD j false) : rowS R f (j + 1) = rowS R f j := by
  unfold rowS
  have e : R.take (j + 1) = R.take j ++ [R.getD j false] := by rw [List.take_add_one]; simp [List.getD_eq_getElem?_getD, show j < R.length by omega]
  rw [e, dropB f j hj, List.append_assoc, he]
  rfl
set_option maxHeartbeats 2000000 in
theorem Start_no (I : Int) (AL AG AO AB AC AN : Option Addr) (cL cG cO cB cC cN : Nat) (L G : List Pr) (O D C : List Int) (N : List Nm) (AS : Option Addr) (cs : Nat) (st : List Bool) (w : World) (h : ¬ (st.length = L.length)) :
    Calls Try.prog 17 #[.agg #[.int .i64 I, .slice AL L.length cL, .slice AG G.length cG, .slice AO O.length cO, .slice AB D.length cB, .slice AC C.length cC, .slice AN N.length cN], .slice AS st.length cs] w (RetB0 w [] 7) := by
  have hb := bal (Below.refl w.heap.size w) (.cells #[.int .i64 I, .slice AL L.length cL, .slice AG G.length cG, .slice AO O.length cO, .slice AB D.length cB, .slice AC C.length cC, .slice AN N.length cN] 27)
  have d1 : ((st.length : Int) != (L.length : Int)) = true := by simp; omega
  clear h
  go_enter Try.func17, Try.ntmps17
  go_wp2
  go_ret2
  exact ⟨none, 0, rfl, RB.nil _ _ _, fun _ => rfl, by simp, by simp [maxLen], hb⟩
set_option maxRecDepth 100000 in
set_option maxHeartbeats 2000000 in
theorem Start_yes (I : Int) (AL AG AO AB AC AN : Option Addr) (cL cG cO cB cC cN : Nat) (L G : List Pr) (O D C : List Int) (N : List Nm) (AS : Option Addr) (cs : Nat) (st : List Bool) (w : World) (hL : RP w w.heap.size AL L) (hS : RB w w.heap.size AS st) (nl : L.length ≤ 1000000) (h1 : st.length = L.length) :
    Calls Try.prog 17 #[.agg #[.int .i64 I, .slice AL L.length cL, .slice AG G.length cG, .slice AO O.length cO, .slice AB D.length cB, .slice AC C.length cC, .slice AN N.length cN], .slice AS st.length cs] w (RetB0 w (startL L st) 0) := by
  have hb := bal (Below.refl w.heap.size w) (.cells #[.int .i64 I, .slice AL L.length cL, .slice AG G.length cG, .slice AO O.length cO, .slice AB D.length cB, .slice AC C.length cC, .slice AN N.length cN] 27)
  have d1 : ((st.length : Int) != (L.length : Int)) = false := by simp [h1]
  have CC := clone_any AS cs st _ (hS.nx hb) (by omega)
  have hc0 : (w.alloc (.cells #[.int .i64 I, .slice AL L.length cL, .slice AG G.length cG, .slice AO O.length cO, .slice AB D.length cB, .slice AC C.length cC, .slice AN N.length cN] 27)).cell? ⟨w.heap.size, 1, none⟩ = some (.slice AL L.length cL) := by go_simp
  obtain ⟨R, hR⟩ : ∃ R, startL L st = R := ⟨_, rfl⟩
  have hlr : R.length = st.length := by rw [← hR]; exact startL_len L st h1
  have hat : ∀ j, j < st.length → R.getD j false = ini (L.getD j (0, 0)).2 (st.getD j false) := fun j hj => by rw [← hR]; exact startL_at L st h1 j hj
  rw [hR]
  have HAT := Lib.hid hat
  have HLR := Lib.hid hlr
  have H1 := Lib.hid h1
  have HL := Lib.hid hL
  have HS := Lib.hid hS
  have HB := Lib.hid hb
  clear hat hlr h1 hL hS hR
  go_enter Try.func17, Try.ntmps17
  go_wp2_with fail
  refine CC.mono ?_; rintro e w1 ⟨v1, rfl, ho1, hb1⟩
  obtain ⟨A1, c1, rfl, _, hA1, hn1, hm1⟩ := ho1.val
  have hB1 := bnx hb hb1
  have hc1 := (hb1.cell (p := ⟨w.heap.size, 1, none⟩) (by simp)).trans hc0
  have ho1' : OwnB w1 (w.heap.size + 1) (.slice A1 st.length c1) (rowS R st 0) := by
    have : rowS R st 0 = st := by simp [rowS]
    rw [this]
    simpa using ho1
  have HO1 := Lib.hid ho1'
  have HB1 := Lib.hid hB1
  clear CC ho1 hb1 ho1' hb hc0
  go_wp2
  go_loopg [20] L.length (fun g s wr => ∃ j : Nat, j + g = L.length ∧ s = .int .i64 j ∧ OwnB wr (w.heap.size + 1) (.slice A1 st.length c1) (rowS R st j) ∧ Below w.heap.size w wr)
  case atStart => exact ⟨0, by omega, rfl, HO1.out, HB1.out⟩
  case round =>
    obtain ⟨j, hj, rfl, hrow, hbel⟩ := hrel
    have hh1 := H1.out
    cases gk with
    | zero =>
      have q1 : ¬ ((j : Int) < L.length) := by omega
      have q2 : ¬ (j < L.length) := by omega
      rw [show j = st.length by omega, rowS_full R st HLR.out] at hrow
      have HROW := Lib.hid hrow
      have HBEL := Lib.hid hbel
      clear hrow hbel hh1 hc1 HB1 HO1
      go_wp2
      go_ret2
      obtain ⟨A2, c2, e2, r2, z2, n2, m2⟩ := HROW.out.val
      simp only [Value.slice.injEq] at e2
      obtain ⟨rfl, _, rfl⟩ := e2
      exact ⟨A1, c1, by rw [HLR.out]; rfl, r2, z2, n2, m2, HBEL.out⟩
    | succ g =>
      have hjl : j < L.length := by omega
      have hjl' : (j : Int) < L.length := by omega
      have hjs' : (j : Int) < st.length := by omega
      obtain ⟨ad, rfl, hab, hp0, hp1⟩ := HL.out j hjl
      have hp0' := (hbel.cell (p := ad.add (j * 2)) (by rw [block_add]; exact hab)).trans hp0
      have hp1' := (hbel.cell (p := ⟨(ad.add (j * 2)).block, (ad.add (j * 2)).off + 1, none⟩) (by show (ad.add (j * 2)).block < _; rw [block_add]; exact hab)).trans hp1
      have hlen := rowS_len R st HLR.out j (by omega)
      have hnext := rowS_next R st HLR.out j (by omega)
      have hstay := rowS_stay R st HLR.out j (by omega)
      have hgj := HAT.out j (by omega)
      generalize L.getD j (0, 0) = p at *
      obtain ⟨x, y⟩ := p
      simp only at hp0' hp1' hgj
      have hf := hrow
      rw [← hlen] at hf
      obtain ⟨g0, rfl⟩ := hf.form (by omega)
      obtain ⟨s1, s2, s3, s4, s5⟩ := hrow.store hlen (j := j) (by omega)
      generalize (rowS R st j).getD j false = u at *
      have HN := Lib.hid hnext
      have HST := Lib.hid hstay
      have HGJ := Lib.hid hgj
      have HROW := Lib.hid hrow
      have HBEL := Lib.hid hbel
      have HS5 := Lib.hid s5
      have HS1 := Lib.hid s1
      clear hnext hstay hgj hrow hbel hp0 hp1 hf hlen s5 hh1 s1 HB1 HO1
      by_cases y0 : y = 0
      · subst y0
        go_wp2
        go_roundg g
        case measure => omega
        case rel =>
          refine ⟨j + 1, by omega, by go_num, ?_, ?_⟩
          · rw [HN.out, HGJ.out, show ini 0 (st.getD j false) = false from rfl]
            exact World.ownsRow.alloc (HS5.out false) _
          · exact (HBEL.out.setCell (by have := HS1.out; show w.heap.size ≤ g0; omega) _).alloc (by have := HBEL.out.size; simpa using this) _
      · have dy0 : decide (y = 0) = false := decide_eq_false y0
        by_cases y1 : y = 1
        · subst y1
          go_wp2
          go_roundg g
          case measure => omega
          case rel =>
            refine ⟨j + 1, by omega, by go_num, ?_, ?_⟩
            · rw [HN.out, HGJ.out, show ini 1 (st.getD j false) = true from rfl]
              exact World.ownsRow.alloc (HS5.out true) _
            · exact (HBEL.out.setCell (by have := HS1.out; show w.heap.size ≤ g0; omega) _).alloc (by have := HBEL.out.size; simpa using this) _
        · have dy1 : decide (y = 1) = false := decide_eq_false y1
          have hst := HST.out (by rw [HGJ.out]; simp [ini, y0, y1])
          have HST2 := Lib.hid hst
          clear hst
          go_wp2
          go_roundg g
          case measure => omega
          case rel =>
            refine ⟨j + 1, by omega, by go_num, ?_, ?_⟩
            · rw [HST2.out]
              exact World.ownsRow.alloc HROW.out _
            · exact HBEL.out.alloc HBEL.out.size _
end Go.Proofs.Ytkdocjcpehmljaa
/- The frame of every statement of this seat: how arguments are opened. Nothing is assumed. -/
namespace Go.Proofs.Ytkdocjcpehmljaa
open Go.RowKit
open Go.Shelf Go.ChangeShapes Go.WideShapes Go.ChangeAt Go.RowKit Go.Lib Go.Joins
theorem own : ownKnob Try.prog.godebug = none := by kernel_rfl
theorem laidOut : laidOutB Try.prog = true := by kernel_rfl
theorem cells3 : Try.prog.cellsOf 3 = 1 := by kernel_rfl
theorem cells4 : Try.prog.cellsOf 4 = 1 := by kernel_rfl
theorem cells5 : Try.prog.cellsOf 5 = 1 := by kernel_rfl
theorem cells9 : Try.prog.cellsOf 9 = 1 := by kernel_rfl
theorem cells22 : Try.prog.cellsOf 22 = 1 := by kernel_rfl
theorem cells23 : Try.prog.cellsOf 23 = 1 := by kernel_rfl
theorem cells24 : Try.prog.cellsOf 24 = 1 := by kernel_rfl
theorem cells25 : Try.prog.cellsOf 25 = 1 := by kernel_rfl
theorem cells28 : Try.prog.cellsOf 28 = 1 := by kernel_rfl
theorem cells29 : Try.prog.cellsOf 29 = 1 := by kernel_rfl
theorem cells27 : Try.prog.cellsOf 27 = 7 := by kernel_rfl
theorem cells58 : Try.prog.cellsOf 58 = 2 := by kernel_rfl
theorem cells63 : Try.prog.cellsOf 63 = 2 := by kernel_rfl
theorem cells84 : Try.prog.cellsOf 84 = 3 := by kernel_rfl
theorem block_lt {w : World} {a : Addr} {v : Value} (h : w.cell? a = some v) : a.block < w.heap.size := by
  rcases Nat.lt_or_ge a.block w.heap.size with h' | h'
  · exact h'
  · simp [World.cell?, Array.getElem?_eq_none h'] at h
/-- A slice of numbers that came in. -/
theorem opened24 {H : Type} {enc : TypeId × Value → H} {W : World} {fuel : Nat} {v : Value} {y : DataW H × List MemPlace} (h : DataW.trod enc Try.prog W 0 (fun _ => true) true fuel 24 [v] = some y) :
    ∃ (A : Option Addr) (c : Nat) (l : List Int), v = .slice A l.length c ∧ RI W W.heap.size A l ∧ l.length ≤ c ∧ c ≤ maxLen ∧ (A = none → c = 0) := by
  rcases open_ints Try.underlying24 Try.underlying3 cells3 h with ⟨hcs, _⟩ | ⟨a, len, cap, zs, hcs, _, hl, hm, hz, _, hcell, hwz⟩
  · simp at hcs
    subst hcs
    exact ⟨none, 0, [], rfl, RI.nil _ _ _, by simp, by unfold maxLen; omega, fun _ => rfl⟩
  · simp at hcs hz
    subst hcs
    have hlen : (zs.take len).length = len := by simp; omega
    refine ⟨some a, cap, zs.take len, by rw [hlen], fun i hi => ?_, by rw [hlen]; exact hl, hm, fun e => by cases e⟩
    rw [hlen] at hi
    have hc := hcell i (by omega)
    refine ⟨a, rfl, by have := block_lt hc; rwa [block_add] at this, ?_⟩
    rw [hc]
    have e2 : (zs.take len).getD i 0 = zs.getD i 0 := by
      simp only [List.getD_eq_getElem?_getD, List.getElem?_take]; rw [if_pos hi]
    rw [e2]
/-- A slice of flags that came in. -/
theorem opened28 {H : Type} {enc : TypeId × Value → H} {W : World} {fuel : Nat} {v : Value} {y : DataW H × List MemPlace} (h : DataW.trod enc Try.prog W 0 (fun _ => true) true fuel 28 [v] = some y) :
    ∃ (A : Option Addr) (c : Nat) (l : List Bool), v = .slice A l.length c ∧ RB W W.heap.size A l ∧ l.length ≤ c ∧ c ≤ maxLen ∧ (A = none → c = 0) := by
  rcases Go.Deep.open_slice1 Try.underlying28 cells4 h with ⟨hcs, _⟩ | ⟨a, len, cap, m, n, V, D, Pl, hcs, _, hl, hm, hmm, _, hx⟩
  · simp at hcs
    subst hcs
    exact ⟨none, 0, [], rfl, fun i hi => absurd hi (by simp), by simp, by unfold maxLen; omega, fun _ => rfl⟩
  · simp at hcs
    subst hcs
    have hle : len ≤ m := by rw [hmm]; split <;> omega
    have hV : ∀ i, i < len → ∃ b, V i = .bool b := by
      intro i hi
      obtain ⟨_, h2⟩ := hx i (by omega)
      obtain ⟨b, hb, _⟩ := DataW.trod_bool Try.underlying4 h2
      exact ⟨b, by simpa using hb⟩
    have hlen : ((List.range len).map fun i => match V i with | .bool b => b | _ => false).length = len := by simp
    refine ⟨some a, cap, (List.range len).map fun i => match V i with | .bool b => b | _ => false, by rw [hlen], fun i hi => ?_, by rw [hlen]; exact hl, hm, fun e => by cases e⟩
    rw [hlen] at hi
    obtain ⟨hc, _⟩ := hx i (by omega)
    obtain ⟨b, hb⟩ := hV i hi
    refine ⟨a, rfl, by have := block_lt hc; rwa [block_add] at this, ?_⟩
    rw [hc, hb]
    simp [List.getD_eq_getElem?_getD, hi, hb]
/-- A slice of rows of flags that came in. -/
theorem opened29 {H : Type} {enc : TypeId × Value → H} {W : World} {fuel : Nat} {v : Value} {y : DataW H × List MemPlace} (h : DataW.trod enc Try.prog W 0 (fun _ => true) true fuel 29 [v] = some y) :
    ∃ (A : Option Addr) (c : Nat) (L : List (List Bool)), v = .slice A L.length c ∧ RR W W.heap.size A L ∧ L.length ≤ c ∧ c ≤ maxLen ∧ (A = none → c = 0) := by
  rcases Go.Deep.open_slice1 Try.underlying29 cells28 h with ⟨hcs, _⟩ | ⟨a, len, cap, m, n, V, D, Pl, hcs, _, hl, hm, hmm, _, hx⟩
  · simp at hcs
    subst hcs
    exact ⟨none, 0, [], rfl, fun i hi => absurd hi (by simp), by simp, by unfold maxLen; omega, fun _ => rfl⟩
  · simp at hcs
    subst hcs
    have hle : len ≤ m := by rw [hmm]; split <;> omega
    have hV : ∀ i, i < len → ∃ (A : Option Addr) (c : Nat) (l : List Bool), V i = .slice A l.length c ∧ RB W W.heap.size A l ∧ l.length ≤ c ∧ c ≤ maxLen ∧ (A = none → c = 0) := by
      intro i hi
      obtain ⟨_, h2⟩ := hx i (by omega)
      obtain ⟨A, c, l, h3, h4, h5, h6, h7⟩ := opened28 h2
      exact ⟨A, c, l, h3, h4, h5, h6, h7⟩
    obtain ⟨F, hF⟩ : ∃ F : Nat → List Bool, ∀ i, i < len → ∃ (A : Option Addr) (c : Nat), V i = .slice A (F i).length c ∧ RB W W.heap.size A (F i) ∧ (F i).length ≤ c ∧ c ≤ maxLen ∧ (A = none → c = 0) := by
      refine ⟨fun i => if h : i < len then Classical.choose (Classical.choose_spec (Classical.choose_spec (hV i h))) else [], fun i hi => ?_⟩
      simp only [dif_pos hi]
      exact ⟨_, _, Classical.choose_spec (Classical.choose_spec (Classical.choose_spec (hV i hi)))⟩
    have hlen : ((List.range len).map F).length = len := by simp
    refine ⟨some a, cap, (List.range len).map F, by rw [hlen], fun i hi => ?_, by rw [hlen]; exact hl, hm, fun e => by cases e⟩
    rw [hlen] at hi
    obtain ⟨hc, _⟩ := hx i (by omega)
    obtain ⟨A', c', h1, h2, h3⟩ := hF i hi
    have e : ((List.range len).map F).getD i [] = F i := by simp [List.getD_eq_getElem?_getD, hi]
    rw [e]
    exact ⟨a, A', c', rfl, by have := block_lt hc; rwa [block_add] at this, by rw [hc, h1], h2, h3⟩
theorem add_one (a : Addr) (i : Nat) : a.add (i * 2 + 1) = ⟨(a.add (i * 2)).block, (a.add (i * 2)).off + 1, none⟩ := by
  by_cases hi : i = 0
  · subst hi; simp [Addr.add]
  · have h1 : i * 2 ≠ 0 := by omega
    unfold Addr.add
    rw [if_neg h1, if_neg (by omega)]
    simp; omega
theorem add_k (a : Addr) (i k : Nat) (hk : 0 < k) : a.add (i * 3 + k) = ⟨(a.add (i * 3)).block, (a.add (i * 3)).off + k, none⟩ := by
  by_cases hi : i = 0
  · subst hi; unfold Addr.add; rw [if_neg (by omega)]; simp
  · unfold Addr.add
    rw [if_neg (by omega), if_neg (by omega)]
    simp; omega
set_option maxRecDepth 100000 in
theorem opened22 {H : Type} {enc : TypeId × Value → H} {W : World} {fuel : Nat} {v : Value} {y : DataW H × List MemPlace} (h : DataW.trod enc Try.prog W 0 (fun _ => true) true fuel 22 [v] = some y) :
    ∃ (A : Option Addr) (c : Nat) (P : List Pr), v = .slice A P.length c ∧ RP W W.heap.size A P ∧ P.length ≤ c ∧ c ≤ maxLen ∧ (A = none → c = 0) := by
  rcases Go.Deep.open_slice_pairs Try.underlying22 Try.underlying63 cells63 (by kernel_rfl) (by kernel_rfl) (by kernel_rfl) (by kernel_rfl) h with ⟨hcs, _⟩ | ⟨a, len, cap, m, n, V0, V1, D0, D1, P0, P1, hcs, _, hl, hm, hmm, _, hx⟩
  · simp at hcs
    subst hcs
    exact ⟨none, 0, [], rfl, fun i hi => absurd hi (by simp), by simp, by unfold maxLen; omega, fun _ => rfl⟩
  · simp at hcs
    subst hcs
    have hle : len ≤ m := by rw [hmm]; split <;> omega
    have hV : ∀ i, i < len → ∃ s : Pr, V0 i = .int .i64 s.1 ∧ V1 i = .int .i64 s.2 := by
      intro i hi
      obtain ⟨_, _, h2, h3⟩ := hx i (by omega)
      obtain ⟨x, e1, _, _⟩ := DataW.trod_int Try.underlying3 h2
      obtain ⟨z, e2, _, _⟩ := DataW.trod_int Try.underlying3 h3
      exact ⟨(x, z), by simpa using e1, by simpa using e2⟩
    obtain ⟨F, hF⟩ : ∃ F : Nat → Pr, ∀ i, i < len → V0 i = .int .i64 (F i).1 ∧ V1 i = .int .i64 (F i).2 := by
      refine ⟨fun i => if h : i < len then Classical.choose (hV i h) else (0, 0), fun i hi => ?_⟩
      simp only [dif_pos hi]
      exact Classical.choose_spec (hV i hi)
    have hlen : ((List.range len).map F).length = len := by simp
    refine ⟨some a, cap, (List.range len).map F, by rw [hlen], fun i hi => ?_, by rw [hlen]; exact hl, hm, fun e => by cases e⟩
    rw [hlen] at hi
    obtain ⟨hc, hc1, _⟩ := hx i (by omega)
    obtain ⟨h0, h1⟩ := hF i hi
    have e : ((List.range len).map F).getD i (0, 0) = F i := by simp [List.getD_eq_getElem?_getD, hi]
    rw [e]
    exact ⟨a, rfl, by have := block_lt hc; rwa [block_add] at this, by rw [hc, h0], by rw [← add_one, hc1, h1]⟩
set_option maxRecDepth 100000 in
theorem opened23 {H : Type} {enc : TypeId × Value → H} {W : World} {fuel : Nat} {v : Value} {y : DataW H × List MemPlace} (h : DataW.trod enc Try.prog W 0 (fun _ => true) true fuel 23 [v] = some y) :
    ∃ (A : Option Addr) (c : Nat) (P : List Pr), v = .slice A P.length c ∧ RP W W.heap.size A P ∧ P.length ≤ c ∧ c ≤ maxLen ∧ (A = none → c = 0) := by
  rcases Go.Deep.open_slice_pairs Try.underlying23 Try.underlying58 cells58 (by kernel_rfl) (by kernel_rfl) (by kernel_rfl) (by kernel_rfl) h with ⟨hcs, _⟩ | ⟨a, len, cap, m, n, V0, V1, D0, D1, P0, P1, hcs, _, hl, hm, hmm, _, hx⟩
  · simp at hcs
    subst hcs
    exact ⟨none, 0, [], rfl, fun i hi => absurd hi (by simp), by simp, by unfold maxLen; omega, fun _ => rfl⟩
  · simp at hcs
    subst hcs
    have hle : len ≤ m := by rw [hmm]; split <;> omega
    have hV : ∀ i, i < len → ∃ s : Pr, V0 i = .int .i64 s.1 ∧ V1 i = .int .i64 s.2 := by
      intro i hi
      obtain ⟨_, _, h2, h3⟩ := hx i (by omega)
      obtain ⟨x, e1, _, _⟩ := DataW.trod_int Try.underlying3 h2
      obtain ⟨z, e2, _, _⟩ := DataW.trod_int Try.underlying3 h3
      exact ⟨(x, z), by simpa using e1, by simpa using e2⟩
    obtain ⟨F, hF⟩ : ∃ F : Nat → Pr, ∀ i, i < len → V0 i = .int .i64 (F i).1 ∧ V1 i = .int .i64 (F i).2 := by
      refine ⟨fun i => if h : i < len then Classical.choose (hV i h) else (0, 0), fun i hi => ?_⟩
      simp only [dif_pos hi]
      exact Classical.choose_spec (hV i hi)
    have hlen : ((List.range len).map F).length = len := by simp
    refine ⟨some a, cap, (List.range len).map F, by rw [hlen], fun i hi => ?_, by rw [hlen]; exact hl, hm, fun e => by cases e⟩
    rw [hlen] at hi
    obtain ⟨hc, hc1, _⟩ := hx i (by omega)
    obtain ⟨h0, h1⟩ := hF i hi
    have e : ((List.range len).map F).getD i (0, 0) = F i := by simp [List.getD_eq_getElem?_getD, hi]
    rw [e]
    exact ⟨a, rfl, by have := block_lt hc; rwa [block_add] at this, by rw [hc, h0], by rw [← add_one, hc1, h1]⟩
set_option maxRecDepth 100000 in
theorem opened25 {H : Type} {enc : TypeId × Value → H} {W : World} {fuel : Nat} {v : Value} {y : DataW H × List MemPlace} (h : DataW.trod enc Try.prog W 0 (fun _ => true) true fuel 25 [v] = some y) :
    ∃ (A : Option Addr) (c : Nat) (P : List Nm), v = .slice A P.length c ∧ RN W W.heap.size A P ∧ P.length ≤ c ∧ c ≤ maxLen := by
  rcases Go.Deep.open_slice Try.underlying25 h with ⟨hcs, _⟩ | ⟨a, len, cap, m, n, D, Pl, hcs, _, hl, hm, hmm, _, hx⟩
  · simp at hcs
    subst hcs
    exact ⟨none, 0, [], rfl, fun i hi => absurd hi (by simp), by simp, by unfold maxLen; omega⟩
  · simp at hcs
    subst hcs
    have hle : len ≤ m := by rw [hmm]; split <;> omega
    have hV : ∀ i, i < len → ∃ s : Nm, W.cell? (a.add (i * 3)) = some (.int .u8 (s.k.toNat : Int)) ∧ W.cell? (a.add (i * 3 + 1)) = some (.int .i64 s.at_) ∧ W.cell? (a.add (i * 3 + 2)) = some (.string s.s) ∧ s.s.size ≤ maxLen := by
      intro i hi
      obtain ⟨cs', h1, h2⟩ := hx i (by omega)
      rw [cells84] at h1
      obtain ⟨_, hlen, hcell⟩ := World.cells?_some h1
      match cs', hlen with
      | [v0, v1, v2], _ =>
        obtain ⟨y0, y1, y2, n', hxx, _, g0, g1, g2⟩ := Go.Deep.trod_struct3 Try.underlying84 h2
        simp only [cells5, cells3, cells9] at g0 g1 g2
        have g0' : DataW.trod enc Try.prog W 0 (fun _ => true) true n' 5 [v0] = some y0 := g0
        have g1' : DataW.trod enc Try.prog W 0 (fun _ => true) true n' 3 [v1] = some y1 := g1
        have g2' : DataW.trod enc Try.prog W 0 (fun _ => true) true n' 9 [v2] = some y2 := g2
        obtain ⟨q, e0, _, wq⟩ := DataW.trod_int Try.underlying5 g0'
        obtain ⟨x, e1, _, _⟩ := DataW.trod_int Try.underlying3 g1'
        obtain ⟨s, e2, _, ws⟩ := DataW.trod_string Try.underlying9 g2'
        simp at e0 e1 e2
        subst e0; subst e1; subst e2
        have hb := bounds_u8 wq
        have c0 := hcell 0 (by omega)
        have c1 := hcell 1 (by omega)
        have c2 := hcell 2 (by omega)
        rw [add_add_] at c0 c1 c2
        refine ⟨⟨UInt8.ofNat q.toNat, x, s⟩, ?_, ?_, ?_, ws⟩
        · have e3 : ((UInt8.ofNat q.toNat).toNat : Int) = q := by rw [UInt8.toNat_ofNat']; omega
          rw [e3]; simpa using c0
        · simpa using c1
        · simpa using c2
    obtain ⟨F, hF⟩ : ∃ F : Nat → Nm, ∀ i, i < len → W.cell? (a.add (i * 3)) = some (.int .u8 ((F i).k.toNat : Int)) ∧ W.cell? (a.add (i * 3 + 1)) = some (.int .i64 (F i).at_) ∧ W.cell? (a.add (i * 3 + 2)) = some (.string (F i).s) ∧ (F i).s.size ≤ maxLen := by
      refine ⟨fun i => if h : i < len then Classical.choose (hV i h) else nm0, fun i hi => ?_⟩
      simp only [dif_pos hi]
      exact Classical.choose_spec (hV i hi)
    have hlen : ((List.range len).map F).length = len := by simp
    refine ⟨some a, cap, (List.range len).map F, by rw [hlen], fun i hi => ?_, by rw [hlen]; exact hl, hm⟩
    rw [hlen] at hi
    obtain ⟨h0, h1, h2, h3⟩ := hF i hi
    have e : ((List.range len).map F).getD i nm0 = F i := by simp [List.getD_eq_getElem?_getD, hi]
    rw [e]
    exact ⟨a, rfl, by have := block_lt h0; rwa [block_add] at this, h0, by rw [← add_k _ _ _ (by omega), h1], by rw [← add_k _ _ _ (by omega), h2], h3⟩
/-- A model that came in: seven cells. -/
theorem opened_aig {H : Type} {enc : TypeId × Value → H} {W : World} {fuel : Nat} {v0 v1 v2 v3 v4 v5 v6 : Value} {y : DataW H × List MemPlace} (h : DataW.trod enc Try.prog W 0 (fun _ => true) true fuel 27 [v0, v1, v2, v3, v4, v5, v6] = some y) :
    ∃ (I : Int) (AL AG AO AB AC AN : Option Addr) (cL cG cO cB cC cN : Nat) (L G : List Pr) (O D C : List Int) (N : List Nm), #[v0, v1, v2, v3, v4, v5, v6] = #[.int .i64 I, .slice AL L.length cL, .slice AG G.length cG, .slice AO O.length cO, .slice AB D.length cB, .slice AC C.length cC, .slice AN N.length cN] ∧ RA W W.heap.size AL AG AO AB AC AN L G O D C N ∧ (L.length ≤ cL ∧ G.length ≤ cG ∧ O.length ≤ cO ∧ D.length ≤ cB ∧ C.length ≤ cC ∧ N.length ≤ cN) ∧ (cL ≤ maxLen ∧ cG ≤ maxLen ∧ cO ≤ maxLen ∧ cB ≤ maxLen ∧ cC ≤ maxLen ∧ cN ≤ maxLen) ∧ (AG = none → cG = 0) ∧ (AO = none → cO = 0) ∧ (AB = none → cB = 0) ∧ (AC = none → cC = 0) := by
  obtain ⟨xs, k, hk, hxy, _, hxl, hf⟩ := DataW.trod_struct Try.underlying27 h
  match xs, hxl with
  | [y0, y1, y2, y3, y4, y5, y6], _ =>
    have g0 := hf 0 _ rfl
    have g1 := hf 1 _ rfl
    have g2 := hf 2 _ rfl
    have g3 := hf 3 _ rfl
    have g4 := hf 4 _ rfl
    have g5 := hf 5 _ rfl
    have g6 := hf 6 _ rfl
    simp [cells3, cells22, cells23, cells24, cells25] at g0 g1 g2 g3 g4 g5 g6
    obtain ⟨i, e0, _, _⟩ := DataW.trod_int Try.underlying3 g0
    obtain ⟨AL, cL, L, rfl, r1, n1, m1, _⟩ := opened22 g1
    obtain ⟨AG, cG, G, rfl, r2, n2, m2, z2⟩ := opened23 g2
    obtain ⟨AO, cO, O, rfl, r3, n3, m3, z3⟩ := opened24 g3
    obtain ⟨AB, cB, D, rfl, r4, n4, m4, z4⟩ := opened24 g4
    obtain ⟨AC, cC, C, rfl, r5, n5, m5, z5⟩ := opened24 g5
    obtain ⟨AN, cN, N, rfl, r6, n6, m6⟩ := opened25 g6
    simp at e0
    subst e0
    exact ⟨i, AL, AG, AO, AB, AC, AN, cL, cG, cO, cB, cC, cN, L, G, O, D, C, N, rfl, ⟨r1, r2, r3, r4, r5, r6⟩, ⟨n1, n2, n3, n4, n5, n6⟩, ⟨m1, m2, m3, m4, m5, m6⟩, z2, z3, z4, z5⟩
/-- A first world, for the witness. -/
noncomputable def firstWorld (os : Os) : World := World.holding Try.prog os ⟨#[], #[], []⟩
theorem none_met (w : World) : laidMet Try.prog [] w := ⟨[], by first | exact ⟨rfl⟩ | exact rfl | exact trivial | constructor, List.nodup_nil, fun b off h => by cases h⟩
theorem opened_arr {H : Type} {enc : TypeId × Value → H} {W : World} {fuel : Nat} {cs : Array Value} {y : DataW H × List MemPlace} (hsz : cs.size = Try.prog.cellsOf 27) (h : DataW.trod enc Try.prog W 0 (fun _ => true) true fuel 27 (Value.agg cs).cells.toList = some y) :
    ∃ (I : Int) (AL AG AO AB AC AN : Option Addr) (cL cG cO cB cC cN : Nat) (L G : List Pr) (O D C : List Int) (N : List Nm), cs = #[.int .i64 I, .slice AL L.length cL, .slice AG G.length cG, .slice AO O.length cO, .slice AB D.length cB, .slice AC C.length cC, .slice AN N.length cN] ∧ RA W W.heap.size AL AG AO AB AC AN L G O D C N ∧ (L.length ≤ cL ∧ G.length ≤ cG ∧ O.length ≤ cO ∧ D.length ≤ cB ∧ C.length ≤ cC ∧ N.length ≤ cN) ∧ (cL ≤ maxLen ∧ cG ≤ maxLen ∧ cO ≤ maxLen ∧ cB ≤ maxLen ∧ cC ≤ maxLen ∧ cN ≤ maxLen) ∧ (AG = none → cG = 0) ∧ (AO = none → cO = 0) ∧ (AB = none → cB = 0) ∧ (AC = none → cC = 0) := by
  obtain ⟨l⟩ := cs
  match l, hsz.trans cells27 with
  | [v0, v1, v2, v3, v4, v5, v6], _ => exact opened_aig h
end Go.Proofs.Ytkdocjcpehmljaa
