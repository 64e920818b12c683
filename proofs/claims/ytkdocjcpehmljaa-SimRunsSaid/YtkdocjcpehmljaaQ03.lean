/-
  sim.Values, Clone and Start over the translated program.
  Flags, rows and few rows.
-/
import Derived.Test.YtkdocjcpehmljaaProg
import Derived.WalkKit
import Derived.WalkSpells
import Derived.WalkLawsBesides
import Derived.Lib.Hide
import Derived.BigQuiet
import Derived.Deep.QuietTactic
import Derived.Deep.RegionWith
import Derived.Deep.RegionHeld3
import Derived.Test.YtkdocjcpehmljaaQ02
import Derived.Lib.SmallJoins
import Derived.Lib.SliceRun
import Derived.Test.YtkdocjcpehmljaaQ01
import Derived.Deep.LoopGhost
import Derived.WalkMore
set_option linter.unusedVariables false
/- sim.Values, Clone and Start over the translated program. -/
namespace Go.Proofs.Ytkdocjcpehmljaa
open Go.RowKit
/-- Readings of a model's rows. -/
structure RA (w : World) (B : Nat) (AL AG AO AB AC AN : Option Addr) (L G : List Pr) (O D C : List Int) (N : List Nm) : Prop where
  l : RP w B AL L
  g : RP w B AG G
  o : RI w B AO O
  d : RI w B AB D
  c : RI w B AC C
  n : RN w B AN N
theorem RA.nx {w w' : World} {AL AG AO AB AC AN : Option Addr} {L G : List Pr} {O D C : List Int} {N : List Nm} (h : RA w w.heap.size AL AG AO AB AC AN L G O D C N) (hb : Below w.heap.size w w') : RA w' w'.heap.size AL AG AO AB AC AN L G O D C N :=
  ⟨h.l.nx hb, h.g.nx hb, h.o.nx hb, h.d.nx hb, h.c.nx hb, (h.n.below hb).mono hb.size⟩
/-- A model that may be asked about. -/
structure Md (I : Int) (L G : List Pr) (O D C : List Int) : Prop where
  i0 : 0 ≤ I
  i1 : I ≤ 1000000
  nl : L.length ≤ 1000000
  ng : G.length ≤ 1000000
  no : O.length ≤ 1000000
  nd : D.length ≤ 1000000
  nc : C.length ≤ 1000000
  lo : Lits O
  ld : Lits D
  lc : Lits C
  ll : LitsP L
  tp : topo (1 + I.toNat + L.length) G
/-- Values of all variables. -/
def valsOf (st inp : List Bool) (G : List Pr) : List Bool := vals (false :: (inp ++ st)) G
theorem valsOf_length (st inp : List Bool) (G : List Pr) : (valsOf st inp G).length = 1 + inp.length + st.length + G.length := by
  unfold valsOf; rw [vals_length]; simp; omega
set_option maxHeartbeats 2000000 in
theorem Values_no (I : Int) (AL AG AO AB AC AN : Option Addr) (cL cG cO cB cC cN : Nat) (L G : List Pr) (O D C : List Int) (N : List Nm) (AS AI : Option Addr) (cs ci : Nat) (st inp : List Bool) (w : World) (h : ¬ (st.length = L.length ∧ (inp.length : Int) = I)) :
    Calls Try.prog 13 #[.agg #[.int .i64 I, .slice AL L.length cL, .slice AG G.length cG, .slice AO O.length cO, .slice AB D.length cB, .slice AC C.length cC, .slice AN N.length cN], .slice AS st.length cs, .slice AI inp.length ci] w (RetB0 w [] 7) := by
  have hb := bal (Below.refl w.heap.size w) (.cells #[.int .i64 I, .slice AL L.length cL, .slice AG G.length cG, .slice AO O.length cO, .slice AB D.length cB, .slice AC C.length cC, .slice AN N.length cN] 27)
  by_cases h1 : st.length = L.length
  · have d1 : ((st.length : Int) != (L.length : Int)) = false := by simp [h1]
    have d2 : ((inp.length : Int) != I) = true := by simp; intro e; exact h ⟨h1, e⟩
    clear h h1
    go_enter Try.func13, Try.ntmps13
    go_wp2
    go_ret2
    exact ⟨none, 0, rfl, RB.nil _ _ _, fun _ => rfl, by simp, by simp [maxLen], hb⟩
  · have d1 : ((st.length : Int) != (L.length : Int)) = true := by simp; omega
    clear h h1
    go_enter Try.func13, Try.ntmps13
    go_wp2
    go_ret2
    exact ⟨none, 0, rfl, RB.nil _ _ _, fun _ => rfl, by simp, by simp [maxLen], hb⟩
set_option maxHeartbeats 2000000 in
theorem Values_yes (I : Int) (AL AG AO AB AC AN : Option Addr) (cL cG cO cB cC cN : Nat) (L G : List Pr) (O D C : List Int) (N : List Nm) (AS AI : Option Addr) (cs ci : Nat) (st inp : List Bool) (w : World) (hA : RA w w.heap.size AL AG AO AB AC AN L G O D C N) (hS : RB w w.heap.size AS st) (hI : RB w w.heap.size AI inp) (hM : Md I L G O D C) (h1 : st.length = L.length) (h2 : (inp.length : Int) = I) :
    Calls Try.prog 13 #[.agg #[.int .i64 I, .slice AL L.length cL, .slice AG G.length cG, .slice AO O.length cO, .slice AB D.length cB, .slice AC C.length cC, .slice AN N.length cN], .slice AS st.length cs, .slice AI inp.length ci] w (RetB0 w (valsOf st inp G) 0) := by
  have hb := bal (Below.refl w.heap.size w) (.cells #[.int .i64 I, .slice AL L.length cL, .slice AG G.length cG, .slice AO O.length cO, .slice AB D.length cB, .slice AC C.length cC, .slice AN N.length cN] 27)
  have d1 : ((st.length : Int) != (L.length : Int)) = false := by simp [h1]
  have d2 : ((inp.length : Int) != I) = false := by simp [h2]
  have m1 := hM.i1
  have m2 := hM.nl
  have ht := hM.tp
  rw [show 1 + I.toNat + L.length = 1 + inp.length + st.length by omega] at ht
  have CV := valuesOf_any I AL AG AO AB AC AN cL cG cO cB cC cN L G O D C N AS AI cs ci st inp _ (hA.g.nx hb) (hS.nx hb) (hI.nx hb) h2.symm h1.symm (by omega) (by omega) hM.ng ht
  unfold valsOf
  generalize vals (false :: (inp ++ st)) G = T at *
  clear hA hS hI hM h1 h2 ht
  go_enter Try.func13, Try.ntmps13
  go_wp2_with fail
  refine CV.mono ?_; rintro e w' ⟨A', c', rfl, q1, q2, q3, q4, q5⟩
  have hq := bnx hb q5
  have HQ := Lib.hid (And.intro q1 (And.intro q2 (And.intro q3 (And.intro q4 hq))))
  clear CV q1 q2 q3 q4 q5 hq hb
  go_wp2
  go_ret2
  exact ⟨A', c', rfl, HQ.out.1, HQ.out.2.1, HQ.out.2.2.1, HQ.out.2.2.2.1, HQ.out.2.2.2.2⟩
/-- A call that tells a row of flags of its own. -/
def RetO (w0 : World) (l : List Bool) (e : Ending) (w' : World) : Prop := ∃ v, e = .returned v ∧ OwnB w' w0.heap.size v l ∧ Below w0.heap.size w0 w'
set_option maxHeartbeats 1000000 in
theorem clone_any (A : Option Addr) (c : Nat) (l : List Bool) (w : World) (h : RB w w.heap.size A l) (hl : l.length ≤ 1000000) : Calls Try.prog 32 #[.slice A l.length c] w (RetO w l) := by
  have q28 : ∀ (w : World) (a : Option Addr) (n c n' c' : Nat), (binOp .eql 28 (.slice a n c) (.slice none n' c')).run Try.prog w = .ok (.bool a.isNone) w := fun w a n c n' c' => Lib.run_eql_slice_nil w _ _ a n c n' c' Try.underlying28
  cases A with
  | none =>
    have h0 : l = [] := by
      cases l with
      | nil => rfl
      | cons x l => obtain ⟨ad, e, _⟩ := h 0 (by simp); cases e
    subst h0
    clear h
    go_enter Try.func32, Try.ntmps32
    go_wp2
    go_ret
    exact ⟨_, rfl, OwnB.nil _ _, Below.refl _ _⟩
  | some ad =>
    have HH := h.nx (bal (Below.refl w.heap.size w) (.cells #[] 4))
    have ho : OwnB (w.alloc (.cells #[] 4)) w.heap.size (.slice (some ⟨w.heap.size, 0, none⟩) 0 0) [] := World.ownsRow_made w #[] 0 (Nat.le_refl _) (Nat.zero_le _) rfl
    have hb := bal (Below.refl w.heap.size w) (.cells #[] 4)
    clear h
    go_enter Try.func32, Try.ntmps32
    go_wp2_with (first | (at_builtin; refine wpBs (z := w) rfl (.tmp 5) (.tmp 6) rfl w.heap.size _ [] rfl ho (some ad) c l rfl HH (by simp) (Nat.le_refl _) hb (by simp; omega) (fun e => by cases e) ?_) | fail)
    intro v' w1 hown hbel
    clear ho HH
    have hfin := hb.trans hbel
    go_wp2
    go_ret
    exact ⟨v', rfl, by simpa using hown, hfin⟩
theorem OwnB.store {w : World} {base g cap n : Nat} {S : List Bool} (hn : S.length = n) (h : OwnB w base (.slice (some ⟨g, 0, none⟩) n cap) S) {j : Nat} (hj : j < n) :
    base ≤ g ∧ g < w.heap.size ∧ w.cell? ⟨g, j, none⟩ = some (.bool (S.getD j false)) ∧ w.frozen? ⟨g, j, none⟩ = false ∧ ∀ b, OwnB (w.setCell ⟨g, j, none⟩ (.bool b)) base (.slice (some ⟨g, 0, none⟩) n cap) (S.set j b) := by
  subst hn
  refine ⟨(World.ownsRow.lt h g rfl).1, (World.ownsRow.lt h g rfl).2, ?_, World.ownsRow.frozenAt h j, ?_⟩
  · rw [World.ownsRow.cellAt h j (by omega)]
    simp [List.getD_eq_getElem?_getD, hj]
  · intro b
    have := (World.ownsRow.stored h j (.bool b)).1
    unfold OwnB
    simpa [List.map_set] using this
theorem OwnB.form {w : World} {base c : Nat} {A : Option Addr} {S : List Bool} (h : OwnB w base (.slice A S.length c) S) (hn : 0 < S.length) : ∃ g, A = some ⟨g, 0, none⟩ := by
  obtain ⟨g, cap, e⟩ := Go.Joins.ownsRow_form h hn
  cases e
  exact ⟨g, rfl⟩
/-- A latch's value at first. -/
def ini (r : Int) (b : Bool) : Bool := if r = 0 then false else if r = 1 then true else b
def startL (L : List Pr) (f : List Bool) : List Bool := (L.zip f).map (fun x => ini x.1.2 x.2)
theorem startL_len (L : List Pr) (f : List Bool) (h : f.length = L.length) : (startL L f).length = f.length := by simp [startL]; omega
theorem startL_at (L : List Pr) (f : List Bool) (h : f.length = L.length) (j : Nat) (hj : j < f.length) : (startL L f).getD j false = ini (L.getD j (0, 0)).2 (f.getD j false) := by
  have h1 : j < L.length := by omega
  simp [startL, List.getD_eq_getElem?_getD, hj, h1, List.getElem?_map]
  rw [List.getElem?_eq_getElem (by simp; omega)]
  simp
/-- The first state while it is filled. -/
def rowS (R f : List Bool) (j : Nat) : List Bool := R.take j ++ f.drop j
theorem rowS_len (R f : List Bool) (h : R.length = f.length) (j : Nat) (hj : j ≤ f.length) : (rowS R f j).length = f.length := by simp [rowS]; omega
theorem rowS_full (R f : List Bool) (h : R.length = f.length) : rowS R f f.length = R := by
  unfold rowS
  rw [List.drop_length, List.append_nil, List.take_of_length_le (by omega)]
theorem rowS_next (R f : List Bool) (h : R.length = f.length) (j : Nat) (hj : j < f.length) : rowS R f (j + 1) = (rowS R f j).set j (R.getD j false) := by
  unfold rowS
  have hl : (R.take j).length = j := by rw [List.length_take]; omega
  have e : R.take (j + 1) = R.take j ++ [R.getD j false] := by rw [List.take_add_one]; simp [List.getD_eq_getElem?_getD, show j < R.length by omega]
  rw [e, dropB f j hj, List.set_append_right _ _ (by omega), hl, Nat.sub_self, List.set_cons_zero, List.append_assoc]
  rfl
theorem rowS_stay (R f : List Bool) (h : R.length = f.length) (j : Nat) (hj : j < f.length) (he : R.getD j false = f.getD j false) : rowS R f (j + 1) = rowS R f j := by
  unfold rowS
  have e : R.take (j + 1) = R.take j ++ [R.getD j false] := by rw [List.take_add_one]; simp [List.getD_eq_getElem?_getD, show j < R.length by omega]
  rw [e, dropB f j hj, List.append_assoc, he]
  rfl
set_option maxHeartbeats 2000000 in
theorem Start_no (I : Int) (AL AG AO AB AC AN : Option Addr) (cL cG cO cB cC cN : Nat) (L G : List Pr) (O D C : List Int) (N : List Nm) (AS : Option Addr) (cs : Nat) (st : List Bool) (w : World) (h : ¬ (st.length = L.length)) :
    Calls Try.prog 17 #[.agg #[.int .i64 I, .slice AL L.length cL, .slice AG G.length cG, .slice AO O.length cO, .slice AB D.length cB, .slice AC C.length cC, .slice AN N.length cN], .slice AS st.length cs] w (RetB0 w [] 7) := by
  have hb := bal (Below.refl w.heap.size w) (.cells #[.int .i64 I, .slice AL L.length cL, .slice AG G.length cG, .slice AO O.length cO, .slice AB D.length cB, .slice AC C.length cC, .slice AN N.length cN] 27)
  have d1 : ((st.length : Int) != (L.length : Int)) = true := by simp; omega
  clear h
  go_enter Try.func17, Try.ntmps17
  go_wp2
  go_ret2
  exact ⟨none, 0, rfl, RB.nil _ _ _, fun _ => rfl, by simp, by simp [maxLen], hb⟩
set_option maxRecDepth 100000 in
set_option maxHeartbeats 2000000 in
theorem Start_yes (I : Int) (AL AG AO AB AC AN : Option Addr) (cL cG cO cB cC cN : Nat) (L G : List Pr) (O D C : List Int) (N : List Nm) (AS : Option Addr) (cs : Nat) (st : List Bool) (w : World) (hL : RP w w.heap.size AL L) (hS : RB w w.heap.size AS st) (nl : L.length ≤ 1000000) (h1 : st.length = L.length) :
    Calls Try.prog 17 #[.agg #[.int .i64 I, .slice AL L.length cL, .slice AG G.length cG, .slice AO O.length cO, .slice AB D.length cB, .slice AC C.length cC, .slice AN N.length cN], .slice AS st.length cs] w (RetB0 w (startL L st) 0) := by
  have hb := bal (Below.refl w.heap.size w) (.cells #[.int .i64 I, .slice AL L.length cL, .slice AG G.length cG, .slice AO O.length cO, .slice AB D.length cB, .slice AC C.length cC, .slice AN N.length cN] 27)
  have d1 : ((st.length : Int) != (L.length : Int)) = false := by simp [h1]
  have CC := clone_any AS cs st _ (hS.nx hb) (by omega)
  have hc0 : (w.alloc (.cells #[.int .i64 I, .slice AL L.length cL, .slice AG G.length cG, .slice AO O.length cO, .slice AB D.length cB, .slice AC C.length cC, .slice AN N.length cN] 27)).cell? ⟨w.heap.size, 1, none⟩ = some (.slice AL L.length cL) := by go_simp
  obtain ⟨R, hR⟩ : ∃ R, startL L st = R := ⟨_, rfl⟩
  have hlr : R.length = st.length := by rw [← hR]; exact startL_len L st h1
  have hat : ∀ j, j < st.length → R.getD j false = ini (L.getD j (0, 0)).2 (st.getD j false) := fun j hj => by rw [← hR]; exact startL_at L st h1 j hj
  rw [hR]
  have HAT := Lib.hid hat
  have HLR := Lib.hid hlr
  have H1 := Lib.hid h1
  have HL := Lib.hid hL
  have HS := Lib.hid hS
  have HB := Lib.hid hb
  clear hat hlr h1 hL hS hR
  go_enter Try.func17, Try.ntmps17
  go_wp2_with fail
  refine CC.mono ?_; rintro e w1 ⟨v1, rfl, ho1, hb1⟩
  obtain ⟨A1, c1, rfl, _, hA1, hn1, hm1⟩ := ho1.val
  have hB1 := bnx hb hb1
  have hc1 := (hb1.cell (p := ⟨w.heap.size, 1, none⟩) (by simp)).trans hc0
  have ho1' : OwnB w1 (w.heap.size + 1) (.slice A1 st.length c1) (rowS R st 0) := by
    have : rowS R st 0 = st := by simp [rowS]
    rw [this]
    simpa using ho1
  have HO1 := Lib.hid ho1'
  have HB1 := Lib.hid hB1
  clear CC ho1 hb1 ho1' hb hc0
  go_wp2
  go_loopg [20] L.length (fun g s wr => ∃ j : Nat, j + g = L.length ∧ s = .int .i64 j ∧ OwnB wr (w.heap.size + 1) (.slice A1 st.length c1) (rowS R st j) ∧ Below w.heap.size w wr)
  case atStart => exact ⟨0, by omega, rfl, HO1.out, HB1.out⟩
  case round =>
    obtain ⟨j, hj, rfl, hrow, hbel⟩ := hrel
    have hh1 := H1.out
    cases gk with
    | zero =>
      have q1 : ¬ ((j : Int) < L.length) := by omega
      have q2 : ¬ (j < L.length) := by omega
      rw [show j = st.length by omega, rowS_full R st HLR.out] at hrow
      have HROW := Lib.hid hrow
      have HBEL := Lib.hid hbel
      clear hrow hbel hh1 hc1 HB1 HO1
      go_wp2
      go_ret2
      obtain ⟨A2, c2, e2, r2, z2, n2, m2⟩ := HROW.out.val
      simp only [Value.slice.injEq] at e2
      obtain ⟨rfl, _, rfl⟩ := e2
      exact ⟨A1, c1, by rw [HLR.out]; rfl, r2, z2, n2, m2, HBEL.out⟩
    | succ g =>
      have hjl : j < L.length := by omega
      have hjl' : (j : Int) < L.length := by omega
      have hjs' : (j : Int) < st.length := by omega
      obtain ⟨ad, rfl, hab, hp0, hp1⟩ := HL.out j hjl
      have hp0' := (hbel.cell (p := ad.add (j * 2)) (by rw [block_add]; exact hab)).trans hp0
      have hp1' := (hbel.cell (p := ⟨(ad.add (j * 2)).block, (ad.add (j * 2)).off + 1, none⟩) (by show (ad.add (j * 2)).block < _; rw [block_add]; exact hab)).trans hp1
      have hlen := rowS_len R st HLR.out j (by omega)
      have hnext := rowS_next R st HLR.out j (by omega)
      have hstay := rowS_stay R st HLR.out j (by omega)
      have hgj := HAT.out j (by omega)
      generalize L.getD j (0, 0) = p at *
      obtain ⟨x, y⟩ := p
      simp only at hp0' hp1' hgj
      have hf := hrow
      rw [← hlen] at hf
      obtain ⟨g0, rfl⟩ := hf.form (by omega)
      obtain ⟨s1, s2, s3, s4, s5⟩ := hrow.store hlen (j := j) (by omega)
      generalize (rowS R st j).getD j false = u at *
      have HN := Lib.hid hnext
      have HST := Lib.hid hstay
      have HGJ := Lib.hid hgj
      have HROW := Lib.hid hrow
      have HBEL := Lib.hid hbel
      have HS5 := Lib.hid s5
      have HS1 := Lib.hid s1
      clear hnext hstay hgj hrow hbel hp0 hp1 hf hlen s5 hh1 s1 HB1 HO1
      by_cases y0 : y = 0
      · subst y0
        go_wp2
        go_roundg g
        case measure => omega
        case rel =>
          refine ⟨j + 1, by omega, by go_num, ?_, ?_⟩
          · rw [HN.out, HGJ.out, show ini 0 (st.getD j false) = false from rfl]
            exact World.ownsRow.alloc (HS5.out false) _
          · exact (HBEL.out.setCell (by have := HS1.out; show w.heap.size ≤ g0; omega) _).alloc (by have := HBEL.out.size; simpa using this) _
      · have dy0 : decide (y = 0) = false := decide_eq_false y0
        by_cases y1 : y = 1
        · subst y1
          go_wp2
          go_roundg g
          case measure => omega
          case rel =>
            refine ⟨j + 1, by omega, by go_num, ?_, ?_⟩
            · rw [HN.out, HGJ.out, show ini 1 (st.getD j false) = true from rfl]
              exact World.ownsRow.alloc (HS5.out true) _
            · exact (HBEL.out.setCell (by have := HS1.out; show w.heap.size ≤ g0; omega) _).alloc (by have := HBEL.out.size; simpa using this) _
        · have dy1 : decide (y = 1) = false := decide_eq_false y1
          have hst := HST.out (by rw [HGJ.out]; simp [ini, y0, y1])
          have HST2 := Lib.hid hst
          clear hst
          go_wp2
          go_roundg g
          case measure => omega
          case rel =>
            refine ⟨j + 1, by omega, by go_num, ?_, ?_⟩
            · rw [HST2.out]
              exact World.ownsRow.alloc HROW.out _
            · exact HBEL.out.alloc HBEL.out.size _
end Go.Proofs.Ytkdocjcpehmljaa
/- Flags, rows and few rows. -/
namespace Go.Proofs.Ytkdocjcpehmljaa
open Go.RowKit
set_option maxHeartbeats 800000 in
theorem Flags_q (A A' : Option Addr) (c c' : Nat) (l l' : List Bool) (w : World) (h : RB w w.heap.size A l) (h' : RB w w.heap.size A' l') (hn : l.length ≤ maxLen) (hn' : l'.length ≤ maxLen) :
    Calls Try.prog 21 #[.slice A l.length c, .slice A' l'.length c'] w fun e w' => e = .returned (.bool (l == l')) ∧ ∃ n, w' = w.drewN n := by
  unfold maxLen at hn hn'
  by_cases hl : l.length = l'.length
  · have hne : ((l.length : Int) != (l'.length : Int)) = false := by simp [hl]
    obtain ⟨T, hT⟩ : ∃ T, (l == l') = T := ⟨_, rfl⟩
    rw [hT]
    have HT : Hid ((l == l') = T) := hT
    clear hT
    have HL := Lib.hid hl
    clear hl
    go_enter Try.func21, Try.ntmps21
    go_wp2
    go_loopw [5] (fun i wr => ∃ (j q : Nat), j ≤ l.length ∧ i = .int .i64 j ∧ wr = w.drewN q ∧ Hid ((l.drop j == l'.drop j) = T)) (fun i _ => l.length - (intOf i).toNat)
    case atStart => exact ⟨0, 0, Nat.zero_le _, rfl, rfl, HT⟩
    case round =>
      obtain ⟨j, q, hj, rfl, rfl, HJ⟩ := hrel
      by_cases hlt : j < l.length
      · obtain ⟨a1, rfl, _, hc1⟩ := h j hlt
        obtain ⟨a2, rfl, _, hc2⟩ := h' j (by rw [← HL.out]; exact hlt)
        have hlt' : (j : Int) < l.length := by omega
        have hlt2 : (j : Int) < l'.length := by have := HL.out; omega
        have e := HJ.out
        rw [dropB l j hlt, dropB l' j (by rw [← HL.out]; exact hlt)] at e
        generalize l.getD j false = u at *
        generalize l'.getD j false = v at *
        by_cases huv : u = v
        · subst huv
          have hvv : (u != u) = false := by simp
          have hvv2 : (!u == u) = false := by cases u <;> rfl
          have HE : Hid ((l.drop (j + 1) == l'.drop (j + 1)) = T) := by show _ = _; simpa using e
          clear e HJ HT h h'
          go_wp2
          go_quiet (fail)
          go_wp2
          go_roundw
          case rel => exact ⟨j + 1, q + nq, by omega, by go_num, by first | rfl | rw [World.drewN_drewN], HE⟩
          case measure => simp [intOf]; omega
        · have hvv : (u != v) = true := by simp [huv]
          have hvv2 : (!u == v) = true := by cases u <;> cases v <;> simp_all
          have HE : Hid (false = T) := by show _ = _; rw [← e, List.cons_beq_cons, beq_eq_false_iff_ne.2 huv, Bool.false_and]
          clear e HJ HT h h' huv
          go_wp2
          go_quiet (fail)
          go_wp2
          go_ret
          exact ⟨by rw [← HE.out]; rfl, q + nq, by first | rfl | rw [World.drewN_drewN]⟩
      · have e := HJ.out
        rw [List.drop_of_length_le (by omega), List.drop_of_length_le (by have := HL.out; omega)] at e
        have HE : Hid (true = T) := by show _ = _; simpa using e
        clear e HJ HT h h'
        go_wp2
        go_ret
        exact ⟨by rw [← HE.out]; rfl, q, rfl⟩
  · have hne : ((l.length : Int) != (l'.length : Int)) = true := by simp; omega
    have hf : (l == l') = false := by rw [beq_eq_false_iff_ne]; intro e; exact hl (by rw [e])
    rw [hf]
    clear hl h h'
    go_enter Try.func21, Try.ntmps21
    go_wp2
    go_ret
    exact ⟨rfl, 0, rfl⟩
theorem Flags_any (A A' : Option Addr) (c c' : Nat) (l l' : List Bool) (w : World) (h : RB w w.heap.size A l) (h' : RB w w.heap.size A' l') (hn : l.length ≤ maxLen) (hn' : l'.length ≤ maxLen) :
    Calls Try.prog 21 #[.slice A l.length c, .slice A' l'.length c'] w (RetV w (.bool (l == l'))) :=
  (Flags_q A A' c c' l l' w h h' hn hn').mono fun e w' ⟨he, n, hw⟩ => ⟨he, by rw [hw]; exact drw n⟩
set_option maxHeartbeats 1600000 in
theorem Rows_any (A A' : Option Addr) (c c' : Nat) (L L' : List (List Bool)) (w : World) (h : RR w w.heap.size A L) (h' : RR w w.heap.size A' L') (hn : L.length ≤ maxLen) (hn' : L'.length ≤ maxLen) :
    Calls Try.prog 22 #[.slice A L.length c, .slice A' L'.length c'] w (RetV w (.bool (L == L'))) := by
  unfold maxLen at hn hn'
  by_cases hl : L.length = L'.length
  · have hne : ((L.length : Int) != (L'.length : Int)) = false := by simp [hl]
    obtain ⟨T, hT⟩ : ∃ T, (L == L') = T := ⟨_, rfl⟩
    rw [hT]
    have HT : Hid ((L == L') = T) := hT
    clear hT
    have HL := Lib.hid hl
    have H := Lib.hid h
    have H' := Lib.hid h'
    clear hl h h'
    go_enter Try.func22, Try.ntmps22
    go_wp2
    go_loopg [5] L.length (fun g s wr => ∃ j : Nat, j + g = L.length ∧ s = .int .i64 j ∧ Below w.heap.size w wr ∧ Hid ((L.drop j == L'.drop j) = T))
    case atStart => exact ⟨0, by omega, rfl, Below.refl _ _, HT⟩
    case round =>
      obtain ⟨j, hj, rfl, hb, HJ⟩ := hrel
      cases gk with
      | zero =>
        have q1 : ¬ ((j : Int) < L.length) := by omega
        have q2 : ¬ (j < L.length) := by omega
        have e := HJ.out
        rw [List.drop_of_length_le (by omega), List.drop_of_length_le (by have := HL.out; omega)] at e
        have HE : Hid (true = T) := by show _ = _; simpa using e
        clear e HJ HT H H'
        go_wp2
        go_ret
        exact ⟨by rw [← HE.out]; rfl, hb⟩
      | succ g =>
        have hlt : j < L.length := by omega
        obtain ⟨a1, A1, c1, rfl, g1, hc1, r1, n1, m1, _⟩ := H.out j hlt
        obtain ⟨a2, A2, c2, rfl, g2, hc2, r2, n2, m2, _⟩ := H'.out j (by rw [← HL.out]; exact hlt)
        have HKK : Hid (∀ wx, Below w.heap.size w wx → wx.cell? (a1.add j) = some (.slice A1 (L.getD j []).length c1) ∧ wx.cell? (a2.add j) = some (.slice A2 (L'.getD j []).length c2)) := Lib.hid fun wx hx => ⟨(hx.cell (p := a1.add j) (by rw [block_add]; exact g1)).trans hc1, (hx.cell (p := a2.add j) (by rw [block_add]; exact g2)).trans hc2⟩
        have hlt' : (j : Int) < L.length := by omega
        have hlt2 : (j : Int) < L'.length := by have := HL.out; omega
        have e := HJ.out
        have dC : ∀ (l : List (List Bool)) (k : Nat), k < l.length → l.drop k = l.getD k [] :: l.drop (k + 1) := fun l k h => by rw [List.drop_eq_getElem_cons h]; simp [List.getD, h]
        rw [dC L j hlt, dC L' j (by rw [← HL.out]; exact hlt), List.cons_beq_cons] at e
        generalize L.getD j [] = u at *
        generalize L'.getD j [] = v at *
        have FL : Hid (∀ wx, Below w.heap.size w wx → Calls Try.prog 21 #[.slice A1 u.length c1, .slice A2 v.length c2] wx (RetV wx (.bool (u == v)))) := Lib.hid fun wx hx => Flags_any A1 A2 c1 c2 u v wx ((r1.below hx).mono hx.size) ((r2.below hx).mono hx.size) (by omega) (by omega)
        generalize hu : (u == v) = uv at *
        have hU := hb.drew
        have K0 := HKK.out _ hU
        clear hc1 hc2 r1 r2 n1 n2 m1 m2 HJ HT hu dC hb
        cases uv
        · have HE : Hid (false = T) := by show _ = _; rw [← e, Bool.false_and]
          clear e
          go_wp2_with fail
          go_region_held3 (fun w' => w'.cell? (a1.add j) = some (.slice A1 u.length c1) ∧ w'.cell? (a2.add j) = some (.slice A2 v.length c2))
            (first | exact K0 | exact K1)
            (first
              | (go_at_call 21; ((with_reducible refine (FL.out _ hU).mono ?_); rintro e u1 ⟨rfl, hu1⟩; have U1 := bnx hU hu1; have K1 := HKK.out _ U1)))
          clear K0 HKK FL hU
          go_wp2
          go_ret
          exact ⟨by rw [← HE.out]; rfl, U1⟩
        · have HE : Hid ((L.drop (j + 1) == L'.drop (j + 1)) = T) := by show _ = _; rw [← e, Bool.true_and]
          clear e
          go_wp2_with fail
          go_region_held3 (fun w' => w'.cell? (a1.add j) = some (.slice A1 u.length c1) ∧ w'.cell? (a2.add j) = some (.slice A2 v.length c2))
            (first | exact K0 | exact K1)
            (first
              | (go_at_call 21; ((with_reducible refine (FL.out _ hU).mono ?_); rintro e u1 ⟨rfl, hu1⟩; have U1 := bnx hU hu1; have K1 := HKK.out _ U1)))
          clear K0 HKK FL hU
          go_wp2
          go_roundg g
          case measure => omega
          case rel => exact ⟨j + 1, by omega, by go_num, U1, HE⟩
  · have hne : ((L.length : Int) != (L'.length : Int)) = true := by simp; omega
    have hf : (L == L') = false := by rw [beq_eq_false_iff_ne]; intro e; exact hl (by rw [e])
    rw [hf]
    clear hl h h'
    go_enter Try.func22, Try.ntmps22
    go_wp2
    go_ret
    exact ⟨rfl, Below.refl _ _⟩
/-- Are there few rows, none too long? -/
def fewF (m : Int) (L : List (List Bool)) : Bool := decide ((L.length : Int) ≤ m) && L.all (fun r => decide (r.length ≤ 60))
theorem few_parts {m : Int} {L : List (List Bool)} (h : fewF m L = true) : (L.length : Int) ≤ m ∧ ∀ r ∈ L, r.length ≤ 60 := by
  simp only [fewF, Bool.and_eq_true, decide_eq_true_eq, List.all_eq_true] at h
  exact h
/-- What is left to look at from place j on. -/
def fewG (m : Int) (L : List (List Bool)) (j : Nat) : Bool := decide ((L.length : Int) ≤ m ∨ L.length ≤ j) && (L.drop j).all (fun r => decide (r.length ≤ 60))
theorem fewG_zero {m : Int} (h : 0 ≤ m) (L : List (List Bool)) : fewG m L 0 = fewF m L := by
  unfold fewG fewF
  have e : decide ((L.length : Int) ≤ m ∨ L.length ≤ 0) = decide ((L.length : Int) ≤ m) := decide_eq_decide.2 ⟨fun h => by omega, fun h => .inl h⟩
  rw [e, List.drop_zero]
theorem fewG_end (m : Int) (L : List (List Bool)) (j : Nat) (h : L.length ≤ j) : fewG m L j = true := by
  unfold fewG
  rw [decide_eq_true (.inr h), List.drop_of_length_le h]; rfl
theorem fewG_bad (m : Int) (L : List (List Bool)) (j : Nat) (h : j < L.length) (hb : m ≤ (j : Int) ∨ 60 < (L.getD j []).length) : fewG m L j = false := by
  unfold fewG
  have dC : L.drop j = L.getD j [] :: L.drop (j + 1) := by rw [List.drop_eq_getElem_cons h]; simp [List.getD, h]
  rw [dC, List.all_cons]
  rcases hb with h1 | h1
  · rw [decide_eq_false (by omega)]; rfl
  · rw [show decide ((L.getD j []).length ≤ 60) = false from decide_eq_false (by omega)]; simp
theorem fewG_step (m : Int) (L : List (List Bool)) (j : Nat) (h : j < L.length) (h1 : (j : Int) < m) (h2 : (L.getD j []).length ≤ 60) : fewG m L j = fewG m L (j + 1) := by
  unfold fewG
  have dC : L.drop j = L.getD j [] :: L.drop (j + 1) := by rw [List.drop_eq_getElem_cons h]; simp [List.getD, h]
  rw [dC, List.all_cons, show decide ((L.getD j []).length ≤ 60) = true from decide_eq_true h2, Bool.true_and]
  congr 1
  exact decide_eq_decide.2 ⟨fun h => by omega, fun h => by omega⟩
set_option maxHeartbeats 1600000 in
theorem Few_any (A : Option Addr) (c : Nat) (m : Int) (L : List (List Bool)) (w : World) (h : RR w w.heap.size A L) (hn : L.length ≤ maxLen) (hm : 0 ≤ m) :
    Calls Try.prog 12 #[.slice A L.length c, .int .i64 m] w (RetS w (.bool (fewF m L))) := by
  unfold maxLen at hn
  obtain ⟨T, hT⟩ : ∃ T, fewF m L = T := ⟨_, rfl⟩
  rw [hT]
  have HT : Hid (fewG m L 0 = T) := by show _ = _; rw [fewG_zero hm, hT]
  have H := Lib.hid h
  clear hT h
  go_enter Try.func12, Try.ntmps12
  go_wp2
  go_loopg [5] L.length (fun g s wr => ∃ j : Nat, j + g = L.length ∧ s = .int .i64 j ∧ w = wr ∧ Hid (fewG m L j = T))
  case atStart => exact ⟨0, by omega, rfl, rfl, HT⟩
  case round =>
    obtain ⟨j, hj, rfl, rfl, HJ⟩ := hrel
    cases gk with
    | zero =>
      have q1 : ¬ ((j : Int) < L.length) := by omega
      have q2 : ¬ (j < L.length) := by omega
      have HE : Hid (true = T) := by show _ = _; rw [← HJ.out, fewG_end m L j (by omega)]
      clear HJ HT H
      go_wp2
      go_ret
      exact ⟨by rw [← HE.out]; rfl, rfl⟩
    | succ g =>
      have hlt : j < L.length := by omega
      have hlt' : (j : Int) < L.length := by omega
      obtain ⟨a1, A1, c1, rfl, g1, hc1, r1, n1, m1, _⟩ := H.out j hlt
      by_cases h1 : m ≤ (j : Int)
      · have d1 : decide (m ≤ (j : Int)) = true := decide_eq_true h1
        have HE : Hid (false = T) := by show _ = _; rw [← HJ.out, fewG_bad m L j hlt (.inl h1)]
        clear HJ HT H r1 n1 m1
        go_wp2
        go_ret
        exact ⟨by rw [← HE.out]; rfl, rfl⟩
      · have d1 : decide (m ≤ (j : Int)) = false := decide_eq_false h1
        by_cases h2 : 60 < (L.getD j []).length
        · have HE : Hid (false = T) := by show _ = _; rw [← HJ.out, fewG_bad m L j hlt (.inr h2)]
          clear HJ HT H r1 m1
          generalize (L.getD j []).length = u at *
          have d2 : decide (60 < u) = true := decide_eq_true h2
          have d3 : decide ((60 : Int) < (u : Int)) = true := decide_eq_true (by omega)
          go_wp2
          go_ret
          exact ⟨by rw [← HE.out]; rfl, rfl⟩
        · have HE : Hid (fewG m L (j + 1) = T) := by show _ = _; rw [← HJ.out, fewG_step m L j hlt (by omega) (by omega)]
          clear HJ HT H r1 m1
          generalize (L.getD j []).length = u at *
          have d2 : decide (60 < u) = false := decide_eq_false h2
          have d3 : decide ((60 : Int) < (u : Int)) = false := decide_eq_false (by omega)
          go_wp2
          go_roundg g
          case measure => omega
          case rel => exact ⟨j + 1, by omega, by go_num, rfl, HE⟩
end Go.Proofs.Ytkdocjcpehmljaa
