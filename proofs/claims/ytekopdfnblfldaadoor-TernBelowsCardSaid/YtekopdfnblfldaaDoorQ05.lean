/-
  sim.Values, Clone and Start over the translated program.
  vidimusref01.Long over the translated program: how many bytes the rune has that begins at a place of a string, or 0.
  vidimusref01.IsName over the translated program: it tells something.
-/
import Derived.Test.YtekopdfnblfldaaDoorProg
import Derived.WalkKit
import Derived.WalkSpells
import Derived.WalkLawsBesides
import Derived.Lib.Hide
import Derived.BigQuiet
import Derived.Deep.QuietTactic
import Derived.Deep.RegionWith
import Derived.Deep.RegionHeld3
import Derived.Test.YtekopdfnblfldaaDoorQ03
import Derived.Test.YtekopdfnblfldaaDoorQ04
import Derived.Lib.SmallJoins
import Derived.Lib.SliceRun
import Derived.Test.YtekopdfnblfldaaDoorQ01
set_option linter.unusedVariables false
/- sim.Values, Clone and Start over the translated program. -/
namespace Go.Proofs.YtekopdfnblfldaaDoor
open Go.RowKit
/-- Readings of a model's rows. -/
structure RA (w : World) (B : Nat) (AL AG AO AB AC AN : Option Addr) (L G : List Pr) (O D C : List Int) (N : List Nm) : Prop where
  l : RP w B AL L
  g : RP w B AG G
  o : RI w B AO O
  d : RI w B AB D
  c : RI w B AC C
  n : RN w B AN N
theorem RA.nx {w w' : World} {AL AG AO AB AC AN : Option Addr} {L G : List Pr} {O D C : List Int} {N : List Nm} (h : RA w w.heap.size AL AG AO AB AC AN L G O D C N) (hb : Below w.heap.size w w') : RA w' w'.heap.size AL AG AO AB AC AN L G O D C N :=
  ⟨h.l.nx hb, h.g.nx hb, h.o.nx hb, h.d.nx hb, h.c.nx hb, (h.n.below hb).mono hb.size⟩
/-- A model that may be asked about. -/
structure Md (I : Int) (L G : List Pr) (O D C : List Int) : Prop where
  i0 : 0 ≤ I
  i1 : I ≤ 1000000
  nl : L.length ≤ 1000000
  ng : G.length ≤ 1000000
  no : O.length ≤ 1000000
  nd : D.length ≤ 1000000
  nc : C.length ≤ 1000000
  lo : Lits O
  ld : Lits D
  lc : Lits C
  ll : LitsP L
  tp : topo (1 + I.toNat + L.length) G
/-- Values of all variables. -/
def valsOf (st inp : List Bool) (G : List Pr) : List Bool := vals (false :: (inp ++ st)) G
theorem valsOf_length (st inp : List Bool) (G : List Pr) : (valsOf st inp G).length = 1 + inp.length + st.length + G.length := by
  unfold valsOf; rw [vals_length]; simp; omega
set_option maxHeartbeats 2000000 in
theorem Values_no (I : Int) (AL AG AO AB AC AN : Option Addr) (cL cG cO cB cC cN : Nat) (L G : List Pr) (O D C : List Int) (N : List Nm) (AS AI : Option Addr) (cs ci : Nat) (st inp : List Bool) (w : World) (h : ¬ (st.length = L.length ∧ (inp.length : Int) = I)) :
    Calls Tryd.prog 30 #[.agg #[.int .i64 I, .slice AL L.length cL, .slice AG G.length cG, .slice AO O.length cO, .slice AB D.length cB, .slice AC C.length cC, .slice AN N.length cN], .slice AS st.length cs, .slice AI inp.length ci] w (RetB0 w [] 7) := by
  have hb := bal (Below.refl w.heap.size w) (.cells #[.int .i64 I, .slice AL L.length cL, .slice AG G.length cG, .slice AO O.length cO, .slice AB D.length cB, .slice AC C.length cC, .slice AN N.length cN] 35)
  by_cases h1 : st.length = L.length
  · have d1 : ((st.length : Int) != (L.length : Int)) = false := by simp [h1]
    have d2 : ((inp.length : Int) != I) = true := by simp; intro e; exact h ⟨h1, e⟩
    clear h h1
    go_enter Tryd.func30, Tryd.ntmps30
    go_wp2
    go_ret2
    exact ⟨none, 0, rfl, RB.nil _ _ _, fun _ => rfl, by simp, by simp [maxLen], hb⟩
  · have d1 : ((st.length : Int) != (L.length : Int)) = true := by simp; omega
    clear h h1
    go_enter Tryd.func30, Tryd.ntmps30
    go_wp2
    go_ret2
    exact ⟨none, 0, rfl, RB.nil _ _ _, fun _ => rfl, by simp, by simp [maxLen], hb⟩
set_option maxHeartbeats 2000000 in
theorem Values_yes (I : Int) (AL AG AO AB AC AN : Option Addr) (cL cG cO cB cC cN : Nat) (L G : List Pr) (O D C : List Int) (N : List Nm) (AS AI : Option Addr) (cs ci : Nat) (st inp : List Bool) (w : World) (hA : RA w w.heap.size AL AG AO AB AC AN L G O D C N) (hS : RB w w.heap.size AS st) (hI : RB w w.heap.size AI inp) (hM : Md I L G O D C) (h1 : st.length = L.length) (h2 : (inp.length : Int) = I) :
    Calls Tryd.prog 30 #[.agg #[.int .i64 I, .slice AL L.length cL, .slice AG G.length cG, .slice AO O.length cO, .slice AB D.length cB, .slice AC C.length cC, .slice AN N.length cN], .slice AS st.length cs, .slice AI inp.length ci] w (RetB0 w (valsOf st inp G) 0) := by
  have hb := bal (Below.refl w.heap.size w) (.cells #[.int .i64 I, .slice AL L.length cL, .slice AG G.length cG, .slice AO O.length cO, .slice AB D.length cB, .slice AC C.length cC, .slice AN N.length cN] 35)
  have d1 : ((st.length : Int) != (L.length : Int)) = false := by simp [h1]
  have d2 : ((inp.length : Int) != I) = false := by simp [h2]
  have m1 := hM.i1
  have m2 := hM.nl
  have ht := hM.tp
  rw [show 1 + I.toNat + L.length = 1 + inp.length + st.length by omega] at ht
  have CV := valuesOf_any I AL AG AO AB AC AN cL cG cO cB cC cN L G O D C N AS AI cs ci st inp _ (hA.g.nx hb) (hS.nx hb) (hI.nx hb) h2.symm h1.symm (by omega) (by omega) hM.ng ht
  unfold valsOf
  generalize vals (false :: (inp ++ st)) G = T at *
  clear hA hS hI hM h1 h2 ht
  go_enter Tryd.func30, Tryd.ntmps30
  go_wp2_with fail
  refine CV.mono ?_; rintro e w' ⟨A', c', rfl, q1, q2, q3, q4, q5⟩
  have hq := bnx hb q5
  have HQ := Lib.hid (And.intro q1 (And.intro q2 (And.intro q3 (And.intro q4 hq))))
  clear CV q1 q2 q3 q4 q5 hq hb
  go_wp2
  go_ret2
  exact ⟨A', c', rfl, HQ.out.1, HQ.out.2.1, HQ.out.2.2.1, HQ.out.2.2.2.1, HQ.out.2.2.2.2⟩
/-- A call that tells a row of flags of its own. -/
def RetO (w0 : World) (l : List Bool) (e : Ending) (w' : World) : Prop := ∃ v, e = .returned v ∧ OwnB w' w0.heap.size v l ∧ Below w0.heap.size w0 w'
theorem OwnB.store {w : World} {base g cap n : Nat} {S : List Bool} (hn : S.length = n) (h : OwnB w base (.slice (some ⟨g, 0, none⟩) n cap) S) {j : Nat} (hj : j < n) :
    base ≤ g ∧ g < w.heap.size ∧ w.cell? ⟨g, j, none⟩ = some (.bool (S.getD j false)) ∧ w.frozen? ⟨g, j, none⟩ = false ∧ ∀ b, OwnB (w.setCell ⟨g, j, none⟩ (.bool b)) base (.slice (some ⟨g, 0, none⟩) n cap) (S.set j b) := by
  subst hn
  refine ⟨(World.ownsRow.lt h g rfl).1, (World.ownsRow.lt h g rfl).2, ?_, World.ownsRow.frozenAt h j, ?_⟩
  · rw [World.ownsRow.cellAt h j (by omega)]
    simp [List.getD_eq_getElem?_getD, hj]
  · intro b
    have := (World.ownsRow.stored h j (.bool b)).1
    unfold OwnB
    simpa [List.map_set] using this
theorem OwnB.form {w : World} {base c : Nat} {A : Option Addr} {S : List Bool} (h : OwnB w base (.slice A S.length c) S) (hn : 0 < S.length) : ∃ g, A = some ⟨g, 0, none⟩ := by
  obtain ⟨g, cap, e⟩ := Go.Joins.ownsRow_form h hn
  cases e
  exact ⟨g, rfl⟩
/-- A latch's value at first. -/
def ini (r : Int) (b : Bool) : Bool := if r = 0 then false else if r = 1 then true else b
def startL (L : List Pr) (f : List Bool) : List Bool := (L.zip f).map (fun x => ini x.1.2 x.2)
theorem startL_len (L : List Pr) (f : List Bool) (h : f.length = L.length) : (startL L f).length = f.length := by simp [startL]; omega
theorem startL_at (L : List Pr) (f : List Bool) (h : f.length = L.length) (j : Nat) (hj : j < f.length) : (startL L f).getD j false = ini (L.getD j (0, 0)).2 (f.getD j false) := by
  have h1 : j < L.length := by omega
  simp [startL, List.getD_eq_getElem?_getD, hj, h1, List.getElem?_map]
  rw [List.getElem?_eq_getElem (by simp; omega)]
  simp
/-- The first state while it is filled. -/
def rowS (R f : List Bool) (j : Nat) : List Bool := R.take j ++ f.drop j
theorem rowS_len (R f : List Bool) (h : R.length = f.length) (j : Nat) (hj : j ≤ f.length) : (rowS R f j).length = f.length := by simp [rowS]; omega
theorem rowS_full (R f : List Bool) (h : R.length = f.length) : rowS R f f.length = R := by
  unfold rowS
  rw [List.drop_length, List.append_nil, List.take_of_length_le (by omega)]
theorem rowS_next (R f : List Bool) (h : R.length = f.length) (j : Nat) (hj : j < f.length) : rowS R f (j + 1) = (rowS R f j).set j (R.getD j false) := by
  unfold rowS
  have hl : (R.take j).length = j := by rw [List.length_take]; omega
  have e : R.take (j + 1) = R.take j ++ [R.getD j false] := by rw [List.take_add_one]; simp [List.getD_eq_getElem?_getD, show j < R.length by omega]
  rw [e, dropB f j hj, List.set_append_right _ _ (by omega), hl, Nat.sub_self, List.set_cons_zero, List.append_assoc]
  rfl
theorem rowS_stay (R f : List Bool) (h : R.length = f.length) (j : Nat) (hj : j < f.length) (he : R.getD j false = f.getD j false) : rowS R f (j + 1) = rowS R f j := by
  unfold rowS
  have e : R.take (j + 1) = R.take j ++ [R.getD j false] := by rw [List.take_add_one]; simp [List.getD_eq_getElem?_getD, show j < R.length by omega]
  rw [e, dropB f j hj, List.append_assoc, he]
  rfl
end Go.Proofs.YtekopdfnblfldaaDoor
/- vidimusref01.Long over the translated program: how many bytes the rune has that begins at a place of a string, or 0. -/
namespace Go.Proofs.YtekopdfnblfldaaDoor
open Go.RowKit
theorem drop_at (l : List UInt8) (k : Nat) (h : k < l.length) : l.drop k = l.getD k 0 :: l.drop (k + 1) := by
  rw [List.drop_eq_getElem_cons h]; simp [List.getD, h]
theorem str_index (s : ByteArray) (j : Nat) (jj : Int) (h : jj = (j : Int)) (hj : j < s.size) (w : World) :
    (Instr.index 9 (.string s) (.int .i64 jj)).run Tryd.prog w = .ok (.int .u8 ((s.data.toList.getD j 0).toNat : Int)) w := by
  subst h
  have e : s.data.toList.getD j 0 = s[j] := by
    have hj' : j < s.data.size := hj
    rw [List.getD_eq_getElem?_getD, Array.getElem?_toList, Array.getElem?_eq_getElem hj', Option.getD_some]
    rfl
  rw [e, run_index_string w 9 s .i64 j Tryd.underlying9]
  simp [hj]
/-- r continuing bytes, with c gathered. -/
def longF : Nat → Nat → List UInt8 → Option Nat
  | 0, c, _ => some c
  | _ + 1, _, [] => none
  | r + 1, c, b :: t => if b.toNat < 128 ∨ 191 < b.toNat then none else longF r (c * 64 + b.toNat - 128) t
def longE (n least : Nat) : Option Nat → Nat
  | none => 0
  | some c => if c < least ∨ 1114111 < c ∨ 55296 ≤ c ∧ c < 57344 then 0 else n
def longL : List UInt8 → Nat
  | [] => 0
  | b :: t => if 240 ≤ b.toNat ∧ b.toNat < 248 then longE 4 65536 (longF 3 (b.toNat - 240) t)
    else if 224 ≤ b.toNat ∧ b.toNat < 240 then longE 3 2048 (longF 2 (b.toNat - 224) t)
    else if 192 ≤ b.toNat ∧ b.toNat < 224 then longE 2 128 (longF 1 (b.toNat - 192) t)
    else if 128 ≤ b.toNat then 0 else 1
theorem bound64 (i c v : Nat) (h1 : 1 ≤ i) (h4 : i ≤ 3) (hc : c < 32 * 64 ^ (i - 1)) (hv : 128 ≤ v) (hv2 : v ≤ 191) : c * 64 + v - 128 < 32 * 64 ^ (i + 1 - 1) ∧ c < 131072 := by
  have : i = 1 ∨ i = 2 ∨ i = 3 := by omega
  rcases this with rfl | rfl | rfl <;> simp at hc ⊢ <;> omega
theorem bound64e (c n : Nat) (h4 : n ≤ 4) (hc : c < 32 * 64 ^ (n - 1)) : c < 8388608 := by
  have : n = 0 ∨ n = 1 ∨ n = 2 ∨ n = 3 ∨ n = 4 := by omega
  rcases this with rfl | rfl | rfl | rfl | rfl <;> simp at hc <;> omega
set_option maxRecDepth 100000 in
set_option maxHeartbeats 1600000 in
theorem Long_four (s : ByteArray) (k : Nat) (w : World) (hk : k < s.size) (hs : s.size ≤ 9223372036854775807) (h1 : 240 ≤ (s.data.toList.getD k 0).toNat) (h2 : (s.data.toList.getD k 0).toNat < 248) :
    Calls Tryd.prog 66 #[.string s, .int .i64 k] w fun e w' => e = .returned (.int .i64 (longE 4 65536 (longF 3 ((s.data.toList.getD k 0).toNat - 240) (s.data.toList.drop (k + 1))) : Nat)) ∧ w = w' := by
  have hix0 := fun wx => str_index s k k rfl hk wx
  have hlt256 : (s.data.toList.getD k 0).toNat < 256 := (s.data.toList.getD k 0).toNat_lt
  have HZ : Hid (s.data.toList.length = s.size) := by show _ = _; rw [Array.length_toList]; rfl
  obtain ⟨R, hR⟩ : ∃ R, longF 3 ((s.data.toList.getD k 0).toNat - 240) (s.data.toList.drop (k + 1)) = R := ⟨_, rfl⟩
  rw [hR]
  generalize hb : (s.data.toList.getD k 0).toNat = b at *
  obtain ⟨c0, hc0⟩ : ∃ c0 : Nat, b - 240 = c0 := ⟨_, rfl⟩
  have HR : Hid (longF 3 c0 (s.data.toList.drop (k + 1)) = R) := by rw [← hc0]; exact hR
  have hc0' : (b : Int) - 240 = (c0 : Int) := by omega
  have hc1 : c0 < 32 * 64 ^ (1 - 1) := by simp; omega
  have f1 : (240 : Int) ≤ b := by omega
  have f2 : (b : Int) < 248 := by omega
  clear hR hb hc0
  go_enter Tryd.func66, Tryd.ntmps66
  go_wp2
  go_loop [6, 8] (fun cc ii => ∃ (i c : Nat), 1 ≤ i ∧ i ≤ 4 ∧ Hid (c < 32 * 64 ^ (i - 1)) ∧ cc = .int .i64 c ∧ ii = .int .i64 i ∧ Hid (longF (4 - i) c (s.data.toList.drop (k + i)) = R)) (fun _ ii => 4 - (intOf ii).toNat)
  case atStart => exact ⟨1, c0, by omega, by omega, hc1, by first | rfl | (rw [hc0']), rfl, HR⟩
  case round =>
    obtain ⟨i, c, hi1, hi4, HC, rfl, rfl, HJ⟩ := hrel
    clear hix0 hc0' hc1
    by_cases hin : i < 4
    · have e := HJ.out
      obtain ⟨r, hr⟩ : ∃ r, 4 - i = r + 1 := ⟨4 - i - 1, by omega⟩
      have hr' : 4 - (i + 1) = r := by omega
      rw [hr] at e
      have hin' : (i : Int) < 4 := by omega
      by_cases hend : s.size ≤ k + i
      · rw [List.drop_of_length_le (by rw [HZ.out]; exact hend), longF] at e
        have HE : Hid (none = R) := e
        have hge : (s.size : Int) - k ≤ i := by omega
        have hge2 : decide ((s.size : Int) - k ≤ i) = true := decide_eq_true hge
        clear e HJ HR hr hr'
        go_wp2
        go_ret
        exact ⟨by rw [← HE.out]; rfl, rfl⟩
      · have hlt : k + i < s.size := by omega
        have hix := fun wx => str_index s (k + i) ((k : Int) + i) (by omega) hlt wx
        rw [drop_at _ (k + i) (by rw [HZ.out]; exact hlt), longF] at e
        have hv256 : (s.data.toList.getD (k + i) 0).toNat < 256 := (s.data.toList.getD (k + i) 0).toNat_lt
        generalize (s.data.toList.getD (k + i) 0).toNat = v at *
        have hv256' : (v : Int) < 256 := by omega
        have hge2 : decide ((s.size : Int) - k ≤ i) = false := decide_eq_false (by omega)
        by_cases hbad : v < 128 ∨ 191 < v
        · rw [if_pos hbad] at e
          have HE : Hid (none = R) := e
          have hcase : decide ((v : Int) < 128) = true ∨ (decide ((v : Int) < 128) = false ∧ decide ((191 : Int) < v) = true) := by
            simp only [decide_eq_true_eq, decide_eq_false_iff_not]; omega
          clear e HJ HR hr hr' hbad
          rcases hcase with g1 | ⟨g1, g2⟩
          all_goals
            go_wp2
            go_ret
            exact ⟨by rw [← HE.out]; rfl, rfl⟩
        · rw [if_neg hbad] at e
          obtain ⟨hb1, hb2⟩ := bound64 i c v hi1 (by omega) HC.out (by omega) (by omega)
          have HB : Hid (c * 64 + v - 128 < 32 * 64 ^ (i + 1 - 1)) := hb1
          obtain ⟨c2, hc2⟩ : ∃ c2, c * 64 + v - 128 = c2 := ⟨_, rfl⟩
          rw [hc2] at e
          have HE : Hid (longF r c2 (s.data.toList.drop (k + (i + 1))) = R) := e
          have HC2 : Hid ((c : Int) * 64 + v - 128 = (c2 : Int)) := by show _ = _; omega
          have HB2 : Hid (c2 < 32 * 64 ^ (i + 1 - 1)) := by rw [← hc2]; exact HB
          have g1 : decide ((v : Int) < 128) = false := decide_eq_false (by omega)
          have g2 : decide ((191 : Int) < v) = false := decide_eq_false (by omega)
          have HR' : Hid (4 - (i + 1) = r) := hr'
          clear e HJ HR hr hr' hbad hb1 hc2 HB HC
          go_wp2
          go_round
          case rel => exact ⟨i + 1, c2, by omega, by omega, HB2, by rw [HC2.out], by go_num, by rw [HR'.out]; exact HE⟩
          case measure => simp [intOf]; omega
    · have e := HJ.out
      have hin2 : i = 4 := by omega
      have HC1 := bound64e c 4 (by omega) (by have := HC.out; rw [hin2] at this; exact this)
      subst hin2
      rw [longF] at e
      have HE : Hid (some c = R) := e
      clear e HJ HR HC
      by_cases hbad : c < 65536 ∨ 1114111 < c ∨ 55296 ≤ c ∧ c < 57344
      · have HF : Hid (longE 4 65536 R = 0) := by show _ = _; rw [← HE.out, longE, if_pos hbad]
        have hcase : decide ((c : Int) < 65536) = true ∨ (decide ((c : Int) < 65536) = false ∧ decide ((1114111 : Int) < c) = true) ∨ (decide ((c : Int) < 65536) = false ∧ decide ((1114111 : Int) < c) = false ∧ decide ((55296 : Int) ≤ c) = true ∧ decide ((c : Int) < 57344) = true) := by
          simp only [decide_eq_true_eq, decide_eq_false_iff_not]; omega
        clear hbad
        rcases hcase with g1 | ⟨g1, g2⟩ | ⟨g1, g2, g3, g4⟩
        all_goals
          go_wp2
          go_ret
          exact ⟨by rw [HF.out]; rfl, rfl⟩
      · have HF : Hid (longE 4 65536 R = 4) := by show _ = _; rw [← HE.out, longE, if_neg hbad]
        have hcase : (decide ((c : Int) < 65536) = false ∧ decide ((1114111 : Int) < c) = false ∧ decide ((55296 : Int) ≤ c) = false) ∨ (decide ((c : Int) < 65536) = false ∧ decide ((1114111 : Int) < c) = false ∧ decide ((55296 : Int) ≤ c) = true ∧ decide ((c : Int) < 57344) = false) := by
          simp only [decide_eq_true_eq, decide_eq_false_iff_not]; omega
        clear hbad
        rcases hcase with ⟨g1, g2, g3⟩ | ⟨g1, g2, g3, g4⟩
        all_goals
          go_wp2
          go_ret
          exact ⟨by rw [HF.out]; rfl, rfl⟩
set_option maxRecDepth 100000 in
set_option maxHeartbeats 1600000 in
theorem Long_three (s : ByteArray) (k : Nat) (w : World) (hk : k < s.size) (hs : s.size ≤ 9223372036854775807) (h1 : 224 ≤ (s.data.toList.getD k 0).toNat) (h2 : (s.data.toList.getD k 0).toNat < 240) :
    Calls Tryd.prog 66 #[.string s, .int .i64 k] w fun e w' => e = .returned (.int .i64 (longE 3 2048 (longF 2 ((s.data.toList.getD k 0).toNat - 224) (s.data.toList.drop (k + 1))) : Nat)) ∧ w = w' := by
  have hix0 := fun wx => str_index s k k rfl hk wx
  have hlt256 : (s.data.toList.getD k 0).toNat < 256 := (s.data.toList.getD k 0).toNat_lt
  have HZ : Hid (s.data.toList.length = s.size) := by show _ = _; rw [Array.length_toList]; rfl
  obtain ⟨R, hR⟩ : ∃ R, longF 2 ((s.data.toList.getD k 0).toNat - 224) (s.data.toList.drop (k + 1)) = R := ⟨_, rfl⟩
  rw [hR]
  generalize hb : (s.data.toList.getD k 0).toNat = b at *
  obtain ⟨c0, hc0⟩ : ∃ c0 : Nat, b - 224 = c0 := ⟨_, rfl⟩
  have HR : Hid (longF 2 c0 (s.data.toList.drop (k + 1)) = R) := by rw [← hc0]; exact hR
  have hc0' : (b : Int) - 224 = (c0 : Int) := by omega
  have hc1 : c0 < 32 * 64 ^ (1 - 1) := by simp; omega
  have f1 : (224 : Int) ≤ b := by omega
  have f2 : (b : Int) < 240 := by omega
  have f3 : decide ((240 : Int) ≤ b) = false := decide_eq_false (by omega)
  clear hR hb hc0
  go_enter Tryd.func66, Tryd.ntmps66
  go_wp2
  go_loop [6, 8] (fun cc ii => ∃ (i c : Nat), 1 ≤ i ∧ i ≤ 3 ∧ Hid (c < 32 * 64 ^ (i - 1)) ∧ cc = .int .i64 c ∧ ii = .int .i64 i ∧ Hid (longF (3 - i) c (s.data.toList.drop (k + i)) = R)) (fun _ ii => 3 - (intOf ii).toNat)
  case atStart => exact ⟨1, c0, by omega, by omega, hc1, by first | rfl | (rw [hc0']), rfl, HR⟩
  case round =>
    obtain ⟨i, c, hi1, hi4, HC, rfl, rfl, HJ⟩ := hrel
    clear hix0 hc0' hc1
    by_cases hin : i < 3
    · have e := HJ.out
      obtain ⟨r, hr⟩ : ∃ r, 3 - i = r + 1 := ⟨3 - i - 1, by omega⟩
      have hr' : 3 - (i + 1) = r := by omega
      rw [hr] at e
      have hin' : (i : Int) < 3 := by omega
      by_cases hend : s.size ≤ k + i
      · rw [List.drop_of_length_le (by rw [HZ.out]; exact hend), longF] at e
        have HE : Hid (none = R) := e
        have hge : (s.size : Int) - k ≤ i := by omega
        have hge2 : decide ((s.size : Int) - k ≤ i) = true := decide_eq_true hge
        clear e HJ HR hr hr'
        go_wp2
        go_ret
        exact ⟨by rw [← HE.out]; rfl, rfl⟩
      · have hlt : k + i < s.size := by omega
        have hix := fun wx => str_index s (k + i) ((k : Int) + i) (by omega) hlt wx
        rw [drop_at _ (k + i) (by rw [HZ.out]; exact hlt), longF] at e
        have hv256 : (s.data.toList.getD (k + i) 0).toNat < 256 := (s.data.toList.getD (k + i) 0).toNat_lt
        generalize (s.data.toList.getD (k + i) 0).toNat = v at *
        have hv256' : (v : Int) < 256 := by omega
        have hge2 : decide ((s.size : Int) - k ≤ i) = false := decide_eq_false (by omega)
        by_cases hbad : v < 128 ∨ 191 < v
        · rw [if_pos hbad] at e
          have HE : Hid (none = R) := e
          have hcase : decide ((v : Int) < 128) = true ∨ (decide ((v : Int) < 128) = false ∧ decide ((191 : Int) < v) = true) := by
            simp only [decide_eq_true_eq, decide_eq_false_iff_not]; omega
          clear e HJ HR hr hr' hbad
          rcases hcase with g1 | ⟨g1, g2⟩
          all_goals
            go_wp2
            go_ret
            exact ⟨by rw [← HE.out]; rfl, rfl⟩
        · rw [if_neg hbad] at e
          obtain ⟨hb1, hb2⟩ := bound64 i c v hi1 (by omega) HC.out (by omega) (by omega)
          have HB : Hid (c * 64 + v - 128 < 32 * 64 ^ (i + 1 - 1)) := hb1
          obtain ⟨c2, hc2⟩ : ∃ c2, c * 64 + v - 128 = c2 := ⟨_, rfl⟩
          rw [hc2] at e
          have HE : Hid (longF r c2 (s.data.toList.drop (k + (i + 1))) = R) := e
          have HC2 : Hid ((c : Int) * 64 + v - 128 = (c2 : Int)) := by show _ = _; omega
          have HB2 : Hid (c2 < 32 * 64 ^ (i + 1 - 1)) := by rw [← hc2]; exact HB
          have g1 : decide ((v : Int) < 128) = false := decide_eq_false (by omega)
          have g2 : decide ((191 : Int) < v) = false := decide_eq_false (by omega)
          have HR' : Hid (3 - (i + 1) = r) := hr'
          clear e HJ HR hr hr' hbad hb1 hc2 HB HC
          go_wp2
          go_round
          case rel => exact ⟨i + 1, c2, by omega, by omega, HB2, by rw [HC2.out], by go_num, by rw [HR'.out]; exact HE⟩
          case measure => simp [intOf]; omega
    · have e := HJ.out
      have hin2 : i = 3 := by omega
      have HC1 := bound64e c 3 (by omega) (by have := HC.out; rw [hin2] at this; exact this)
      subst hin2
      rw [longF] at e
      have HE : Hid (some c = R) := e
      clear e HJ HR HC
      by_cases hbad : c < 2048 ∨ 1114111 < c ∨ 55296 ≤ c ∧ c < 57344
      · have HF : Hid (longE 3 2048 R = 0) := by show _ = _; rw [← HE.out, longE, if_pos hbad]
        have hcase : decide ((c : Int) < 2048) = true ∨ (decide ((c : Int) < 2048) = false ∧ decide ((1114111 : Int) < c) = true) ∨ (decide ((c : Int) < 2048) = false ∧ decide ((1114111 : Int) < c) = false ∧ decide ((55296 : Int) ≤ c) = true ∧ decide ((c : Int) < 57344) = true) := by
          simp only [decide_eq_true_eq, decide_eq_false_iff_not]; omega
        clear hbad
        rcases hcase with g1 | ⟨g1, g2⟩ | ⟨g1, g2, g3, g4⟩
        all_goals
          go_wp2
          go_ret
          exact ⟨by rw [HF.out]; rfl, rfl⟩
      · have HF : Hid (longE 3 2048 R = 3) := by show _ = _; rw [← HE.out, longE, if_neg hbad]
        have hcase : (decide ((c : Int) < 2048) = false ∧ decide ((1114111 : Int) < c) = false ∧ decide ((55296 : Int) ≤ c) = false) ∨ (decide ((c : Int) < 2048) = false ∧ decide ((1114111 : Int) < c) = false ∧ decide ((55296 : Int) ≤ c) = true ∧ decide ((c : Int) < 57344) = false) := by
          simp only [decide_eq_true_eq, decide_eq_false_iff_not]; omega
        clear hbad
        rcases hcase with ⟨g1, g2, g3⟩ | ⟨g1, g2, g3, g4⟩
        all_goals
          go_wp2
          go_ret
          exact ⟨by rw [HF.out]; rfl, rfl⟩
set_option maxRecDepth 100000 in
set_option maxHeartbeats 1600000 in
theorem Long_two (s : ByteArray) (k : Nat) (w : World) (hk : k < s.size) (hs : s.size ≤ 9223372036854775807) (h1 : 192 ≤ (s.data.toList.getD k 0).toNat) (h2 : (s.data.toList.getD k 0).toNat < 224) :
    Calls Tryd.prog 66 #[.string s, .int .i64 k] w fun e w' => e = .returned (.int .i64 (longE 2 128 (longF 1 ((s.data.toList.getD k 0).toNat - 192) (s.data.toList.drop (k + 1))) : Nat)) ∧ w = w' := by
  have hix0 := fun wx => str_index s k k rfl hk wx
  have hlt256 : (s.data.toList.getD k 0).toNat < 256 := (s.data.toList.getD k 0).toNat_lt
  have HZ : Hid (s.data.toList.length = s.size) := by show _ = _; rw [Array.length_toList]; rfl
  obtain ⟨R, hR⟩ : ∃ R, longF 1 ((s.data.toList.getD k 0).toNat - 192) (s.data.toList.drop (k + 1)) = R := ⟨_, rfl⟩
  rw [hR]
  generalize hb : (s.data.toList.getD k 0).toNat = b at *
  obtain ⟨c0, hc0⟩ : ∃ c0 : Nat, b - 192 = c0 := ⟨_, rfl⟩
  have HR : Hid (longF 1 c0 (s.data.toList.drop (k + 1)) = R) := by rw [← hc0]; exact hR
  have hc0' : (b : Int) - 192 = (c0 : Int) := by omega
  have hc1 : c0 < 32 * 64 ^ (1 - 1) := by simp; omega
  have f1 : (192 : Int) ≤ b := by omega
  have f2 : (b : Int) < 224 := by omega
  have f3 : decide ((240 : Int) ≤ b) = false := decide_eq_false (by omega)
  have f4 : decide ((224 : Int) ≤ b) = false := decide_eq_false (by omega)
  clear hR hb hc0
  go_enter Tryd.func66, Tryd.ntmps66
  go_wp2
  go_loop [6, 8] (fun cc ii => ∃ (i c : Nat), 1 ≤ i ∧ i ≤ 2 ∧ Hid (c < 32 * 64 ^ (i - 1)) ∧ cc = .int .i64 c ∧ ii = .int .i64 i ∧ Hid (longF (2 - i) c (s.data.toList.drop (k + i)) = R)) (fun _ ii => 2 - (intOf ii).toNat)
  case atStart => exact ⟨1, c0, by omega, by omega, hc1, by first | rfl | (rw [hc0']), rfl, HR⟩
  case round =>
    obtain ⟨i, c, hi1, hi4, HC, rfl, rfl, HJ⟩ := hrel
    clear hix0 hc0' hc1
    by_cases hin : i < 2
    · have e := HJ.out
      obtain ⟨r, hr⟩ : ∃ r, 2 - i = r + 1 := ⟨2 - i - 1, by omega⟩
      have hr' : 2 - (i + 1) = r := by omega
      rw [hr] at e
      have hin' : (i : Int) < 2 := by omega
      by_cases hend : s.size ≤ k + i
      · rw [List.drop_of_length_le (by rw [HZ.out]; exact hend), longF] at e
        have HE : Hid (none = R) := e
        have hge : (s.size : Int) - k ≤ i := by omega
        have hge2 : decide ((s.size : Int) - k ≤ i) = true := decide_eq_true hge
        clear e HJ HR hr hr'
        go_wp2
        go_ret
        exact ⟨by rw [← HE.out]; rfl, rfl⟩
      · have hlt : k + i < s.size := by omega
        have hix := fun wx => str_index s (k + i) ((k : Int) + i) (by omega) hlt wx
        rw [drop_at _ (k + i) (by rw [HZ.out]; exact hlt), longF] at e
        have hv256 : (s.data.toList.getD (k + i) 0).toNat < 256 := (s.data.toList.getD (k + i) 0).toNat_lt
        generalize (s.data.toList.getD (k + i) 0).toNat = v at *
        have hv256' : (v : Int) < 256 := by omega
        have hge2 : decide ((s.size : Int) - k ≤ i) = false := decide_eq_false (by omega)
        by_cases hbad : v < 128 ∨ 191 < v
        · rw [if_pos hbad] at e
          have HE : Hid (none = R) := e
          have hcase : decide ((v : Int) < 128) = true ∨ (decide ((v : Int) < 128) = false ∧ decide ((191 : Int) < v) = true) := by
            simp only [decide_eq_true_eq, decide_eq_false_iff_not]; omega
          clear e HJ HR hr hr' hbad
          rcases hcase with g1 | ⟨g1, g2⟩
          all_goals
            go_wp2
            go_ret
            exact ⟨by rw [← HE.out]; rfl, rfl⟩
        · rw [if_neg hbad] at e
          obtain ⟨hb1, hb2⟩ := bound64 i c v hi1 (by omega) HC.out (by omega) (by omega)
          have HB : Hid (c * 64 + v - 128 < 32 * 64 ^ (i + 1 - 1)) := hb1
          obtain ⟨c2, hc2⟩ : ∃ c2, c * 64 + v - 128 = c2 := ⟨_, rfl⟩
          rw [hc2] at e
          have HE : Hid (longF r c2 (s.data.toList.drop (k + (i + 1))) = R) := e
          have HC2 : Hid ((c : Int) * 64 + v - 128 = (c2 : Int)) := by show _ = _; omega
          have HB2 : Hid (c2 < 32 * 64 ^ (i + 1 - 1)) := by rw [← hc2]; exact HB
          have g1 : decide ((v : Int) < 128) = false := decide_eq_false (by omega)
          have g2 : decide ((191 : Int) < v) = false := decide_eq_false (by omega)
          have HR' : Hid (2 - (i + 1) = r) := hr'
          clear e HJ HR hr hr' hbad hb1 hc2 HB HC
          go_wp2
          go_round
          case rel => exact ⟨i + 1, c2, by omega, by omega, HB2, by rw [HC2.out], by go_num, by rw [HR'.out]; exact HE⟩
          case measure => simp [intOf]; omega
    · have e := HJ.out
      have hin2 : i = 2 := by omega
      have HC1 := bound64e c 2 (by omega) (by have := HC.out; rw [hin2] at this; exact this)
      subst hin2
      rw [longF] at e
      have HE : Hid (some c = R) := e
      clear e HJ HR HC
      by_cases hbad : c < 128 ∨ 1114111 < c ∨ 55296 ≤ c ∧ c < 57344
      · have HF : Hid (longE 2 128 R = 0) := by show _ = _; rw [← HE.out, longE, if_pos hbad]
        have hcase : decide ((c : Int) < 128) = true ∨ (decide ((c : Int) < 128) = false ∧ decide ((1114111 : Int) < c) = true) ∨ (decide ((c : Int) < 128) = false ∧ decide ((1114111 : Int) < c) = false ∧ decide ((55296 : Int) ≤ c) = true ∧ decide ((c : Int) < 57344) = true) := by
          simp only [decide_eq_true_eq, decide_eq_false_iff_not]; omega
        clear hbad
        rcases hcase with g1 | ⟨g1, g2⟩ | ⟨g1, g2, g3, g4⟩
        all_goals
          go_wp2
          go_ret
          exact ⟨by rw [HF.out]; rfl, rfl⟩
      · have HF : Hid (longE 2 128 R = 2) := by show _ = _; rw [← HE.out, longE, if_neg hbad]
        have hcase : (decide ((c : Int) < 128) = false ∧ decide ((1114111 : Int) < c) = false ∧ decide ((55296 : Int) ≤ c) = false) ∨ (decide ((c : Int) < 128) = false ∧ decide ((1114111 : Int) < c) = false ∧ decide ((55296 : Int) ≤ c) = true ∧ decide ((c : Int) < 57344) = false) := by
          simp only [decide_eq_true_eq, decide_eq_false_iff_not]; omega
        clear hbad
        rcases hcase with ⟨g1, g2, g3⟩ | ⟨g1, g2, g3, g4⟩
        all_goals
          go_wp2
          go_ret
          exact ⟨by rw [HF.out]; rfl, rfl⟩
set_option maxRecDepth 100000 in
set_option maxHeartbeats 1600000 in
theorem Long_none (s : ByteArray) (k : Nat) (w : World) (hk : k < s.size) (hs : s.size ≤ 9223372036854775807) (h1 : 128 ≤ (s.data.toList.getD k 0).toNat) (h2 : (s.data.toList.getD k 0).toNat < 192 ∨ 248 ≤ (s.data.toList.getD k 0).toNat) :
    Calls Tryd.prog 66 #[.string s, .int .i64 k] w fun e w' => e = .returned (.int .i64 0) ∧ w = w' := by
  have hix0 := fun wx => str_index s k k rfl hk wx
  have hlt256 : (s.data.toList.getD k 0).toNat < 256 := (s.data.toList.getD k 0).toNat_lt
  generalize (s.data.toList.getD k 0).toNat = b at *
  have f0 : (128 : Int) ≤ b := by omega
  have hlt' : (b : Int) < 256 := by omega
  rcases h2 with h2 | h2
  · have f3 : decide ((240 : Int) ≤ b) = false := decide_eq_false (by omega)
    have f4 : decide ((224 : Int) ≤ b) = false := decide_eq_false (by omega)
    have f5 : decide ((192 : Int) ≤ b) = false := decide_eq_false (by omega)
    go_enter Tryd.func66, Tryd.ntmps66
    go_wp2
    go_ret
    exact ⟨rfl, rfl⟩
  · have f1 : (240 : Int) ≤ b := by omega
    have f2 : decide ((b : Int) < 248) = false := decide_eq_false (by omega)
    have f3 : (224 : Int) ≤ b := by omega
    have f4 : decide ((b : Int) < 240) = false := decide_eq_false (by omega)
    have f5 : (192 : Int) ≤ b := by omega
    have f6 : decide ((b : Int) < 224) = false := decide_eq_false (by omega)
    go_enter Tryd.func66, Tryd.ntmps66
    go_wp2
    go_ret
    exact ⟨rfl, rfl⟩
set_option maxRecDepth 100000 in
set_option maxHeartbeats 1600000 in
theorem Long_one (s : ByteArray) (k : Nat) (w : World) (hk : k < s.size) (hs : s.size ≤ 9223372036854775807) (h1 : (s.data.toList.getD k 0).toNat < 128) :
    Calls Tryd.prog 66 #[.string s, .int .i64 k] w fun e w' => e = .returned (.int .i64 1) ∧ w = w' := by
  have hix0 := fun wx => str_index s k k rfl hk wx
  generalize (s.data.toList.getD k 0).toNat = b at *
  have f0 : (b : Int) < 128 := by omega
  have f3 : decide ((240 : Int) ≤ b) = false := decide_eq_false (by omega)
  have f4 : decide ((224 : Int) ≤ b) = false := decide_eq_false (by omega)
  have f5 : decide ((192 : Int) ≤ b) = false := decide_eq_false (by omega)
  have f6 : decide ((128 : Int) ≤ b) = false := decide_eq_false (by omega)
  have f7 : decide ((b : Int) < 0) = false := decide_eq_false (by omega)
  have f8 : decide ((1114111 : Int) < b) = false := decide_eq_false (by omega)
  have f9 : decide ((55296 : Int) ≤ b) = false := decide_eq_false (by omega)
  go_enter Tryd.func66, Tryd.ntmps66
  go_wp2
  refine wp_loop_rounds 1 ?_
  rw [rounds_succ]
  go_wp2
  go_ret
  exact ⟨rfl, rfl⟩
theorem Long_any (s : ByteArray) (k : Nat) (w : World) (hk : k < s.size) (hs : s.size ≤ 9223372036854775807) :
    Calls Tryd.prog 66 #[.string s, .int .i64 k] w fun e w' => e = .returned (.int .i64 (longL (s.data.toList.drop k) : Nat)) ∧ w = w' := by
  have hz : s.data.toList.length = s.size := by rw [Array.length_toList]; rfl
  rw [drop_at _ k (by rw [hz]; exact hk), longL]
  have hlt256 : (s.data.toList.getD k 0).toNat < 256 := (s.data.toList.getD k 0).toNat_lt
  by_cases c4 : 240 ≤ (s.data.toList.getD k 0).toNat ∧ (s.data.toList.getD k 0).toNat < 248
  · rw [if_pos c4]; exact Long_four s k w hk hs c4.1 c4.2
  · rw [if_neg c4]
    by_cases c3 : 224 ≤ (s.data.toList.getD k 0).toNat ∧ (s.data.toList.getD k 0).toNat < 240
    · rw [if_pos c3]; exact Long_three s k w hk hs c3.1 c3.2
    · rw [if_neg c3]
      by_cases c2 : 192 ≤ (s.data.toList.getD k 0).toNat ∧ (s.data.toList.getD k 0).toNat < 224
      · rw [if_pos c2]; exact Long_two s k w hk hs c2.1 c2.2
      · rw [if_neg c2]
        by_cases c1 : 128 ≤ (s.data.toList.getD k 0).toNat
        · rw [if_pos c1]; exact Long_none s k w hk hs c1 (by omega)
        · rw [if_neg c1]; exact Long_one s k w hk hs (by omega)
end Go.Proofs.YtekopdfnblfldaaDoor
/- vidimusref01.IsName over the translated program: it tells something. -/
namespace Go.Proofs.YtekopdfnblfldaaDoor
open Go.RowKit
theorem longL_le (l : List UInt8) : longL l ≤ 4 := by
  have he : ∀ n least (R : Option Nat), longE n least R ≤ n := by
    intro n least R
    cases R with
    | none => exact Nat.zero_le _
    | some c => rw [longE]; split <;> omega
  cases l with
  | nil => simp [longL]
  | cons b t =>
    rw [longL]
    split
    · exact he _ _ _
    · split
      · exact Nat.le_trans (he _ _ _) (by omega)
      · split
        · exact Nat.le_trans (he _ _ _) (by omega)
        · split <;> omega
/-- A call that tells yes or no, and leaves all as it was. -/
def RetQ (w0 : World) (e : Ending) (w' : World) : Prop := ∃ b, e = .returned (.bool b) ∧ w0 = w'
theorem longF_len (r c : Nat) (t : List UInt8) (x : Nat) (h : longF r c t = some x) : r ≤ t.length := by
  induction r generalizing c t with
  | zero => exact Nat.zero_le _
  | succ r ih =>
    cases t with
    | nil => simp [longF] at h
    | cons b t =>
      rw [longF] at h
      split at h
      · cases h
      · have := ih _ _ h
        simp; omega
theorem longE_len (n least r c : Nat) (t : List UInt8) (hn : n = r + 1) : longE n least (longF r c t) ≤ t.length + 1 := by
  cases hx : longF r c t with
  | none => simp [longE]
  | some x =>
    have := longF_len r c t x hx
    rw [longE]; split <;> omega
theorem longL_len (l : List UInt8) : longL l ≤ l.length := by
  cases l with
  | nil => simp [longL]
  | cons b t =>
    rw [longL, List.length_cons]
    split
    · exact longE_len _ _ _ _ _ rfl
    · split
      · exact longE_len _ _ _ _ _ rfl
      · split
        · exact longE_len _ _ _ _ _ rfl
        · split <;> omega
set_option maxRecDepth 100000 in
set_option maxHeartbeats 1600000 in
theorem IsName_any (s : ByteArray) (w : World) (hs : s.size ≤ 9223372036854775807) :
    Calls Tryd.prog 61 #[.string s] w (RetQ w) := by
  go_enter Tryd.func61, Tryd.ntmps61
  go_wp2
  go_loop [3, 4] (fun mm ii => ∃ (i m : Nat), mm = .int .i64 m ∧ ii = .int .i64 i ∧ m ≤ i ∧ i ≤ s.size) (fun _ ii => s.size - (intOf ii).toNat)
  case atStart => exact ⟨0, 0, rfl, rfl, by omega, by omega⟩
  case round =>
    obtain ⟨i, m, rfl, rfl, hmi, hi4⟩ := hrel
    by_cases hlt : i < s.size
    · have cL := Long_any s i w hlt (by omega)
      have hix := fun wx => str_index s i i rfl hlt wx
      have hL4 := longL_len (s.data.toList.drop i)
      rw [List.length_drop, show s.data.toList.length = s.size by rw [Array.length_toList]; rfl] at hL4
      have hlt' : (i : Int) < s.size := by omega
      generalize longL (s.data.toList.drop i) = L at *
      generalize (s.data.toList.getD i 0).toNat = v at *
      by_cases hbad : L = 0 ∨ v < 32 ∨ v = 127
      · have hcase : ((L : Int) == 0) = true ∨ (((L : Int) == 0) = false ∧ decide ((v : Int) < 32) = true) ∨ (((L : Int) == 0) = false ∧ decide ((v : Int) < 32) = false ∧ ((v : Int) == 127) = true) := by
          simp only [beq_iff_eq, beq_eq_false_iff_ne, decide_eq_true_eq, decide_eq_false_iff_not, ne_eq]; omega
        clear hbad
        rcases hcase with g1 | ⟨g1, g2⟩ | ⟨g1, g2, g3⟩
        all_goals
          go_wp2_with (go_at_call 66; refine cL.mono ?_; rintro e w' ⟨rfl, rfl⟩)
          go_ret
          exact ⟨_, rfl, rfl⟩
      · have g1 : ((L : Int) == 0) = false := by rw [beq_eq_false_iff_ne]; omega
        have g2 : decide ((v : Int) < 32) = false := decide_eq_false (by omega)
        have g3 : ((v : Int) == 127) = false := by rw [beq_eq_false_iff_ne]; omega
        have hL1 : 1 ≤ L := by omega
        clear hbad
        go_wp2_with (go_at_call 66; refine cL.mono ?_; rintro e w' ⟨rfl, rfl⟩)
        go_round
        case rel => exact ⟨i + L, m + 1, by go_num, by go_num, by omega, by omega⟩
        case measure => simp [intOf]; omega
    · by_cases h1 : 1 ≤ m
      · have h1' : (1 : Int) ≤ m := by omega
        by_cases h40 : m ≤ 40
        · have h40' : (m : Int) ≤ 40 := by omega
          go_wp2
          go_ret
          exact ⟨_, rfl, rfl⟩
        · have h40' : decide ((m : Int) ≤ 40) = false := decide_eq_false (by omega)
          go_wp2
          go_ret
          exact ⟨_, rfl, rfl⟩
      · obtain rfl : m = 0 := by omega
        clear h1
        go_wp2
        go_ret
        exact ⟨_, rfl, rfl⟩
end Go.Proofs.YtekopdfnblfldaaDoor
