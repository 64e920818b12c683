/-
  cnf.ParseModel over the translated program.
  Plain facts on the figures of a number: they are read back as that number, with anything but a figure behind, and with a nought in the first one's place they are none, if there are more. No program, no conditions.
-/
import Derived.Test.YtahedhpffjgimaaDoorProg
import Derived.WalkKit
import Derived.WalkSpells
import Derived.WalkLawsBesides
import Derived.Lib.Hide
import Derived.BigQuiet
import Derived.Deep.QuietTactic
import Derived.Deep.RegionWith
import Derived.Deep.RegionHeld3
import Derived.Test.YtahedhpffjgimaaDoorQ05
import Derived.Test.YtahedhpffjgimaaDoorQ01
set_option linter.unusedVariables false
/- cnf.ParseModel over the translated program. -/
namespace Go.Proofs.YtahedhpffjgimaaDoor
open Go.RowKit
theorem bool_info : (Tryd.prog.info? 4).map (fun i => (i.zero, i.size, i.bytes)) = some (some (.bool false), 1, 1) := by kernel_rfl
/-- A row of flags that a call made for itself. -/
def OwnB (w : World) (base : Nat) (v : Value) (l : List Bool) : Prop := w.ownsRow base 4 1 v l.length (l.map Value.bool)
theorem OwnB.nil (w : World) (base : Nat) : OwnB w base (.slice none 0 0) [] := World.ownsRow_nil _ _ _ _
theorem OwnB.val {w : World} {base : Nat} {v : Value} {l : List Bool} (h : OwnB w base v l) : ∃ (A : Option Addr) (c : Nat), v = .slice A l.length c ∧ RB w w.heap.size A l ∧ (A = none → c = 0) := by
  rcases h.2 with ⟨rfl, h0⟩ | ⟨g, cap, cur, rfl, hg, hh, h1, h2, h3, h4⟩
  · have : l = [] := List.eq_nil_of_length_eq_zero h0
    subst this
    exact ⟨none, 0, rfl, fun i hi => absurd hi (by simp), fun _ => rfl⟩
  · refine ⟨_, cap, rfl, fun i hi => ⟨_, rfl, (World.ownsRow.lt h g rfl).2, ?_⟩, fun e => by cases e⟩
    rw [add_loc, World.ownsRow.cellAt h i (by omega)]
    simp [List.getD_eq_getElem?_getD, hi]
theorem OwnB.old {w w' : World} {base : Nat} {v : Value} {l : List Bool} (h : OwnB w base v l) (hb : Below w.heap.size w w') : OwnB w' base v l := by
  refine World.ownsRow.kept h (row := none) ?_ ?_
  · exact ⟨hb.os, hb.tape, hb.output, hb.size, fun k hk _ => hb.block k hk⟩
  · cases hv : v.ownBlock with
    | none => exact .inl rfl
    | some k => exact .inr (by simp)
/-- 'append(s, b)'. -/
theorem wpB1 {z w : World} {ops : Array Oper} {rest : List Oper} {o : Oper} {a : Act} {Q : Exit → Act → World → Prop} (hgd : o.guard = none) (s x : Operand)
    (ho : o.op = .call { callee := .builtin .append, args := #[s, x], argTypes := #[25, 25] })
    (v : Value) (l : List Bool) (hs : a.eval s = v) (hown : OwnB w z.heap.size v l) (y : Bool) (hx : a.eval x = .slice (some ⟨w.heap.size, 0, none⟩) 1 1) (hb : Below z.heap.size z w)
    (hsz : l.length ≤ 3000000000)
    (h : ∀ v' w', OwnB w' z.heap.size v' (l ++ [y]) → Below z.heap.size z w' → wpList Tryd.prog ops Q rest (a.put o.dst v') w') : wpList Tryd.prog ops Q (o :: rest) a (w.alloc (.cells #[.bool y] 4)) := by
  obtain ⟨i0, hi0, hz0, hz1, hz2⟩ := info_parts bool_info
  have hbs := hb.size
  refine wpList_append_own _ hgd s x 25 ho z.heap.size 4 i0 (.bool false) 1 1 Tryd.underlying25 hi0 hz0 hz1 hz2 rfl (by omega) v l.length (l.map Value.bool) hs (World.ownsRow.alloc hown _) ⟨w.heap.size, 0, none⟩ 1 1 [.bool y] hx rfl (cell_one_new _ _ _) ?_ (by unfold maxLen; omega) (by omega) (by simp; omega) ?_
  · intro u hu; simp at hu; subst hu; rfl
  · intro v' w' hown' hg _
    refine h v' w' ?_ ((hb.alloc hbs _).grown hg (by simp; omega) (fun k hk => ((World.ownsRow.lt hown) k hk).1))
    unfold OwnB
    simpa using hown'
/-- The value of variable v at the head of t: the value, how far, what is wrong. -/
def rdVal (t : List UInt8) (v : Nat) : Bool × Nat × Int :=
  if bS (t.drop (if bS t [45] then 1 else 0)) (litS v) then (!bS t [45], (if bS t [45] then 1 else 0) + (litS v).length, 0) else (!bS t [45], (if bS t [45] then 1 else 0), 2)
def rdVals : Nat → Nat → List UInt8 → List Bool → List Bool × Nat × Int
  | 0, _, _, m => (m, 0, 0)
  | r + 1, v, t, m => if (rdVal t v).2.2 ≠ 0 then ([], (rdVal t v).2.1, 2)
    else ((rdVals r (v + 1) (t.drop (rdVal t v).2.1) (m ++ [(rdVal t v).1])).1, (rdVal t v).2.1 + (rdVals r (v + 1) (t.drop (rdVal t v).2.1) (m ++ [(rdVal t v).1])).2.1, (rdVals r (v + 1) (t.drop (rdVal t v).2.1) (m ++ [(rdVal t v).1])).2.2)
def parseM (l : List UInt8) (n : Nat) : List Bool × Nat × Int :=
  if bS l [118, 32] = false then ([], 0, 2)
  else if (rdVals n 1 (l.drop 2) []).2.2 ≠ 0 then ([], 2 + (rdVals n 1 (l.drop 2) []).2.1, 2)
  else if bS (l.drop (2 + (rdVals n 1 (l.drop 2) []).2.1)) [48, 10] = false then ([], 2 + (rdVals n 1 (l.drop 2) []).2.1, 2)
  else if 2 + (rdVals n 1 (l.drop 2) []).2.1 + 2 < l.length then ([], 2 + (rdVals n 1 (l.drop 2) []).2.1 + 2, 2)
  else ((rdVals n 1 (l.drop 2) []).1, 2 + (rdVals n 1 (l.drop 2) []).2.1 + 2, 0)
theorem rdVal_len (t : List UInt8) (v : Nat) : (rdVal t v).2.1 ≤ t.length := by
  unfold rdVal
  cases h1 : bS t [45]
  · simp only [Bool.false_eq_true, if_false, List.drop_zero]
    split
    · rename_i h2; have := bS_len h2; simp only; omega
    · simp
  · have h3 := bS_len h1
    simp only [List.length_cons, List.length_nil] at h3
    simp only [if_true]
    split
    · rename_i h2; have := bS_len h2; simp only [List.length_drop] at this; simp only; omega
    · simp only; omega
/-- What a call tells that reads a value. -/
def resV (k : Nat) (r : Bool × Nat × Int) : Value := .tuple #[.bool r.1, .int .i64 ((k + r.2.1 : Nat) : Int), .int .i64 r.2.2]
set_option maxHeartbeats 1000000 in
theorem readValue_any (A : Option Addr) (c k v : Nat) (l : List UInt8) (w : World) (h : Rd w w.heap.size A l) (hk : k ≤ l.length) (hn : l.length ≤ c) (hc : c ≤ maxLen) (hv : v ≤ 1000000) (hP : Pow w.heap.size w) :
    Calls Tryd.prog 61 #[.slice A l.length c, .int .i64 k, .int .i64 v] w (RetV w (resV k (rdVal (l.drop k) v))) := by
  have c1 := Is_any A c k l ⟨#[45]⟩ w.heap.size w h hk hn hc (by decide)
  unfold isN at c1
  have eb : isB l k ⟨#[45]⟩ = bS (l.drop k) [45] := isB_bS l k ⟨#[45]⟩
  rw [eb] at c1
  have CI := Itoa_any v (by omega) (by omega) w.heap.size w hP
  have hil := Lib.itoa_length_le (v : Int) (by omega) (by omega)
  obtain ⟨sv, hsv⟩ : ∃ s : ByteArray, s = ⟨(Lib.itoa (v : Int)).toArray⟩ := ⟨_, rfl⟩
  have hz : sv.size ≤ 21 := by rw [hsv]; show (Lib.itoa (v : Int)).toArray.size ≤ _; rw [List.size_toArray]; exact hil
  have hd : (sv ++ ⟨#[32]⟩ : ByteArray).data.toList = litS v := by rw [hsv]; simp [litS]
  have hds : (sv ++ ⟨#[32]⟩ : ByteArray).size = (litS v).length := by rw [← hd, Array.length_toList]; rfl
  rw [← hsv] at CI
  have hz2 : (sv ++ ⟨#[32]⟩ : ByteArray).size ≤ maxLen := by rw [ByteArray.size_append, show (⟨#[32]⟩ : ByteArray).size = 1 from rfl]; unfold maxLen; omega
  have H2 : ∀ (J : Nat), J ≤ l.length → ∀ wx, Below w.heap.size w wx → Calls Tryd.prog 60 #[.slice A l.length c, .int .i64 (J : Int), .string (sv ++ ⟨#[32]⟩)] wx (RetS wx (.tuple #[.int .i64 ((behS l J (sv ++ ⟨#[32]⟩) : Nat) : Int), .int .i64 (behE l J (sv ++ ⟨#[32]⟩))])) := by
    intro J hJ wx hx
    exact behind_any A c J l (sv ++ ⟨#[32]⟩) w.heap.size wx (h.below hx) hJ hn hc hz2
  have H2 := Lib.hid H2
  have z1 : ¬ 9223372036854775807 < sv.size + 1 := by omega
  unfold rdVal
  have HV : Hid (∀ J b, resV k (if bS (l.drop J) (litS v) = true then (!b, J - k + (litS v).length, 0) else (!b, J - k, 2)) = .tuple #[.bool (!b), .int .i64 ((k + (if bS (l.drop J) (litS v) = true then J - k + (litS v).length else J - k) : Nat) : Int), .int .i64 (if bS (l.drop J) (litS v) = true then 0 else 2)]) := by
    intro J b; split <;> rfl
  cases h1 : bS (l.drop k) [45]
  · rw [h1] at c1
    simp only [Bool.false_eq_true, if_false, List.drop_zero, Nat.zero_add, Bool.not_false] at c1 ⊢
    have C2 := H2.out k hk
    have hv1 := HV.out k false
    rw [Nat.sub_self, Nat.zero_add, Bool.not_false] at hv1
    rw [hv1]
    unfold behS behE at C2
    rw [isB_bS, hd, hds] at C2
    have e9 : (if bS (l.drop k) (litS v) = true then k + (litS v).length else k) = k + (if bS (l.drop k) (litS v) = true then (litS v).length else 0) := by split <;> rfl
    rw [e9] at C2
    generalize k + (if bS (l.drop k) (litS v) = true then (litS v).length else 0) = K at *
    generalize (if bS (l.drop k) (litS v) = true then (0 : Int) else 2) = E at *
    have HC2 := Lib.hid C2
    clear C2 H2 HV hv1 e9 h1 h hP hd hds hsv hil eb hz2
    go_enter Tryd.func61, Tryd.ntmps61
    go_wp2_with fail
    refine c1.mono ?_; rintro e w' ⟨rfl, rfl⟩
    clear c1
    go_wp2_with fail
    refine CI.mono ?_; rintro e w1 ⟨rfl, hb1⟩
    have C2 := HC2.out w1 hb1
    clear CI HC2
    go_wp2_with fail
    refine C2.mono ?_; rintro e w' ⟨rfl, rfl⟩
    go_wp2
    go_ret3
    exact ⟨rfl, hb1⟩
  · have hk1 : k + 1 ≤ l.length := by have := bS_len h1; simp only [List.length_drop, List.length_cons, List.length_nil] at this; omega
    rw [h1] at c1
    simp only [if_true, Bool.not_true, List.drop_drop] at c1 ⊢
    have C2 := H2.out (k + 1) hk1
    have hv1 := HV.out (k + 1) true
    rw [show k + 1 - k = 1 by omega, Bool.not_true] at hv1
    rw [hv1]
    unfold behS behE at C2
    rw [isB_bS, hd, hds] at C2
    have e9 : (if bS (l.drop (k + 1)) (litS v) = true then k + 1 + (litS v).length else k + 1) = k + (if bS (l.drop (k + 1)) (litS v) = true then 1 + (litS v).length else 1) := by split <;> omega
    rw [e9] at C2
    have ek : (k : Int) + ((⟨#[45]⟩ : ByteArray).size : Int) = ((k + 1 : Nat) : Int) := by have : (⟨#[45]⟩ : ByteArray).size = 1 := rfl; omega
    rw [ek] at c1
    generalize k + (if bS (l.drop (k + 1)) (litS v) = true then 1 + (litS v).length else 1) = K at *
    generalize (if bS (l.drop (k + 1)) (litS v) = true then (0 : Int) else 2) = E at *
    generalize k + 1 = k' at *
    have HC2 := Lib.hid C2
    clear C2 H2 HV hv1 e9 h1 h hP hd hds hsv hil eb ek hz2
    go_enter Tryd.func61, Tryd.ntmps61
    go_wp2_with fail
    refine c1.mono ?_; rintro e w' ⟨rfl, rfl⟩
    clear c1
    go_wp2_with fail
    refine CI.mono ?_; rintro e w1 ⟨rfl, hb1⟩
    have C2 := HC2.out w1 hb1
    clear CI HC2
    go_wp2_with fail
    refine C2.mono ?_; rintro e w' ⟨rfl, rfl⟩
    go_wp2
    go_ret3
    exact ⟨rfl, hb1⟩
/-- What a call tells that parses a model. -/
def RetM (w0 : World) (m : List Bool) (K : Nat) (E : Int) (e : Ending) (w' : World) : Prop :=
  ∃ A c, e = .returned (.tuple #[.slice A m.length c, .int .i64 ((K : Nat) : Int), .int .i64 E]) ∧ RB w' w'.heap.size A m ∧ (A = none → c = 0) ∧ Below w0.heap.size w0 w'
set_option maxHeartbeats 400000 in
theorem WrongM_any (k : Int) (w : World) : Calls Tryd.prog 59 #[.int .i64 k] w (RetS w (.tuple #[.slice none 0 0, .int .i64 k, .int .i64 2])) := by
  go_enter Tryd.func59, Tryd.ntmps59
  go_wp2
  go_ret3
  exact ⟨rfl, rfl⟩
theorem RetM.no {w0 w' : World} {K : Nat} (h : Below w0.heap.size w0 w') : RetM w0 [] K 2 (.returned (.tuple #[.slice none 0 0, .int .i64 ((K : Nat) : Int), .int .i64 2])) w' := ⟨none, 0, rfl, fun i hi => absurd hi (by simp), fun _ => rfl, h⟩
set_option maxHeartbeats 3200000 in
set_option maxRecDepth 100000 in
theorem ParseModel_any (A : Option Addr) (c n : Nat) (l : List UInt8) (w : World) (h : Rd w w.heap.size A l) (hn : l.length ≤ c) (hc : c ≤ maxLen) (hN : n ≤ 100000) (hP : Pow w.heap.size w) :
    Calls Tryd.prog 33 #[.slice A l.length c, .int .i64 n] w (RetM w (parseM l n).1 (parseM l n).2.1 (parseM l n).2.2) := by
  have hc' := hc
  unfold maxLen at hc'
  have hn0 : decide ((n : Int) < 0) = false := decide_eq_false (by omega)
  have c1y := behind_yes A c 0 l ⟨#[118, 32]⟩ w.heap.size w h (by omega) hn hc
  have c1n := behind_no A c 0 l ⟨#[118, 32]⟩ w.heap.size w h (by omega) hn hc (by decide)
  rw [isB_bS, List.drop_zero] at c1y c1n
  have HH := Lib.hid h
  have HC := Lib.hid hc
  have HP := Lib.hid hP
  clear h hc hP
  obtain ⟨M, K, E, hM⟩ : ∃ M K E, parseM l n = (M, K, E) := ⟨_, _, _, rfl⟩
  rw [hM]
  have HM := Lib.hid hM
  clear hM
  simp only
  cases h1 : bS l [118, 32]
  · have C1 := c1n h1
    have hE : ([], 0, 2) = (M, K, E) := by rw [← HM.out]; unfold parseM; rw [if_pos h1]
    simp only [Prod.mk.injEq] at hE
    obtain ⟨rfl, rfl, rfl⟩ := hE
    have C2 := WrongM_any 0 w
    clear c1y c1n h1 HM
    go_enter Tryd.func33, Tryd.ntmps33
    go_wp2_with fail
    refine C1.mono ?_; rintro e w' ⟨rfl, rfl⟩
    go_wp2_with fail
    refine C2.mono ?_; rintro e w' ⟨rfl, rfl⟩
    go_wp2
    go_ret3
    exact RetM.no (K := 0) (Below.refl _ _)
  · have C1 : Calls Tryd.prog 60 #[.slice A l.length c, .int .i64 0, .string ⟨#[118, 32]⟩] w (RetS w (.tuple #[.int .i64 2, .int .i64 0])) := c1y h1
    have hl2 : 2 ≤ l.length := bS_len h1
    have hx := HM.out
    unfold parseM at hx
    rw [if_neg (by simp [h1])] at hx
    obtain ⟨R, a, F, hr⟩ : ∃ R a F, rdVals n 1 (l.drop 2) [] = (R, a, F) := ⟨_, _, _, rfl⟩
    rw [hr] at hx
    simp only at hx
    have HX := Lib.hid hx
    have HS : Hid (∃ b, rdVals (n - 0) (0 + 1) (l.drop 2) [] = (R, b, F) ∧ 2 + b = 2 + a) := ⟨a, hr, rfl⟩
    generalize 2 + a = k2 at *
    clear c1y c1n h1 HM hx hr
    go_enter Tryd.func33, Tryd.ntmps33
    go_wp2_with fail
    refine C1.mono ?_; rintro e w' ⟨rfl, rfl⟩
    clear C1
    go_wp2
    go_loopw [8, 10, 11] (fun p v i wr => ∃ (I j : Nat) (o : List Bool), I ≤ n ∧ j ≤ l.length ∧ o.length = I ∧ p = .int .i64 j ∧ i = .int .i64 (((I + 1 : Nat) : Nat) : Int) ∧ OwnB wr w.heap.size v o ∧ Below w.heap.size w wr ∧ Hid (∃ b, rdVals (n - I) (I + 1) (l.drop j) o = (R, b, F) ∧ j + b = k2)) (fun _ _ i _ => n + 1 - (intOf i).toNat)
    case atStart => exact ⟨0, 2, [], Nat.zero_le _, hl2, rfl, rfl, rfl, OwnB.nil _ _, Below.refl _ _, HS⟩
    case round =>
      obtain ⟨I, j, o, hI, hj, ho, rfl, rfl, hown, hB, HJ⟩ := hrel
      clear HS
      subst ho
      obtain ⟨Ao, co, rfl, _⟩ := hown.val
      by_cases hlt : o.length < n
      · have c1 := readValue_any A c j (o.length + 1) l wr ((HH.out.below hB).mono hB.size) hj hn HC.out (by omega) (HP.out.nx hB)
        have hlen := rdVal_len (l.drop j) (o.length + 1)
        rw [List.length_drop] at hlen
        have hm := HJ.out
        rw [show n - o.length = (n - (o.length + 1)) + 1 by omega, rdVals] at hm
        simp only [List.drop_drop] at hm
        obtain ⟨⟨b, m, e⟩, hr⟩ : ∃ r, rdVal (l.drop j) (o.length + 1) = r := ⟨_, rfl⟩
        rw [hr] at c1 hlen hm
        have hee : e = 0 ∨ e = 2 := by
          have h5 := congrArg (fun r => r.2.2) hr
          simp only at h5
          rw [← h5]; unfold rdVal; split <;> (split <;> first | exact .inl rfl | exact .inr rfl)
        clear hr HJ
        unfold resV at c1
        simp only at c1 hlen hm
        obtain ⟨J, hJ⟩ : ∃ J, j + m = J := ⟨_, rfl⟩
        rw [hJ] at c1 hm
        have hJl : J ≤ l.length := by omega
        have hle : ((o.length + 1 : Nat) : Int) ≤ (n : Int) := by omega
        have HB := Lib.hid hB
        have HO := Lib.hid hown
        have hol : o.length ≤ 3000000000 := by omega
        have hnx : ((o.length + 1 : Nat) : Int) + 1 = ((o.length + 1 + 1 : Nat) : Int) := by omega
        clear hB hown
        rcases hee with rfl | rfl
        · rw [if_neg (by simp)] at hm
          have HE : Hid (∃ b', rdVals (n - (o.length + 1)) (o.length + 1 + 1) (l.drop J) (o ++ [b]) = (R, b', F) ∧ J + b' = k2) := by
            obtain ⟨m0, h1, h2⟩ := hm
            simp only [Prod.mk.injEq] at h1
            obtain ⟨rfl, rfl, rfl⟩ := h1
            exact ⟨(rdVals (n - (o.length + 1)) (o.length + 1 + 1) (l.drop J) (o ++ [b])).2.1, rfl, by omega⟩
          clear hm HX hnx
          go_wp2_with fail
          refine c1.mono ?_; rintro e w1 ⟨rfl, hb1⟩
          have hO1 := HO.out.old hb1
          have hB1 := bnx HB.out hb1
          clear c1 HO HB hb1
          go_wp2_with (first
            | (at_builtin; refine wpB1 rfl (.tmp 52) (.tmp 54) rfl _ o rfl hO1 b rfl hB1 hol ?_))
          intro v' w2 ho2 hb2
          have HO2 := Lib.hid ho2
          have HB2 := Lib.hid hb2
          clear hO1 hB1 ho2 hb2
          go_wp2
          go_roundw
          case rel => exact ⟨o.length + 1, J, o ++ [b], by omega, hJl, by simp, rfl, by go_num, HO2.out, HB2.out, HE⟩
          case measure => simp [intOf]; omega
        · rw [if_pos (by simp)] at hm
          have HE : Hid (M = [] ∧ K = J ∧ E = 2) := by
            obtain ⟨m0, h1, h2⟩ := hm
            simp only [Prod.mk.injEq] at h1
            obtain ⟨rfl, rfl, rfl⟩ := h1
            have h5 := HX.out
            rw [if_pos (by simp)] at h5
            simp only [Prod.mk.injEq] at h5
            obtain ⟨rfl, rfl, rfl⟩ := h5
            exact ⟨rfl, by omega, rfl⟩
          clear hm HX hJ hnx
          go_wp2_with fail
          refine c1.mono ?_; rintro e w1 ⟨rfl, hb1⟩
          have hB1 := bnx HB.out hb1
          have C2 := WrongM_any (J : Int) w1
          clear c1 HO HB hb1
          go_wp2_with fail
          refine C2.mono ?_; rintro e w' ⟨rfl, rfl⟩
          go_wp2
          go_ret3
          obtain ⟨rfl, rfl, rfl⟩ := HE.out
          exact RetM.no hB1
      · obtain rfl : o.length = n := by omega
        have hm := HJ.out
        rw [Nat.sub_self, rdVals] at hm
        have hm2 : R = o ∧ F = 0 ∧ j = k2 := by
          obtain ⟨m0, h1, h2⟩ := hm
          simp only [Prod.mk.injEq] at h1
          obtain ⟨rfl, rfl, rfl⟩ := h1
          exact ⟨rfl, rfl, by omega⟩
        obtain ⟨rfl, rfl, rfl⟩ := hm2
        have hx := HX.out
        rw [if_neg (by simp)] at hx
        have hle : ¬ ((R.length + 1 : Nat) : Int) ≤ (R.length : Int) := by omega
        have c2y := behind_yes A c j l ⟨#[48, 10]⟩ w.heap.size wr (HH.out.below hB) hj hn HC.out
        have c2n := behind_no A c j l ⟨#[48, 10]⟩ w.heap.size wr (HH.out.below hB) hj hn HC.out (by decide)
        rw [isB_bS] at c2y c2n
        have HB := Lib.hid hB
        have HO := Lib.hid hown
        clear hm HJ HX hB hown
        cases h3 : bS (l.drop j) [48, 10]
        · have C2 := c2n h3
          rw [if_pos h3] at hx
          have HE := Lib.hid hx
          have C3 := WrongM_any (j : Int) wr
          clear hx c2y c2n h3
          go_wp2_with fail
          refine C2.mono ?_; rintro e w' ⟨rfl, rfl⟩
          go_wp2_with fail
          refine C3.mono ?_; rintro e w' ⟨rfl, rfl⟩
          go_wp2
          go_ret3
          have h5 := HE.out
          simp only [Prod.mk.injEq] at h5
          obtain ⟨rfl, rfl, rfl⟩ := h5
          exact RetM.no HB.out
        · have C2 := c2y h3
          have hk2 : j + 2 ≤ l.length := by have := bS_len h3; simp only [List.length_drop, List.length_cons, List.length_nil] at this; omega
          rw [if_neg (by simp [h3])] at hx
          have ez : j + (⟨#[48, 10]⟩ : ByteArray).size = j + 2 := rfl
          rw [ez] at C2
          obtain ⟨J, hJ⟩ : ∃ J, j + 2 = J := ⟨_, rfl⟩
          rw [hJ] at C2 hx hk2
          clear c2y c2n h3 ez hJ
          by_cases h4 : J < l.length
          · rw [if_pos h4] at hx
            have HE := Lib.hid hx
            have C3 := WrongM_any (J : Int) wr
            clear hx
            go_wp2_with fail
            refine C2.mono ?_; rintro e w' ⟨rfl, rfl⟩
            go_wp2_with fail
            refine C3.mono ?_; rintro e w' ⟨rfl, rfl⟩
            go_wp2
            go_ret3
            have h5 := HE.out
            simp only [Prod.mk.injEq] at h5
            obtain ⟨rfl, rfl, rfl⟩ := h5
            exact RetM.no HB.out
          · rw [if_neg h4] at hx
            have HE := Lib.hid hx
            have d4 : decide ((J : Int) < (l.length : Int)) = false := decide_eq_false (by omega)
            have d5 : decide (J < l.length) = false := decide_eq_false (by omega)
            clear hx
            go_wp2_with fail
            refine C2.mono ?_; rintro e w' ⟨rfl, rfl⟩
            go_wp2
            go_ret3
            have h5 := HE.out
            simp only [Prod.mk.injEq] at h5
            obtain ⟨rfl, rfl, rfl⟩ := h5
            obtain ⟨A9, c9, hv9, hr9, ha9⟩ := HO.out.val
            injection hv9 with e1 e2 e3
            subst e1 e3
            exact ⟨_, _, rfl, hr9, ha9, HB.out⟩
end Go.Proofs.YtahedhpffjgimaaDoor
/- Plain facts on the figures of a number: they are read back as that number, with anything but a figure behind, and with a nought in the first one's place they are none, if there are more. No program, no conditions. -/
namespace Go.Proofs.YtahedhpffjgimaaDoor

/-- A number's figures. -/
def figs (n : Nat) : List UInt8 := if h : 9 < n then figs (n / 10) ++ [UInt8.ofNat (48 + n % 10)] else [UInt8.ofNat (48 + n)]
termination_by n
decreasing_by omega
theorem figs_more (n : Nat) (h : 9 < n) : figs n = figs (n / 10) ++ [UInt8.ofNat (48 + n % 10)] := by rw [figs, dif_pos h]
theorem figs_last (n : Nat) (h : ¬ 9 < n) : figs n = [UInt8.ofNat (48 + n)] := by rw [figs, dif_neg h]
theorem fig_nat (k : Nat) (h : k ≤ 9) : (UInt8.ofNat (48 + k)).toNat = 48 + k := by rw [UInt8.toNat_ofNat']; omega

def val : Int → List UInt8 → Int
  | n, [] => n
  | n, c :: t => val (n * 10 + ((c.toNat : Int) - 48)) t
theorem val_snoc : ∀ (l : List UInt8) (n : Int) (c : UInt8), val n (l ++ [c]) = val n l * 10 + ((c.toNat : Int) - 48)
  | [], n, c => rfl
  | d :: l, n, c => by show val _ (l ++ [c]) = _; rw [val_snoc l]; rfl
def Digits (l : List UInt8) : Prop := ∀ c ∈ l, 48 ≤ c.toNat ∧ c.toNat ≤ 57
theorem val_ge : ∀ (l : List UInt8) (n : Int), 0 ≤ n → Digits l → n ≤ val n l
  | [], n, _, _ => Int.le_refl _
  | c :: l, n, h, hd => by
    have h0 := hd c (by simp)
    have := val_ge l (n * 10 + ((c.toNat : Int) - 48)) (by omega) (fun d hd' => hd d (by simp [hd']))
    show n ≤ val _ l
    omega
theorem vf_val : ∀ (l : List UInt8) (n : Int), 0 ≤ n → n ≤ 2147483647 → Digits l → vf n l = val n l ∨ (2147483647 < vf n l ∧ 2147483647 < val n l)
  | [], n, _, _, _ => .inl rfl
  | c :: l, n, h, h2, hd => by
    have h0 := hd c (by simp)
    have hd' : Digits l := fun d hd' => hd d (by simp [hd'])
    unfold vf
    by_cases hb : 2147483647 < n * 10 + ((c.toNat : Int) - 48)
    · rw [if_pos hb]
      have := val_ge l (n * 10 + ((c.toNat : Int) - 48)) (by omega) hd'
      exact .inr ⟨hb, by show _ < val _ l; omega⟩
    · rw [if_neg hb]
      exact vf_val l _ (by omega) (by omega) hd'
theorem figs_digits : ∀ (f n : Nat), n ≤ f → Digits (figs n) := by
  intro f
  induction f with
  | zero => intro n h c hc; rw [figs_last n (by omega)] at hc; rw [List.mem_singleton.1 hc, fig_nat n (by omega)]; omega
  | succ f ih =>
    intro n h c hc
    by_cases h9 : 9 < n
    · rw [figs_more n h9] at hc
      simp only [List.mem_append, List.mem_singleton] at hc
      rcases hc with hc | rfl
      · exact ih (n / 10) (by omega) c hc
      · have := fig_nat (n % 10) (by omega); omega
    · rw [figs_last n h9] at hc; rw [List.mem_singleton.1 hc, fig_nat n (by omega)]; omega
theorem figs_val : ∀ (f n : Nat), n ≤ f → val 0 (figs n) = (n : Int) := by
  intro f
  induction f with
  | zero => intro n h; rw [figs_last n (by omega)]; show (0 : Int) * 10 + (((UInt8.ofNat (48 + n)).toNat : Int) - 48) = _; rw [fig_nat n (by omega)]; omega
  | succ f ih =>
    intro n h
    by_cases h9 : 9 < n
    · rw [figs_more n h9, val_snoc, ih (n / 10) (by omega), fig_nat (n % 10) (by omega)]; omega
    · rw [figs_last n h9]; show (0 : Int) * 10 + (((UInt8.ofNat (48 + n)).toNat : Int) - 48) = _; rw [fig_nat n (by omega)]; omega
theorem figs_ne (n : Nat) : figs n ≠ [] := by
  by_cases h9 : 9 < n
  · rw [figs_more n h9]; simp
  · rw [figs_last n h9]; simp
theorem figs_head : ∀ (f n : Nat), n ≤ f → 0 < n → ((figs n).getD 0 0).toNat ≠ 48 := by
  intro f
  induction f with
  | zero => intro n h h0; omega
  | succ f ih =>
    intro n h h0
    by_cases h9 : 9 < n
    · rw [figs_more n h9]
      have hne := figs_ne (n / 10)
      have e : (figs (n / 10) ++ [UInt8.ofNat (48 + n % 10)]).getD 0 0 = (figs (n / 10)).getD 0 0 := by
        cases hf : figs (n / 10) with
        | nil => exact absurd hf hne
        | cons c t => rfl
      rw [e]
      exact ih (n / 10) (by omega) (by omega)
    · rw [figs_last n h9]
      show (UInt8.ofNat (48 + n)).toNat ≠ 48
      rw [fig_nat n (by omega)]; omega
theorem figs_len : ∀ (k n : Nat), n < 10 ^ (k + 1) → (figs n).length ≤ k + 1 := by
  intro k
  induction k with
  | zero => intro n h; rw [figs_last n (by omega)]; simp
  | succ k ih =>
    intro n h
    by_cases h9 : 9 < n
    · rw [figs_more n h9]
      have := ih (n / 10) (by rw [Nat.pow_succ] at h; exact Nat.div_lt_of_lt_mul (by rw [Nat.mul_comm]; exact h))
      simp only [List.length_append, List.length_singleton]; omega
    · rw [figs_last n h9]; simp
theorem figs_one (n : Nat) : (figs n).length = 1 ↔ n ≤ 9 := by
  constructor
  · intro h
    by_cases h9 : 9 < n
    · rw [figs_more n h9] at h
      have := List.length_pos_iff.2 (figs_ne (n / 10))
      simp only [List.length_append, List.length_singleton] at h; omega
    · omega
  · intro h; rw [figs_last n (by omega)]; rfl

/-- Nothing but a figure stands ahead. -/
def NoFig (b : List UInt8) : Prop := ∀ c t, b = c :: t → ¬ (48 ≤ c.toNat ∧ c.toNat ≤ 57)
theorem fig_cond (c : UInt8) : (48 ≤ c && c ≤ 57) = true ↔ 48 ≤ c.toNat ∧ c.toNat ≤ 57 := by
  simp only [Bool.and_eq_true, decide_eq_true_eq, UInt8.le_iff_toNat_le]
  have e1 : (48 : UInt8).toNat = 48 := rfl
  have e2 : (57 : UInt8).toNat = 57 := rfl
  rw [e1, e2]
theorem tw_figs : ∀ (l b : List UInt8), Digits l → NoFig b → tw 57 (l ++ b) = l.length
  | [], b, _, hb => by
    cases b with
    | nil => rfl
    | cons c t =>
      have := hb c t rfl
      unfold tw
      rw [List.nil_append, List.takeWhile_cons_of_neg (p := fun c : UInt8 => 48 ≤ c && c ≤ 57) (fun h => this ((fig_cond c).1 h))]
  | c :: l, b, hd, hb => by
    have h0 := hd c (by simp)
    have ih := tw_figs l b (fun d hd' => hd d (by simp [hd'])) hb
    unfold tw at ih ⊢
    rw [List.cons_append, List.takeWhile_cons_of_pos (p := fun c : UInt8 => 48 ≤ c && c ≤ 57) ((fig_cond c).2 h0), List.length_cons, ih]
    rfl
theorem numV_figs (l b : List UInt8) (hd : Digits l) (hb : NoFig b) : numV (l ++ b) = vf 0 l := by
  unfold numV
  rw [tw_figs l b hd hb, List.take_left]
theorem numberS_figs (n : Nat) (b : List UInt8) (hb : NoFig b) (most : Int) :
    numberS (figs n ++ b) most = if most < (n : Int) ∨ 2147483647 < (n : Int) then (0, 0, 3) else ((n : Int), (figs n).length, 0) := by
  have hd := figs_digits n n (Nat.le_refl _)
  have hv := figs_val n n (Nat.le_refl _)
  have hne := figs_ne n
  have hlen := List.length_pos_iff.2 hne
  have hB : numB (figs n ++ b) = false := by
    unfold numB
    rw [tw_figs _ b hd hb]
    have e1 : ((figs n).length == 0) = false := by rw [beq_eq_false_iff_ne]; omega
    rw [e1, Bool.false_or]
    by_cases h0 : 0 < n
    · have hh := figs_head n n (Nat.le_refl _) h0
      have e2 : (figs n ++ b).getD 0 0 = (figs n).getD 0 0 := by
        cases hf : figs n with
        | nil => exact absurd hf hne
        | cons c t => rfl
      rw [e2]
      have : ((figs n).getD 0 0 == 48) = false := by
        rw [beq_eq_false_iff_ne]; intro e; rw [e] at hh; exact hh rfl
      rw [this, Bool.false_and]
    · have : (figs n).length = 1 := (figs_one n).2 (by omega)
      rw [this]; simp
  unfold numberS
  rw [hB, numV_figs _ b hd hb, tw_figs _ b hd hb]
  rcases vf_val (figs n) 0 (by omega) (by omega) hd with e | ⟨e1, e2⟩
  · rw [e, hv]; rfl
  · rw [hv] at e2
    rw [if_neg (by simp), if_pos (.inr e1), if_pos (.inr e2)]
theorem numberS_nought (n : Nat) (b : List UInt8) (hb : NoFig b) (most : Int) (hm : (n : Int) ≤ most) :
    (numberS (48 :: ((figs n).tail ++ b)) most).2.2 = if 1 < (figs n).length then 2 else 0 := by
  have hd := figs_digits n n (Nat.le_refl _)
  have hne := figs_ne n
  have hlen := List.length_pos_iff.2 hne
  have hd' : Digits (48 :: (figs n).tail) := by
    intro c hc
    simp only [List.mem_cons] at hc
    rcases hc with rfl | hc
    · exact ⟨by decide, by decide⟩
    · exact hd c (List.mem_of_mem_tail hc)
  have e0 : 48 :: ((figs n).tail ++ b) = (48 :: (figs n).tail) ++ b := rfl
  have el : (48 :: (figs n).tail).length = (figs n).length := by simp only [List.length_cons, List.length_tail]; omega
  rw [e0]
  unfold numberS numB
  rw [numV_figs _ b hd' hb, tw_figs _ b hd' hb, el]
  have e1 : ((figs n).length == 0) = false := by rw [beq_eq_false_iff_ne]; omega
  have e2 : (((48 : UInt8) :: (figs n).tail ++ b).getD 0 0 == 48) = true := rfl
  rw [e1, e2, Bool.false_or, Bool.true_and]
  by_cases h1 : 1 < (figs n).length
  · simp [h1]
  · have h9 : n ≤ 9 := (figs_one n).1 (by omega)
    have hone := (figs_one n).2 h9
    have et : (figs n).tail = [] := List.eq_nil_of_length_eq_zero (by rw [List.length_tail]; omega)
    have ev : vf 0 (48 :: (figs n).tail) = 0 := by rw [et]; decide
    have h1' : decide (1 < (figs n).length) = false := decide_eq_false h1
    rw [h1', if_neg h1, if_neg (by simp)]
    have hc : ¬ (most < vf 0 (48 :: (figs n).tail) ∨ 2147483647 < vf 0 (48 :: (figs n).tail)) := by rw [ev]; omega
    rw [if_neg hc]
end Go.Proofs.YtahedhpffjgimaaDoor
