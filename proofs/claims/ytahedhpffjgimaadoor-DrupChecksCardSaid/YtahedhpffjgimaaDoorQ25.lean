/-
  UnitSorts, walked.
  The reference's Sort.
  Rows of clauses as steps of regions that draw; a row without one clause.
  Rows of clauses as steps, with what lies elsewhere.
-/
import Derived.Test.YtahedhpffjgimaaDoorProg
import Derived.WalkKit
import Derived.WalkSpells
import Derived.WalkLawsBesides
import Derived.Lib.Hide
import Derived.BigQuiet
import Derived.Deep.QuietTactic
import Derived.Deep.RegionWith
import Derived.Deep.RegionHeld3
import Derived.Test.YtahedhpffjgimaaDoorQ14
import Derived.IntWalk
import Derived.Deep.LoopGhost
import Derived.Test.YtahedhpffjgimaaDoorQ15
import Derived.Test.YtahedhpffjgimaaDoorQ17
import Derived.Test.YtahedhpffjgimaaDoorQ08
set_option linter.unusedVariables false
/- UnitSorts, walked. -/
namespace Go.Proofs.YtahedhpffjgimaaDoor
open Go.RowKit
theorem max_run (a b : Int) (E : Int) (h : (if a < b then b else a) = E) (ts : Array TypeId) (t : TypeId) (w : World) : (Builtin.max_ ts t #[.int .i64 a, .int .i64 b]).run Tryd.prog w = .ok (.int .i64 E) w := by
  rw [run_max_int2, h]
theorem sortF_self {l : List Int} : sortF (sortF l) = sortF l := sorted_uniq _ _ (sortF_lt _) (sortF_lt _) (fun x => sortF_mem _ x)
theorem sort_next {l : List Int} (hx : ∀ x ∈ l, -100000 ≤ x ∧ x ≤ 100000) {i : Nat} (h0 : 0 < i) (hi : i < (sortF l).length) : (((sortF l).getD (i - 1) 0).natAbs : Int) ≤ ((sortF l).getD i 0).natAbs ∧ (sortF l).getD i 0 ≠ (sortF l).getD (i - 1) 0 := by
  have h := List.pairwise_iff_getElem.1 (sortF_lt l) (i - 1) i (by omega) (by omega) (by omega)
  have e1 : (sortF l).getD i 0 = (sortF l)[i] := by simp [List.getD_eq_getElem?_getD, hi]
  have e2 : (sortF l).getD (i - 1) 0 = (sortF l)[i - 1] := by simp [List.getD_eq_getElem?_getD, show i - 1 < (sortF l).length by omega]
  rw [e1, e2]
  have b1 := hx _ ((sortF_mem l _).1 (List.getElem_mem hi))
  have b2 := hx _ ((sortF_mem l _).1 (List.getElem_mem (show i - 1 < (sortF l).length by omega)))
  rw [ltP_small b2.1 b2.2 b1.1 b1.2] at h
  refine ⟨by omega, fun e => ?_⟩
  rw [e] at h; omega
end Go.Proofs.YtahedhpffjgimaaDoor
/- The reference's Sort. -/
namespace Go.Proofs.YtahedhpffjgimaaDoor
open Go.RowKit
/-- A row with one more at a place. -/
def insAt (o : List Int) (k : Nat) (d : Int) : List Int := o.take k ++ d :: o.drop k
theorem insAt_len (o : List Int) (k : Nat) (d : Int) (h : k ≤ o.length) : (insAt o k d).length = o.length + 1 := by simp [insAt]; omega
theorem insAt_end (o : List Int) (x : Int) : insAt o o.length x = o ++ [x] := by simp [insAt]
theorem insAt_set (o : List Int) (k : Nat) (d e : Int) (h : k ≤ o.length) : (insAt o k d).set k e = insAt o k e := by
  unfold insAt
  have hl : (o.take k).length = k := by simp; omega
  rw [List.set_append_right _ _ (by omega), hl]; simp
theorem insAt_shift (o : List Int) (k : Nat) (h : k < o.length) : insAt o (k + 1) (o.getD k 0) = insAt o k (o.getD k 0) := by
  unfold insAt
  rw [take_snocI o k h, dropI o k h]; simp
theorem insAt_get (o : List Int) (k : Nat) (d : Int) (h : k < o.length) : (insAt o (k + 1) d).getD k 0 = o.getD k 0 := by
  unfold insAt
  have hl : k < (o.take (k + 1)).length := by simp; omega
  rw [List.getD_eq_getElem?_getD, List.getElem?_append_left hl, List.getElem?_take, if_pos (by omega), List.getD_eq_getElem?_getD]
theorem insAt_mem (o : List Int) (k : Nat) (x y : Int) : y ∈ insAt o k x ↔ y ∈ o ∨ y = x := by
  unfold insAt
  have : y ∈ o ↔ y ∈ o.take k ∨ y ∈ o.drop k := by rw [← List.mem_append, List.take_append_drop]
  simp [this]
  constructor
  · rintro (h | h | h)
    · exact .inl (.inl h)
    · exact .inr h
    · exact .inl (.inr h)
  · rintro ((h | h) | h)
    · exact .inl h
    · exact .inr (.inr h)
    · exact .inr (.inl h)
theorem ltP_trans {x y z : Int} (h1 : ltP x y) (h2 : ltP y z) : ltP x z := by unfold ltP at *; omega
theorem insAt_sorted {o : List Int} {k : Nat} {x : Int} (ho : o.Pairwise ltP) (h1 : ∀ y ∈ o.drop k, ltP x y) (h2 : ∀ y ∈ o.take k, ltP y x) : (insAt o k x).Pairwise ltP := by
  unfold insAt
  have hs := ho
  rw [← List.take_append_drop k o, List.pairwise_append] at hs
  rw [List.pairwise_append, List.pairwise_cons]
  refine ⟨hs.1, ⟨h1, hs.2.1⟩, fun a ha b hb => ?_⟩
  rcases List.mem_cons.1 hb with e | e
  · rw [e]; exact h2 a ha
  · exact hs.2.2 a ha b e
theorem take_lt {o : List Int} (ho : o.Pairwise ltP) {k : Nat} (hk : k < o.length) {x : Int} (h : ltP (o.getD k 0) x) : ∀ y ∈ o.take (k + 1), ltP y x := by
  intro y hy
  rw [take_snocI o k hk] at hy
  rcases List.mem_append.1 hy with e | e
  · have hs := ho
    rw [← List.take_append_drop k o, dropI o k hk, List.pairwise_append] at hs
    exact ltP_trans (hs.2.2 y e _ (by simp)) h
  · rw [List.mem_singleton.1 e]; exact h
/-- How things stand while a literal is put in its place. -/
def InsAt (w wr : World) (A : Option Addr) (n c : Nat) (o : List Int) (k : Nat) (x : Int) : Prop :=
  ∃ d, OwnI wr w.heap.size (.slice A n c) (insAt o k d) ∧ Below w.heap.size w wr ∧ ∀ y ∈ o.drop k, ltP x y
set_option maxHeartbeats 3000000 in
set_option maxRecDepth 100000 in
theorem refSort_any (A : Option Addr) (c : Nat) (l : List Int) (w : World) (h : RI w w.heap.size A l) (hx : Lits l) (hl : l.length ≤ 90000) : Calls Tryd.prog 79 #[.slice A l.length c] w (RetI w (sortF l)) := by
  have HR := Lib.hid h
  have HX := Lib.hid hx
  clear h hx
  go_enter Tryd.func79, Tryd.ntmps79
  go_wp2
  go_loopg [3, 4] l.length (fun g s3 s4 wr => ∃ (i : Nat) (v : Value) (o : List Int), i + g = l.length ∧ s4 = .int .i64 i ∧ s3 = v ∧ OwnI wr w.heap.size v o ∧ Below w.heap.size w wr ∧ o.length ≤ i ∧ Hid (o.Pairwise ltP ∧ ∀ y, y ∈ o ↔ y ∈ l.take i))
  case atStart => exact ⟨0, _, [], by omega, rfl, rfl, OwnI.nil _ _, Below.refl _ _, by simp, Lib.hid ⟨by simp, by simp⟩⟩
  case round =>
    obtain ⟨i, v, o, hi, rfl, rfl, hO, hb, hoi, HO⟩ := hrel
    obtain ⟨Ao, ko, hvo, hro, _⟩ := hO.val
    obtain ⟨no, hno⟩ : ∃ no, o.length = no := ⟨_, rfl⟩
    rw [hno] at hvo hoi
    subst hvo
    cases gk with
    | zero =>
      have q1 : ¬ ((i : Int) < l.length) := by omega
      have q2 : ¬ (i < l.length) := by omega
      have HO1 := Lib.hid hO
      have HB1 := Lib.hid hb
      clear hO hb hro hno
      go_wp2
      go_ret
      refine ⟨_, rfl, ?_, HB1.out⟩
      have e : sortF l = o := sorted_uniq _ _ (sortF_lt _) HO.out.1 (fun y => by
        rw [sortF_mem, HO.out.2 y, List.take_of_length_le (by omega)])
      rw [e]; exact HO1.out
    | succ g =>
      have hil : i < l.length := by omega
      have hil' : (i : Int) < l.length := by omega
      obtain ⟨ad, rfl, hab, hcz⟩ := HR.out i hil
      have hcc := (hb.cell (p := ad.add i) (by rw [block_add]; exact hab)).trans hcz
      obtain ⟨x0, x1, x2⟩ := HX.out _ (getD_mem l i hil)
      have HTK := Lib.hid (take_snocI l i hil)
      have C : ∀ y, Calls Tryd.prog 89 #[.slice Ao no ko, .int .i64 y] wr (RetS wr (.bool (o.contains y))) := fun y => by
        have := In_any Ao ko o y wr hro (by unfold maxLen; omega)
        rwa [hno] at this
      clear hcz hro
      generalize l.getD i 0 = x at *
      have c1 := C x
      clear C
      by_cases hxo : x ∈ o
      · rw [show o.contains x = true by simpa using hxo] at c1
        have HXO := Lib.hid hxo
        have HO1 := Lib.hid hO
        have HB1 := Lib.hid hb
        have HNO := Lib.hid hno
        clear hxo hO hb hno
        go_wp2_with fail
        refine c1.mono ?_; rintro e w1 ⟨rfl, rfl⟩
        clear c1
        go_wp2
        go_roundg g
        case measure => omega
        case rel =>
          refine ⟨i + 1, _, o, by omega, by go_num, rfl, HO1.out, HB1.out, by have := HNO.out; omega, Lib.hid ⟨HO.out.1, fun y => ?_⟩⟩
          rw [HTK.out, List.mem_append, HO.out.2 y, List.mem_singleton]
          refine ⟨.inl, fun h => ?_⟩
          rcases h with h | h
          · exact h
          · rw [h]; exact (HO.out.2 x).1 HXO.out
      · rw [show o.contains x = false by simpa using hxo] at c1
        have HXO := Lib.hid hxo
        have hol : o.length ≤ 100000 := by omega
        have HNO := Lib.hid hno
        clear hxo hno
        go_wp2_with fail
        refine c1.mono ?_; rintro e w1 ⟨rfl, rfl⟩
        clear c1
        go_wp2_with (first | (at_builtin; refine wpI1 rfl (.tmp 24) (.tmp 26) rfl _ o rfl hO x rfl hb hol ?_) | fail)
        intro v' w' hO' hb'
        have hln : (o ++ [x]).length = no + 1 := by rw [List.length_append, HNO.out]; rfl
        obtain ⟨n1, hn1⟩ : ∃ n1, no + 1 = n1 := ⟨_, rfl⟩
        obtain ⟨g0, k1, hv1⟩ : ∃ g0 k1, v' = .slice (some ⟨g0, 0, none⟩) n1 k1 := by
          have h5 := hO'.2
          rw [hln, hn1] at h5
          rcases h5 with ⟨_, hz⟩ | ⟨g0, cap, cur, e, _⟩
          · omega
          · exact ⟨g0, cap, e⟩
        subst hv1
        have F0 : Hid (InsAt w w' (some ⟨g0, 0, none⟩) n1 k1 o no x) := Lib.hid ⟨x, by rw [← HNO.out, insAt_end]; exact hO', hb', by rw [← HNO.out]; simp⟩
        have hn1' : no < n1 := by omega
        have HN1 := Lib.hid hn1
        clear hO hb hO' hb' hcc hn1 hln
        go_wp2
        go_loopg [7] no (fun g s7 wr => g ≤ no ∧ s7 = .int .i64 g ∧ InsAt w wr (some ⟨g0, 0, none⟩) n1 k1 o g x)
        case atStart => exact ⟨Nat.le_refl _, rfl, F0.out⟩
        case round =>
          obtain ⟨hk, rfl, d, hO, hb, hlt⟩ := hrel
          clear F0
          have HLT := Lib.hid hlt
          have hnl := HNO.out
          have hil2 := insAt_len o gk d (by omega)
          have HB := Lib.hid hb
          have HOO := Lib.hid hO
          obtain ⟨Ax, kx, hvx, hrx, _⟩ := hO.val
          rw [hil2, hnl, HN1.out] at hvx
          cases hvx
          obtain ⟨hbg, hst⟩ := hO.store (by rw [hil2, hnl]; exact HN1.out)
          obtain ⟨⟨uc, hu⟩, hf, _⟩ := hst gk (by omega)
          have hst2 : ∀ q (y : Int), OwnI ((wr.drewN q).setCell ⟨g0, gk, none⟩ (.int .i64 y)) w.heap.size (.slice (some ⟨g0, 0, none⟩) n1 k1) (insAt o gk y) ∧ Below w.heap.size w ((wr.drewN q).setCell ⟨g0, gk, none⟩ (.int .i64 y)) := fun q y => by
            obtain ⟨_, hs⟩ := (hO.old (drw q)).store (by rw [hil2, hnl]; exact HN1.out)
            have h6 := (hs gk (by omega)).2.2 y
            rw [insAt_set o gk d y (by omega)] at h6
            exact ⟨h6, (bnx hb (drw q)).setCell (p := ⟨g0, gk, none⟩) hbg (.int .i64 y)⟩
          have HST := Lib.hid hst2
          have hgn : (gk : Int) < n1 := by omega
          have hgn' : gk < n1 := by omega
          -- the end of this loop, and of the round
          have HEND : Hid ((∀ y ∈ o.take gk, ltP y x) → ∀ q, ∃ o' : List Int, OwnI ((wr.drewN q).setCell ⟨g0, gk, none⟩ (.int .i64 x)) w.heap.size (.slice (some ⟨g0, 0, none⟩) n1 k1) o' ∧ Below w.heap.size w ((wr.drewN q).setCell ⟨g0, gk, none⟩ (.int .i64 x)) ∧ o'.length ≤ i + 1 ∧ Hid (o'.Pairwise ltP ∧ ∀ y, y ∈ o' ↔ y ∈ l.take (i + 1))) := Lib.hid fun h2 q => by
            refine ⟨insAt o gk x, (HST.out q x).1, (HST.out q x).2, by rw [insAt_len o gk x (by omega)]; omega, Lib.hid ⟨insAt_sorted HO.out.1 HLT.out h2, fun y => ?_⟩⟩
            rw [insAt_mem, HTK.out, List.mem_append, HO.out.2 y, List.mem_singleton]
          by_cases h0 : 0 < gk
          · have hkl : gk - 1 < o.length := by omega
            obtain ⟨ad', e', _, hcy⟩ := hrx (gk - 1) (by rw [hil2]; omega)
            cases e'
            have eg : (insAt o gk d).getD (gk - 1) 0 = o.getD (gk - 1) 0 := by
              have := insAt_get o (gk - 1) d hkl
              rwa [show gk - 1 + 1 = gk by omega] at this
            rw [eg, add_loc] at hcy
            have hym : o.getD (gk - 1) 0 ∈ o := getD_mem o (gk - 1) hkl
            obtain ⟨y0, y1, y2⟩ := HX.out _ (List.mem_of_mem_take ((HO.out.2 _).1 hym))
            have hxy : x ≠ o.getD (gk - 1) 0 := fun e => HXO.out (e ▸ hym)
            have hdr : o.drop (gk - 1) = o.getD (gk - 1) 0 :: o.drop gk := by
              have := dropI o (gk - 1) hkl
              rwa [show gk - 1 + 1 = gk by omega] at this
            have hsh : insAt o gk (o.getD (gk - 1) 0) = insAt o (gk - 1) (o.getD (gk - 1) 0) := by
              have := insAt_shift o (gk - 1) hkl
              rwa [show gk - 1 + 1 = gk by omega] at this
            have hnext : ltP x (o.getD (gk - 1) 0) → ∀ q, InsAt w ((wr.drewN q).setCell ⟨g0, gk, none⟩ (.int .i64 (o.getD (gk - 1) 0))) (some ⟨g0, 0, none⟩) n1 k1 o (gk - 1) x := fun hl q =>
              ⟨o.getD (gk - 1) 0, by rw [← hsh]; exact (HST.out q _).1, (HST.out q _).2, by
                rw [hdr]; intro z hz
                rcases List.mem_cons.1 hz with e | e
                · rw [e]; exact hl
                · exact HLT.out z e⟩
            have hend : ¬ ltP x (o.getD (gk - 1) 0) → ∀ y ∈ o.take gk, ltP y x := fun hn => by
              have := take_lt HO.out.1 hkl (x := x) (by unfold ltP at *; omega)
              rwa [show gk - 1 + 1 = gk by omega] at this
            have hlp := ltP_small x1 x2 y1 y2
            have HNEXT := Lib.hid hnext
            have HHEND := Lib.hid hend
            have HLP := Lib.hid hlp
            have e3 : IntKind.i64.wrap ((gk : Int) - 1) = ((gk - 1 : Nat) : Int) := by rw [IntWalk.i64_in _ (by omega)]; omega
            have e4 : wrap64 ((gk : Int) - 1) = ((gk - 1 : Nat) : Int) := by rw [IntWalk.wrap64_in _ (by omega)]; omega
            have e5 : (gk : Int) - 1 = ((gk - 1 : Nat) : Int) := by omega
            have hl1 : ((gk - 1 : Nat) : Int) < n1 := by omega
            have m1 := max_run x (-x) (x.natAbs : Int) (by split <;> omega)
            have m2 := max_run (o.getD (gk - 1) 0) (-(o.getD (gk - 1) 0)) ((o.getD (gk - 1) 0).natAbs : Int) (by split <;> omega)
            clear hnext hend hlp hdr hsh eg hym hrx hst hst2 hO hb hlt hil2
            generalize o.getD (gk - 1) 0 = y at *
            have d3 : decide ((gk : Int) > 0) = true := decide_eq_true (by omega)
            have d3' : decide ((0 : Int) < (gk : Int)) = true := decide_eq_true (by omega)
            have d3'' : decide (0 < gk) = true := decide_eq_true h0
            have E5 := Lib.hid e5
            by_cases hA : x.natAbs < y.natAbs
            · have HL := Lib.hid (HNEXT.out (HLP.out.2 (.inl hA)))
              have t1 : decide ((x.natAbs : Int) < y.natAbs) = true := decide_eq_true (by omega)
              clear hA
              generalize (x.natAbs : Int) = X at *
              generalize (y.natAbs : Int) = Y at *
              go_wp2
              go_quiet (fail)
              go_wp2
              go_roundg (gk - 1)
              case measure => omega
              case rel => exact ⟨by omega, by first | rfl | exact congrArg (Value.int .i64) E5.out, HL.out _⟩
            · have t1 : decide ((x.natAbs : Int) < y.natAbs) = false := decide_eq_false (by omega)
              by_cases hB : x.natAbs = y.natAbs
              · have t2 : ((x.natAbs : Int) == y.natAbs) = true := by rw [beq_iff_eq]; omega
                by_cases hC : x < 0
                · have HL := Lib.hid (HNEXT.out (HLP.out.2 (.inr ⟨hB, by omega⟩)))
                  have t3 : decide (x < 0) = true := decide_eq_true hC
                  clear hA hB hC
                  generalize (x.natAbs : Int) = X at *
                  generalize (y.natAbs : Int) = Y at *
                  go_wp2
                  go_quiet (fail)
                  go_wp2
                  go_roundg (gk - 1)
                  case measure => omega
                  case rel => exact ⟨by omega, by first | rfl | exact congrArg (Value.int .i64) E5.out, HL.out _⟩
                · have HE := Lib.hid (HEND.out (HHEND.out (fun h => by rcases HLP.out.1 h with h | h <;> omega)))
                  have t3 : decide (x < 0) = false := decide_eq_false hC
                  clear hA hB hC
                  generalize (x.natAbs : Int) = X at *
                  generalize (y.natAbs : Int) = Y at *
                  go_wp2
                  go_quiet (fail)
                  go_wp2
                  obtain ⟨o', p1, p2, p3, p4⟩ := HE.out nq
                  go_roundg g
                  case measure => omega
                  case rel => exact ⟨i + 1, _, o', by omega, by go_num, rfl, p1, p2, p3, p4⟩
              · have HE := Lib.hid (HEND.out (HHEND.out (fun h => by rcases HLP.out.1 h with h | h <;> omega)))
                have t2 : ((x.natAbs : Int) == y.natAbs) = false := by rw [beq_eq_false_iff_ne]; omega
                clear hA hB
                generalize (x.natAbs : Int) = X at *
                generalize (y.natAbs : Int) = Y at *
                go_wp2
                go_quiet (fail)
                go_wp2
                obtain ⟨o', p1, p2, p3, p4⟩ := HE.out nq
                go_roundg g
                case measure => omega
                case rel => exact ⟨i + 1, _, o', by omega, by go_num, rfl, p1, p2, p3, p4⟩
          · obtain rfl : gk = 0 := by omega
            have HE := Lib.hid (HEND.out (by simp))
            clear hrx hst hst2 hO hb hlt hil2 h0
            go_wp2
            go_quiet (fail)
            go_wp2
            obtain ⟨o', p1, p2, p3, p4⟩ := HE.out nq
            go_roundg g
            case measure => omega
            case rel => exact ⟨i + 1, _, o', by omega, by go_num, rfl, p1, p2, p3, p4⟩
end Go.Proofs.YtahedhpffjgimaaDoor
/- Rows of clauses as steps of regions that draw; a row without one clause. -/
namespace Go.Proofs.YtahedhpffjgimaaDoor
open Go.RowKit
open Go.Lib Go.Sort
/-- 'append(s, t...)', of rows of clauses, as a step of a region that draws. -/
theorem stepKs {z w : World} {ops : Array Oper} {o : Oper} {a : Act} {K : Act → World → Prop} {Q : Exit → Act → World → Prop} {E : Prop} (hgd : o.guard = none) (s x : Operand)
    (ho : o.op = .call { callee := .builtin .append, args := #[s, x], argTypes := #[22, 22] })
    (v : Value) (L : List (List Int)) (hs : a.eval s = v) (hown : OwnK w z.heap.size v L) (ad : Addr) (k : Nat) (M : List (List Int)) (hx : a.eval x = .slice (some ad) M.length k) (hr : RCk z z.heap.size (some ad) M) (hb : Below z.heap.size z w)
    (hsz : L.length ≤ 100000) (hsm : M.length ≤ 100000)
    (h : ∀ v' w', OwnK w' z.heap.size v' (L ++ M) → Below z.heap.size z w' → K (a.put o.dst v') w') : if Region.wanted o (yielded ops a.tmps) = true then Oper.wp Tryd.prog o a w K Q else E := by
  have hw : Region.wanted o (yielded ops a.tmps) = true := by simp [Region.wanted, hgd]
  rw [if_pos hw]
  obtain ⟨i0, hi0, hz0, hz1, hz2⟩ := info_parts cls_info
  have hbs := hb.size
  obtain ⟨vs, how, hl, hone, hxs⟩ := hown
  obtain ⟨us, hul, huo, huc, hux⟩ := (hr.below hb).vals
  refine wp_append_own _ s x 22 ho z.heap.size 26 i0 (.slice none 0 0) 1 24 Tryd.underlying22 hi0 hz0 hz1 hz2 rfl (by omega) v L.length vs hs how ad M.length k us hx (by simpa using hul) ?_ huo (by unfold maxLen; omega) (by omega) hbs ?_
  · intro j u hj
    have hjl : j < M.length := by
      have := (List.getElem?_eq_some_iff.1 hj).1
      omega
    obtain ⟨ad', e, hc⟩ := huc j hjl
    cases e
    rw [hc, hj]
  · intro v' w' hown' hg _
    have hb' := hb.grown hg hbs (fun k hk => ((World.ownsRow.lt how) k hk).1)
    refine h v' w' ⟨vs ++ us, by simpa using hown', by simp [hl, hul], ?_, ?_⟩ hb'
    · intro u hu
      rcases List.mem_append.1 hu with h1 | h1
      · exact hone u h1
      · exact huo u h1
    · intro i hi
      by_cases hil : i < L.length
      · obtain ⟨A', c', e, hri, q⟩ := hxs i hil
        have e1 : (L ++ M).getD i [] = L.getD i [] := by simp [List.getD_eq_getElem?_getD, List.getElem?_append_left hil]
        rw [e1]
        refine ⟨A', c', by rw [List.getElem?_append_left (by omega)]; exact e, ?_, q⟩
        exact (hri.back hb).below hb'
      · have hi' : i < L.length + M.length := by simpa using hi
        obtain ⟨A', c', e, hri, q⟩ := hux (i - L.length) (by omega)
        have e1 : (L ++ M).getD i [] = M.getD (i - L.length) [] := by simp [List.getD_eq_getElem?_getD, List.getElem?_append_right (show L.length ≤ i by omega)]
        rw [e1]
        refine ⟨A', c', by rw [List.getElem?_append_right (by omega), hl]; exact e, ?_, q⟩
        exact (hri.back hb).below hb'

theorem el22 : Tryd.prog.elem 22 = 26 := by kernel_rfl
theorem u22s : Tryd.prog.underlying 22 = some (.slice (Tryd.prog.elem 22)) := by kernel_rfl
theorem cut22h (w : World) (A : Option Addr) (n c k : Nat) (t : Int) (ht : t = (k : Int)) (hk : k ≤ c) :
    (Instr.slice 22 (.slice A n c) none (some (.int .i64 t)) none).run Tryd.prog w = .ok (.slice A k c) w := by
  have hs : (sizeOf 26).run Tryd.prog w = .ok 1 w := by kernel_rfl
  subst ht
  rw [run_slice_h w 22 A n c u22s .i64 k (by omega) (by omega), el22, hs]
  rcases A with _ | a <;> simp [Result.andThen, sliced, Addr.add]
theorem cut22l (w : World) (A : Option Addr) (n c k : Nat) (t : Int) (ht : t = (k : Int)) (hk : k ≤ n) :
    (Instr.slice 22 (.slice A n c) (some (.int .i64 t)) none none).run Tryd.prog w = .ok (.slice (cutU A c k) (n - k) (c - k)) w := by
  have hs : (sizeOf 26).run Tryd.prog w = .ok 1 w := by kernel_rfl
  subst ht
  rw [run_slice_l w 22 A n c u22s .i64 k (by omega) (by omega), el22, hs]
  simp [Result.andThen, sliced, cutU]
theorem RCk.take {w : World} {B : Nat} {A : Option Addr} {L : List (List Int)} (h : RCk w B A L) (k : Nat) : RCk w B A (L.take k) := by
  intro i hi
  have hi' : i < k ∧ i < L.length := by simp at hi; omega
  have e : (L.take k).getD i [] = L.getD i [] := by simp [List.getD_eq_getElem?_getD, List.getElem?_take_of_lt hi'.1]
  rw [e]
  exact h i hi'.2
theorem RCk.drop {w : World} {B : Nat} {A : Option Addr} {L : List (List Int)} (h : RCk w B A L) {k c : Nat} (hc : L.length ≤ c) : RCk w B (cutU A c k) (L.drop k) := by
  intro i hi
  simp only [List.length_drop] at hi
  obtain ⟨ad, A', c', rfl, hb, hcell, hr⟩ := h (k + i) (by omega)
  have e : (L.drop k).getD i [] = L.getD (k + i) [] := by simp only [List.getD_eq_getElem?_getD, List.getElem?_drop]
  refine ⟨ad.add k, A', c', by simp [cutU]; omega, by rw [block_add]; exact hb, ?_, ?_⟩
  · rw [add_add_, hcell, e]
  · rw [e]; exact hr
theorem OwnK.val2 {w : World} {base : Nat} {v : Value} {L : List (List Int)} (h : OwnK w base v L) (hb : base ≤ w.heap.size) : ∃ (A : Option Addr) (c : Nat), v = .slice A L.length c ∧ RCk w w.heap.size A L ∧ L.length ≤ c ∧ c ≤ maxLen ∧ (A = none → c = 0) := by
  obtain ⟨vs, ho, hl, _, hx⟩ := h
  rcases ho.2 with ⟨rfl, h0⟩ | ⟨g, cap, cur, rfl, hg, hh, h1, h2, h3, h4⟩
  · exact ⟨none, 0, by rw [h0], fun i hi => by omega, by omega, by simp [maxLen], fun _ => rfl⟩
  · refine ⟨_, cap, rfl, fun i hi => ?_, ?_, ?_, fun e => by cases e⟩
    · obtain ⟨A', c', e, hr, q1, q2⟩ := hx i hi
      refine ⟨_, A', c', rfl, (World.ownsRow.lt ho g rfl).2, ?_, hr.mono hb, q1, q2⟩
      rw [add_loc, World.ownsRow.cellAt ho i (by omega)]
      exact e
    · omega
    · omega
/-- What 'without' tells of the sets S. -/
def RetWo (w : World) (L : List (List Int)) (s : List Int) (e : Ending) (w' : World) : Prop :=
  (∃ i v, i < L.length ∧ (setsOf L).getD i [] = s ∧ (∀ j, j < i → (setsOf L).getD j [] ≠ s) ∧ e = .returned (.tuple #[v, .bool true]) ∧ OwnK w' w.heap.size v (L.take i ++ L.drop (i + 1)) ∧ Below w.heap.size w w')
  ∨ ((∀ j, j < L.length → (setsOf L).getD j [] ≠ s) ∧ e = .returned (.tuple #[.slice none 0 0, .bool false]) ∧ Below w.heap.size w w')
set_option maxRecDepth 100000 in
set_option maxHeartbeats 4000000 in
theorem without_any (A CA : Option Addr) (k kc : Nat) (L : List (List Int)) (c : List Int) (w : World) (hL : RCk w w.heap.size A L) (hC : RI w w.heap.size CA c) (hk : L.length ≤ k) (hg : Gd L 1000) (hx : Lits c ∧ c.length ≤ 1000) :
    Calls Tryd.prog 54 #[.slice A L.length k, .slice CA c.length kc] w (RetWo w L (sortF c)) := by
  have C1 := refSort_any CA kc c w hC hx.1 (by omega)
  obtain ⟨sx1, sx2⟩ := Lits.sort hx
  obtain ⟨s, hs⟩ : ∃ s, sortF c = s := ⟨_, rfl⟩
  rw [hs] at C1 sx1 sx2 ⊢
  have HL := Lib.hid (And.intro hL (And.intro hk hg))
  have hl1 : L.length ≤ 1000 := hg.1
  clear hL hC hk hg hx hs
  go_enter Tryd.func54, Tryd.ntmps54
  go_wp2_with fail
  refine C1.mono ?_; rintro e w1 ⟨v, rfl, ho, hb⟩
  obtain ⟨A6, c6, rfl, r6, _⟩ := ho.val
  have HB := Lib.hid hb
  have HR := Lib.hid r6
  clear C1 ho r6 hb
  go_wp2
  go_loopg [7] L.length (fun g s7 wr => ∃ j : Nat, j + g = L.length ∧ s7 = .int .i64 j ∧ Below w1.heap.size w1 wr ∧ Hid (∀ i, i < j → (setsOf L).getD i [] ≠ s))
  case atStart => exact ⟨0, by omega, rfl, Below.refl _ _, Lib.hid fun i hi => absurd hi (Nat.not_lt_zero _)⟩
  case round =>
    obtain ⟨j, hj, rfl, hb, HJ⟩ := hrel
    have HB2 := Lib.hid (bnx HB.out hb)
    by_cases hlt : j < L.length
    · obtain ⟨g, rfl⟩ : ∃ g, gk = g + 1 := ⟨gk - 1, by omega⟩
      obtain ⟨ad, A1, c1, rfl, hab, hc0, hr, hlc, hcm⟩ := HL.out.1 j hlt
      have hcc := (HB2.out.cell (p := ad.add j) (by rw [block_add]; exact hab)).trans hc0
      have hlt' : (j : Int) < L.length := by omega
      have hmem : L.getD j [] ∈ L := by simp [List.getD_eq_getElem?_getD, hlt]
      have hgx := HL.out.2.2.2 _ hmem
      have hset := setsOf_getD L j hlt
      obtain ⟨u, hu⟩ : ∃ u, L.getD j [] = u := ⟨_, rfl⟩
      rw [hu] at hcc hr hgx hset
      have C2 := refSort_any A1 c1 u wr ((hr.below HB2.out).mono HB2.out.size) hgx.1 (by omega)
      obtain ⟨tx1, tx2⟩ := Lits.sort hgx
      have HSET := Lib.hid hset
      have HC := Lib.hid hb
      have HLT := Lib.hid hlt
      clear hc0 hr hu hset hmem hgx hb
      go_wp2_with fail
      refine C2.mono ?_; rintro e w2 ⟨v2, rfl, ho, hb⟩
      obtain ⟨A2, c2, rfl, r2, _⟩ := ho.val
      have H2 := Lib.hid (bnx HC.out hb)
      have C3 := Ints_any A2 A6 c2 c6 (sortF u) s w2 r2 (HR.out.nx H2.out) (by unfold maxLen; omega) (by unfold maxLen; omega)
      clear C2 ho r2 hb hcc
      cases hp : (sortF u == s)
      · rw [hp] at C3
        have HE : Hid (∀ a, a < j + 1 → (setsOf L).getD a [] ≠ s) := Lib.hid fun a ha => by
          by_cases e : a = j
          · subst e; rw [HSET.out]; simpa using hp
          · exact HJ.out a (by omega)
        clear hp
        go_wp2_with fail
        refine C3.mono ?_; rintro e w3 ⟨rfl, hb'⟩
        have H3 := Lib.hid (bnx H2.out hb')
        clear C3 hb'
        go_wp2
        go_roundg g
        case rel => exact ⟨j + 1, by omega, by go_num, H3.out, HE⟩
        case measure => omega
      · rw [hp] at C3
        have HE := Lib.hid (HSET.out.trans (eq_of_beq hp))
        clear hp
        go_wp2_with fail
        refine C3.mono ?_; rintro e w3 ⟨rfl, hb'⟩
        have H3 := Lib.hid (bnx H2.out hb')
        clear C3 hb'
        go_wp2_with fail
        obtain ⟨ad', had⟩ : ∃ ad', cutU (some ad) k (j + 1) = some ad' := by unfold cutU; split <;> exact ⟨_, rfl⟩
        obtain ⟨nb, hnb⟩ : ∃ nb, L.length - (j + 1) = nb := ⟨_, rfl⟩
        obtain ⟨kb, hkb⟩ : ∃ kb, k - (j + 1) = kb := ⟨_, rfl⟩
        have hkk := HL.out.2.1
        have kh := fun wx => cut22h wx (some ad) L.length k j (j : Int) rfl (by have := HLT.out; omega)
        have kl := fun wx => cut22l wx (some ad) L.length k (j + 1) ((j : Int) + 1) (by omega) (by have := HLT.out; omega)
        rw [had, hnb, hkb] at kl
        have hm1 : (L.take j).length = j := by have := HLT.out; simp; omega
        have hm2 : (L.drop (j + 1)).length = nb := by rw [← hnb]; simp
        have R1 : Hid (RCk w w.heap.size (some ad) (L.take j)) := Lib.hid (HL.out.1.take j)
        have R2 : Hid (RCk w w.heap.size (some ad') (L.drop (j + 1))) := Lib.hid (had ▸ HL.out.1.drop hkk)
        have hB0 := (bal (bnx HB.out H3.out).drew (.cells #[] 26))
        have hO0 : OwnK (w3.drew.alloc (.cells #[] 26)) w.heap.size (.slice (some ⟨w3.heap.size, 0, none⟩) 0 0) [] := ⟨[], World.ownsRow_lit (size := 1) (e := 26) (base := w.heap.size) w3.drew #[] 0 (bnx HB.out H3.out).size (by simp [maxLen]) (by simp), rfl, by simp, fun i hi => absurd hi (by simp)⟩
        have hBd := (bnx HB.out H3.out).drew
        have hnl : nb ≤ 1000 := by omega
        have hwr : IntKind.i64.wrap ((j : Int) + 1) = (j : Int) + 1 := IntWalk.i64_in _ (by omega)
        have HM := Lib.hid (And.intro hm1 hm2)
        clear hkk had hnb hkb hm1 hm2
        go_region_held3 (fun w' => Below w.heap.size w w')
          (first | exact hBd | exact hB0 | exact hB1 | exact hB2)
          (first
            | (refine stepKs (z := w) rfl (.tmp 25) (.tmp 28) rfl _ [] rfl hO0 ad k (L.take j) (by rw [HM.out.1]; rfl) R1.out hB0 (by simp) (by rw [HM.out.1]; omega) ?_; intro v1 w4 hO1 hB1)
            | (refine stepKs (z := w) rfl (.tmp 29) (.tmp 33) rfl _ ([] ++ L.take j) rfl hO1 ad' kb (L.drop (j + 1)) (by rw [HM.out.2]; rfl) R2.out hB1 (by rw [List.nil_append, HM.out.1]; omega) (by rw [HM.out.2]; omega) ?_; intro v2 w5 hO2 hB2))
        have H5 := Lib.hid hB2
        have HO := Lib.hid (show OwnK w5 w.heap.size v2 (L.take j ++ L.drop (j + 1)) by rw [List.nil_append] at hO2; exact hO2)
        have HX := Lib.hid (show (setsOf L).getD j [] = s from HE.out)
        clear kh kl hwr hO0 hB0 hBd hB1 hO1 hO2 hB2
        go_wp2
        go_ret2
        exact .inl ⟨j, _, HLT.out, HX.out, HJ.out, rfl, HO.out, H5.out⟩
    · obtain rfl : j = L.length := by omega
      go_wp2
      go_ret2
      exact .inr ⟨HJ.out, rfl, HB2.out⟩
end Go.Proofs.YtahedhpffjgimaaDoor
/- Rows of clauses as steps, with what lies elsewhere. -/
namespace Go.Proofs.YtahedhpffjgimaaDoor
open Go.RowKit
open Go.Lib Go.Sort
/-- 'append(s, t...)', of rows of clauses, as a step; what lies elsewhere is as it was. -/
theorem stepKg {z w : World} {ops : Array Oper} {o : Oper} {a : Act} {K : Act → World → Prop} {Q : Exit → Act → World → Prop} {E : Prop} (hgd : o.guard = none) (s x : Operand)
    (ho : o.op = .call { callee := .builtin .append, args := #[s, x], argTypes := #[22, 22] })
    (v : Value) (L : List (List Int)) (hs : a.eval s = v) (hown : OwnK w z.heap.size v L) (ad : Addr) (k : Nat) (M : List (List Int)) (hx : a.eval x = .slice (some ad) M.length k) (hr : RCk z z.heap.size (some ad) M) (hb : Below z.heap.size z w)
    (hsz : L.length ≤ 100000) (hsm : M.length ≤ 100000)
    (h : ∀ v' w', OwnK w' z.heap.size v' (L ++ M) → Below z.heap.size z w' → w.grownBy w' v.ownBlock → K (a.put o.dst v') w') : if Region.wanted o (yielded ops a.tmps) = true then Oper.wp Tryd.prog o a w K Q else E := by
  have hw : Region.wanted o (yielded ops a.tmps) = true := by simp [Region.wanted, hgd]
  rw [if_pos hw]
  obtain ⟨i0, hi0, hz0, hz1, hz2⟩ := info_parts cls_info
  have hbs := hb.size
  obtain ⟨vs, how, hl, hone, hxs⟩ := hown
  obtain ⟨us, hul, huo, huc, hux⟩ := (hr.below hb).vals
  refine wp_append_own _ s x 22 ho z.heap.size 26 i0 (.slice none 0 0) 1 24 Tryd.underlying22 hi0 hz0 hz1 hz2 rfl (by omega) v L.length vs hs how ad M.length k us hx (by simpa using hul) ?_ huo (by unfold maxLen; omega) (by omega) hbs ?_
  · intro j u hj
    have hjl : j < M.length := by
      have := (List.getElem?_eq_some_iff.1 hj).1
      omega
    obtain ⟨ad', e, hc⟩ := huc j hjl
    cases e
    rw [hc, hj]
  · intro v' w' hown' hg _
    have hb' := hb.grown hg hbs (fun k hk => ((World.ownsRow.lt how) k hk).1)
    refine h v' w' ⟨vs ++ us, by simpa using hown', by simp [hl, hul], ?_, ?_⟩ hb' hg
    · intro u hu
      rcases List.mem_append.1 hu with h1 | h1
      · exact hone u h1
      · exact huo u h1
    · intro i hi
      by_cases hil : i < L.length
      · obtain ⟨A', c', e, hri, q⟩ := hxs i hil
        have e1 : (L ++ M).getD i [] = L.getD i [] := by simp [List.getD_eq_getElem?_getD, List.getElem?_append_left hil]
        rw [e1]
        refine ⟨A', c', by rw [List.getElem?_append_left (by omega)]; exact e, ?_, q⟩
        exact (hri.back hb).below hb'
      · have hi' : i < L.length + M.length := by simpa using hi
        obtain ⟨A', c', e, hri, q⟩ := hux (i - L.length) (by omega)
        have e1 : (L ++ M).getD i [] = M.getD (i - L.length) [] := by simp [List.getD_eq_getElem?_getD, List.getElem?_append_right (show L.length ≤ i by omega)]
        rw [e1]
        refine ⟨A', c', by rw [List.getElem?_append_right (by omega), hl]; exact e, ?_, q⟩
        exact (hri.back hb).below hb'

/-- 'append(s, m)', m a clause in a row of one, made before. -/
theorem stepK1 {z w : World} {ops : Array Oper} {o : Oper} {a : Act} {K : Act → World → Prop} {Q : Exit → Act → World → Prop} {E : Prop} (hgd : o.guard = none) (s x : Operand)
    (ho : o.op = .call { callee := .builtin .append, args := #[s, x], argTypes := #[22, 22] })
    (v : Value) (L : List (List Int)) (hs : a.eval s = v) (hown : OwnK w z.heap.size v L) (g : Nat) (MA : Option Addr) (km : Nat) (m : List Int) (hx : a.eval x = .slice (some ⟨g, 0, none⟩) 1 1) (hc : w.cell? ⟨g, 0, none⟩ = some (.slice MA m.length km)) (hr : RI z z.heap.size MA m) (h1 : m.length ≤ km) (h2 : km ≤ maxLen) (hb : Below z.heap.size z w)
    (hsz : L.length ≤ 100000)
    (h : ∀ v' w', OwnK w' z.heap.size v' (L ++ [m]) → Below z.heap.size z w' → K (a.put o.dst v') w') : if Region.wanted o (yielded ops a.tmps) = true then Oper.wp Tryd.prog o a w K Q else E := by
  have hw : Region.wanted o (yielded ops a.tmps) = true := by simp [Region.wanted, hgd]
  rw [if_pos hw]
  obtain ⟨i0, hi0, hz0, hz1, hz2⟩ := info_parts cls_info
  have hbs := hb.size
  obtain ⟨vs, how, hl, hone, hxs⟩ := hown
  refine wp_append_own _ s x 22 ho z.heap.size 26 i0 (.slice none 0 0) 1 24 Tryd.underlying22 hi0 hz0 hz1 hz2 rfl (by omega) v L.length vs hs how ⟨g, 0, none⟩ 1 1 [.slice MA m.length km] hx rfl ?_ (by simp; rfl) (by unfold maxLen; omega) (by omega) hbs ?_
  · intro j u hj
    have : j = 0 := by
      have := (List.getElem?_eq_some_iff.1 hj).1
      simpa using this
    subst this
    simp at hj
    subst hj
    simpa [Addr.add] using hc
  · intro v' w' hown' hg _
    have hb' := hb.grown hg hbs (fun k hk => ((World.ownsRow.lt how) k hk).1)
    refine h v' w' ⟨vs ++ [.slice MA m.length km], by simpa using hown', by simp [hl], ?_, ?_⟩ hb'
    · intro u hu
      rcases List.mem_append.1 hu with h1 | h1
      · exact hone u h1
      · simp at h1; subst h1; rfl
    · intro i hi
      by_cases hil : i < L.length
      · obtain ⟨A', c', e, hri, q⟩ := hxs i hil
        have e1 : (L ++ [m]).getD i [] = L.getD i [] := by simp [List.getD_eq_getElem?_getD, List.getElem?_append_left hil]
        rw [e1]
        refine ⟨A', c', by rw [List.getElem?_append_left (by omega)]; exact e, ?_, q⟩
        exact (hri.back hb).below hb'
      · have hi' : i = L.length := by have : i < L.length + 1 := by simpa using hi
                                      omega
        subst hi'
        have e1 : (L ++ [m]).getD L.length [] = m := by simp [List.getD_eq_getElem?_getD]
        rw [e1]
        refine ⟨MA, km, by rw [← hl]; simp, hr.below hb', h1, h2⟩
end Go.Proofs.YtahedhpffjgimaaDoor
