/-
  The reference's Sort.
-/
import Derived.Test.YtlebagdildpkmaaProg
import Derived.WalkKit
import Derived.WalkSpells
import Derived.WalkLawsBesides
import Derived.Lib.Hide
import Derived.BigQuiet
import Derived.Deep.QuietTactic
import Derived.Deep.RegionWith
import Derived.Deep.RegionHeld3
import Derived.Test.YtlebagdildpkmaaD4
import Derived.Deep.LoopGhost
import Derived.IntWalk
set_option linter.unusedVariables false
namespace Go.Proofs.Ytlebagdildpkmaa
open Go.RowKit
/-- A row with one more at a place. -/
def insAt (o : List Int) (k : Nat) (d : Int) : List Int := o.take k ++ d :: o.drop k
theorem insAt_len (o : List Int) (k : Nat) (d : Int) (h : k ≤ o.length) : (insAt o k d).length = o.length + 1 := by simp [insAt]; omega
theorem insAt_end (o : List Int) (x : Int) : insAt o o.length x = o ++ [x] := by simp [insAt]
theorem insAt_set (o : List Int) (k : Nat) (d e : Int) (h : k ≤ o.length) : (insAt o k d).set k e = insAt o k e := by
  unfold insAt
  have hl : (o.take k).length = k := by simp; omega
  rw [List.set_append_right _ _ (by omega), hl]; simp
theorem insAt_shift (o : List Int) (k : Nat) (h : k < o.length) : insAt o (k + 1) (o.getD k 0) = insAt o k (o.getD k 0) := by
  unfold insAt
  rw [take_snocI o k h, dropI o k h]; simp
theorem insAt_get (o : List Int) (k : Nat) (d : Int) (h : k < o.length) : (insAt o (k + 1) d).getD k 0 = o.getD k 0 := by
  unfold insAt
  have hl : k < (o.take (k + 1)).length := by simp; omega
  rw [List.getD_eq_getElem?_getD, List.getElem?_append_left hl, List.getElem?_take, if_pos (by omega), List.getD_eq_getElem?_getD]
theorem insAt_mem (o : List Int) (k : Nat) (x y : Int) : y ∈ insAt o k x ↔ y ∈ o ∨ y = x := by
  unfold insAt
  have : y ∈ o ↔ y ∈ o.take k ∨ y ∈ o.drop k := by rw [← List.mem_append, List.take_append_drop]
  simp [this]
  constructor
  · rintro (h | h | h)
    · exact .inl (.inl h)
    · exact .inr h
    · exact .inl (.inr h)
  · rintro ((h | h) | h)
    · exact .inl h
    · exact .inr (.inr h)
    · exact .inr (.inl h)
theorem ltP_trans {x y z : Int} (h1 : ltP x y) (h2 : ltP y z) : ltP x z := by unfold ltP at *; omega
theorem insAt_sorted {o : List Int} {k : Nat} {x : Int} (ho : o.Pairwise ltP) (h1 : ∀ y ∈ o.drop k, ltP x y) (h2 : ∀ y ∈ o.take k, ltP y x) : (insAt o k x).Pairwise ltP := by
  unfold insAt
  have hs := ho
  rw [← List.take_append_drop k o, List.pairwise_append] at hs
  rw [List.pairwise_append, List.pairwise_cons]
  refine ⟨hs.1, ⟨h1, hs.2.1⟩, fun a ha b hb => ?_⟩
  rcases List.mem_cons.1 hb with e | e
  · rw [e]; exact h2 a ha
  · exact hs.2.2 a ha b e
theorem take_lt {o : List Int} (ho : o.Pairwise ltP) {k : Nat} (hk : k < o.length) {x : Int} (h : ltP (o.getD k 0) x) : ∀ y ∈ o.take (k + 1), ltP y x := by
  intro y hy
  rw [take_snocI o k hk] at hy
  rcases List.mem_append.1 hy with e | e
  · have hs := ho
    rw [← List.take_append_drop k o, dropI o k hk, List.pairwise_append] at hs
    exact ltP_trans (hs.2.2 y e _ (by simp)) h
  · rw [List.mem_singleton.1 e]; exact h
/-- How things stand while a literal is put in its place. -/
def InsAt (w wr : World) (A : Option Addr) (n c : Nat) (o : List Int) (k : Nat) (x : Int) : Prop :=
  ∃ d, OwnI wr w.heap.size (.slice A n c) (insAt o k d) ∧ Below w.heap.size w wr ∧ ∀ y ∈ o.drop k, ltP x y
set_option maxHeartbeats 3000000 in
set_option maxRecDepth 100000 in
theorem refSort_any (A : Option Addr) (c : Nat) (l : List Int) (w : World) (h : RI w w.heap.size A l) (hx : Lits l) (hl : l.length ≤ 90000) : Calls Try.prog 18 #[.slice A l.length c] w (RetI w (sortF l)) := by
  have HR := Lib.hid h
  have HX := Lib.hid hx
  clear h hx
  go_enter Try.func18, Try.ntmps18
  go_wp2
  go_loopg [3, 4] l.length (fun g s3 s4 wr => ∃ (i : Nat) (v : Value) (o : List Int), i + g = l.length ∧ s4 = .int .i64 i ∧ s3 = v ∧ OwnI wr w.heap.size v o ∧ Below w.heap.size w wr ∧ o.length ≤ i ∧ Hid (o.Pairwise ltP ∧ ∀ y, y ∈ o ↔ y ∈ l.take i))
  case atStart => exact ⟨0, _, [], by omega, rfl, rfl, OwnI.nil _ _, Below.refl _ _, by simp, Lib.hid ⟨by simp, by simp⟩⟩
  case round =>
    obtain ⟨i, v, o, hi, rfl, rfl, hO, hb, hoi, HO⟩ := hrel
    obtain ⟨Ao, ko, hvo, hro, _⟩ := hO.val
    obtain ⟨no, hno⟩ : ∃ no, o.length = no := ⟨_, rfl⟩
    rw [hno] at hvo hoi
    subst hvo
    cases gk with
    | zero =>
      have q1 : ¬ ((i : Int) < l.length) := by omega
      have q2 : ¬ (i < l.length) := by omega
      have HO1 := Lib.hid hO
      have HB1 := Lib.hid hb
      clear hO hb hro hno
      go_wp2
      go_ret
      refine ⟨_, rfl, ?_, HB1.out⟩
      have e : sortF l = o := sorted_uniq _ _ (sortF_lt _) HO.out.1 (fun y => by
        rw [sortF_mem, HO.out.2 y, List.take_of_length_le (by omega)])
      rw [e]; exact HO1.out
    | succ g =>
      have hil : i < l.length := by omega
      have hil' : (i : Int) < l.length := by omega
      obtain ⟨ad, rfl, hab, hcz⟩ := HR.out i hil
      have hcc := (hb.cell (p := ad.add i) (by rw [block_add]; exact hab)).trans hcz
      obtain ⟨x0, x1, x2⟩ := HX.out _ (getD_mem l i hil)
      have HTK := Lib.hid (take_snocI l i hil)
      have C : ∀ y, Calls Try.prog 21 #[.slice Ao no ko, .int .i64 y] wr (RetS wr (.bool (o.contains y))) := fun y => by
        have := In_any Ao ko o y wr hro (by unfold maxLen; omega)
        rwa [hno] at this
      clear hcz hro
      generalize l.getD i 0 = x at *
      have c1 := C x
      clear C
      by_cases hxo : x ∈ o
      · rw [show o.contains x = true by simpa using hxo] at c1
        have HXO := Lib.hid hxo
        have HO1 := Lib.hid hO
        have HB1 := Lib.hid hb
        have HNO := Lib.hid hno
        clear hxo hO hb hno
        go_wp2_with fail
        refine c1.mono ?_; rintro e w1 ⟨rfl, rfl⟩
        clear c1
        go_wp2
        go_roundg g
        case measure => omega
        case rel =>
          refine ⟨i + 1, _, o, by omega, by go_num, rfl, HO1.out, HB1.out, by have := HNO.out; omega, Lib.hid ⟨HO.out.1, fun y => ?_⟩⟩
          rw [HTK.out, List.mem_append, HO.out.2 y, List.mem_singleton]
          refine ⟨.inl, fun h => ?_⟩
          rcases h with h | h
          · exact h
          · rw [h]; exact (HO.out.2 x).1 HXO.out
      · rw [show o.contains x = false by simpa using hxo] at c1
        have HXO := Lib.hid hxo
        have hol : o.length ≤ 100000 := by omega
        have HNO := Lib.hid hno
        clear hxo hno
        go_wp2_with fail
        refine c1.mono ?_; rintro e w1 ⟨rfl, rfl⟩
        clear c1
        go_wp2_with (first | (at_builtin; refine wpI1 rfl (.tmp 24) (.tmp 26) rfl _ o rfl hO x rfl hb hol ?_) | fail)
        intro v' w' hO' hb'
        have hln : (o ++ [x]).length = no + 1 := by rw [List.length_append, HNO.out]; rfl
        obtain ⟨n1, hn1⟩ : ∃ n1, no + 1 = n1 := ⟨_, rfl⟩
        obtain ⟨g0, k1, hv1⟩ : ∃ g0 k1, v' = .slice (some ⟨g0, 0, none⟩) n1 k1 := by
          have h5 := hO'.2
          rw [hln, hn1] at h5
          rcases h5 with ⟨_, hz⟩ | ⟨g0, cap, cur, e, _⟩
          · omega
          · exact ⟨g0, cap, e⟩
        subst hv1
        have F0 : Hid (InsAt w w' (some ⟨g0, 0, none⟩) n1 k1 o no x) := Lib.hid ⟨x, by rw [← HNO.out, insAt_end]; exact hO', hb', by rw [← HNO.out]; simp⟩
        have hn1' : no < n1 := by omega
        have HN1 := Lib.hid hn1
        clear hO hb hO' hb' hcc hn1 hln
        go_wp2
        go_loopg [7] no (fun g s7 wr => g ≤ no ∧ s7 = .int .i64 g ∧ InsAt w wr (some ⟨g0, 0, none⟩) n1 k1 o g x)
        case atStart => exact ⟨Nat.le_refl _, rfl, F0.out⟩
        case round =>
          obtain ⟨hk, rfl, d, hO, hb, hlt⟩ := hrel
          clear F0
          have HLT := Lib.hid hlt
          have hnl := HNO.out
          have hil2 := insAt_len o gk d (by omega)
          have HB := Lib.hid hb
          have HOO := Lib.hid hO
          obtain ⟨Ax, kx, hvx, hrx, _⟩ := hO.val
          rw [hil2, hnl, HN1.out] at hvx
          cases hvx
          obtain ⟨hbg, hst⟩ := hO.store (by rw [hil2, hnl]; exact HN1.out)
          obtain ⟨⟨uc, hu⟩, hf, _⟩ := hst gk (by omega)
          have hst2 : ∀ q (y : Int), OwnI ((wr.drewN q).setCell ⟨g0, gk, none⟩ (.int .i64 y)) w.heap.size (.slice (some ⟨g0, 0, none⟩) n1 k1) (insAt o gk y) ∧ Below w.heap.size w ((wr.drewN q).setCell ⟨g0, gk, none⟩ (.int .i64 y)) := fun q y => by
            obtain ⟨_, hs⟩ := (hO.old (drw q)).store (by rw [hil2, hnl]; exact HN1.out)
            have h6 := (hs gk (by omega)).2.2 y
            rw [insAt_set o gk d y (by omega)] at h6
            exact ⟨h6, (bnx hb (drw q)).setCell (p := ⟨g0, gk, none⟩) hbg (.int .i64 y)⟩
          have HST := Lib.hid hst2
          have hgn : (gk : Int) < n1 := by omega
          have hgn' : gk < n1 := by omega
          -- the end of this loop, and of the round
          have HEND : Hid ((∀ y ∈ o.take gk, ltP y x) → ∀ q, ∃ o' : List Int, OwnI ((wr.drewN q).setCell ⟨g0, gk, none⟩ (.int .i64 x)) w.heap.size (.slice (some ⟨g0, 0, none⟩) n1 k1) o' ∧ Below w.heap.size w ((wr.drewN q).setCell ⟨g0, gk, none⟩ (.int .i64 x)) ∧ o'.length ≤ i + 1 ∧ Hid (o'.Pairwise ltP ∧ ∀ y, y ∈ o' ↔ y ∈ l.take (i + 1))) := Lib.hid fun h2 q => by
            refine ⟨insAt o gk x, (HST.out q x).1, (HST.out q x).2, by rw [insAt_len o gk x (by omega)]; omega, Lib.hid ⟨insAt_sorted HO.out.1 HLT.out h2, fun y => ?_⟩⟩
            rw [insAt_mem, HTK.out, List.mem_append, HO.out.2 y, List.mem_singleton]
          by_cases h0 : 0 < gk
          · have hkl : gk - 1 < o.length := by omega
            obtain ⟨ad', e', _, hcy⟩ := hrx (gk - 1) (by rw [hil2]; omega)
            cases e'
            have eg : (insAt o gk d).getD (gk - 1) 0 = o.getD (gk - 1) 0 := by
              have := insAt_get o (gk - 1) d hkl
              rwa [show gk - 1 + 1 = gk by omega] at this
            rw [eg, add_loc] at hcy
            have hym : o.getD (gk - 1) 0 ∈ o := getD_mem o (gk - 1) hkl
            obtain ⟨y0, y1, y2⟩ := HX.out _ (List.mem_of_mem_take ((HO.out.2 _).1 hym))
            have hxy : x ≠ o.getD (gk - 1) 0 := fun e => HXO.out (e ▸ hym)
            have hdr : o.drop (gk - 1) = o.getD (gk - 1) 0 :: o.drop gk := by
              have := dropI o (gk - 1) hkl
              rwa [show gk - 1 + 1 = gk by omega] at this
            have hsh : insAt o gk (o.getD (gk - 1) 0) = insAt o (gk - 1) (o.getD (gk - 1) 0) := by
              have := insAt_shift o (gk - 1) hkl
              rwa [show gk - 1 + 1 = gk by omega] at this
            have hnext : ltP x (o.getD (gk - 1) 0) → ∀ q, InsAt w ((wr.drewN q).setCell ⟨g0, gk, none⟩ (.int .i64 (o.getD (gk - 1) 0))) (some ⟨g0, 0, none⟩) n1 k1 o (gk - 1) x := fun hl q =>
              ⟨o.getD (gk - 1) 0, by rw [← hsh]; exact (HST.out q _).1, (HST.out q _).2, by
                rw [hdr]; intro z hz
                rcases List.mem_cons.1 hz with e | e
                · rw [e]; exact hl
                · exact HLT.out z e⟩
            have hend : ¬ ltP x (o.getD (gk - 1) 0) → ∀ y ∈ o.take gk, ltP y x := fun hn => by
              have := take_lt HO.out.1 hkl (x := x) (by unfold ltP at *; omega)
              rwa [show gk - 1 + 1 = gk by omega] at this
            have hlp := ltP_small x1 x2 y1 y2
            have HNEXT := Lib.hid hnext
            have HHEND := Lib.hid hend
            have HLP := Lib.hid hlp
            have e3 : IntKind.i64.wrap ((gk : Int) - 1) = ((gk - 1 : Nat) : Int) := by rw [IntWalk.i64_in _ (by omega)]; omega
            have e4 : wrap64 ((gk : Int) - 1) = ((gk - 1 : Nat) : Int) := by rw [IntWalk.wrap64_in _ (by omega)]; omega
            have e5 : (gk : Int) - 1 = ((gk - 1 : Nat) : Int) := by omega
            have hl1 : ((gk - 1 : Nat) : Int) < n1 := by omega
            have m1 := max_run x (-x) (x.natAbs : Int) (by split <;> omega)
            have m2 := max_run (o.getD (gk - 1) 0) (-(o.getD (gk - 1) 0)) ((o.getD (gk - 1) 0).natAbs : Int) (by split <;> omega)
            clear hnext hend hlp hdr hsh eg hym hrx hst hst2 hO hb hlt hil2
            generalize o.getD (gk - 1) 0 = y at *
            have d3 : decide ((gk : Int) > 0) = true := decide_eq_true (by omega)
            have d3' : decide ((0 : Int) < (gk : Int)) = true := decide_eq_true (by omega)
            have d3'' : decide (0 < gk) = true := decide_eq_true h0
            have E5 := Lib.hid e5
            by_cases hA : x.natAbs < y.natAbs
            · have HL := Lib.hid (HNEXT.out (HLP.out.2 (.inl hA)))
              have t1 : decide ((x.natAbs : Int) < y.natAbs) = true := decide_eq_true (by omega)
              clear hA
              generalize (x.natAbs : Int) = X at *
              generalize (y.natAbs : Int) = Y at *
              go_wp2
              go_quiet (fail)
              go_wp2
              go_roundg (gk - 1)
              case measure => omega
              case rel => exact ⟨by omega, by first | rfl | exact congrArg (Value.int .i64) E5.out, HL.out _⟩
            · have t1 : decide ((x.natAbs : Int) < y.natAbs) = false := decide_eq_false (by omega)
              by_cases hB : x.natAbs = y.natAbs
              · have t2 : ((x.natAbs : Int) == y.natAbs) = true := by rw [beq_iff_eq]; omega
                by_cases hC : x < 0
                · have HL := Lib.hid (HNEXT.out (HLP.out.2 (.inr ⟨hB, by omega⟩)))
                  have t3 : decide (x < 0) = true := decide_eq_true hC
                  clear hA hB hC
                  generalize (x.natAbs : Int) = X at *
                  generalize (y.natAbs : Int) = Y at *
                  go_wp2
                  go_quiet (fail)
                  go_wp2
                  go_roundg (gk - 1)
                  case measure => omega
                  case rel => exact ⟨by omega, by first | rfl | exact congrArg (Value.int .i64) E5.out, HL.out _⟩
                · have HE := Lib.hid (HEND.out (HHEND.out (fun h => by rcases HLP.out.1 h with h | h <;> omega)))
                  have t3 : decide (x < 0) = false := decide_eq_false hC
                  clear hA hB hC
                  generalize (x.natAbs : Int) = X at *
                  generalize (y.natAbs : Int) = Y at *
                  go_wp2
                  go_quiet (fail)
                  go_wp2
                  obtain ⟨o', p1, p2, p3, p4⟩ := HE.out nq
                  go_roundg g
                  case measure => omega
                  case rel => exact ⟨i + 1, _, o', by omega, by go_num, rfl, p1, p2, p3, p4⟩
              · have HE := Lib.hid (HEND.out (HHEND.out (fun h => by rcases HLP.out.1 h with h | h <;> omega)))
                have t2 : ((x.natAbs : Int) == y.natAbs) = false := by rw [beq_eq_false_iff_ne]; omega
                clear hA hB
                generalize (x.natAbs : Int) = X at *
                generalize (y.natAbs : Int) = Y at *
                go_wp2
                go_quiet (fail)
                go_wp2
                obtain ⟨o', p1, p2, p3, p4⟩ := HE.out nq
                go_roundg g
                case measure => omega
                case rel => exact ⟨i + 1, _, o', by omega, by go_num, rfl, p1, p2, p3, p4⟩
          · obtain rfl : gk = 0 := by omega
            have HE := Lib.hid (HEND.out (by simp))
            clear hrx hst hst2 hO hb hlt hil2 h0
            go_wp2
            go_quiet (fail)
            go_wp2
            obtain ⟨o', p1, p2, p3, p4⟩ := HE.out nq
            go_roundg g
            case measure => omega
            case rel => exact ⟨i + 1, _, o', by omega, by go_num, rfl, p1, p2, p3, p4⟩
end Go.Proofs.Ytlebagdildpkmaa
