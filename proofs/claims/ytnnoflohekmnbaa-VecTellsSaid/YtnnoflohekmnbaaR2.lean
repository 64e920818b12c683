/-
  The reference's Ext and Ite.
-/
import Derived.Test.YtnnoflohekmnbaaProg
import Derived.WalkKit
import Derived.WalkSpells
import Derived.WalkLawsBesides
import Derived.LoopN
import Derived.IntWalk
import Derived.Lib.Hide
import Derived.Laws.BitsAllLaws
import Derived.Laws.Externs
import Derived.BigQuiet
import Derived.BigRegion
import Derived.Deep.QuietTactic
import Derived.Deep.RegionWith
import Derived.Deep.RegionHeld3
import Derived.StillTailTactics
import Derived.RegionTactic
import Derived.ChangeAlike
import Derived.Test.YtnnoflohekmnbaaR1
import Derived.Test.YtnnoflohekmnbaaC5
set_option linter.unusedVariables false
namespace Go.Proofs.Ytnnoflohekmnbaa
open Go.RowKit
set_option maxHeartbeats 400000 in
theorem refExt_erra (V : Value) (W n : Int) (b : Bool) (w : World) (h0 : n < 0) : Calls Try.prog 29 #[.agg #[.int .i64 W, V], .int .i64 n, .bool b] w (RetErr w 5) := by
  have d1 : decide (n < 0) = true := decide_eq_true h0
  go_enter Try.func29, Try.ntmps29
  go_wp2
  refine bodyPost_ret (v := .tuple #[.agg #[.int .i64 0, .slice none 0 0], .int .i64 5]) (by simp [results, Try.results29, go_sem]) rfl ⟨rfl, ?_⟩
  repeat (first | exact Below.refl _ _ | refine below_drewN ?_ _ | refine bal ?_ _)
set_option maxHeartbeats 400000 in
theorem refExt_errb (V : Value) (W n : Int) (b : Bool) (w : World) (hW : 0 ≤ W) (hW2 : W ≤ 128) (h0 : 0 ≤ n) (h1 : 128 - W < n) : Calls Try.prog 29 #[.agg #[.int .i64 W, V], .int .i64 n, .bool b] w (RetErr w 5) := by
  have d1 : decide (n < 0) = false := decide_eq_false (by omega)
  have d2 : decide (128 - W < n) = true := decide_eq_true h1
  go_enter Try.func29, Try.ntmps29
  go_wp2
  refine bodyPost_ret (v := .tuple #[.agg #[.int .i64 0, .slice none 0 0], .int .i64 5]) (by simp [results, Try.results29, go_sem]) rfl ⟨rfl, ?_⟩
  repeat (first | exact Below.refl _ _ | refine below_drewN ?_ _ | refine bal ?_ _)
theorem rep_next (l : List Bool) (j : Nat) (b : Bool) : l ++ List.replicate j b ++ [b] = l ++ List.replicate (j + 1) b := by
  rw [List.append_assoc, List.replicate_succ']
set_option maxRecDepth 100000 in
set_option maxHeartbeats 2000000 in
theorem refExt_walk {w : World} {ad : Addr} {c W N : Nat} (h : Vc w w.heap.size ad c W N) (n : Nat) (hn : W + n ≤ 128) (sign top : Bool) (ht : (sign && N.testBit (W - 1)) = top) (Y : Nat) (hY : Hid (∀ l : List Bool, l.length = W → nb l = N → nb (l ++ List.replicate n top) = Y)) :
    Calls Try.prog 29 #[.agg #[.int .i64 W, .slice (some ad) (lm W) c], .int .i64 n, .bool sign] w (RetVE w (W + n) Y) := by
  have h1 := h.w1
  have h2 := h.w2
  have HT := Lib.hid ht
  have hF0 := Fr2.first w (.int .i64 W) (.slice (some ad) (lm W) c) (.int .i64 0) (.slice none 0 0) 24 24
  have hV0 := h.nx hF0.bel
  have d1 : decide ((n : Int) < 0) = false := decide_eq_false (by omega)
  have d2 : decide (128 - (W : Int) < (n : Int)) = false := decide_eq_false (by omega)
  generalize hk : lm W = k at *
  have HK := Lib.hid hk
  generalize hw0 : (w.alloc (.cells #[.int .i64 W, .slice (some ad) k c] 24)).alloc (.cells #[.int .i64 0, .slice none 0 0] 24) = w0 at *
  have HW0 := Lib.hid hw0
  obtain ⟨⟨p1, p2⟩, ⟨p3, p4, p5, p6⟩, pz⟩ := hF0.parts
  have HF0 := Lib.hid hF0
  have HV0 := Lib.hid hV0
  clear h hk ht hw0 hF0 hV0 p1 p2 p3 p4 p5 p6 pz
  go_enter Try.func29, Try.ntmps29
  go_wp2_with fail
  rw [HW0.out]
  obtain ⟨⟨p1, p2⟩, ⟨p3, p4, p5, p6⟩, pz⟩ := HF0.out.parts
  refine (refBits_k HK.out HV0.out).mono ?_
  rintro e w1 ⟨v, l, rfl, hl, hN, ho, hb1⟩
  have hF1 := HF0.out.nx hb1
  obtain ⟨A1, c1, rfl, hr, _⟩ := ho.val
  obtain ⟨ada, rfl, hba, hca⟩ := hr (W - 1) (by omega)
  rw [← nb_bit, hN] at hca
  obtain ⟨tt, htt⟩ : ∃ tt, N.testBit (W - 1) = tt := ⟨_, rfl⟩
  rw [htt] at hca
  obtain ⟨u, hu⟩ : ∃ u, W - 1 = u := ⟨_, rfl⟩
  rw [hu] at hca
  have hul : u < l.length := by omega
  have hul' : (u : Int) < (l.length : Int) := by omega
  have huw : (W : Int) - 1 = (u : Int) := by omega
  have HTT : Hid ((sign && tt) = top) := Lib.hid (by rw [← htt]; exact HT.out)
  have HO := Lib.hid ho
  have HLN := Lib.hid (And.intro hl hN)
  have HB1 := Lib.hid hb1
  have hl8 : l.length ≤ 128 := by omega
  clear p1 p2 p3 p4 p5 p6 pz hr ho hN htt hu HT hb1
  obtain ⟨⟨p1, p2⟩, ⟨p3, p4, p5, p6⟩, pz⟩ := hF1.parts
  clear hF1 hl
  cases sign
  rotate_left
  · obtain rfl : tt = top := by simpa using HTT.out
    clear HTT
    go_wp2
    clear hca hul hul' huw
    go_loopw [8, 10] (fun v i wr => ∃ (j : Nat), j ≤ n ∧ i = .int .i64 j ∧ OwnB wr w0.heap.size v (l ++ List.replicate j tt) ∧ Below w0.heap.size w0 wr) (fun _ i _ => n - (intOf i).toNat)
    case atStart => exact ⟨0, Nat.zero_le _, rfl, by rw [List.replicate_zero, List.append_nil]; exact HO.out, HB1.out⟩
    case round =>
      obtain ⟨j, hj, rfl, hown, hb⟩ := hrel
      by_cases hlt : j < n
      · have hlt' : (j : Int) < (n : Int) := by omega
        have HN := Lib.hid (rep_next l j tt)
        have hl5 : (l ++ List.replicate j tt).length ≤ 100000 := by have := HLN.out.1; simp; omega
        generalize l ++ List.replicate j tt = o at *
        have HB := Lib.hid hb
        have hsz : w0.heap.size ≤ wr.heap.size := hb.size
        clear hb
        go_wp2_with (first
          | (at_builtin; refine wpB1 rfl (.tmp 37) (.tmp 39) rfl _ o rfl hown tt rfl HB.out hl5 ?_))
        intro v' w3 hown' hb'
        go_wp2
        go_roundw
        case rel => exact ⟨j + 1, by omega, by go_num, by rw [← HN.out]; exact hown', hb'⟩
        case measure => simp [intOf]; omega
      · obtain rfl : j = n := by omega
        obtain ⟨A2, c2, rfl, hr2, _⟩ := hown.val
        have hll : (l ++ List.replicate j tt).length = W + j := by have := HLN.out.1; simp; omega
        have hnn := hY.out l HLN.out.1 HLN.out.2
        have C2 := refOf_l A2 c2 (W + j) _ wr hr2 hll (by omega) hn
        rw [hnn] at C2
        have hF2 := HF0.out.nx hb
        have HLL := Lib.hid hll
        rw [hll]
        clear hown hr2 hnn hb hll hlt
        obtain ⟨⟨q1, q2⟩, ⟨q3, q4, q5, q6⟩, qz⟩ := hF2.parts
        go_wp2_with fail
        refine C2.mono ?_
        rintro e w4 ⟨ad4, c4, rfl, hv4, hf4, hb4⟩
        have hF4 := hF2.nx hb4
        have hg4 : w.heap.size + 1 < ad4.block := by have := hF2.sz; omega
        clear q1 q2 q3 q4 q5 q6 qz C2
        obtain ⟨⟨q1, q2⟩, ⟨q3, q4, q5, q6⟩, qz⟩ := hF4.parts
        go_wp2
        refine bodyPost_ret (v := .tuple #[.agg #[.int .i64 ((W + j : Nat) : Int), .slice (some ad4) (lm (W + j)) c4], .int .i64 0]) (by simp [results, Try.results29, go_sem, *]) rfl ?_
        exact RetVE.mk (W := W + j) hv4 hF4.bel (by omega) hg4
  · obtain rfl : false = top := by simpa using HTT.out
    clear HTT
    go_wp2
    clear hca hul hul' huw
    go_loopw [8, 10] (fun v i wr => ∃ (j : Nat), j ≤ n ∧ i = .int .i64 j ∧ OwnB wr w0.heap.size v (l ++ List.replicate j false) ∧ Below w0.heap.size w0 wr) (fun _ i _ => n - (intOf i).toNat)
    case atStart => exact ⟨0, Nat.zero_le _, rfl, by rw [List.replicate_zero, List.append_nil]; exact HO.out, HB1.out⟩
    case round =>
      obtain ⟨j, hj, rfl, hown, hb⟩ := hrel
      by_cases hlt : j < n
      · have hlt' : (j : Int) < (n : Int) := by omega
        have HN := Lib.hid (rep_next l j false)
        have hl5 : (l ++ List.replicate j false).length ≤ 100000 := by have := HLN.out.1; simp; omega
        generalize l ++ List.replicate j false = o at *
        have HB := Lib.hid hb
        have hsz : w0.heap.size ≤ wr.heap.size := hb.size
        clear hb
        go_wp2_with (first
          | (at_builtin; refine wpB1 rfl (.tmp 37) (.tmp 39) rfl _ o rfl hown false rfl HB.out hl5 ?_))
        intro v' w3 hown' hb'
        go_wp2
        go_roundw
        case rel => exact ⟨j + 1, by omega, by go_num, by rw [← HN.out]; exact hown', hb'⟩
        case measure => simp [intOf]; omega
      · obtain rfl : j = n := by omega
        obtain ⟨A2, c2, rfl, hr2, _⟩ := hown.val
        have hll : (l ++ List.replicate j false).length = W + j := by have := HLN.out.1; simp; omega
        have hnn := hY.out l HLN.out.1 HLN.out.2
        have C2 := refOf_l A2 c2 (W + j) _ wr hr2 hll (by omega) hn
        rw [hnn] at C2
        have hF2 := HF0.out.nx hb
        have HLL := Lib.hid hll
        rw [hll]
        clear hown hr2 hnn hb hll hlt
        obtain ⟨⟨q1, q2⟩, ⟨q3, q4, q5, q6⟩, qz⟩ := hF2.parts
        go_wp2_with fail
        refine C2.mono ?_
        rintro e w4 ⟨ad4, c4, rfl, hv4, hf4, hb4⟩
        have hF4 := hF2.nx hb4
        have hg4 : w.heap.size + 1 < ad4.block := by have := hF2.sz; omega
        clear q1 q2 q3 q4 q5 q6 qz C2
        obtain ⟨⟨q1, q2⟩, ⟨q3, q4, q5, q6⟩, qz⟩ := hF4.parts
        go_wp2
        refine bodyPost_ret (v := .tuple #[.agg #[.int .i64 ((W + j : Nat) : Int), .slice (some ad4) (lm (W + j)) c4], .int .i64 0]) (by simp [results, Try.results29, go_sem, *]) rfl ?_
        exact RetVE.mk (W := W + j) hv4 hF4.bel (by omega) hg4
end Go.Proofs.Ytnnoflohekmnbaa
