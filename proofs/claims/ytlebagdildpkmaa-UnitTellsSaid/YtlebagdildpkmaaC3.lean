/-
  The document's example, walked.
-/
import Derived.Test.YtlebagdildpkmaaProg
import Derived.WalkKit
import Derived.WalkSpells
import Derived.WalkLawsBesides
import Derived.Lib.Hide
import Derived.BigQuiet
import Derived.Deep.QuietTactic
import Derived.Deep.RegionWith
import Derived.Deep.RegionHeld3
import Derived.Test.YtlebagdildpkmaaC2
import Derived.Deep.Cut
set_option linter.unusedVariables false
namespace Go.Proofs.Ytlebagdildpkmaa
open Go.RowKit
theorem close_lit (bL : Nat) (A : List Int) (z : World) (hL : RCk z z.heap.size (some ⟨bL, 0, none⟩) L0) (h : A.all (fun x => decide (x ≠ 0) && decide (-3 ≤ x) && decide (x ≤ 3)) = true) (hl : A.length ≤ 10) :
    Calls Try.prog 12 #[.int .i64 3, .slice (some ⟨bL, 0, none⟩) 2 2, .slice (some ⟨z.heap.size, 0, none⟩) A.length A.length] (z.alloc (.cells (A.map (Value.int .i64)).toArray 3)) (RetIB (z.alloc (.cells (A.map (Value.int .i64)).toArray 3)) (closeL L0 A) (clashB L0 A)) :=
  Close_any (some ⟨bL, 0, none⟩) (some ⟨z.heap.size, 0, none⟩) 2 A.length 3 L0 A _ (hL.nx (bal (Below.refl _ _) _)) (lit_ri z A (by omega)) (may0 h hl)
theorem refutes_lit (bL : Nat) (A : List Int) (z : World) (hL : RCk z z.heap.size (some ⟨bL, 0, none⟩) L0) (h : A.all (fun x => decide (x ≠ 0) && decide (-3 ≤ x) && decide (x ≤ 3)) = true) (hl : A.length ≤ 10) :
    Calls Try.prog 15 #[.int .i64 3, .slice (some ⟨bL, 0, none⟩) 2 2, .slice (some ⟨z.heap.size, 0, none⟩) A.length A.length] (z.alloc (.cells (A.map (Value.int .i64)).toArray 3)) (RetV (z.alloc (.cells (A.map (Value.int .i64)).toArray 3)) (.bool (clashB L0 (negC A)))) :=
  Refutes_any (some ⟨bL, 0, none⟩) (some ⟨z.heap.size, 0, none⟩) 2 A.length 3 L0 A _ (hL.nx (bal (Below.refl _ _) _)) (lit_ri z A (by omega)) (may0 h hl)
theorem ints_lit (Ao : Option Addr) (c : Nat) (A : List Int) (z : World) (hr : RI z z.heap.size Ao A) (hl : A.length ≤ 10) :
    Calls Try.prog 14 #[.slice Ao A.length c, .slice (some ⟨z.heap.size, 0, none⟩) A.length A.length] (z.alloc (.cells (A.map (Value.int .i64)).toArray 3)) (RetV (z.alloc (.cells (A.map (Value.int .i64)).toArray 3)) (.bool true)) := by
  have := Ints_any Ao (some ⟨z.heap.size, 0, none⟩) c A.length A A _ (hr.nx (bal (Below.refl _ _) _)) (lit_ri z A (by omega)) (by unfold maxLen; omega) (by unfold maxLen; omega)
  rwa [show (A == A) = true by simp] at this
theorem sort_lit (A : List Int) (z : World) (hl : A.length ≤ 10) :
    Calls Try.prog 17 #[.slice (some ⟨z.heap.size, 0, none⟩) A.length A.length] (z.alloc (.cells (A.map (Value.int .i64)).toArray 3)) (RetI (z.alloc (.cells (A.map (Value.int .i64)).toArray 3)) (sortF A)) :=
  sort_any _ _ A _ (lit_ri z A (by omega)) (by omega)
set_option maxHeartbeats 4000000 in
theorem shown_any (w : World) : Calls Try.prog 10 #[] w (RetV w (.bool true)) := by
  have hL := lits0 w
  have hb0 : Below w.heap.size w (((w.alloc (.cells #[.int .i64 1, .int .i64 2] 3)).alloc (.cells #[.int .i64 (-1), .int .i64 3] 3)).alloc (.cells #[.slice (some ⟨w.heap.size, 0, none⟩) 2 2, .slice (some ⟨w.heap.size + 1, 0, none⟩) 2 2] 23)) := bal (bal (bal (Below.refl _ _) _) _) _
  have hs : (((w.alloc (.cells #[.int .i64 1, .int .i64 2] 3)).alloc (.cells #[.int .i64 (-1), .int .i64 3] 3)).alloc (.cells #[.slice (some ⟨w.heap.size, 0, none⟩) 2 2, .slice (some ⟨w.heap.size + 1, 0, none⟩) 2 2] 23)).heap.size = w.heap.size + 3 := by simp
  rw [← hs] at hL
  have HL := Lib.hid hL
  have HB := Lib.hid hb0
  clear hL hb0 hs
  go_enter Try.func10, Try.ntmps10
  go_upto_region 2 with fail
  generalize ((w.alloc (.cells #[.int .i64 1, .int .i64 2] 3)).alloc (.cells #[.int .i64 (-1), .int .i64 3] 3)).alloc (.cells #[.slice (some ⟨w.heap.size, 0, none⟩) 2 2, .slice (some ⟨w.heap.size + 1, 0, none⟩) 2 2] 23) = z at *
  generalize w.heap.size + 1 + 1 = bL at *
  have C1 := close_lit bL [-2] z HL.out (by decide) (by decide)
  rw [close0, clash0] at C1
  go_wp2_with fail
  refine C1.mono ?_; rintro e w1 ⟨v1, rfl, ho1, hb1⟩
  have hz1 := bnx (bal (Below.refl z.heap.size z) _) hb1
  obtain ⟨A1, c1, rfl, hr1, _⟩ := ho1.val
  have HR1 := Lib.hid hr1
  have HZ1 := Lib.hid hz1
  have C2 := close_lit bL [-2, -3] w1 (HL.out.nx hz1) (by decide) (by decide)
  rw [closeL_clash clash1, clash1] at C2
  clear C1 ho1 hb1 hr1 hz1
  go_wp2_with fail
  refine C2.mono ?_; rintro e w2 ⟨v2, rfl, ho2, hb2⟩
  have hw2 := bnx (bal (Below.refl w1.heap.size w1) _) hb2
  have hz2 := bnx HZ1.out hw2
  have hr2 := HR1.out.nx hw2
  have C3 := ints_lit A1 c1 [1, -2, 3] w2 hr2 (by decide)
  have HZ2 := Lib.hid hz2
  clear C2 ho2 hb2 hw2 hz2 hr2 HR1 HZ1
  go_wp2_with fail
  refine C3.mono ?_; rintro e w3 ⟨rfl, hb3⟩
  have hz3 := bnx HZ2.out (bnx (bal (Below.refl w2.heap.size w2) _) hb3)
  have C4 := refutes_lit bL [2, 3] w3 (HL.out.nx hz3) (by decide) (by decide)
  rw [show negC [2, 3] = [-2, -3] from rfl, clash1] at C4
  have HZ3 := Lib.hid hz3
  clear C3 hb3 hz3 HZ2
  go_wp2_with fail
  refine C4.mono ?_; rintro e w4 ⟨rfl, hb4⟩
  have hz4 := bnx HZ3.out (bnx (bal (Below.refl w3.heap.size w3) _) hb4)
  have C5 := refutes_lit bL [2] w4 (HL.out.nx hz4) (by decide) (by decide)
  rw [show negC [2] = [-2] from rfl, clash0] at C5
  have HZ4 := Lib.hid hz4
  clear C4 hb4 hz4 HZ3
  go_wp2_with fail
  refine C5.mono ?_; rintro e w5 ⟨rfl, hb5⟩
  have hz5 := bnx HZ4.out (bnx (bal (Below.refl w4.heap.size w4) _) hb5)
  have C6 := sort_lit [2, -1, 2, 1] w5 (by decide)
  rw [sort1] at C6
  have HZ5 := Lib.hid hz5
  clear C5 hb5 hz5 HZ4
  go_wp2_with fail
  refine C6.mono ?_; rintro e w6 ⟨v6, rfl, ho6, hb6⟩
  have hz6 := bnx HZ5.out (bnx (bal (Below.refl w5.heap.size w5) _) hb6)
  obtain ⟨A6, c6, rfl, hr6, _⟩ := ho6.val
  have C7 := ints_lit A6 c6 [-1, 1, 2] w6 hr6 (by decide)
  have HZ6 := Lib.hid hz6
  clear C6 hb6 hz6 HZ5 ho6 hr6
  go_wp2_with fail
  refine C7.mono ?_; rintro e w7 ⟨rfl, hb7⟩
  have hz7 := bnx HZ6.out (bnx (bal (Below.refl w6.heap.size w6) _) hb7)
  have HF := Lib.hid (bnx HB.out hz7)
  clear C7 hb7 hz7 HZ6
  go_wp2
  go_ret
  exact ⟨rfl, HF.out⟩
end Go.Proofs.Ytlebagdildpkmaa
