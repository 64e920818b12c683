/-
  May it be asked about?
-/
import Derived.Test.YtlebagdildpkmaaProg
import Derived.WalkKit
import Derived.WalkSpells
import Derived.WalkLawsBesides
import Derived.Lib.Hide
import Derived.BigQuiet
import Derived.Deep.QuietTactic
import Derived.Deep.RegionWith
import Derived.Deep.RegionHeld3
import Derived.Test.YtlebagdildpkmaaB6
import Derived.Test.YtlebagdildpkmaaB8
import Derived.Deep.Cut
set_option linter.unusedVariables false
namespace Go.Proofs.Ytlebagdildpkmaa
open Go.RowKit
/-- May clauses and literals be asked about? -/
def mayF (n : Int) (L : List (List Int)) (c : List Int) : Bool := decide (n ≤ 60) && smallF 40 L && rightF n L && smallF 40 [c] && rightF n [c]
theorem RC.one {w : World} {B : Nat} {A : Option Addr} {g k : Nat} {c : List Int} (hR : RI w B A c) (hg : g < B) (hc : w.cell? ⟨g, 0, none⟩ = some (.slice A c.length k)) (hn : c.length ≤ maxLen) : RC w B (some ⟨g, 0, none⟩) [c] := by
  intro i hi
  have : i = 0 := by simpa using hi
  subst this
  exact ⟨_, A, k, rfl, hg, by rw [add_loc]; exact hc, hR, hn⟩
/-- How things stand in memory while it is asked. -/
structure MW (w : World) (LA AA : Option Addr) (k k' : Nat) (n : Int) (L : List (List Int)) (c : List Int) (w' : World) : Prop where
  bel : Below w.heap.size w w'
  f0 : w'.cell? ⟨w.heap.size, 0, none⟩ = some (.int .i64 n)
  f1 : w'.cell? ⟨w.heap.size, 1, none⟩ = some (.slice LA L.length k)
  h0 : w'.cell? ⟨w.heap.size + 1, 0, none⟩ = some (.slice AA c.length k')
  g0 : w'.cell? ⟨w.heap.size + 1 + 1, 0, none⟩ = some (.int .i64 n)
  g1 : w'.cell? ⟨w.heap.size + 1 + 1, 1, none⟩ = some (.slice (some ⟨w.heap.size + 1, 0, none⟩) 1 1)
theorem MW.first (w : World) (LA AA : Option Addr) (k k' : Nat) (n : Int) (L : List (List Int)) (c : List Int) : MW w LA AA k k' n L c (((w.alloc (.cells #[.int .i64 n, .slice LA L.length k] 35)).alloc (.cells #[.slice AA c.length k'] 23)).alloc (.cells #[.int .i64 n, .slice (some ⟨w.heap.size + 1, 0, none⟩) 1 1] 35)) := by
  refine ⟨(((Below.refl _ _).alloc (Nat.le_refl _) _).alloc (by simp) _).alloc (by simp; omega) _, ?_, ?_, ?_, ?_, ?_⟩ <;> go_simp
theorem MW.nx {w : World} {LA AA : Option Addr} {k k' : Nat} {n : Int} {L : List (List Int)} {c : List Int} {w1 w2 : World} (h : MW w LA AA k k' n L c w1) (hb : Below w1.heap.size w1 w2) : MW w LA AA k k' n L c w2 :=
  ⟨bnx h.bel hb, (hb.cell (World.block_lt_of_cell? w1 _ h.f0)).trans h.f0, (hb.cell (World.block_lt_of_cell? w1 _ h.f1)).trans h.f1, (hb.cell (World.block_lt_of_cell? w1 _ h.h0)).trans h.h0, (hb.cell (World.block_lt_of_cell? w1 _ h.g0)).trans h.g0, (hb.cell (World.block_lt_of_cell? w1 _ h.g1)).trans h.g1⟩
set_option maxHeartbeats 4000000 in
theorem may_any (LA AA : Option Addr) (k k' : Nat) (n : Int) (L : List (List Int)) (c : List Int) (w : World) (hL : RC w w.heap.size LA L) (hR : RI w w.heap.size AA c) (hn : L.length ≤ maxLen) (hc : c.length ≤ maxLen) :
    Calls Try.prog 11 #[.int .i64 n, .slice LA L.length k, .slice AA c.length k'] w (RetV w (.bool (mayF n L c))) := by
  obtain ⟨T, hT⟩ : ∃ T, mayF n L c = T := ⟨_, rfl⟩
  rw [hT]
  have HT := Lib.hid hT
  have C1 : Hid (∀ wx, MW w LA AA k k' n L c wx → Calls Try.prog 22 #[.agg #[.int .i64 n, .slice LA L.length k], .int .i64 40] wx (RetV wx (.bool (smallF 40 L)))) := Lib.hid fun wx hx => Small_any LA k n 40 L wx (hL.nx hx.bel) hn
  have C2 : Hid (∀ wx, MW w LA AA k k' n L c wx → Calls Try.prog 23 #[.agg #[.int .i64 n, .slice LA L.length k]] wx (RetV wx (.bool (rightF n L)))) := Lib.hid fun wx hx => refRight_any LA k n L wx (hL.nx hx.bel) hn
  have C3 : Hid (∀ wx, MW w LA AA k k' n L c wx → Calls Try.prog 22 #[.agg #[.int .i64 n, .slice (some ⟨w.heap.size + 1, 0, none⟩) 1 1], .int .i64 40] wx (RetV wx (.bool (smallF 40 [c])))) := Lib.hid fun wx hx => Small_any (some ⟨w.heap.size + 1, 0, none⟩) 1 n 40 [c] wx (RC.one (hR.nx hx.bel) (World.block_lt_of_cell? wx _ hx.h0) hx.h0 hc) (by simp [maxLen])
  have C4 : Hid (∀ wx, MW w LA AA k k' n L c wx → Calls Try.prog 23 #[.agg #[.int .i64 n, .slice (some ⟨w.heap.size + 1, 0, none⟩) 1 1]] wx (RetV wx (.bool (rightF n [c])))) := Lib.hid fun wx hx => refRight_any (some ⟨w.heap.size + 1, 0, none⟩) 1 n [c] wx (RC.one (hR.nx hx.bel) (World.block_lt_of_cell? wx _ hx.h0) hx.h0 hc) (by simp [maxLen])
  have F0 := MW.first w LA AA k k' n L c
  have a0 := F0.f0
  have HF := Lib.hid F0
  clear hT hL hR hn hc F0 a0
  by_cases h60 : n ≤ 60
  · have d0 : decide (n ≤ 60) = true := decide_eq_true h60
    cases hb0 : smallF 40 L
    · rw [hb0] at C1
      have HE : Hid (false = T) := by show _ = _; rw [← HT.out]; simp [mayF, d0, hb0]
      clear HT hb0 h60
      go_enter Try.func11, Try.ntmps11
      go_upto_region 3 with fail
      have F0 := HF.out
      generalize ((w.alloc (.cells #[.int .i64 n, .slice LA L.length k] 35)).alloc (.cells #[.slice AA c.length k'] 23)).alloc (.cells #[.int .i64 n, .slice (some ⟨w.heap.size + 1, 0, none⟩) 1 1] 35) = w0 at *
      clear HF
      have p0 := F0.f0
      have p1 := F0.f1
      have p2 := F0.g0
      have p3 := F0.g1
      have c0 := C1.out _ F0
      have G0 := Lib.hid F0
      clear F0
      go_wp2_with fail
      refine c0.mono ?_; rintro e w1 ⟨rfl, hb⟩
      have F1 := G0.out.nx hb
      clear hb c0 p0 p1 p2 p3 G0
      have HB := Lib.hid F1.bel
      clear F1
      go_wp2
      go_ret
      exact ⟨by rw [← HE.out]; rfl, HB.out⟩
    · rw [hb0] at C1
      cases hb1 : rightF n L
      · rw [hb1] at C2
        have HE : Hid (false = T) := by show _ = _; rw [← HT.out]; simp [mayF, d0, hb0, hb1]
        clear HT hb0 hb1 h60
        go_enter Try.func11, Try.ntmps11
        go_upto_region 3 with fail
        have F0 := HF.out
        generalize ((w.alloc (.cells #[.int .i64 n, .slice LA L.length k] 35)).alloc (.cells #[.slice AA c.length k'] 23)).alloc (.cells #[.int .i64 n, .slice (some ⟨w.heap.size + 1, 0, none⟩) 1 1] 35) = w0 at *
        clear HF
        have p0 := F0.f0
        have p1 := F0.f1
        have p2 := F0.g0
        have p3 := F0.g1
        have c0 := C1.out _ F0
        have G0 := Lib.hid F0
        clear F0
        go_wp2_with fail
        refine c0.mono ?_; rintro e w1 ⟨rfl, hb⟩
        have F1 := G0.out.nx hb
        clear hb c0 p0 p1 p2 p3 G0
        have p0 := F1.f0
        have p1 := F1.f1
        have p2 := F1.g0
        have p3 := F1.g1
        have c1 := C2.out _ F1
        have G1 := Lib.hid F1
        clear F1
        go_wp2_with fail
        refine c1.mono ?_; rintro e w2 ⟨rfl, hb⟩
        have F2 := G1.out.nx hb
        clear hb c1 p0 p1 p2 p3 G1
        have HB := Lib.hid F2.bel
        clear F2
        go_wp2
        go_ret
        exact ⟨by rw [← HE.out]; rfl, HB.out⟩
      · rw [hb1] at C2
        cases hb2 : smallF 40 [c]
        · rw [hb2] at C3
          have HE : Hid (false = T) := by show _ = _; rw [← HT.out]; simp [mayF, d0, hb0, hb1, hb2]
          clear HT hb0 hb1 hb2 h60
          go_enter Try.func11, Try.ntmps11
          go_upto_region 3 with fail
          have F0 := HF.out
          generalize ((w.alloc (.cells #[.int .i64 n, .slice LA L.length k] 35)).alloc (.cells #[.slice AA c.length k'] 23)).alloc (.cells #[.int .i64 n, .slice (some ⟨w.heap.size + 1, 0, none⟩) 1 1] 35) = w0 at *
          clear HF
          have p0 := F0.f0
          have p1 := F0.f1
          have p2 := F0.g0
          have p3 := F0.g1
          have c0 := C1.out _ F0
          have G0 := Lib.hid F0
          clear F0
          go_wp2_with fail
          refine c0.mono ?_; rintro e w1 ⟨rfl, hb⟩
          have F1 := G0.out.nx hb
          clear hb c0 p0 p1 p2 p3 G0
          have p0 := F1.f0
          have p1 := F1.f1
          have p2 := F1.g0
          have p3 := F1.g1
          have c1 := C2.out _ F1
          have G1 := Lib.hid F1
          clear F1
          go_wp2_with fail
          refine c1.mono ?_; rintro e w2 ⟨rfl, hb⟩
          have F2 := G1.out.nx hb
          clear hb c1 p0 p1 p2 p3 G1
          have p0 := F2.f0
          have p1 := F2.f1
          have p2 := F2.g0
          have p3 := F2.g1
          have c2 := C3.out _ F2
          have G2 := Lib.hid F2
          clear F2
          go_wp2_with fail
          refine c2.mono ?_; rintro e w3 ⟨rfl, hb⟩
          have F3 := G2.out.nx hb
          clear hb c2 p0 p1 p2 p3 G2
          have HB := Lib.hid F3.bel
          clear F3
          go_wp2
          go_ret
          exact ⟨by rw [← HE.out]; rfl, HB.out⟩
        · rw [hb2] at C3
          cases hb3 : rightF n [c]
          · rw [hb3] at C4
            have HE : Hid (false = T) := by show _ = _; rw [← HT.out]; simp [mayF, d0, hb0, hb1, hb2, hb3]
            clear HT hb0 hb1 hb2 hb3 h60
            go_enter Try.func11, Try.ntmps11
            go_upto_region 3 with fail
            have F0 := HF.out
            generalize ((w.alloc (.cells #[.int .i64 n, .slice LA L.length k] 35)).alloc (.cells #[.slice AA c.length k'] 23)).alloc (.cells #[.int .i64 n, .slice (some ⟨w.heap.size + 1, 0, none⟩) 1 1] 35) = w0 at *
            clear HF
            have p0 := F0.f0
            have p1 := F0.f1
            have p2 := F0.g0
            have p3 := F0.g1
            have c0 := C1.out _ F0
            have G0 := Lib.hid F0
            clear F0
            go_wp2_with fail
            refine c0.mono ?_; rintro e w1 ⟨rfl, hb⟩
            have F1 := G0.out.nx hb
            clear hb c0 p0 p1 p2 p3 G0
            have p0 := F1.f0
            have p1 := F1.f1
            have p2 := F1.g0
            have p3 := F1.g1
            have c1 := C2.out _ F1
            have G1 := Lib.hid F1
            clear F1
            go_wp2_with fail
            refine c1.mono ?_; rintro e w2 ⟨rfl, hb⟩
            have F2 := G1.out.nx hb
            clear hb c1 p0 p1 p2 p3 G1
            have p0 := F2.f0
            have p1 := F2.f1
            have p2 := F2.g0
            have p3 := F2.g1
            have c2 := C3.out _ F2
            have G2 := Lib.hid F2
            clear F2
            go_wp2_with fail
            refine c2.mono ?_; rintro e w3 ⟨rfl, hb⟩
            have F3 := G2.out.nx hb
            clear hb c2 p0 p1 p2 p3 G2
            have p0 := F3.f0
            have p1 := F3.f1
            have p2 := F3.g0
            have p3 := F3.g1
            have c3 := C4.out _ F3
            have G3 := Lib.hid F3
            clear F3
            go_wp2_with fail
            refine c3.mono ?_; rintro e w4 ⟨rfl, hb⟩
            have F4 := G3.out.nx hb
            clear hb c3 p0 p1 p2 p3 G3
            have HB := Lib.hid F4.bel
            clear F4
            go_wp2
            go_ret
            exact ⟨by rw [← HE.out]; rfl, HB.out⟩
          · rw [hb3] at C4
            have HE : Hid (true = T) := by show _ = _; rw [← HT.out]; simp [mayF, d0, hb0, hb1, hb2, hb3]
            clear HT hb0 hb1 hb2 hb3 h60
            go_enter Try.func11, Try.ntmps11
            go_upto_region 3 with fail
            have F0 := HF.out
            generalize ((w.alloc (.cells #[.int .i64 n, .slice LA L.length k] 35)).alloc (.cells #[.slice AA c.length k'] 23)).alloc (.cells #[.int .i64 n, .slice (some ⟨w.heap.size + 1, 0, none⟩) 1 1] 35) = w0 at *
            clear HF
            have p0 := F0.f0
            have p1 := F0.f1
            have p2 := F0.g0
            have p3 := F0.g1
            have c0 := C1.out _ F0
            have G0 := Lib.hid F0
            clear F0
            go_wp2_with fail
            refine c0.mono ?_; rintro e w1 ⟨rfl, hb⟩
            have F1 := G0.out.nx hb
            clear hb c0 p0 p1 p2 p3 G0
            have p0 := F1.f0
            have p1 := F1.f1
            have p2 := F1.g0
            have p3 := F1.g1
            have c1 := C2.out _ F1
            have G1 := Lib.hid F1
            clear F1
            go_wp2_with fail
            refine c1.mono ?_; rintro e w2 ⟨rfl, hb⟩
            have F2 := G1.out.nx hb
            clear hb c1 p0 p1 p2 p3 G1
            have p0 := F2.f0
            have p1 := F2.f1
            have p2 := F2.g0
            have p3 := F2.g1
            have c2 := C3.out _ F2
            have G2 := Lib.hid F2
            clear F2
            go_wp2_with fail
            refine c2.mono ?_; rintro e w3 ⟨rfl, hb⟩
            have F3 := G2.out.nx hb
            clear hb c2 p0 p1 p2 p3 G2
            have p0 := F3.f0
            have p1 := F3.f1
            have p2 := F3.g0
            have p3 := F3.g1
            have c3 := C4.out _ F3
            have G3 := Lib.hid F3
            clear F3
            go_wp2_with fail
            refine c3.mono ?_; rintro e w4 ⟨rfl, hb⟩
            have F4 := G3.out.nx hb
            clear hb c3 p0 p1 p2 p3 G3
            have HB := Lib.hid F4.bel
            clear F4
            go_wp2
            go_ret
            exact ⟨by rw [← HE.out]; rfl, HB.out⟩
  · have d0 : decide (n ≤ 60) = false := decide_eq_false h60
    have HE : Hid (false = T) := by show _ = _; rw [← HT.out]; simp [mayF, d0]
    have HB := Lib.hid HF.out.bel
    clear HT h60
    go_enter Try.func11, Try.ntmps11
    go_wp2
    go_ret
    exact ⟨by rw [← HE.out]; rfl, HB.out⟩
end Go.Proofs.Ytlebagdildpkmaa
