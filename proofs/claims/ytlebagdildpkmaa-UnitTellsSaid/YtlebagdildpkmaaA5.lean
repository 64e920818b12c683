/-
  wait.
-/
import Derived.Test.YtlebagdildpkmaaProg
import Derived.WalkKit
import Derived.WalkSpells
import Derived.WalkLawsBesides
import Derived.Lib.Hide
import Derived.BigQuiet
import Derived.Deep.QuietTactic
import Derived.Deep.RegionWith
import Derived.Deep.RegionHeld3
import Derived.Test.YtlebagdildpkmaaA4
set_option linter.unusedVariables false
namespace Go.Proofs.Ytlebagdildpkmaa
open Go.RowKit
set_option maxHeartbeats 4000000 in
set_option maxRecDepth 100000 in
theorem wait_any {z : World} {sb hb rb T : Nat} {w : World} {vk : Int → Value} {F : List Int} {R : Int → List Nat} {W : Nat → Wt} {I : List Nat} (h : CS z sb hb rb T w vk F R W I) (one two : Int) (h1 : -100000 ≤ one) (h2 : one ≤ 100000) (h3 : -100000 ≤ two) (h4 : two ≤ 100000) (rest : List Int) (A : Option Addr) (c : Nat) (hr : RI w z.heap.size A rest) (hc : rest.length ≤ c) (hm : c ≤ maxLen) (hT : T ≤ 10000000) :
    Calls Try.prog 41 #[.pointer (some ⟨sb, 0, none⟩), .int .i64 one, .int .i64 two, .slice A rest.length c] w (fun e w' => e = .returned (.tuple #[]) ∧ ∃ vk', CS z sb hb rb (T + rest.length + 2) w' vk' F (rowAdd (rowAdd R one w.heap.size) two w.heap.size) (wtPut W w.heap.size ⟨one, two, rest⟩) (I ++ [w.heap.size])) := by
  obtain ⟨t, vF, nR, h⟩ := h
  have s1 := h.wnew one two rest A c hr hc hm
  have hpot := h.pot
  have hpot1 := s1.pot
  have hmem : w.heap.size ∈ I ++ [w.heap.size] := by simp
  have HM := Lib.hid hmem
  have hsz := h.lts.1
  clear h hr
  generalize hw1 : w.alloc (.cells #[.int .i64 one, .int .i64 two, .slice A rest.length c] 73) = w1 at s1
  have HW := Lib.hid hw1
  have KS : Hid (∀ w', w1.grownBy w' none → w'.cell? ⟨sb, 2, none⟩ = some (.map (some rb))) := fun w' hg => (s1.nx hg).c2
  have KL : ∀ w', w1.grownBy w' none → (Instr.lookup 60 (.map (some rb)) (.int .i64 one) false).run Try.prog w' = .ok (vk one) w' := fun w' hg => (s1.nx hg).lookR (by omega) (by omega)
  have L1 := KL _ (gdr _)
  have L2 := KL _ ((World.grownBy_alloc w1 (.cells #[.pointer (some ⟨w.heap.size, 0, none⟩)] 71) none).trans (gdr _))
  have HS := Lib.hid s1
  clear s1 hw1 hmem KL
  go_enter Try.func41, Try.ntmps41
  go_wp2
  rw [HW.out]
  go_region_held3 (fun w' => w'.cell? ⟨sb, 2, none⟩ = some (.map (some rb)))
    (first | exact KS.out _ (gdr _) | exact KS.out _ ((gdr _).trans (World.grownBy_alloc _ _ _)) | exact KS.out _ ((World.grownBy_alloc _ _ _).trans (gdr _)) | assumption | exact hs4.c2)
    ((refine step_rows (T' := T + rest.length + 1) (by rfl) _ _ (by rfl) HS.out (by first | exact gdr _ | exact (gdr _).trans (World.grownBy_alloc _ _ _) | exact (World.grownBy_alloc _ _ _).trans (gdr _)) HM.out (k := one) (by omega) (by omega) (by omega) (by omega) (by rfl) w1.heap.size (by rfl) (by unfold ptr; go_simp) ?_; intro v' w3 w4 t' hup hs4 hq1 hq2))
  all_goals
    have hpot2 := hs4.pot
    have K2 : Hid (∀ w', w4.grownBy w' none → w'.cell? ⟨sb, 2, none⟩ = some (.map (some rb))) := fun w' hg => (hs4.nx hg).c2
    have KL : ∀ w', w4.grownBy w' none → (Instr.lookup 60 (.map (some rb)) (.int .i64 two) false).run Try.prog w' = .ok ((fun y => if y = one then v' else vk y) two) w' := fun w' hg => (hs4.nx hg).lookR (by omega) (by omega)
    obtain ⟨vk1, hvk⟩ : ∃ f : Int → Value, f = (fun y => if y = one then v' else vk y) := ⟨_, rfl⟩
    rw [← hvk] at hs4 KL
    have M1 := KL _ (gdr _)
    have M2 := KL _ ((World.grownBy_alloc w4 (.cells #[.pointer (some ⟨w.heap.size, 0, none⟩)] 71) none).trans (gdr _))
    have H4 := Lib.hid hs4
    clear hs4 KL hvk hup hq1 hq2 L1 L2 KS HS
    go_wp2
    go_region_held3 (fun w' => w'.cell? ⟨sb, 2, none⟩ = some (.map (some rb)))
      (first | exact K2.out _ (gdr _) | exact K2.out _ ((gdr _).trans (World.grownBy_alloc _ _ _)) | exact K2.out _ ((World.grownBy_alloc _ _ _).trans (gdr _)) | assumption | exact hs5.c2)
      ((refine step_rows (T' := T + rest.length + 2) (by rfl) _ _ (by rfl) H4.out (by first | exact gdr _ | exact (gdr _).trans (World.grownBy_alloc _ _ _) | exact (World.grownBy_alloc _ _ _).trans (gdr _)) HM.out (k := two) (by omega) (by omega) (by omega) (by omega) (by rfl) w4.heap.size (by rfl) (by unfold ptr; go_simp) ?_; intro v2 w5 w6 t2 hup2 hs5 hq3 hq4))
  all_goals
    have H5 := Lib.hid hs5
    clear hs5 hup2 hq3 hq4
    go_wp2
    go_end0
    exact ⟨rfl, _, _, _, _, H5.out⟩
end Go.Proofs.Ytlebagdildpkmaa
