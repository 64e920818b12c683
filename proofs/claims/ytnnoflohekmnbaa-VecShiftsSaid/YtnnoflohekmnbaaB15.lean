/-
  The map of closures that vec.binary makes, over the translated program. Nothing is assumed.
-/
import Derived.Test.YtnnoflohekmnbaaProg
import Derived.WalkKit
import Derived.WalkSpells
import Derived.WalkLawsBesides
import Derived.LoopN
import Derived.IntWalk
import Derived.Lib.Hide
import Derived.Test.YtnnoflohekmnbaaB14
import Derived.Laws.BitsAllLaws
import Derived.Laws.Externs
import Derived.BigQuiet
import Derived.BigRegion
import Derived.Deep.QuietTactic
import Derived.Deep.RegionWith
import Derived.Deep.RegionHeld3
import Derived.StillTailTactics
import Derived.RegionTactic
import Derived.ChangeAlike
set_option linter.unusedVariables false
namespace Go.Proofs.Ytnnoflohekmnbaa
open Go.RowKit
/-- What vec.binary makes. -/
def RetBi (w0 : World) (e : Ending) (w' : World) : Prop := ∃ r v0 v1 v2 v3 v4 v5 v6 v7 v8 v9, e = .returned (.map (some r)) ∧ MapIs w' r [(⟨#[97, 110, 100]⟩, v0), (⟨#[111, 114]⟩, v1), (⟨#[120, 111, 114]⟩, v2), (⟨#[97, 100, 100]⟩, v3), (⟨#[115, 117, 98]⟩, v4), (⟨#[109, 117, 108]⟩, v5), (⟨#[117, 100, 105, 118]⟩, v6), (⟨#[117, 114, 101, 109]⟩, v7), (⟨#[115, 108, 108]⟩, v8), (⟨#[115, 114, 108]⟩, v9), (⟨#[115, 114, 97]⟩, .func (.func 76) #[] #[]), (⟨#[101, 113]⟩, .func (.func 77) #[] #[]), (⟨#[117, 108, 116]⟩, .func (.func 78) #[] #[]), (⟨#[115, 108, 116]⟩, .func (.func 80) #[] #[]), (⟨#[99, 111, 110, 99, 97, 116]⟩, .func (.func 81) #[] #[])] ∧ Ents w' [(v9, 95, 51), (v8, 95, 75), (v7, 92, 73), (v6, 92, 72), (v5, 92, 71), (v4, 92, 61), (v3, 92, 59), (v2, 92, 70), (v1, 92, 54), (v0, 92, 69)] ∧ w0.heap.size ≤ r ∧ Below w0.heap.size w0 w'
set_option maxRecDepth 100000 in
set_option maxHeartbeats 2000000 in
theorem binary_any (w : World) : Calls Try.prog 47 #[] w (RetBi w) := by
  have hmm := @run_makeMap Try.prog
  have hM : MapIs (w.alloc (.map #[] 0)) w.heap.size [] := MapIs.made w
  have hE : Ents (w.alloc (.map #[] 0)) [] := fun x hx => by cases hx
  have hB : Below w.heap.size w (w.alloc (.map #[] 0)) := bal (Below.refl _ _) _
  go_enter Try.func47, Try.ntmps47
  go_wp2_with fail
  refine (ofTwo_made 69 _).mono ?_
  rintro e w0a ⟨rfl, rfl⟩
  replace hM := hM.nx (bal (Below.refl _ _) (.cells #[.func (.func 69) #[] #[]] 94))
  replace hE := hE.made 92 69 94
  replace hB := bal hB (.cells #[.func (.func 69) #[] #[]] 94)
  rw [show (w.alloc (Obj.map #[] 0)).heap.size = w.heap.size + 1 by simp] at hE
  go_wp2_with (refine wpList_put rfl _ _ _ 86 84 rfl Try.underlying86 w.heap.size _ hM _ _ rfl rfl rfl (by rfl) ?_)
  intro w0 hM0 hg
  replace hE := hE.put hM hg
  replace hB := hB.grown hg hB.size (fun k hk => by cases hk; exact Nat.le_refl _)
  clear hg hM
  have hM := hM0
  clear hM0
  go_wp2_with fail
  refine (ofTwo_made 54 _).mono ?_
  rintro e w1a ⟨rfl, rfl⟩
  replace hM := hM.nx (bal (Below.refl _ _) (.cells #[.func (.func 54) #[] #[]] 94))
  replace hE := hE.made 92 54 94
  replace hB := bal hB (.cells #[.func (.func 54) #[] #[]] 94)
  go_wp2_with (refine wpList_put rfl _ _ _ 86 84 rfl Try.underlying86 w.heap.size _ hM _ _ rfl rfl rfl (by rfl) ?_)
  intro w1 hM1 hg
  replace hE := hE.put hM hg
  replace hB := hB.grown hg hB.size (fun k hk => by cases hk; exact Nat.le_refl _)
  clear hg hM
  have hM := hM1
  clear hM1
  go_wp2_with fail
  refine (ofTwo_made 70 _).mono ?_
  rintro e w2a ⟨rfl, rfl⟩
  replace hM := hM.nx (bal (Below.refl _ _) (.cells #[.func (.func 70) #[] #[]] 94))
  replace hE := hE.made 92 70 94
  replace hB := bal hB (.cells #[.func (.func 70) #[] #[]] 94)
  go_wp2_with (refine wpList_put rfl _ _ _ 86 84 rfl Try.underlying86 w.heap.size _ hM _ _ rfl rfl rfl (by rfl) ?_)
  intro w2 hM2 hg
  replace hE := hE.put hM hg
  replace hB := hB.grown hg hB.size (fun k hk => by cases hk; exact Nat.le_refl _)
  clear hg hM
  have hM := hM2
  clear hM2
  go_wp2_with fail
  refine (ofTwo_made 59 _).mono ?_
  rintro e w3a ⟨rfl, rfl⟩
  replace hM := hM.nx (bal (Below.refl _ _) (.cells #[.func (.func 59) #[] #[]] 94))
  replace hE := hE.made 92 59 94
  replace hB := bal hB (.cells #[.func (.func 59) #[] #[]] 94)
  go_wp2_with (refine wpList_put rfl _ _ _ 86 84 rfl Try.underlying86 w.heap.size _ hM _ _ rfl rfl rfl (by rfl) ?_)
  intro w3 hM3 hg
  replace hE := hE.put hM hg
  replace hB := hB.grown hg hB.size (fun k hk => by cases hk; exact Nat.le_refl _)
  clear hg hM
  have hM := hM3
  clear hM3
  go_wp2_with fail
  refine (ofTwo_made 61 _).mono ?_
  rintro e w4a ⟨rfl, rfl⟩
  replace hM := hM.nx (bal (Below.refl _ _) (.cells #[.func (.func 61) #[] #[]] 94))
  replace hE := hE.made 92 61 94
  replace hB := bal hB (.cells #[.func (.func 61) #[] #[]] 94)
  go_wp2_with (refine wpList_put rfl _ _ _ 86 84 rfl Try.underlying86 w.heap.size _ hM _ _ rfl rfl rfl (by rfl) ?_)
  intro w4 hM4 hg
  replace hE := hE.put hM hg
  replace hB := hB.grown hg hB.size (fun k hk => by cases hk; exact Nat.le_refl _)
  clear hg hM
  have hM := hM4
  clear hM4
  go_wp2_with fail
  refine (ofTwo_made 71 _).mono ?_
  rintro e w5a ⟨rfl, rfl⟩
  replace hM := hM.nx (bal (Below.refl _ _) (.cells #[.func (.func 71) #[] #[]] 94))
  replace hE := hE.made 92 71 94
  replace hB := bal hB (.cells #[.func (.func 71) #[] #[]] 94)
  go_wp2_with (refine wpList_put rfl _ _ _ 86 84 rfl Try.underlying86 w.heap.size _ hM _ _ rfl rfl rfl (by rfl) ?_)
  intro w5 hM5 hg
  replace hE := hE.put hM hg
  replace hB := hB.grown hg hB.size (fun k hk => by cases hk; exact Nat.le_refl _)
  clear hg hM
  have hM := hM5
  clear hM5
  go_wp2_with fail
  refine (ofTwo_made 72 _).mono ?_
  rintro e w6a ⟨rfl, rfl⟩
  replace hM := hM.nx (bal (Below.refl _ _) (.cells #[.func (.func 72) #[] #[]] 94))
  replace hE := hE.made 92 72 94
  replace hB := bal hB (.cells #[.func (.func 72) #[] #[]] 94)
  go_wp2_with (refine wpList_put rfl _ _ _ 86 84 rfl Try.underlying86 w.heap.size _ hM _ _ rfl rfl rfl (by rfl) ?_)
  intro w6 hM6 hg
  replace hE := hE.put hM hg
  replace hB := hB.grown hg hB.size (fun k hk => by cases hk; exact Nat.le_refl _)
  clear hg hM
  have hM := hM6
  clear hM6
  go_wp2_with fail
  refine (ofTwo_made 73 _).mono ?_
  rintro e w7a ⟨rfl, rfl⟩
  replace hM := hM.nx (bal (Below.refl _ _) (.cells #[.func (.func 73) #[] #[]] 94))
  replace hE := hE.made 92 73 94
  replace hB := bal hB (.cells #[.func (.func 73) #[] #[]] 94)
  go_wp2_with (refine wpList_put rfl _ _ _ 86 84 rfl Try.underlying86 w.heap.size _ hM _ _ rfl rfl rfl (by rfl) ?_)
  intro w7 hM7 hg
  replace hE := hE.put hM hg
  replace hB := hB.grown hg hB.size (fun k hk => by cases hk; exact Nat.le_refl _)
  clear hg hM
  have hM := hM7
  clear hM7
  go_wp2_with fail
  refine (shifted_made 75 _).mono ?_
  rintro e w8a ⟨rfl, rfl⟩
  replace hM := hM.nx (bal (Below.refl _ _) (.cells #[.func (.func 75) #[] #[]] 92))
  replace hE := hE.made 95 75 92
  replace hB := bal hB (.cells #[.func (.func 75) #[] #[]] 92)
  go_wp2_with (refine wpList_put rfl _ _ _ 86 84 rfl Try.underlying86 w.heap.size _ hM _ _ rfl rfl rfl (by rfl) ?_)
  intro w8 hM8 hg
  replace hE := hE.put hM hg
  replace hB := hB.grown hg hB.size (fun k hk => by cases hk; exact Nat.le_refl _)
  clear hg hM
  have hM := hM8
  clear hM8
  go_wp2_with fail
  refine (shifted_made 51 _).mono ?_
  rintro e w9a ⟨rfl, rfl⟩
  replace hM := hM.nx (bal (Below.refl _ _) (.cells #[.func (.func 51) #[] #[]] 92))
  replace hE := hE.made 95 51 92
  replace hB := bal hB (.cells #[.func (.func 51) #[] #[]] 92)
  go_wp2_with (refine wpList_put rfl _ _ _ 86 84 rfl Try.underlying86 w.heap.size _ hM _ _ rfl rfl rfl (by rfl) ?_)
  intro w9 hM9 hg
  replace hE := hE.put hM hg
  replace hB := hB.grown hg hB.size (fun k hk => by cases hk; exact Nat.le_refl _)
  clear hg hM
  have hM := hM9
  clear hM9
  go_wp2_with (refine wpList_put rfl _ _ _ 86 84 rfl Try.underlying86 w.heap.size _ hM _ _ rfl rfl rfl (by rfl) ?_)
  intro w10 hM10 hg
  replace hE := hE.put hM hg
  replace hB := hB.grown hg hB.size (fun k hk => by cases hk; exact Nat.le_refl _)
  clear hg hM
  have hM := hM10
  clear hM10
  go_wp2_with (refine wpList_put rfl _ _ _ 86 84 rfl Try.underlying86 w.heap.size _ hM _ _ rfl rfl rfl (by rfl) ?_)
  intro w11 hM11 hg
  replace hE := hE.put hM hg
  replace hB := hB.grown hg hB.size (fun k hk => by cases hk; exact Nat.le_refl _)
  clear hg hM
  have hM := hM11
  clear hM11
  go_wp2_with (refine wpList_put rfl _ _ _ 86 84 rfl Try.underlying86 w.heap.size _ hM _ _ rfl rfl rfl (by rfl) ?_)
  intro w12 hM12 hg
  replace hE := hE.put hM hg
  replace hB := hB.grown hg hB.size (fun k hk => by cases hk; exact Nat.le_refl _)
  clear hg hM
  have hM := hM12
  clear hM12
  go_wp2_with (refine wpList_put rfl _ _ _ 86 84 rfl Try.underlying86 w.heap.size _ hM _ _ rfl rfl rfl (by rfl) ?_)
  intro w13 hM13 hg
  replace hE := hE.put hM hg
  replace hB := hB.grown hg hB.size (fun k hk => by cases hk; exact Nat.le_refl _)
  clear hg hM
  have hM := hM13
  clear hM13
  go_wp2_with (refine wpList_put rfl _ _ _ 86 84 rfl Try.underlying86 w.heap.size _ hM _ _ rfl rfl rfl (by rfl) ?_)
  intro w14 hM14 hg
  replace hE := hE.put hM hg
  replace hB := hB.grown hg hB.size (fun k hk => by cases hk; exact Nat.le_refl _)
  clear hg hM
  have hM := hM14
  clear hM14
  go_wp2
  go_ret
  exact ⟨w.heap.size, _, _, _, _, _, _, _, _, _, _, rfl, hM, hE, Nat.le_refl _, hB⟩
end Go.Proofs.Ytnnoflohekmnbaa
