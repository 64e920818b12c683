/-
  VecCuts holds: for every input the statement's function returns true, and its arguments read afterwards as they read before. No conditions.
-/
import Derived.Test.YtnnoflohekmnbaaProg
import Derived.WalkKit
import Derived.WalkSpells
import Derived.WalkLawsBesides
import Derived.LoopN
import Derived.IntWalk
import Derived.Lib.Hide
import Derived.Laws.BitsAllLaws
import Derived.Laws.Externs
import Derived.BigQuiet
import Derived.BigRegion
import Derived.Deep.QuietTactic
import Derived.Deep.RegionWith
import Derived.Deep.RegionHeld3
import Derived.StillTailTactics
import Derived.RegionTactic
import Derived.ChangeAlike
import Derived.Test.YtnnoflohekmnbaaR8
import Derived.ProofKit
import Derived.OpenShut
import Derived.PinnedBridge
import Derived.Lib.LaidIn
import Derived.Lib.SmallJoins
import Derived.Deep.DeepHandedRow
import Derived.Deep.DeepWitnessRowRef
import Derived.SizedLaws
set_option linter.unusedVariables false
namespace Go.Proofs.Ytnnoflohekmnbaa
open Go.RowKit
open Go.Shelf Go.ChangeShapes Go.WideShapes Go.ChangeAt Go.RowKit Go.Lib Go.Joins
namespace VecCutsDone
theorem walk (Aa Ab Ac : Option Addr) (ca cb cc : Nat) (la lb lc : List Nat) (Wa Wb Wc : Int) (x0 x1 x2 : Int) (sg : Bool) (W : World) (a1 : R64 W W.heap.size Aa la) (a2 : ∀ x ∈ la, x < 18446744073709551616) (a3 : la.length ≤ ca) (a4 : ca ≤ maxLen) (b1 : R64 W W.heap.size Ab lb) (b2 : ∀ x ∈ lb, x < 18446744073709551616) (b3 : lb.length ≤ cb) (b4 : cb ≤ maxLen) (e1 : R64 W W.heap.size Ac lc) (e2 : ∀ x ∈ lc, x < 18446744073709551616) (e3 : lc.length ≤ cc) (e4 : cc ≤ maxLen) :
    Calls Try.prog 5 #[.agg #[.int .i64 Wa, .slice Aa la.length ca, .int .i64 Wb, .slice Ab lb.length cb, .int .i64 Wc, .slice Ac lc.length cc, .int .i64 x0, .int .i64 x1, .int .i64 x2, .bool sg]] W (RetV W (.bool true)) := by
  cases hr : rightB Wa la
  · exact cuts_o1 Aa Ab Ac ca cb cc la lb lc Wa Wb Wc x0 x1 x2 sg W a1 hr
  · cases hr' : rightB Wb lb
    · exact cuts_o2 Aa Ab Ac ca cb cc la lb lc Wa Wb Wc x0 x1 x2 sg W a1 hr b1 hr'
    · cases hr'' : rightB Wc lc
      · exact cuts_o3 Aa Ab Ac ca cb cc la lb lc Wa Wb Wc x0 x1 x2 sg W a1 hr b1 hr' e1 hr''
      · obtain ⟨ad, U, rfl, rfl, ha, va⟩ := right_vc a1 a2 a3 a4 hr
        obtain ⟨ad', U', rfl, rfl, hb, vb⟩ := right_vc b1 b2 b3 b4 hr'
        obtain ⟨ad'', U'', rfl, rfl, hd, vd⟩ := right_vc e1 e2 e3 e4 hr''
        rw [ha, hb, hd]
        obtain ⟨R1, z1, H1⟩ := slice_both x0 x1 va
        obtain ⟨R2, z2, H2⟩ := ext_both x2 sg va
        obtain ⟨R3, z3, H3⟩ := ite_both (ac := ad'') (ad := ad) (ad' := ad') (cc := cc) (c := ca) (c' := cb) (U := U'') (W := U) (V := U') (M := numL lc) (N := numL la) (K := numL lb)
        exact cuts_main va vb vd x0 x1 x2 sg R1 R2 R3 z1 z2 z3 (Lib.hid H1) (Lib.hid H2) (Lib.hid H3)
set_option maxRecDepth 100000 in
theorem contract (H : Type) (enc : TypeId × Value → H) (W : World) (base : Nat) (args : Array Value) (ds gs : List (DataW H)) (before : List MemPlace)
    (hval : ∀ (j : Nat) t v, Try.f5.params[j]? = some t → args[j]? = some v → Value.okWide Try.prog W .any base t v)
    (hW : DataW.Whole enc Try.prog Try.f5.params.toList Rows.vecCutsSpec.vars false W args.toList ds gs before) :
    Calls Try.prog 5 args W fun e W' => ∃ v, e = .returned v ∧ Rows.vecCutsSpec.post enc Try.prog Try.f5 false true false false W args v W' := by
  have hW' := hW
  obtain ⟨p, q, hA0, hV, rfl, hfz, hnd⟩ := hW
  have hA : DataW.TrodAll enc Try.prog W 0 (fun _ => true) true Try.f5.params.toList args.toList ds p := hA0
  rw [Try.params5] at hA hval
  obtain ⟨v0, vs0, d0, ds0, p0, q0, hargs, rfl, rfl, h0, r0⟩ := trodAll_cons hA
  obtain ⟨rfl, rfl, rfl⟩ := trodAll_nil r0
  obtain rfl : args = #[v0] := by cases args; simp_all
  obtain ⟨rfl, rfl⟩ := trodVars_none hV
  have k0 := h0
  have lt0 : ∀ x ∈ p0, x.block < W.heap.size := by obtain ⟨m, hm⟩ := k0; exact DataW.trod_lt m _ _ _ hm
  obtain ⟨Wa, Aa, ca, la, Wb, Ab, cb, lb, Wc, Ac, cc, lc, x0, x1, x2, sg, rfl, ⟨a1, a2, a3, a4⟩, ⟨b1, b2, b3, b4⟩, ⟨e1, e2, e3, e4⟩⟩ := opened45 (hval 0 45 v0 rfl rfl) h0
  clear hA0
  refine (walk Aa Ab Ac ca cb cc la lb lc Wa Wb Wc x0 x1 x2 sg W a1 a2 a3 a4 b1 b2 b3 b4 e1 e2 e3 e4).mono fun e W' ⟨he, bel⟩ => ?_
  subst he
  exact ⟨_, rfl, _, _, _, [], _, [], hW', trodAll_mk1 (shut_bool Try.underlying4 _), (trodAll_cons_mk (Below.trod laidOut (by kernel_rfl) (of_decide_eq_true (by kernel_rfl)) k0 bel lt0) trodAll_mk0), rfl, bel.frame _, fun h => by cases h⟩
set_option maxRecDepth 100000 in
theorem lifted (os : Os) (started : os.Started) (H : Type) (enc : TypeId × Value → H) (F : Stop.Interp) :
    ReturnsInHanded {} Try.checked os 5 .any ((OpenSpec.ofChange Rows.vecCutsSpec).preRow enc Try.prog Try.f5 Rows.vecCutsRow.domain false Rows.vecCutsRow.laid) (((OpenSpec.ofChange Rows.vecCutsSpec).at F).post enc Try.prog Try.f5 false true false false) := by
  have hx : (DataW.whole enc Try.prog ((firstWorld os).forCall (fun _ _ => 0) ⟨#[], #[.agg #[.int .i64 0, .slice none 0 0, .int .i64 0, .slice none 0 0, .int .i64 0, .slice none 0 0, .int .i64 0, .int .i64 0, .int .i64 0, .bool false]], []⟩).memory Try.f5.params.toList Rows.vecCutsSpec.vars false (Array.toList #[.agg #[.int .i64 0, .slice none 0 0, .int .i64 0, .slice none 0 0, .int .i64 0, .slice none 0 0, .int .i64 0, .int .i64 0, .int .i64 0, .bool false]]) 8) = some ([.agg [.agg [.lit (.int .i64 0), .nil], .agg [.lit (.int .i64 0), .nil], .agg [.lit (.int .i64 0), .nil], .agg [.lit (.int .i64 0), .lit (.int .i64 0), .lit (.int .i64 0)], .lit (.bool false)]], [], []) := by kernel_rfl
  refine returnsInHanded_of_row (C := Try.checked) (s := OpenSpec.ofChange Rows.vecCutsSpec) own started (by kernel_rfl) Try.func5
    (witness_row_atRef (enc := enc) (C := Try.checked) false (firstWorld os) #[.agg #[.int .i64 0, .slice none 0 0, .int .i64 0, .slice none 0 0, .int .i64 0, .slice none 0 0, .int .i64 0, .int .i64 0, .int .i64 0, .bool false]] rfl (by kernel_rfl) (by kernel_rfl) (by kernel_rfl)
      (OpenSpec.preRow_of_cond 8 hx (by kernel_rfl) (fun k hk => by cases hk) (by kernel_rfl) (none_met _))) ?_
  intro W base args ds gs before hval hW _ _ _ hL _ _
  exact contract H enc W base args ds gs before hval hW
theorem said : Rows.VecCutsSaid :=
  OpenClaim.holds_of_cond 5 Try.f5 rfl rfl rfl rfl rfl rfl rfl ⟨rfl, rfl, rfl, rfl, rfl⟩ rfl rfl rfl rfl rfl (by kernel_rfl) Try.func5 (by kernel_rfl)
    (of_decide_eq_true (by kernel_rfl)) (by unfold Func.isWrapper; rw [if_neg (of_decide_eq_false (by kernel_rfl))]; exact ⟨rfl, rfl⟩)
    (fun os started H enc _ F => by rw [OpenClaim.pre_eq_preRow]; exact lifted os started H enc F)
end VecCutsDone
theorem vecCuts_holds : Rows.VecCutsSaid := VecCutsDone.said
end Go.Proofs.Ytnnoflohekmnbaa
