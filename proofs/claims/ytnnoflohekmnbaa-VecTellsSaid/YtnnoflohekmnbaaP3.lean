/-
  VecTells holds: for every input the statement's function returns true, and its arguments read afterwards as they read before. No conditions.
-/
import Derived.Test.YtnnoflohekmnbaaProg
import Derived.WalkKit
import Derived.WalkSpells
import Derived.WalkLawsBesides
import Derived.LoopN
import Derived.IntWalk
import Derived.Lib.Hide
import Derived.Laws.BitsAllLaws
import Derived.Laws.Externs
import Derived.BigQuiet
import Derived.BigRegion
import Derived.Deep.QuietTactic
import Derived.Deep.RegionWith
import Derived.Deep.RegionHeld3
import Derived.StillTailTactics
import Derived.RegionTactic
import Derived.ChangeAlike
import Derived.Test.YtnnoflohekmnbaaT4
import Derived.Test.YtnnoflohekmnbaaT5
import Derived.ProofKit
import Derived.OpenShut
import Derived.PinnedBridge
import Derived.Lib.LaidIn
import Derived.Lib.SmallJoins
import Derived.Deep.DeepHandedRow
import Derived.Deep.DeepWitnessRowRef
import Derived.SizedLaws
set_option linter.unusedVariables false
namespace Go.Proofs.Ytnnoflohekmnbaa
open Go.RowKit
open Go.Shelf Go.ChangeShapes Go.WideShapes Go.ChangeAt Go.RowKit Go.Lib Go.Joins
namespace VecTellsDone
theorem walk (Aa Ab : Option Addr) (ca cb : Nat) (la lb : List Nat) (Wa Wb i : Int) (S : ByteArray) (W : World) (a1 : R64 W W.heap.size Aa la) (a2 : ∀ x ∈ la, x < 18446744073709551616) (a3 : la.length ≤ ca) (a4 : ca ≤ maxLen) (b1 : R64 W W.heap.size Ab lb) (b2 : ∀ x ∈ lb, x < 18446744073709551616) (b3 : lb.length ≤ cb) (b4 : cb ≤ maxLen) :
    Calls Try.prog 3 #[.agg #[.int .i64 Wa, .slice Aa la.length ca, .int .i64 Wb, .slice Ab lb.length cb, .int .i64 i, .string S]] W (RetV W (.bool true)) := by
  cases sa : decide (la.length ≤ 4)
  · exact tells_o1 Aa Ab ca cb la lb Wa Wb i S W sa
  cases sb : decide (lb.length ≤ 4)
  · exact tells_o2 Aa Ab ca cb la lb Wa Wb i S W sa sb
  cases d1 : decide ((300 : Int) < S.size)
  rotate_left
  · exact tells_o3 Aa Ab ca cb la lb Wa Wb i S W sa sb d1
  obtain ⟨R, x, hm⟩ := make_both S
  cases hr : rightB Wa la
  · exact tells_o4 Aa Ab ca cb la lb Wa Wb i S W sa sb d1 R x hm a1 a2 a3 a4 hr
  cases hr' : rightB Wb lb
  · exact tells_o5 Aa Ab ca cb la lb Wa Wb i S W sa sb d1 R x hm a1 a2 a3 a4 hr b1 hr'
  obtain ⟨ad, U, rfl, rfl, ha, va⟩ := right_vc a1 a2 a3 a4 hr
  obtain ⟨ad', U', rfl, rfl, hb, vb⟩ := right_vc b1 b2 b3 b4 hr'
  rw [ha, hb]
  rw [ha] at sa
  rw [hb] at sb
  exact tells_main va vb i S sa sb d1 R x hm
set_option maxRecDepth 100000 in
theorem contract (H : Type) (enc : TypeId × Value → H) (W : World) (base : Nat) (args : Array Value) (ds gs : List (DataW H)) (before : List MemPlace)
    (hval : ∀ (j : Nat) t v, Try.f3.params[j]? = some t → args[j]? = some v → Value.okWide Try.prog W .any base t v)
    (hW : DataW.Whole enc Try.prog Try.f3.params.toList Rows.vecTellsSpec.vars false W args.toList ds gs before) :
    Calls Try.prog 3 args W fun e W' => ∃ v, e = .returned v ∧ Rows.vecTellsSpec.post enc Try.prog Try.f3 false true false false W args v W' := by
  have hW' := hW
  obtain ⟨p, q, hA0, hV, rfl, hfz, hnd⟩ := hW
  have hA : DataW.TrodAll enc Try.prog W 0 (fun _ => true) true Try.f3.params.toList args.toList ds p := hA0
  rw [Try.params3] at hA hval
  obtain ⟨v0, vs0, d0, ds0, p0, q0, hargs, rfl, rfl, h0, r0⟩ := trodAll_cons hA
  obtain ⟨rfl, rfl, rfl⟩ := trodAll_nil r0
  obtain rfl : args = #[v0] := by cases args; simp_all
  obtain ⟨rfl, rfl⟩ := trodVars_none hV
  have k0 := h0
  have lt0 : ∀ x ∈ p0, x.block < W.heap.size := by obtain ⟨m, hm⟩ := k0; exact DataW.trod_lt m _ _ _ hm
  obtain ⟨Wa, Aa, ca, la, Wb, Ab, cb, lb, i, S, rfl, ⟨a1, a2, a3, a4⟩, ⟨b1, b2, b3, b4⟩⟩ := opened26 (hval 0 26 v0 rfl rfl) h0
  clear hA0
  refine (walk Aa Ab ca cb la lb Wa Wb i S W a1 a2 a3 a4 b1 b2 b3 b4).mono fun e W' ⟨he, bel⟩ => ?_
  subst he
  exact ⟨_, rfl, _, _, _, [], _, [], hW', trodAll_mk1 (shut_bool Try.underlying4 _), (trodAll_cons_mk (Below.trod laidOut (by kernel_rfl) (of_decide_eq_true (by kernel_rfl)) k0 bel lt0) trodAll_mk0), rfl, bel.frame _, fun h => by cases h⟩
set_option maxRecDepth 100000 in
theorem lifted (os : Os) (started : os.Started) (H : Type) (enc : TypeId × Value → H) (F : Stop.Interp) :
    ReturnsInHanded {} Try.checked os 3 .any ((OpenSpec.ofChange Rows.vecTellsSpec).preRow enc Try.prog Try.f3 Rows.vecTellsRow.domain false Rows.vecTellsRow.laid) (((OpenSpec.ofChange Rows.vecTellsSpec).at F).post enc Try.prog Try.f3 false true false false) := by
  have hx : (DataW.whole enc Try.prog ((firstWorld os).forCall (fun _ _ => 0) ⟨#[], #[.agg #[.int .i64 0, .slice none 0 0, .int .i64 0, .slice none 0 0, .int .i64 0, .string ⟨#[]⟩]], []⟩).memory Try.f3.params.toList Rows.vecTellsSpec.vars false (Array.toList #[.agg #[.int .i64 0, .slice none 0 0, .int .i64 0, .slice none 0 0, .int .i64 0, .string ⟨#[]⟩]]) 8) = some ([.agg [.agg [.lit (.int .i64 0), .nil], .agg [.lit (.int .i64 0), .nil], .lit (.int .i64 0), .lit (.string [])]], [], []) := by kernel_rfl
  refine returnsInHanded_of_row (C := Try.checked) (s := OpenSpec.ofChange Rows.vecTellsSpec) own started (by kernel_rfl) Try.func3
    (witness_row_atRef (enc := enc) (C := Try.checked) false (firstWorld os) #[.agg #[.int .i64 0, .slice none 0 0, .int .i64 0, .slice none 0 0, .int .i64 0, .string ⟨#[]⟩]] rfl (by kernel_rfl) (by kernel_rfl) (by kernel_rfl)
      (OpenSpec.preRow_of_cond 8 hx (by kernel_rfl) (fun k hk => by cases hk) (by kernel_rfl) (none_met _))) ?_
  intro W base args ds gs before hval hW _ _ _ hL _ _
  exact contract H enc W base args ds gs before hval hW
theorem said : Rows.VecTellsSaid :=
  OpenClaim.holds_of_cond 3 Try.f3 rfl rfl rfl rfl rfl rfl rfl ⟨rfl, rfl, rfl, rfl, rfl⟩ rfl rfl rfl rfl rfl (by kernel_rfl) Try.func3 (by kernel_rfl)
    (of_decide_eq_true (by kernel_rfl)) (by unfold Func.isWrapper; rw [if_neg (of_decide_eq_false (by kernel_rfl))]; exact ⟨rfl, rfl⟩)
    (fun os started H enc _ F => by rw [OpenClaim.pre_eq_preRow]; exact lifted os started H enc F)
end VecTellsDone
theorem vecTells_holds : Rows.VecTellsSaid := VecTellsDone.said
end Go.Proofs.Ytnnoflohekmnbaa
