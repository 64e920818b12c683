/-
  VecParts holds: for every input the statement's function returns true, and its argument reads afterwards as it read before.
-/
import Derived.Test.YtnnoflohekmnbaaRows
import Derived.Test.YtnnoflohekmnbaaX1
import Derived.Test.YtnnoflohekmnbaaG4
import Derived.Test.YtnnoflohekmnbaaG1
import Derived.ProofKit
import Derived.OpenShut
import Derived.PinnedBridge
import Derived.Lib.LaidIn
import Derived.Lib.SmallJoins
import Derived.Deep.DeepHandedRow
import Derived.Deep.DeepWitnessRowRef
import Derived.SizedLaws
set_option linter.unusedVariables false
namespace Go.Proofs.Ytnnoflohekmnbaa
open Go.Shelf Go.ChangeShapes Go.WideShapes Go.ChangeAt Go.RowKit Go.Lib Go.Joins
namespace VecPartsDone
theorem walk (V V' : Int) (A A' : Option Addr) (c c' : Nat) (l l' : List Nat) (i n : Int) (W : World) (h : R64 W W.heap.size A l) (h' : R64 W W.heap.size A' l') (hl : ∀ x ∈ l, x < 18446744073709551616) (hl' : ∀ x ∈ l', x < 18446744073709551616) (hn : l.length ≤ c) (hn' : l'.length ≤ c') (hc : c ≤ maxLen) (hc' : c' ≤ maxLen) (bi : -9223372036854775808 ≤ i ∧ i ≤ 9223372036854775807) (bn' : -9223372036854775808 ≤ n ∧ n ≤ 9223372036854775807) :
    Calls Try.prog 9 #[.agg #[.int .i64 V, .slice A l.length c, .int .i64 V', .slice A' l'.length c', .int .i64 i, .int .i64 n]] W (RetV W (.bool true)) := by
  cases hr : rightB V l
  · exact parts_o1 A c l V A' c' l' V' i n W h hr
  · cases hr' : rightB V' l'
    · exact parts_o2 A c l V A' c' l' V' i n W h hr h' hr'
    · obtain ⟨ad, U, rfl, rfl, ha, va⟩ := right_vc h hl hn hc hr
      obtain ⟨ad', U', rfl, rfl, hb, vb⟩ := right_vc h' hl' hn' hc' hr'
      rw [ha, hb]
      exact parts_in va vb i n bi bn'
set_option maxRecDepth 100000 in
theorem contract (H : Type) (enc : TypeId × Value → H) (W : World) (base : Nat) (args : Array Value) (ds gs : List (DataW H)) (before : List MemPlace)
    (hval : ∀ (j : Nat) t v, Try.f9.params[j]? = some t → args[j]? = some v → Value.okWide Try.prog W .any base t v)
    (hW : DataW.Whole enc Try.prog Try.f9.params.toList Rows.vecPartsSpec.vars false W args.toList ds gs before) :
    Calls Try.prog 9 args W fun e W' => ∃ v, e = .returned v ∧ Rows.vecPartsSpec.post enc Try.prog Try.f9 false true false false W args v W' := by
  have hW' := hW
  obtain ⟨p, q, hA0, hV, rfl, hfz, hnd⟩ := hW
  have hA : DataW.TrodAll enc Try.prog W 0 (fun _ => true) true Try.f9.params.toList args.toList ds p := hA0
  rw [Try.params9] at hA hval
  obtain ⟨v0, vs0, d0, ds0, p0, q0, hargs, rfl, rfl, h0, r0⟩ := trodAll_cons hA
  obtain ⟨rfl, rfl, rfl⟩ := trodAll_nil r0
  obtain rfl : args = #[v0] := by cases args; simp_all
  obtain ⟨rfl, rfl⟩ := trodVars_none hV
  have k0 := h0
  have lt0 : ∀ x ∈ p0, x.block < W.heap.size := by obtain ⟨m, hm⟩ := k0; exact DataW.trod_lt m _ _ _ hm
  obtain ⟨V0, A0, c0, l0, V1, A1, c1, l1, ni, nn, rfl, rd0, lo0, hn0, hc0, rd1, lo1, hn1, hc1, bi, bn'⟩ := opened58 (hval 0 58 v0 rfl rfl) h0
  clear hA0
  refine (walk V0 V1 A0 A1 c0 c1 l0 l1 ni nn W rd0 rd1 lo0 lo1 hn0 hn1 hc0 hc1 bi bn').mono fun e W' ⟨he, bel⟩ => ?_
  subst he
  exact ⟨_, rfl, _, _, _, [], _, [], hW', trodAll_mk1 (shut_bool Try.underlying4 _), (trodAll_cons_mk (Below.trod laidOut (by kernel_rfl) (of_decide_eq_true (by kernel_rfl)) k0 bel lt0) trodAll_mk0), rfl, bel.frame _, fun h => by cases h⟩
set_option maxRecDepth 100000 in
theorem lifted (os : Os) (started : os.Started) (H : Type) (enc : TypeId × Value → H) (F : Stop.Interp) :
    ReturnsInHanded {} Try.checked os 9 .any ((OpenSpec.ofChange Rows.vecPartsSpec).preRow enc Try.prog Try.f9 Rows.vecPartsRow.domain false Rows.vecPartsRow.laid) (((OpenSpec.ofChange Rows.vecPartsSpec).at F).post enc Try.prog Try.f9 false true false false) := by
  have hx : (DataW.whole enc Try.prog ((firstWorld os).forCall (fun _ _ => 0) ⟨#[], #[.agg #[.int .i64 0, .slice none 0 0, .int .i64 0, .slice none 0 0, .int .i64 0, .int .i64 0]], []⟩).memory Try.f9.params.toList Rows.vecPartsSpec.vars false (Array.toList #[.agg #[.int .i64 0, .slice none 0 0, .int .i64 0, .slice none 0 0, .int .i64 0, .int .i64 0]]) 8) = some ([.agg [.agg [.lit (.int .i64 0), .nil], .agg [.lit (.int .i64 0), .nil], .lit (.int .i64 0), .lit (.int .i64 0)]], [], []) := by kernel_rfl
  refine returnsInHanded_of_row (C := Try.checked) (s := OpenSpec.ofChange Rows.vecPartsSpec) own started (by kernel_rfl) Try.func9
    (witness_row_atRef (enc := enc) (C := Try.checked) false (firstWorld os) #[.agg #[.int .i64 0, .slice none 0 0, .int .i64 0, .slice none 0 0, .int .i64 0, .int .i64 0]] rfl (by kernel_rfl) (by kernel_rfl) (by kernel_rfl)
      (OpenSpec.preRow_of_cond 8 hx (by kernel_rfl) (fun k hk => by cases hk) (by kernel_rfl) (none_met _))) ?_
  intro W base args ds gs before hval hW _ _ _ hL _ _
  exact contract H enc W base args ds gs before hval hW
theorem said : Rows.VecPartsSaid :=
  OpenClaim.holds_of_cond 9 Try.f9 rfl rfl rfl rfl rfl rfl rfl ⟨rfl, rfl, rfl, rfl, rfl⟩ rfl rfl rfl rfl rfl (by kernel_rfl) Try.func9 (by kernel_rfl)
    (of_decide_eq_true (by kernel_rfl)) (by unfold Func.isWrapper; rw [if_neg (of_decide_eq_false (by kernel_rfl))]; exact ⟨rfl, rfl⟩)
    (fun os started H enc _ F => by rw [OpenClaim.pre_eq_preRow]; exact lifted os started H enc F)
end VecPartsDone
theorem vecParts_holds : Rows.VecPartsSaid := VecPartsDone.said
end Go.Proofs.Ytnnoflohekmnbaa
