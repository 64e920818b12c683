/-
  VecBits holds: for every input the statement's function returns true, and its arguments read afterwards as they read before.
-/
import Derived.Test.YtnnoflohekmnbaaRows
import Derived.Test.YtnnoflohekmnbaaX0
import Derived.Test.YtnnoflohekmnbaaE3
import Derived.Test.YtnnoflohekmnbaaE4
import Derived.ProofKit
import Derived.OpenShut
import Derived.PinnedBridge
import Derived.Lib.LaidIn
import Derived.Lib.SmallJoins
import Derived.Deep.DeepHandedRow
import Derived.Deep.DeepWitnessRowRef
import Derived.SizedLaws
set_option linter.unusedVariables false
namespace Go.Proofs.Ytnnoflohekmnbaa
open Go.Shelf Go.ChangeShapes Go.WideShapes Go.ChangeAt Go.RowKit Go.Lib Go.Joins
namespace VecBitsDone
theorem walk (V V' : Int) (A A' : Option Addr) (c c' : Nat) (l l' : List Nat) (i : Int) (W : World) (h : R64 W W.heap.size A l) (h' : R64 W W.heap.size A' l') (hl : ∀ x ∈ l, x < 18446744073709551616) (hl' : ∀ x ∈ l', x < 18446744073709551616) (hn : l.length ≤ c) (hn' : l'.length ≤ c') (hc : c ≤ maxLen) (hc' : c' ≤ maxLen) :
    Calls Try.prog 7 #[.agg #[.int .i64 V, .slice A l.length c], .agg #[.int .i64 V', .slice A' l'.length c'], .int .i64 i] W (RetV W (.bool true)) := by
  cases hr : rightB V l
  · exact bits_o1 A c l V A' c' l' V' i W h hr
  · cases hr' : rightB V' l'
    · exact bits_o2 A c l V A' c' l' V' i W h hr h' hr'
    · by_cases e : V = V'
      · have e1 : (V != V') = false := by simp [e]
        by_cases i0 : i < 0
        · exact bits_o4 A c l V A' c' l' V' i W h hr h' hr' e1 (decide_eq_true i0)
        · by_cases i1 : V ≤ i
          · exact bits_o5 A c l V A' c' l' V' i W h hr h' hr' e1 (decide_eq_false i0) (decide_eq_true i1)
          · subst e
            obtain ⟨ad, U, rfl, rfl, ha, va⟩ := right_vc h hl hn hc hr
            obtain ⟨ad', U', rfl, hU, hb, vb⟩ := right_vc h' hl' hn' hc' hr'
            obtain rfl : U = U' := by omega
            rw [ha, hb]
            exact bits_in va vb i (by omega) (by omega)
      · exact bits_o3 A c l V A' c' l' V' i W h hr h' hr' (by simp [e])
set_option maxRecDepth 100000 in
theorem contract (H : Type) (enc : TypeId × Value → H) (W : World) (base : Nat) (args : Array Value) (ds gs : List (DataW H)) (before : List MemPlace)
    (hval : ∀ (j : Nat) t v, Try.f7.params[j]? = some t → args[j]? = some v → Value.okWide Try.prog W .any base t v)
    (hW : DataW.Whole enc Try.prog Try.f7.params.toList Rows.vecBitsSpec.vars false W args.toList ds gs before) :
    Calls Try.prog 7 args W fun e W' => ∃ v, e = .returned v ∧ Rows.vecBitsSpec.post enc Try.prog Try.f7 false true false false W args v W' := by
  have hW' := hW
  obtain ⟨p, q, hA0, hV, rfl, hfz, hnd⟩ := hW
  have hA : DataW.TrodAll enc Try.prog W 0 (fun _ => true) true Try.f7.params.toList args.toList ds p := hA0
  rw [Try.params7] at hA hval
  obtain ⟨v0, vs0, d0, ds0, p0, q0, hargs, rfl, rfl, h0, r0⟩ := trodAll_cons hA
  obtain ⟨v1, vs1, d1, ds1, p1, q1, rfl, rfl, rfl, h1, r1⟩ := trodAll_cons r0
  obtain ⟨v2, vs2, d2, ds2, p2, q2, rfl, rfl, rfl, h2, r2⟩ := trodAll_cons r1
  obtain ⟨rfl, rfl, rfl⟩ := trodAll_nil r2
  obtain rfl : args = #[v0, v1, v2] := by cases args; simp_all
  obtain ⟨rfl, rfl⟩ := trodVars_none hV
  have k0 := h0
  have lt0 : ∀ x ∈ p0, x.block < W.heap.size := by obtain ⟨m, hm⟩ := k0; exact DataW.trod_lt m _ _ _ hm
  have k1 := h1
  have lt1 : ∀ x ∈ p1, x.block < W.heap.size := by obtain ⟨m, hm⟩ := k1; exact DataW.trod_lt m _ _ _ hm
  have k2 := h2
  have lt2 : ∀ x ∈ p2, x.block < W.heap.size := by obtain ⟨m, hm⟩ := k2; exact DataW.trod_lt m _ _ _ hm
  obtain ⟨V0, A0, c0, l0, rfl, rd0, lo0, hn0, hc0⟩ := opened_vec (hval 0 24 v0 rfl rfl) h0
  obtain ⟨V1, A1, c1, l1, rfl, rd1, lo1, hn1, hc1⟩ := opened_vec (hval 1 24 v1 rfl rfl) h1
  obtain ⟨n2, rfl, rfl, rfl, wn2⟩ := open_int Try.underlying3 (hval 2 3 v2 rfl rfl) h2
  clear hA0
  refine (walk V0 V1 A0 A1 c0 c1 l0 l1 n2 W rd0 rd1 lo0 lo1 hn0 hn1 hc0 hc1).mono fun e W' ⟨he, bel⟩ => ?_
  subst he
  exact ⟨_, rfl, _, _, _, [], _, [], hW', trodAll_mk1 (shut_bool Try.underlying4 _), (trodAll_cons_mk (Below.trod laidOut (by kernel_rfl) (of_decide_eq_true (by kernel_rfl)) k0 bel lt0) (trodAll_cons_mk (Below.trod laidOut (by kernel_rfl) (of_decide_eq_true (by kernel_rfl)) k1 bel lt1) (trodAll_cons_mk (Below.trod laidOut (by kernel_rfl) (of_decide_eq_true (by kernel_rfl)) k2 bel lt2) trodAll_mk0))), rfl, bel.frame _, fun h => by cases h⟩
set_option maxRecDepth 100000 in
theorem lifted (os : Os) (started : os.Started) (H : Type) (enc : TypeId × Value → H) (F : Stop.Interp) :
    ReturnsInHanded {} Try.checked os 7 .any ((OpenSpec.ofChange Rows.vecBitsSpec).preRow enc Try.prog Try.f7 Rows.vecBitsRow.domain false Rows.vecBitsRow.laid) (((OpenSpec.ofChange Rows.vecBitsSpec).at F).post enc Try.prog Try.f7 false true false false) := by
  have hx : (DataW.whole enc Try.prog ((firstWorld os).forCall (fun _ _ => 0) ⟨#[], #[.agg #[.int .i64 0, .slice none 0 0], .agg #[.int .i64 0, .slice none 0 0], .int .i64 0], []⟩).memory Try.f7.params.toList Rows.vecBitsSpec.vars false (Array.toList #[.agg #[.int .i64 0, .slice none 0 0], .agg #[.int .i64 0, .slice none 0 0], .int .i64 0]) 8) = some ([.agg [.lit (.int .i64 0), .nil], .agg [.lit (.int .i64 0), .nil], .lit (.int .i64 0)], [], []) := by kernel_rfl
  refine returnsInHanded_of_row (C := Try.checked) (s := OpenSpec.ofChange Rows.vecBitsSpec) own started (by kernel_rfl) Try.func7
    (witness_row_atRef (enc := enc) (C := Try.checked) false (firstWorld os) #[.agg #[.int .i64 0, .slice none 0 0], .agg #[.int .i64 0, .slice none 0 0], .int .i64 0] rfl (by kernel_rfl) (by kernel_rfl) (by kernel_rfl)
      (OpenSpec.preRow_of_cond 8 hx (by kernel_rfl) (fun k hk => by cases hk) (by kernel_rfl) (none_met _))) ?_
  intro W base args ds gs before hval hW _ _ _ hL _ _
  exact contract H enc W base args ds gs before hval hW
theorem said : Rows.VecBitsSaid :=
  OpenClaim.holds_of_cond 7 Try.f7 rfl rfl rfl rfl rfl rfl rfl ⟨rfl, rfl, rfl, rfl, rfl⟩ rfl rfl rfl rfl rfl (by kernel_rfl) Try.func7 (by kernel_rfl)
    (of_decide_eq_true (by kernel_rfl)) (by unfold Func.isWrapper; rw [if_neg (of_decide_eq_false (by kernel_rfl))]; exact ⟨rfl, rfl⟩)
    (fun os started H enc _ F => by rw [OpenClaim.pre_eq_preRow]; exact lifted os started H enc F)
end VecBitsDone
theorem vecBits_holds : Rows.VecBitsSaid := VecBitsDone.said
end Go.Proofs.Ytnnoflohekmnbaa
