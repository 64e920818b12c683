/-
  VecRing holds: for every input the statement's function returns true, and its arguments read afterwards as they read before.
-/
import Derived.Test.YtnnoflohekmnbaaRows
import Derived.Test.YtnnoflohekmnbaaX0
import Derived.Test.YtnnoflohekmnbaaF3
import Derived.Test.YtnnoflohekmnbaaE5
import Derived.ProofKit
import Derived.OpenShut
import Derived.PinnedBridge
import Derived.Lib.LaidIn
import Derived.Lib.SmallJoins
import Derived.Deep.DeepHandedRow
import Derived.Deep.DeepWitnessRowRef
import Derived.SizedLaws
set_option linter.unusedVariables false
namespace Go.Proofs.Ytnnoflohekmnbaa
open Go.Shelf Go.ChangeShapes Go.WideShapes Go.ChangeAt Go.RowKit Go.Lib Go.Joins
namespace VecRingDone
theorem walk (V V' V'' : Int) (A A' A'' : Option Addr) (c c' c'' : Nat) (l l' l'' : List Nat) (W : World) (h : R64 W W.heap.size A l) (h' : R64 W W.heap.size A' l') (h'' : R64 W W.heap.size A'' l'') (hl : ∀ x ∈ l, x < 18446744073709551616) (hl' : ∀ x ∈ l', x < 18446744073709551616) (hl'' : ∀ x ∈ l'', x < 18446744073709551616) (hn : l.length ≤ c) (hn' : l'.length ≤ c') (hn'' : l''.length ≤ c'') (hc : c ≤ maxLen) (hc' : c' ≤ maxLen) (hc'' : c'' ≤ maxLen) :
    Calls Try.prog 6 #[.agg #[.int .i64 V, .slice A l.length c], .agg #[.int .i64 V', .slice A' l'.length c'], .agg #[.int .i64 V'', .slice A'' l''.length c'']] W (RetV W (.bool true)) := by
  cases hr : rightB V l
  · exact ring_o1 A c l V A' c' l' V' A'' c'' l'' V'' W h hr
  · cases hr' : rightB V' l'
    · exact ring_o2 A c l V A' c' l' V' A'' c'' l'' V'' W h hr h' hr'
    · cases hr'' : rightB V'' l''
      · exact ring_o3 A c l V A' c' l' V' A'' c'' l'' V'' W h hr h' hr' h'' hr''
      · by_cases e : V = V'
        · have e1 : (V != V') = false := by simp [e]
          by_cases e' : V' = V''
          · subst e e'
            obtain ⟨ad, U, rfl, rfl, ha, va⟩ := right_vc h hl hn hc hr
            obtain ⟨ad', U', rfl, hU, hb, vb⟩ := right_vc h' hl' hn' hc' hr'
            obtain ⟨ad'', U'', rfl, hU', hd, vd⟩ := right_vc h'' hl'' hn'' hc'' hr''
            obtain rfl : U = U' := by omega
            obtain rfl : U = U'' := by omega
            rw [ha, hb, hd]
            exact ring_in va vb vd
          · exact ring_o5 A c l V A' c' l' V' A'' c'' l'' V'' W h hr h' hr' h'' hr'' e1 (by simp [e'])
        · exact ring_o4 A c l V A' c' l' V' A'' c'' l'' V'' W h hr h' hr' h'' hr'' (by simp [e])
set_option maxRecDepth 100000 in
theorem contract (H : Type) (enc : TypeId × Value → H) (W : World) (base : Nat) (args : Array Value) (ds gs : List (DataW H)) (before : List MemPlace)
    (hval : ∀ (j : Nat) t v, Try.f6.params[j]? = some t → args[j]? = some v → Value.okWide Try.prog W .any base t v)
    (hW : DataW.Whole enc Try.prog Try.f6.params.toList Rows.vecRingSpec.vars false W args.toList ds gs before) :
    Calls Try.prog 6 args W fun e W' => ∃ v, e = .returned v ∧ Rows.vecRingSpec.post enc Try.prog Try.f6 false true false false W args v W' := by
  have hW' := hW
  obtain ⟨p, q, hA0, hV, rfl, hfz, hnd⟩ := hW
  have hA : DataW.TrodAll enc Try.prog W 0 (fun _ => true) true Try.f6.params.toList args.toList ds p := hA0
  rw [Try.params6] at hA hval
  obtain ⟨v0, vs0, d0, ds0, p0, q0, hargs, rfl, rfl, h0, r0⟩ := trodAll_cons hA
  obtain ⟨v1, vs1, d1, ds1, p1, q1, rfl, rfl, rfl, h1, r1⟩ := trodAll_cons r0
  obtain ⟨v2, vs2, d2, ds2, p2, q2, rfl, rfl, rfl, h2, r2⟩ := trodAll_cons r1
  obtain ⟨rfl, rfl, rfl⟩ := trodAll_nil r2
  obtain rfl : args = #[v0, v1, v2] := by cases args; simp_all
  obtain ⟨rfl, rfl⟩ := trodVars_none hV
  have k0 := h0
  have lt0 : ∀ x ∈ p0, x.block < W.heap.size := by obtain ⟨m, hm⟩ := k0; exact DataW.trod_lt m _ _ _ hm
  have k1 := h1
  have lt1 : ∀ x ∈ p1, x.block < W.heap.size := by obtain ⟨m, hm⟩ := k1; exact DataW.trod_lt m _ _ _ hm
  have k2 := h2
  have lt2 : ∀ x ∈ p2, x.block < W.heap.size := by obtain ⟨m, hm⟩ := k2; exact DataW.trod_lt m _ _ _ hm
  obtain ⟨V0, A0, c0, l0, rfl, rd0, lo0, hn0, hc0⟩ := opened_vec (hval 0 24 v0 rfl rfl) h0
  obtain ⟨V1, A1, c1, l1, rfl, rd1, lo1, hn1, hc1⟩ := opened_vec (hval 1 24 v1 rfl rfl) h1
  obtain ⟨V2, A2, c2, l2, rfl, rd2, lo2, hn2, hc2⟩ := opened_vec (hval 2 24 v2 rfl rfl) h2
  clear hA0
  refine (walk V0 V1 V2 A0 A1 A2 c0 c1 c2 l0 l1 l2 W rd0 rd1 rd2 lo0 lo1 lo2 hn0 hn1 hn2 hc0 hc1 hc2).mono fun e W' ⟨he, bel⟩ => ?_
  subst he
  exact ⟨_, rfl, _, _, _, [], _, [], hW', trodAll_mk1 (shut_bool Try.underlying4 _), (trodAll_cons_mk (Below.trod laidOut (by kernel_rfl) (of_decide_eq_true (by kernel_rfl)) k0 bel lt0) (trodAll_cons_mk (Below.trod laidOut (by kernel_rfl) (of_decide_eq_true (by kernel_rfl)) k1 bel lt1) (trodAll_cons_mk (Below.trod laidOut (by kernel_rfl) (of_decide_eq_true (by kernel_rfl)) k2 bel lt2) trodAll_mk0))), rfl, bel.frame _, fun h => by cases h⟩
set_option maxRecDepth 100000 in
theorem lifted (os : Os) (started : os.Started) (H : Type) (enc : TypeId × Value → H) (F : Stop.Interp) :
    ReturnsInHanded {} Try.checked os 6 .any ((OpenSpec.ofChange Rows.vecRingSpec).preRow enc Try.prog Try.f6 Rows.vecRingRow.domain false Rows.vecRingRow.laid) (((OpenSpec.ofChange Rows.vecRingSpec).at F).post enc Try.prog Try.f6 false true false false) := by
  have hx : (DataW.whole enc Try.prog ((firstWorld os).forCall (fun _ _ => 0) ⟨#[], #[.agg #[.int .i64 0, .slice none 0 0], .agg #[.int .i64 0, .slice none 0 0], .agg #[.int .i64 0, .slice none 0 0]], []⟩).memory Try.f6.params.toList Rows.vecRingSpec.vars false (Array.toList #[.agg #[.int .i64 0, .slice none 0 0], .agg #[.int .i64 0, .slice none 0 0], .agg #[.int .i64 0, .slice none 0 0]]) 8) = some ([.agg [.lit (.int .i64 0), .nil], .agg [.lit (.int .i64 0), .nil], .agg [.lit (.int .i64 0), .nil]], [], []) := by kernel_rfl
  refine returnsInHanded_of_row (C := Try.checked) (s := OpenSpec.ofChange Rows.vecRingSpec) own started (by kernel_rfl) Try.func6
    (witness_row_atRef (enc := enc) (C := Try.checked) false (firstWorld os) #[.agg #[.int .i64 0, .slice none 0 0], .agg #[.int .i64 0, .slice none 0 0], .agg #[.int .i64 0, .slice none 0 0]] rfl (by kernel_rfl) (by kernel_rfl) (by kernel_rfl)
      (OpenSpec.preRow_of_cond 8 hx (by kernel_rfl) (fun k hk => by cases hk) (by kernel_rfl) (none_met _))) ?_
  intro W base args ds gs before hval hW _ _ _ hL _ _
  exact contract H enc W base args ds gs before hval hW
theorem said : Rows.VecRingSaid :=
  OpenClaim.holds_of_cond 6 Try.f6 rfl rfl rfl rfl rfl rfl rfl ⟨rfl, rfl, rfl, rfl, rfl⟩ rfl rfl rfl rfl rfl (by kernel_rfl) Try.func6 (by kernel_rfl)
    (of_decide_eq_true (by kernel_rfl)) (by unfold Func.isWrapper; rw [if_neg (of_decide_eq_false (by kernel_rfl))]; exact ⟨rfl, rfl⟩)
    (fun os started H enc _ F => by rw [OpenClaim.pre_eq_preRow]; exact lifted os started H enc F)
end VecRingDone
theorem vecRing_holds : Rows.VecRingSaid := VecRingDone.said
end Go.Proofs.Ytnnoflohekmnbaa
