/-
  VecReckons holds: for every input the statement's function returns true, and its arguments read afterwards as they read before. No conditions.
-/
import Derived.Test.YtnnoflohekmnbaaProg
import Derived.WalkKit
import Derived.WalkSpells
import Derived.WalkLawsBesides
import Derived.LoopN
import Derived.IntWalk
import Derived.Lib.Hide
import Derived.Laws.BitsAllLaws
import Derived.Laws.Externs
import Derived.BigQuiet
import Derived.BigRegion
import Derived.Deep.QuietTactic
import Derived.Deep.RegionWith
import Derived.Deep.RegionHeld3
import Derived.StillTailTactics
import Derived.RegionTactic
import Derived.ChangeAlike
import Derived.Test.YtnnoflohekmnbaaS4
import Derived.Test.YtnnoflohekmnbaaX1
import Derived.ProofKit
import Derived.OpenShut
import Derived.PinnedBridge
import Derived.Lib.LaidIn
import Derived.Lib.SmallJoins
import Derived.Deep.DeepHandedRow
import Derived.Deep.DeepWitnessRowRef
import Derived.SizedLaws
set_option linter.unusedVariables false
namespace Go.Proofs.Ytnnoflohekmnbaa
open Go.RowKit
open Go.Shelf Go.ChangeShapes Go.WideShapes Go.ChangeAt Go.RowKit Go.Lib Go.Joins
namespace VecReckonsDone
theorem walk (s : ByteArray) (Aa Ab : Option Addr) (ca cb : Nat) (la lb : List Nat) (Wa Wb : Int) (W : World) (a1 : R64 W W.heap.size Aa la) (a2 : ∀ x ∈ la, x < 18446744073709551616) (a3 : la.length ≤ ca) (a4 : ca ≤ maxLen) (b1 : R64 W W.heap.size Ab lb) (b2 : ∀ x ∈ lb, x < 18446744073709551616) (b3 : lb.length ≤ cb) (b4 : cb ≤ maxLen) :
    Calls Try.prog 4 #[.string s, .agg #[.int .i64 Wa, .slice Aa la.length ca], .agg #[.int .i64 Wb, .slice Ab lb.length cb]] W (RetV W (.bool true)) := by
  cases hr : rightB Wa la
  · exact reckons_o1 s Aa Ab ca cb la lb Wa Wb W a1 hr
  · cases hr' : rightB Wb lb
    · exact reckons_o2 s Aa Ab ca cb la lb Wa Wb W a1 hr b1 hr'
    · obtain ⟨ad, U, rfl, rfl, ha, va⟩ := right_vc a1 a2 a3 a4 hr
      obtain ⟨ad', U', rfl, rfl, hb, vb⟩ := right_vc b1 b2 b3 b4 hr'
      rw [ha, hb]
      obtain ⟨R1, z1, H1⟩ := un_both s (ad := ad) (c := ca) (W := U) (N := numL la)
      obtain ⟨R2, z2, H2⟩ := bin_both s (ad := ad) (ad' := ad') (c := ca) (c' := cb) (W := U) (V := U') (N := numL la) (K := numL lb) va.w1 va.w2
      exact reckons_main s va vb R1 R2 z1 z2 (Lib.hid H1) (Lib.hid H2)
set_option maxRecDepth 100000 in
theorem contract (H : Type) (enc : TypeId × Value → H) (W : World) (base : Nat) (args : Array Value) (ds gs : List (DataW H)) (before : List MemPlace)
    (hval : ∀ (j : Nat) t v, Try.f4.params[j]? = some t → args[j]? = some v → Value.okWide Try.prog W .any base t v)
    (hW : DataW.Whole enc Try.prog Try.f4.params.toList Rows.vecReckonsSpec.vars false W args.toList ds gs before) :
    Calls Try.prog 4 args W fun e W' => ∃ v, e = .returned v ∧ Rows.vecReckonsSpec.post enc Try.prog Try.f4 false true false false W args v W' := by
  have hW' := hW
  obtain ⟨p, q, hA0, hV, rfl, hfz, hnd⟩ := hW
  have hA : DataW.TrodAll enc Try.prog W 0 (fun _ => true) true Try.f4.params.toList args.toList ds p := hA0
  rw [Try.params4] at hA hval
  obtain ⟨v0, vs0, d0, ds0, p0, q0, hargs, rfl, rfl, h0, r0⟩ := trodAll_cons hA
  obtain ⟨v1, vs1, d1, ds1, p1, q1, rfl, rfl, rfl, h1, r1⟩ := trodAll_cons r0
  obtain ⟨v2, vs2, d2, ds2, p2, q2, rfl, rfl, rfl, h2, r2⟩ := trodAll_cons r1
  obtain ⟨rfl, rfl, rfl⟩ := trodAll_nil r2
  obtain rfl : args = #[v0, v1, v2] := by cases args; simp_all
  obtain ⟨rfl, rfl⟩ := trodVars_none hV
  have k0 := h0
  have lt0 : ∀ x ∈ p0, x.block < W.heap.size := by obtain ⟨m, hm⟩ := k0; exact DataW.trod_lt m _ _ _ hm
  have k1 := h1
  have lt1 : ∀ x ∈ p1, x.block < W.heap.size := by obtain ⟨m, hm⟩ := k1; exact DataW.trod_lt m _ _ _ hm
  have k2 := h2
  have lt2 : ∀ x ∈ p2, x.block < W.heap.size := by obtain ⟨m, hm⟩ := k2; exact DataW.trod_lt m _ _ _ hm
  obtain ⟨s0, rfl, rfl, rfl, hs0⟩ := Go.ChangeMaps.open_string Try.underlying9 (hval 0 9 v0 rfl rfl) h0
  obtain ⟨V1, A1, c1, l1, rfl, rd1, lo1, hn1, hc1⟩ := opened_vec (hval 1 24 v1 rfl rfl) h1
  obtain ⟨V2, A2, c2, l2, rfl, rd2, lo2, hn2, hc2⟩ := opened_vec (hval 2 24 v2 rfl rfl) h2
  clear hA0
  refine (walk s0 A1 A2 c1 c2 l1 l2 V1 V2 W rd1 lo1 hn1 hc1 rd2 lo2 hn2 hc2).mono fun e W' ⟨he, bel⟩ => ?_
  subst he
  exact ⟨_, rfl, _, _, _, [], _, [], hW', trodAll_mk1 (shut_bool Try.underlying4 _), (trodAll_cons_mk (Below.trod laidOut (by kernel_rfl) (of_decide_eq_true (by kernel_rfl)) k0 bel lt0) (trodAll_cons_mk (Below.trod laidOut (by kernel_rfl) (of_decide_eq_true (by kernel_rfl)) k1 bel lt1) (trodAll_cons_mk (Below.trod laidOut (by kernel_rfl) (of_decide_eq_true (by kernel_rfl)) k2 bel lt2) trodAll_mk0))), rfl, bel.frame _, fun h => by cases h⟩
set_option maxRecDepth 100000 in
theorem lifted (os : Os) (started : os.Started) (H : Type) (enc : TypeId × Value → H) (F : Stop.Interp) :
    ReturnsInHanded {} Try.checked os 4 .any ((OpenSpec.ofChange Rows.vecReckonsSpec).preRow enc Try.prog Try.f4 Rows.vecReckonsRow.domain false Rows.vecReckonsRow.laid) (((OpenSpec.ofChange Rows.vecReckonsSpec).at F).post enc Try.prog Try.f4 false true false false) := by
  have hx : (DataW.whole enc Try.prog ((firstWorld os).forCall (fun _ _ => 0) ⟨#[], #[.string ⟨#[]⟩, .agg #[.int .i64 0, .slice none 0 0], .agg #[.int .i64 0, .slice none 0 0]], []⟩).memory Try.f4.params.toList Rows.vecReckonsSpec.vars false (Array.toList #[.string ⟨#[]⟩, .agg #[.int .i64 0, .slice none 0 0], .agg #[.int .i64 0, .slice none 0 0]]) 8) = some ([.lit (.string []), .agg [.lit (.int .i64 0), .nil], .agg [.lit (.int .i64 0), .nil]], [], []) := by kernel_rfl
  refine returnsInHanded_of_row (C := Try.checked) (s := OpenSpec.ofChange Rows.vecReckonsSpec) own started (by kernel_rfl) Try.func4
    (witness_row_atRef (enc := enc) (C := Try.checked) false (firstWorld os) #[.string ⟨#[]⟩, .agg #[.int .i64 0, .slice none 0 0], .agg #[.int .i64 0, .slice none 0 0]] rfl (by kernel_rfl) (by kernel_rfl) (by kernel_rfl)
      (OpenSpec.preRow_of_cond 8 hx (by kernel_rfl) (fun k hk => by cases hk) (by kernel_rfl) (none_met _))) ?_
  intro W base args ds gs before hval hW _ _ _ hL _ _
  exact contract H enc W base args ds gs before hval hW
theorem said : Rows.VecReckonsSaid :=
  OpenClaim.holds_of_cond 4 Try.f4 rfl rfl rfl rfl rfl rfl rfl ⟨rfl, rfl, rfl, rfl, rfl⟩ rfl rfl rfl rfl rfl (by kernel_rfl) Try.func4 (by kernel_rfl)
    (of_decide_eq_true (by kernel_rfl)) (by unfold Func.isWrapper; rw [if_neg (of_decide_eq_false (by kernel_rfl))]; exact ⟨rfl, rfl⟩)
    (fun os started H enc _ F => by rw [OpenClaim.pre_eq_preRow]; exact lifted os started H enc F)
end VecReckonsDone
theorem vecReckons_holds : Rows.VecReckonsSaid := VecReckonsDone.said
end Go.Proofs.Ytnnoflohekmnbaa
