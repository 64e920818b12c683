/-
  The reference's Number, Signed.
-/
import Derived.Test.YtplcabecbofjpaaDoorProg
import Derived.WalkKit
import Derived.WalkSpells
import Derived.WalkLawsBesides
import Derived.Lib.Hide
import Derived.BigQuiet
import Derived.Deep.QuietTactic
import Derived.Deep.RegionWith
import Derived.Deep.RegionHeld3
import Derived.Test.YtplcabecbofjpaaDoorT14
set_option linter.unusedVariables false
namespace Go.Proofs.YtplcabecbofjpaaDoor
open Go.RowKit
/-- What a call tells that reads a number: it, and where reading stands behind it. -/
def numV3 (A : Option Addr) (n c k : Nat) (r : Int × Nat × Int) : Value := .tuple #[.int .i64 r.1, .agg #[.slice A n c, .int .i64 ((k + r.2.1 : Nat) : Int), .int .i64 r.2.2]]
set_option maxHeartbeats 1600000 in
set_option maxRecDepth 100000 in
theorem refNumber_ok (A : Option Addr) (c k : Nat) (most : Int) (l : List UInt8) (w : World) (h : Rd w w.heap.size A l) (hk : k ≤ l.length) (hn : l.length ≤ 1000000) (hm : 0 ≤ most) (hm2 : most ≤ 2147483647) :
    Calls Tryd.prog 55 #[.agg #[.slice A l.length c, .int .i64 k, .int .i64 0], .int .i64 most] w (RetV w (numV3 A l.length c k (numberS (l.drop k) most))) := by
  have hb := bal (bal (Below.refl w.heap.size w) (.cells #[.slice A l.length c, .int .i64 k, .int .i64 0] 102)) (.cells #[.slice none 0 0, .int .i64 0, .int .i64 0] 102)
  have C := refNum_any A c k most l _ ((h.below hb).mono hb.size) hk hn hm hm2
  obtain ⟨⟨v, m, z⟩, hr⟩ : ∃ r, numberS (l.drop k) most = r := ⟨_, rfl⟩
  rw [hr] at C ⊢
  unfold res3 at C
  unfold numV3
  simp only at C ⊢
  clear hr h hb
  generalize k + m = K at *
  go_enter Tryd.func55, Tryd.ntmps55
  go_wp2_with fail
  refine C.mono ?_; rintro e w1 ⟨rfl, rfl⟩
  clear C
  go_wp2
  go_region
  all_goals go_wp2
  all_goals exact bodyPost_ret (v := .tuple #[.int .i64 v, .agg #[.slice A l.length c, .int .i64 (K : Int), .int .i64 z]]) (by simp [results, Tryd.results55, go_sem]) rfl ⟨rfl, (bal (bal (Below.refl _ _) _) _).drew⟩
set_option maxHeartbeats 1600000 in
set_option maxRecDepth 100000 in
theorem refNumber_bad (A : Option Addr) (n c : Nat) (k bad most : Int) (w : World) (hb : (bad != 0) = true) :
    Calls Tryd.prog 55 #[.agg #[.slice A n c, .int .i64 k, .int .i64 bad], .int .i64 most] w (RetV w (.tuple #[.int .i64 0, .agg #[.slice A n c, .int .i64 k, .int .i64 bad]])) := by
  go_enter Tryd.func55, Tryd.ntmps55
  go_wp2
  go_region
  all_goals go_wp2
  all_goals exact bodyPost_ret (v := .tuple #[.int .i64 0, .agg #[.slice A n c, .int .i64 k, .int .i64 bad]]) (by simp [results, Tryd.results55, go_sem]) rfl ⟨rfl, (bal (bal (Below.refl _ _) _) _).drew⟩
set_option maxHeartbeats 1600000 in
set_option maxRecDepth 100000 in
theorem refSigned_ok (A : Option Addr) (c k : Nat) (most : Int) (l : List UInt8) (w : World) (h : Rd w w.heap.size A l) (hk : k ≤ l.length) (hn : l.length ≤ 1000000) (hm : 0 ≤ most) (hm2 : most ≤ 2147483647) :
    Calls Tryd.prog 83 #[.agg #[.slice A l.length c, .int .i64 k, .int .i64 0], .int .i64 most] w (RetV w (numV3 A l.length c k (signedS (l.drop k) most))) := by
  have hb := bal (bal (Below.refl w.heap.size w) (.cells #[.slice A l.length c, .int .i64 k, .int .i64 0] 102)) (.cells #[.slice none 0 0, .int .i64 0, .int .i64 0] 102)
  have C := refSig_q A c k most l _ ((h.below hb).mono hb.size) hk hn hm hm2
  obtain ⟨⟨v, m, z⟩, hr⟩ : ∃ r, signedS (l.drop k) most = r := ⟨_, rfl⟩
  rw [hr] at C ⊢
  unfold res3 at C
  unfold numV3
  simp only at C ⊢
  clear hr h hb
  generalize k + m = K at *
  go_enter Tryd.func83, Tryd.ntmps83
  go_wp2_with fail
  refine C.mono ?_; rintro e w1 ⟨rfl, nd, rfl⟩
  clear C
  go_wp2
  go_region
  all_goals go_wp2
  all_goals
    refine bodyPost_ret (v := .tuple #[.int .i64 v, .agg #[.slice A l.length c, .int .i64 (K : Int), .int .i64 z]]) (by simp [results, Tryd.results83, go_sem]) rfl ⟨rfl, ?_⟩
    exact ((((((below_drewN (bal (bal (Below.refl _ _) _) _) nd).setCell (by simp) _).setCell (by simp) _).setCell (by simp) _).setCell (by simp) _).setCell (by simp) _).drew
end Go.Proofs.YtplcabecbofjpaaDoor
