/-
  VecRing inside
-/
import Derived.Test.YtnnoflohekmnbaaProg
import Derived.WalkKit
import Derived.WalkSpells
import Derived.WalkLawsBesides
import Derived.LoopN
import Derived.IntWalk
import Derived.Lib.Hide
import Derived.Test.YtnnoflohekmnbaaF2
import Derived.Test.YtnnoflohekmnbaaF1
import Derived.Laws.BitsAllLaws
import Derived.Laws.Externs
import Derived.BigQuiet
import Derived.BigRegion
import Derived.Deep.QuietTactic
import Derived.Deep.RegionWith
import Derived.Deep.RegionHeld3
import Derived.StillTailTactics
import Derived.RegionTactic
import Derived.ChangeAlike
import Derived.Deep.DeepCutAuto
set_option linter.unusedVariables false
namespace Go.Proofs.Ytnnoflohekmnbaa
open Go.RowKit
theorem ring_in {w : World} {ada adb adc : Addr} {ca cb cc W N K M : Nat} (ha : Vc w w.heap.size ada ca W N) (hb : Vc w w.heap.size adb cb W K) (hc : Vc w w.heap.size adc cc W M) :
    Calls Try.prog 6 #[.agg #[.int .i64 W, .slice (some ada) (lm W) ca], .agg #[.int .i64 W, .slice (some adb) (lm W) cb], .agg #[.int .i64 W, .slice (some adc) (lm W) cc]] w (RetV w (.bool true)) := by
  have h := ha.w2
  have hN := ha.n
  have hK := hb.n
  have hz := sub_self_ N h
  refine ring_main ha hb hc (Lib.hid (add_c _ _ h)) (Lib.hid (mul_c _ _ h)) (Lib.hid (add_a _ _ _ h)) (Lib.hid (mul_a _ _ _ h)) (Lib.hid (mul_d _ _ _ h)) (Lib.hid fun e => ?_) (Lib.hid fun e => ?_)
  · rw [hz] at e ⊢
    subst e
    exact ⟨div_zero_ h hN, rem_zero_ h hN⟩
  · rw [hz] at e
    exact ⟨add_sub h hN hK, div_back h hN hK e, rem_less h hN hK e⟩
end Go.Proofs.Ytnnoflohekmnbaa
