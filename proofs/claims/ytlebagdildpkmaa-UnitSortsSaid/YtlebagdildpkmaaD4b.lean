/-
  UnitSorts, all ways.
-/
import Derived.Test.YtlebagdildpkmaaProg
import Derived.WalkKit
import Derived.WalkSpells
import Derived.WalkLawsBesides
import Derived.Lib.Hide
import Derived.BigQuiet
import Derived.Deep.QuietTactic
import Derived.Deep.RegionWith
import Derived.Deep.RegionHeld3
import Derived.Test.YtlebagdildpkmaaD4
set_option linter.unusedVariables false
namespace Go.Proofs.Ytlebagdildpkmaa
open Go.RowKit
set_option maxHeartbeats 2000000 in
theorem sorts_out (AA : Option Addr) (k' : Nat) (n : Int) (c : List Int) (w : World) (hR : RI w w.heap.size AA c) (hc : c.length ≤ maxLen) (hm : mayF n [] c = false) :
    Calls Try.prog 9 #[.int .i64 n, .slice AA c.length k'] w (RetV w (.bool true)) := by
  have C1 := shown_any w
  have C2 : Hid (∀ wx, Below w.heap.size w wx → Calls Try.prog 11 #[.int .i64 n, .slice none 0 0, .slice AA c.length k'] wx (RetV wx (.bool false))) := Lib.hid fun wx hx => by
    have := may_any none AA 0 k' n [] c wx (fun i hi => absurd hi (by simp)) (hR.nx hx) (by simp [maxLen]) hc
    rwa [hm] at this
  clear hR hm hc
  go_enter Try.func9, Try.ntmps9
  go_wp2_with fail
  refine C1.mono ?_; rintro e w1 ⟨rfl, hb1⟩
  have c2 := C2.out w1 hb1
  have HB1 := Lib.hid hb1
  clear C1 C2 hb1
  go_wp2_with fail
  refine c2.mono ?_; rintro e w2 ⟨rfl, hb2⟩
  have HB := Lib.hid (bnx HB1.out hb2)
  clear c2 hb2 HB1
  go_wp2
  go_ret
  exact ⟨rfl, HB.out⟩
theorem sorts_any (AA : Option Addr) (k' : Nat) (n : Int) (c : List Int) (w : World) (hR : RI w w.heap.size AA c) (hc : c.length ≤ maxLen) :
    Calls Try.prog 9 #[.int .i64 n, .slice AA c.length k'] w (RetV w (.bool true)) := by
  cases hm : mayF n [] c
  · exact sorts_out AA k' n c w hR hc hm
  · exact sorts_in AA k' n c w hR hm
end Go.Proofs.Ytlebagdildpkmaa
