/-
  UnitForced, all ways.
-/
import Derived.Test.YtlebagdildpkmaaProg
import Derived.WalkKit
import Derived.WalkSpells
import Derived.WalkLawsBesides
import Derived.Lib.Hide
import Derived.BigQuiet
import Derived.Deep.QuietTactic
import Derived.Deep.RegionWith
import Derived.Deep.RegionHeld3
import Derived.Test.YtlebagdildpkmaaD1
set_option linter.unusedVariables false
namespace Go.Proofs.Ytlebagdildpkmaa
open Go.RowKit
set_option maxHeartbeats 2000000 in
theorem forced_out (LA AA : Option Addr) (k k' : Nat) (n : Int) (L : List (List Int)) (c : List Int) (w : World) (hL : RCk w w.heap.size LA L) (hR : RI w w.heap.size AA c) (hl : L.length ≤ maxLen) (hc : c.length ≤ maxLen) (hm : mayF n L c = false) :
    Calls Try.prog 7 #[.int .i64 n, .slice LA L.length k, .slice AA c.length k'] w (RetV w (.bool true)) := by
  have C1 := shown_any w
  have C2 : Hid (∀ wx, Below w.heap.size w wx → Calls Try.prog 11 #[.int .i64 n, .slice LA L.length k, .slice AA c.length k'] wx (RetV wx (.bool false))) := Lib.hid fun wx hx => by
    have := may_any LA AA k k' n L c wx (hL.nx hx).rc (hR.nx hx) hl hc
    rwa [hm] at this
  clear hL hR hm hl hc
  go_enter Try.func7, Try.ntmps7
  go_wp2_with fail
  refine C1.mono ?_; rintro e w1 ⟨rfl, hb1⟩
  have c2 := C2.out w1 hb1
  have HB1 := Lib.hid hb1
  clear C1 C2 hb1
  go_wp2_with fail
  refine c2.mono ?_; rintro e w2 ⟨rfl, hb2⟩
  have HB := Lib.hid (bnx HB1.out hb2)
  clear c2 hb2 HB1
  go_wp2
  go_ret
  exact ⟨rfl, HB.out⟩
theorem forced_any (LA AA : Option Addr) (k k' : Nat) (n : Int) (L : List (List Int)) (c : List Int) (w : World) (hL : RCk w w.heap.size LA L) (hR : RI w w.heap.size AA c) (hl : L.length ≤ maxLen) (hc : c.length ≤ maxLen) :
    Calls Try.prog 7 #[.int .i64 n, .slice LA L.length k, .slice AA c.length k'] w (RetV w (.bool true)) := by
  cases hm : mayF n L c
  · exact forced_out LA AA k k' n L c w hL hR hl hc hm
  · exact forced_in LA AA k k' n L c w hL hR hm
end Go.Proofs.Ytlebagdildpkmaa
