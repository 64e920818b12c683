/-
  UnitTurned, all ways.
-/
import Derived.Test.YtlebagdildpkmaaProg
import Derived.WalkKit
import Derived.WalkSpells
import Derived.WalkLawsBesides
import Derived.Lib.Hide
import Derived.BigQuiet
import Derived.Deep.QuietTactic
import Derived.Deep.RegionWith
import Derived.Deep.RegionHeld3
import Derived.Test.YtlebagdildpkmaaD8
set_option linter.unusedVariables false
namespace Go.Proofs.Ytlebagdildpkmaa
open Go.RowKit
set_option maxHeartbeats 2000000 in
theorem turned_out (LA AA : Option Addr) (k k' : Nat) (n V : Int) (L : List (List Int)) (c : List Int) (w : World) (hL : RCk w w.heap.size LA L) (hR : RI w w.heap.size AA c) (hl : L.length ≤ maxLen) (hc : c.length ≤ maxLen) (hm : mayF n L c = false) :
    Calls Try.prog 6 #[.agg #[.int .i64 n, .slice LA L.length k, .slice AA c.length k', .int .i64 V]] w (RetV w (.bool true)) := by
  have b0 := bal (Below.refl w.heap.size w) (.cells #[.int .i64 n, .slice LA L.length k, .slice AA c.length k', .int .i64 V] 43)
  generalize hw0 : w.alloc (.cells #[.int .i64 n, .slice LA L.length k, .slice AA c.length k', .int .i64 V] 43) = w0 at b0
  have HW0 := Lib.hid hw0
  have HB0 := Lib.hid b0
  have C1 := shown_any w0
  have C2 : Hid (∀ wx, Below w0.heap.size w0 wx → Calls Try.prog 11 #[.int .i64 n, .slice LA L.length k, .slice AA c.length k'] wx (RetV wx (.bool false))) := Lib.hid fun wx hx => by
    have := may_any LA AA k k' n L c wx ((hL.nx b0).nx hx).rc ((hR.nx b0).nx hx) hl hc
    rwa [hm] at this
  clear hL hR hm hl hc hw0 b0
  go_enter Try.func6, Try.ntmps6
  go_wp2_with fail
  rw [HW0.out]
  refine C1.mono ?_; rintro e w1 ⟨rfl, hb1⟩
  have c2 := C2.out w1 hb1
  have HB1 := Lib.hid hb1
  clear C1 C2 hb1
  go_wp2_with fail
  refine c2.mono ?_; rintro e w2 ⟨rfl, hb2⟩
  have HB := Lib.hid (bnx HB0.out (bnx HB1.out hb2))
  clear c2 hb2 HB1
  go_wp2
  go_ret
  exact ⟨rfl, HB.out⟩
theorem turned_any (LA AA : Option Addr) (k k' : Nat) (n V : Int) (L : List (List Int)) (c : List Int) (w : World) (hL : RCk w w.heap.size LA L) (hR : RI w w.heap.size AA c) (hl : L.length ≤ maxLen) (hc : c.length ≤ maxLen) (bV : -9223372036854775808 ≤ V ∧ V ≤ 9223372036854775807) :
    Calls Try.prog 6 #[.agg #[.int .i64 n, .slice LA L.length k, .slice AA c.length k', .int .i64 V]] w (RetV w (.bool true)) := by
  cases hm : mayF n L c
  · exact turned_out LA AA k k' n V L c w hL hR hl hc hm
  · exact turned_in LA AA k k' n V L c w hL hR bV hm
end Go.Proofs.Ytlebagdildpkmaa
