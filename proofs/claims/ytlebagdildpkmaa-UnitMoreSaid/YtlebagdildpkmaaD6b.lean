/-
  UnitMore, all ways.
-/
import Derived.Test.YtlebagdildpkmaaProg
import Derived.WalkKit
import Derived.WalkSpells
import Derived.WalkLawsBesides
import Derived.Lib.Hide
import Derived.BigQuiet
import Derived.Deep.QuietTactic
import Derived.Deep.RegionWith
import Derived.Deep.RegionHeld3
import Derived.Test.YtlebagdildpkmaaD6w
set_option linter.unusedVariables false
namespace Go.Proofs.Ytlebagdildpkmaa
open Go.RowKit
set_option maxHeartbeats 2000000 in
set_option maxRecDepth 100000 in
theorem more_o1 (LA AA MA : Option Addr) (k k' km : Nat) (n : Int) (L : List (List Int)) (c m : List Int) (w : World) (hL : RCk w w.heap.size LA L) (hR : RI w w.heap.size AA c) (hB : RI w w.heap.size MA m) (hl : L.length ≤ maxLen) (hc : c.length ≤ maxLen) (hmm : m.length ≤ maxLen) (h0 : mayF n L c = false) :
    Calls Try.prog 5 #[.agg #[.int .i64 n, .slice LA L.length k, .slice AA c.length k', .slice MA m.length km]] w (RetV w (.bool true)) := by
  have b0 := bal (Below.refl w.heap.size w) (.cells #[.int .i64 n, .slice LA L.length k, .slice AA c.length k', .slice MA m.length km] 39)
  generalize hw0 : w.alloc (.cells #[.int .i64 n, .slice LA L.length k, .slice AA c.length k', .slice MA m.length km] 39) = w0 at b0
  have HW0 := Lib.hid hw0
  have HB0 := Lib.hid b0
  have C1 := shown_any w0
  have C2 : Hid (∀ wx, Below w0.heap.size w0 wx → Calls Try.prog 11 #[.int .i64 n, .slice LA L.length k, .slice AA c.length k'] wx (RetV wx (.bool false))) := Lib.hid fun wx hx => by
    have := may_any LA AA k k' n L c wx ((hL.nx b0).nx hx).rc ((hR.nx b0).nx hx) hl hc
    rwa [h0] at this
  clear hL hR hB hl hc hmm hw0 b0 h0
  go_enter Try.func5, Try.ntmps5
  go_wp2_with fail
  rw [HW0.out]
  refine C1.mono ?_; rintro e w1 ⟨rfl, hb1⟩
  have HB1 := Lib.hid hb1
  have D1 := hb1
  clear C1 hb1
  have c2 := C2.out w1 D1
  clear C2 D1
  go_wp2_with fail
  refine c2.mono ?_; rintro e w2 ⟨rfl, hb2⟩
  have D2 := bnx HB1.out hb2
  have HB2 := Lib.hid D2
  clear c2 hb2 HB1
  have HB := Lib.hid (bnx HB0.out D2)
  clear D2 HB2
  go_wp2
  go_ret
  exact ⟨rfl, HB.out⟩
set_option maxHeartbeats 2000000 in
set_option maxRecDepth 100000 in
theorem more_o2 (LA AA MA : Option Addr) (k k' km : Nat) (n : Int) (L : List (List Int)) (c m : List Int) (w : World) (hL : RCk w w.heap.size LA L) (hR : RI w w.heap.size AA c) (hB : RI w w.heap.size MA m) (hl : L.length ≤ maxLen) (hc : c.length ≤ maxLen) (hmm : m.length ≤ maxLen) (h0 : mayF n L c = true) (h1 : mayF n [] m = false) :
    Calls Try.prog 5 #[.agg #[.int .i64 n, .slice LA L.length k, .slice AA c.length k', .slice MA m.length km]] w (RetV w (.bool true)) := by
  have b0 := bal (Below.refl w.heap.size w) (.cells #[.int .i64 n, .slice LA L.length k, .slice AA c.length k', .slice MA m.length km] 39)
  generalize hw0 : w.alloc (.cells #[.int .i64 n, .slice LA L.length k, .slice AA c.length k', .slice MA m.length km] 39) = w0 at b0
  have HW0 := Lib.hid hw0
  have HB0 := Lib.hid b0
  have C1 := shown_any w0
  have C2 : Hid (∀ wx, Below w0.heap.size w0 wx → Calls Try.prog 11 #[.int .i64 n, .slice LA L.length k, .slice AA c.length k'] wx (RetV wx (.bool true))) := Lib.hid fun wx hx => by
    have := may_any LA AA k k' n L c wx ((hL.nx b0).nx hx).rc ((hR.nx b0).nx hx) hl hc
    rwa [h0] at this
  have C3 : Hid (∀ wx, Below w0.heap.size w0 wx → Calls Try.prog 11 #[.int .i64 n, .slice none 0 0, .slice MA m.length km] wx (RetV wx (.bool false))) := Lib.hid fun wx hx => by
    have := may_any none MA 0 km n [] m wx (fun i hi => absurd hi (by simp)) ((hB.nx b0).nx hx) (by simp [maxLen]) hmm
    rwa [h1] at this
  clear hL hR hB hl hc hmm hw0 b0 h0 h1
  go_enter Try.func5, Try.ntmps5
  go_wp2_with fail
  rw [HW0.out]
  refine C1.mono ?_; rintro e w1 ⟨rfl, hb1⟩
  have HB1 := Lib.hid hb1
  have D1 := hb1
  clear C1 hb1
  have c2 := C2.out w1 D1
  clear C2 D1
  go_wp2_with fail
  refine c2.mono ?_; rintro e w2 ⟨rfl, hb2⟩
  have D2 := bnx HB1.out hb2
  have HB2 := Lib.hid D2
  clear c2 hb2 HB1
  have c3 := C3.out w2 D2
  clear C3 D2
  go_wp2_with fail
  refine c3.mono ?_; rintro e w3 ⟨rfl, hb3⟩
  have D3 := bnx HB2.out hb3
  have HB3 := Lib.hid D3
  clear c3 hb3 HB2
  have HB := Lib.hid (bnx HB0.out D3)
  clear D3 HB3
  go_wp2
  go_ret
  exact ⟨rfl, HB.out⟩
set_option maxHeartbeats 2000000 in
set_option maxRecDepth 100000 in
theorem more_o3 (LA AA MA : Option Addr) (k k' km : Nat) (n : Int) (L : List (List Int)) (c m : List Int) (w : World) (hL : RCk w w.heap.size LA L) (hR : RI w w.heap.size AA c) (hB : RI w w.heap.size MA m) (hl : L.length ≤ maxLen) (hc : c.length ≤ maxLen) (hmm : m.length ≤ maxLen) (h0 : mayF n L c = true) (h1 : mayF n [] m = true) (hs : 30 < c.length) :
    Calls Try.prog 5 #[.agg #[.int .i64 n, .slice LA L.length k, .slice AA c.length k', .slice MA m.length km]] w (RetV w (.bool true)) := by
  have b0 := bal (Below.refl w.heap.size w) (.cells #[.int .i64 n, .slice LA L.length k, .slice AA c.length k', .slice MA m.length km] 39)
  generalize hw0 : w.alloc (.cells #[.int .i64 n, .slice LA L.length k, .slice AA c.length k', .slice MA m.length km] 39) = w0 at b0
  have HW0 := Lib.hid hw0
  have HB0 := Lib.hid b0
  have C1 := shown_any w0
  have C2 : Hid (∀ wx, Below w0.heap.size w0 wx → Calls Try.prog 11 #[.int .i64 n, .slice LA L.length k, .slice AA c.length k'] wx (RetV wx (.bool true))) := Lib.hid fun wx hx => by
    have := may_any LA AA k k' n L c wx ((hL.nx b0).nx hx).rc ((hR.nx b0).nx hx) hl hc
    rwa [h0] at this
  have C3 : Hid (∀ wx, Below w0.heap.size w0 wx → Calls Try.prog 11 #[.int .i64 n, .slice none 0 0, .slice MA m.length km] wx (RetV wx (.bool true))) := Lib.hid fun wx hx => by
    have := may_any none MA 0 km n [] m wx (fun i hi => absurd hi (by simp)) ((hB.nx b0).nx hx) (by simp [maxLen]) hmm
    rwa [h1] at this
  unfold maxLen at hc
  obtain ⟨_, _, q1, _⟩ := may_parts h0
  have dn : decide ((30 : Int) < (c.length : Int)) = true := decide_eq_true (by omega)
  have dn' : decide (30 < c.length) = true := decide_eq_true (by omega)
  clear hL hR hB hl hc hmm hw0 b0 h0 h1
  go_enter Try.func5, Try.ntmps5
  go_wp2_with fail
  rw [HW0.out]
  refine C1.mono ?_; rintro e w1 ⟨rfl, hb1⟩
  have HB1 := Lib.hid hb1
  have D1 := hb1
  clear C1 hb1
  have c2 := C2.out w1 D1
  clear C2 D1
  go_wp2_with fail
  refine c2.mono ?_; rintro e w2 ⟨rfl, hb2⟩
  have D2 := bnx HB1.out hb2
  have HB2 := Lib.hid D2
  clear c2 hb2 HB1
  have c3 := C3.out w2 D2
  clear C3 D2
  go_wp2_with fail
  refine c3.mono ?_; rintro e w3 ⟨rfl, hb3⟩
  have D3 := bnx HB2.out hb3
  have HB3 := Lib.hid D3
  clear c3 hb3 HB2
  have HB := Lib.hid (bnx HB0.out D3)
  clear D3 HB3
  go_wp2
  go_ret
  exact ⟨rfl, HB.out⟩
theorem more_any (LA AA MA : Option Addr) (k k' km : Nat) (n : Int) (L : List (List Int)) (c m : List Int) (w : World) (hL : RCk w w.heap.size LA L) (hR : RI w w.heap.size AA c) (hB : RI w w.heap.size MA m) (hl : L.length ≤ maxLen) (hc : c.length ≤ maxLen) (hmm : m.length ≤ maxLen) (zL : LA = none → k = 0) (hmk : m.length ≤ km) (hkm : km ≤ maxLen) :
    Calls Try.prog 5 #[.agg #[.int .i64 n, .slice LA L.length k, .slice AA c.length k', .slice MA m.length km]] w (RetV w (.bool true)) := by
  cases h0 : mayF n L c
  · exact more_o1 LA AA MA k k' km n L c m w hL hR hB hl hc hmm h0
  · cases h1 : mayF n [] m
    · exact more_o2 LA AA MA k k' km n L c m w hL hR hB hl hc hmm h0 h1
    · by_cases hs : c.length ≤ 30
      · exact more_in LA AA MA k k' km n L c m w hL hR hB zL hmk hkm h0 h1 hs
      · exact more_o3 LA AA MA k k' km n L c m w hL hR hB hl hc hmm h0 h1 (by omega)
end Go.Proofs.Ytlebagdildpkmaa
