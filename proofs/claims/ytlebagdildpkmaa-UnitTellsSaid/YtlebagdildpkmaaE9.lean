/-
  UnitTells, walked.
-/
import Derived.Test.YtlebagdildpkmaaProg
import Derived.WalkKit
import Derived.WalkSpells
import Derived.WalkLawsBesides
import Derived.Lib.Hide
import Derived.BigQuiet
import Derived.Deep.QuietTactic
import Derived.Deep.RegionWith
import Derived.Deep.RegionHeld3
import Derived.Test.YtlebagdildpkmaaE5
set_option linter.unusedVariables false
namespace Go.Proofs.Ytlebagdildpkmaa
open Go.RowKit
theorem forced_60 {n : Int} {L : List (List Int)} {c A : List Int} (hm : mayF n L c = true) (hA : ∀ x ∈ A, x ≠ 0 ∧ -n ≤ x ∧ x ≤ n) {z : Int} (h : Forced L A z) : z ≠ 0 ∧ -60 ≤ z ∧ z ≤ 60 := by
  obtain ⟨_, _, _, _, n0, n1, lx, _⟩ := may_parts hm
  cases h with
  | given _ h => have := hA z h; omega
  | unit d _ hd hz _ => have := lx d hd z hz; omega
set_option maxHeartbeats 3000000 in
set_option maxRecDepth 100000 in
theorem tells_in (LA AA : Option Addr) (k k' : Nat) (n : Int) (L : List (List Int)) (c : List Int) (w : World) (hL : RCk w w.heap.size LA L) (hR : RI w w.heap.size AA c) (hm : mayF n L c = true) :
    Calls Try.prog 3 #[.int .i64 n, .slice LA L.length k, .slice AA c.length k'] w (RetV w (.bool true)) := by
  obtain ⟨hM, l1, l2, l3, n0, n1, lx, cx⟩ := may_parts hm
  have C1 := shown_any w
  have C2 : Hid (∀ wx, Below w.heap.size w wx → Calls Try.prog 11 #[.int .i64 n, .slice LA L.length k, .slice AA c.length k'] wx (RetV wx (.bool true))) := Lib.hid fun wx hx => by
    have := may_any LA AA k k' n L c wx (hL.nx hx).rc (hR.nx hx) (by unfold maxLen; omega) (by unfold maxLen; omega)
    rwa [hm] at this
  have C3 : Hid (∀ wx, Below w.heap.size w wx → Calls Try.prog 12 #[.int .i64 n, .slice LA L.length k, .slice AA c.length k'] wx (RetIB wx (closeL L c) (clashB L c))) := Lib.hid fun wx hx => Close_any LA AA k k' n L c wx (hL.nx hx) (hR.nx hx) hM
  have C4 : Hid (∀ wx, Below w.heap.size w wx → Calls Try.prog 13 #[.int .i64 n, .slice LA L.length k, .slice AA c.length k'] wx (RetIB wx (closeL L c) (clashB L c))) := Lib.hid fun wx hx => refClose_any LA AA k k' n L c wx (hL.nx hx) (hR.nx hx) hM (by omega) (by omega) (fun z hz => forced_60 hm cx hz)
  have C5 : Hid (∀ wx, Below w.heap.size w wx → Calls Try.prog 15 #[.int .i64 n, .slice LA L.length k, .slice AA c.length k'] wx (RetV wx (.bool (clashB L (negC c))))) := Lib.hid fun wx hx => Refutes_any LA AA k k' n L c wx (hL.nx hx) (hR.nx hx) hM
  have C6 : Hid (∀ wx, Below w.heap.size w wx → Calls Try.prog 16 #[.int .i64 n, .slice LA L.length k, .slice AA c.length k'] wx (RetV wx (.bool (clashB L (negC c))))) := Lib.hid fun wx hx => refRefutes_any LA AA k k' n L c wx (hL.nx hx) (hR.nx hx) hM (by omega) (by omega) (fun z hz => forced_60 hm (fun x hx => by
    obtain ⟨y, hy, rfl⟩ := List.mem_map.1 hx
    have := cx y hy
    refine ⟨?_, ?_, ?_⟩ <;> omega) hz)
  have C7 : Hid (∀ wx, Below w.heap.size w wx → Calls Try.prog 17 #[.slice AA c.length k'] wx (RetI wx (sortF c))) := Lib.hid fun wx hx => sort_any AA k' c wx (hR.nx hx) (by omega)
  have C8 : Hid (∀ wx, Below w.heap.size w wx → Calls Try.prog 18 #[.slice AA c.length k'] wx (RetI wx (sortF c))) := Lib.hid fun wx hx => refSort_any AA k' c wx (hR.nx hx) hM.alit (by omega)
  have hsl := sortF_len c
  have hSm : (sortF c).length ≤ maxLen := by unfold maxLen; omega
  have HSM := Lib.hid hSm
  clear hL hR hm hM lx cx l3 hSm
  generalize closeL L c = F at *
  generalize sortF c = S at *
  generalize clashB L c = b1 at *
  generalize clashB L (negC c) = b2 at *
  have e1 : (b1 == b1) = true := by simp
  have e2 : (b2 == b2) = true := by simp
  go_enter Try.func3, Try.ntmps3
  go_wp2_with fail
  refine C1.mono ?_; rintro e w1 ⟨rfl, hb1⟩
  have c2 := C2.out w1 hb1
  have HB1 := Lib.hid hb1
  clear C1 C2 hb1
  go_wp2_with fail
  refine c2.mono ?_; rintro e w2 ⟨rfl, hb2⟩
  have hB2 := bnx HB1.out hb2
  have c3 := C3.out w2 hB2
  have HB2 := Lib.hid hB2
  clear c2 C3 hb2 HB1 hB2
  go_wp2_with fail
  refine c3.mono ?_; rintro e w3 ⟨v3, rfl, ho3, hb3⟩
  obtain ⟨A3, k3, rfl, hr3, _, h3k, h3m⟩ := ho3.val
  have hFm : F.length ≤ maxLen := by omega
  have hB3 := bnx HB2.out hb3
  have c4 := C4.out w3 hB3
  have HB3 := Lib.hid hB3
  have HR3 := Lib.hid hr3
  have HFM := Lib.hid hFm
  clear c3 C4 ho3 hb3 hr3 h3k h3m hFm HB2 hB3
  go_wp2_with fail
  refine c4.mono ?_; rintro e w4 ⟨v4, rfl, ho4, hb4⟩
  obtain ⟨A4, k4, rfl, hr4, _⟩ := ho4.val
  have c5 := Ints_any A3 A4 k3 k4 F F w4 (HR3.out.nx hb4) hr4 HFM.out HFM.out
  rw [show (F == F) = true by simp] at c5
  have HB4 := Lib.hid (bnx HB3.out hb4)
  clear c4 ho4 hb4 hr4 HR3 HFM HB3
  go_wp2_with fail
  refine c5.mono ?_; rintro e w5 ⟨rfl, hb5⟩
  have hB5 := bnx HB4.out hb5
  have c6 := C5.out w5 hB5
  have HB5 := Lib.hid hB5
  clear c5 C5 hb5 hB5 HB4
  go_wp2_with fail
  refine c6.mono ?_; rintro e w6 ⟨rfl, hb6⟩
  have hB6 := bnx HB5.out hb6
  have c7 := C6.out w6 hB6
  have HB6 := Lib.hid hB6
  clear c6 C6 hb6 hB6 HB5
  go_wp2_with fail
  refine c7.mono ?_; rintro e w7 ⟨rfl, hb7⟩
  have hB7 := bnx HB6.out hb7
  have c8 := C7.out w7 hB7
  have HB7 := Lib.hid hB7
  clear c7 C7 hb7 hB7 HB6
  go_wp2_with fail
  refine c8.mono ?_; rintro e w8 ⟨v8, rfl, ho8, hb8⟩
  obtain ⟨A8, k8, rfl, hr8, _⟩ := ho8.val
  have hB8 := bnx HB7.out hb8
  have c9 := C8.out w8 hB8
  have HB8 := Lib.hid hB8
  have HR8 := Lib.hid hr8
  clear c8 C8 ho8 hb8 hr8 hB8 HB7
  go_wp2_with fail
  refine c9.mono ?_; rintro e w9 ⟨v9, rfl, ho9, hb9⟩
  obtain ⟨A9, k9, rfl, hr9, _⟩ := ho9.val
  have c10 := Ints_any A8 A9 k8 k9 S S w9 (HR8.out.nx hb9) hr9 HSM.out HSM.out
  rw [show (S == S) = true by simp] at c10
  have HB9 := Lib.hid (bnx HB8.out hb9)
  clear c9 ho9 hb9 hr9 HR8 HB8
  go_wp2_with fail
  refine c10.mono ?_; rintro e wa ⟨rfl, hba⟩
  have HF := Lib.hid (bnx HB9.out hba)
  clear c10 hba HB9
  go_wp2
  go_ret
  exact ⟨by first | rfl | simp, HF.out⟩
set_option maxHeartbeats 2000000 in
theorem tells_out (LA AA : Option Addr) (k k' : Nat) (n : Int) (L : List (List Int)) (c : List Int) (w : World) (hL : RCk w w.heap.size LA L) (hR : RI w w.heap.size AA c) (hl : L.length ≤ maxLen) (hc : c.length ≤ maxLen) (hm : mayF n L c = false) :
    Calls Try.prog 3 #[.int .i64 n, .slice LA L.length k, .slice AA c.length k'] w (RetV w (.bool true)) := by
  have C1 := shown_any w
  have C2 : Hid (∀ wx, Below w.heap.size w wx → Calls Try.prog 11 #[.int .i64 n, .slice LA L.length k, .slice AA c.length k'] wx (RetV wx (.bool false))) := Lib.hid fun wx hx => by
    have := may_any LA AA k k' n L c wx (hL.nx hx).rc (hR.nx hx) hl hc
    rwa [hm] at this
  clear hL hR hm hl hc
  go_enter Try.func3, Try.ntmps3
  go_wp2_with fail
  refine C1.mono ?_; rintro e w1 ⟨rfl, hb1⟩
  have c2 := C2.out w1 hb1
  have HB1 := Lib.hid hb1
  clear C1 C2 hb1
  go_wp2_with fail
  refine c2.mono ?_; rintro e w2 ⟨rfl, hb2⟩
  have HB := Lib.hid (bnx HB1.out hb2)
  clear c2 hb2 HB1
  go_wp2
  go_ret
  exact ⟨rfl, HB.out⟩
theorem tells_any (LA AA : Option Addr) (k k' : Nat) (n : Int) (L : List (List Int)) (c : List Int) (w : World) (hL : RCk w w.heap.size LA L) (hR : RI w w.heap.size AA c) (hl : L.length ≤ maxLen) (hc : c.length ≤ maxLen) :
    Calls Try.prog 3 #[.int .i64 n, .slice LA L.length k, .slice AA c.length k'] w (RetV w (.bool true)) := by
  cases hm : mayF n L c
  · exact tells_out LA AA k k' n L c w hL hR hl hc hm
  · exact tells_in LA AA k k' n L c w hL hR hm
end Go.Proofs.Ytlebagdildpkmaa
