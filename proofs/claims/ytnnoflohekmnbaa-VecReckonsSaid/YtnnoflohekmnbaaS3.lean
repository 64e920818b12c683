/-
  The reference's operations of two rows of bits. The reference's signed less of two rows of bits. The reference's and, or, xor of two rows of bits.
-/
import Derived.Test.YtnnoflohekmnbaaProg
import Derived.WalkKit
import Derived.WalkSpells
import Derived.WalkLawsBesides
import Derived.LoopN
import Derived.IntWalk
import Derived.Lib.Hide
import Derived.Laws.BitsAllLaws
import Derived.Laws.Externs
import Derived.BigQuiet
import Derived.BigRegion
import Derived.Deep.QuietTactic
import Derived.Deep.RegionWith
import Derived.Deep.RegionHeld3
import Derived.StillTailTactics
import Derived.RegionTactic
import Derived.ChangeAlike
import Derived.Test.YtnnoflohekmnbaaS2
import Derived.Test.YtnnoflohekmnbaaN7
import Derived.Test.YtnnoflohekmnbaaE3
set_option linter.unusedVariables false
/- The reference's operations of two rows of bits. -/
namespace Go.Proofs.Ytnnoflohekmnbaa
open Go.RowKit
/-- A call that tells a row of bits, and that there is such an operation. -/
def RetBo (w0 : World) (W N : Nat) (e : Ending) (w' : World) : Prop := ∃ A c l, e = .returned (.tuple #[.slice A l.length c, .bool true]) ∧ l.length = W ∧ nb l = N ∧ RB w' w'.heap.size A l ∧ Below w0.heap.size w0 w'
theorem RetBo.of {w0 w' : World} {W N n c : Nat} {A : Option Addr} {l : List Bool} (hn : n = l.length) (hl : l.length = W) (hN : nb l = N) (hr : RB w' w'.heap.size A l) (hb : Below w0.heap.size w0 w') : RetBo w0 W N (.returned (.tuple #[.slice A n c, .bool true])) w' := by
  subst hn; exact ⟨A, c, l, rfl, hl, hN, hr, hb⟩
set_option maxRecDepth 100000 in
set_option maxHeartbeats 4000000 in
theorem bin_add (A A' : Option Addr) (c c' : Nat) (a b : List Bool) (w : World) (h : RB w w.heap.size A a) (h' : RB w w.heap.size A' b) (hA' : A' = none → c' = 0) (hab : b.length = a.length) (h1 : 1 ≤ a.length) (hn : a.length ≤ 128) :
    Calls Try.prog 50 #[.string ⟨#[97, 100, 100]⟩, .slice A a.length c, .slice A' a.length c'] w (RetBo w a.length (f_add a.length (nb a) (nb b))) := by
  have C1 := refAdd_any A A' c c' a b false w h h' hab (by omega)
  have HH := Lib.hid (And.intro h h')
  have HAB := Lib.hid hab
  clear h h' hab
  go_enter Try.func50, Try.ntmps50
  go_wp2_with fail
  refine (C1).mono ?_
  rintro e w1 ⟨v, l, rfl, hl, hN, ho, hb⟩
  obtain ⟨A1, c1, rfl, hr, _⟩ := ho.val
  have HL := Lib.hid hl
  have HX := Lib.hid (And.intro hN (And.intro hr hb))
  clear hl hN ho hr hb C1
  go_wp2
  go_ret2
  exact RetBo.of rfl HL.out (HX.out.1.trans (r_add hn).symm) HX.out.2.1 HX.out.2.2
set_option maxRecDepth 100000 in
set_option maxHeartbeats 4000000 in
theorem bin_sub (A A' : Option Addr) (c c' : Nat) (a b : List Bool) (w : World) (h : RB w w.heap.size A a) (h' : RB w w.heap.size A' b) (hA' : A' = none → c' = 0) (hab : b.length = a.length) (h1 : 1 ≤ a.length) (hn : a.length ≤ 128) :
    Calls Try.prog 50 #[.string ⟨#[115, 117, 98]⟩, .slice A a.length c, .slice A' a.length c'] w (RetBo w a.length (f_sub a.length (nb a) (nb b))) := by
  have C1 := refSub_any A A' c c' a b w h h' hab (by omega)
  have hlt : nb b < 2 ^ a.length := hab ▸ nb_lt b
  have HLT := Lib.hid hlt
  clear hlt
  have HH := Lib.hid (And.intro h h')
  have HAB := Lib.hid hab
  clear h h' hab
  go_enter Try.func50, Try.ntmps50
  go_wp2_with fail
  refine (C1).mono ?_
  rintro e w1 ⟨A1, c1, l, rfl, hl, hN, hr, hb⟩
  have HL := Lib.hid hl
  have HX := Lib.hid (And.intro hN (And.intro hr hb))
  clear hl hN hr hb C1
  go_wp2
  go_ret2
  exact RetBo.of HL.out.symm HL.out (HX.out.1.trans (r_subs hn HLT.out).symm) HX.out.2.1 HX.out.2.2
set_option maxRecDepth 100000 in
set_option maxHeartbeats 4000000 in
theorem bin_mul (A A' : Option Addr) (c c' : Nat) (a b : List Bool) (w : World) (h : RB w w.heap.size A a) (h' : RB w w.heap.size A' b) (hA' : A' = none → c' = 0) (hab : b.length = a.length) (h1 : 1 ≤ a.length) (hn : a.length ≤ 128) :
    Calls Try.prog 50 #[.string ⟨#[109, 117, 108]⟩, .slice A a.length c, .slice A' a.length c'] w (RetBo w a.length (f_mul a.length (nb a) (nb b))) := by
  have C1 := refMul_any A A' c c' a b w h h' hab (by omega)
  have HH := Lib.hid (And.intro h h')
  have HAB := Lib.hid hab
  clear h h' hab
  go_enter Try.func50, Try.ntmps50
  go_wp2_with fail
  refine (C1).mono ?_
  rintro e w1 ⟨A1, c1, l, rfl, hl, hN, hr, hb⟩
  have HL := Lib.hid hl
  have HX := Lib.hid (And.intro hN (And.intro hr hb))
  clear hl hN hr hb C1
  go_wp2
  go_ret2
  exact RetBo.of HL.out.symm HL.out (HX.out.1.trans (f_mul_eq _ _ hn).symm) HX.out.2.1 HX.out.2.2
set_option maxRecDepth 100000 in
set_option maxHeartbeats 4000000 in
theorem bin_udiv (A A' : Option Addr) (c c' : Nat) (a b : List Bool) (w : World) (h : RB w w.heap.size A a) (h' : RB w w.heap.size A' b) (hA' : A' = none → c' = 0) (hab : b.length = a.length) (h1 : 1 ≤ a.length) (hn : a.length ≤ 128) :
    Calls Try.prog 50 #[.string ⟨#[117, 100, 105, 118]⟩, .slice A a.length c, .slice A' a.length c'] w (RetBo w a.length (f_udiv a.length (nb a) (nb b))) := by
  have C1 := refDiv_any A A' c c' a b w h h' hA' hab h1 (by omega)
  have hlt : nb b < 2 ^ a.length := hab ▸ nb_lt b
  have HLT := Lib.hid hlt
  clear hlt hA'
  have HH := Lib.hid (And.intro h h')
  have HAB := Lib.hid hab
  clear h h' hab
  go_enter Try.func50, Try.ntmps50
  go_wp2_with fail
  refine C1.mono ?_
  rintro e w1 ⟨A1, c1, l1, A2, c2, l2, rfl, hl1, hN1, hr1, hl2, hN2, hr2, hb⟩
  have HL := Lib.hid hl1
  have HX := Lib.hid (And.intro hN1 (And.intro hr1 hb))
  clear hl1 hN1 hr1 hl2 hN2 hr2 hb C1
  go_wp2
  go_ret2
  exact RetBo.of HL.out.symm HL.out (HX.out.1.trans (r_udiv hn (nb_lt a) HLT.out).symm) HX.out.2.1 HX.out.2.2
set_option maxRecDepth 100000 in
set_option maxHeartbeats 4000000 in
theorem bin_urem (A A' : Option Addr) (c c' : Nat) (a b : List Bool) (w : World) (h : RB w w.heap.size A a) (h' : RB w w.heap.size A' b) (hA' : A' = none → c' = 0) (hab : b.length = a.length) (h1 : 1 ≤ a.length) (hn : a.length ≤ 128) :
    Calls Try.prog 50 #[.string ⟨#[117, 114, 101, 109]⟩, .slice A a.length c, .slice A' a.length c'] w (RetBo w a.length (f_urem a.length (nb a) (nb b))) := by
  have C1 := refDiv_any A A' c c' a b w h h' hA' hab h1 (by omega)
  have hlt : nb b < 2 ^ a.length := hab ▸ nb_lt b
  have HLT := Lib.hid hlt
  clear hlt hA'
  have HH := Lib.hid (And.intro h h')
  have HAB := Lib.hid hab
  clear h h' hab
  go_enter Try.func50, Try.ntmps50
  go_wp2_with fail
  refine C1.mono ?_
  rintro e w1 ⟨A1, c1, l1, A2, c2, l2, rfl, hl1, hN1, hr1, hl2, hN2, hr2, hb⟩
  have HL := Lib.hid hl2
  have HX := Lib.hid (And.intro hN2 (And.intro hr2 hb))
  clear hl1 hN1 hr1 hl2 hN2 hr2 hb C1
  go_wp2
  go_ret2
  exact RetBo.of HL.out.symm HL.out (HX.out.1.trans (r_urem hn (nb_lt a) HLT.out).symm) HX.out.2.1 HX.out.2.2
set_option maxRecDepth 100000 in
set_option maxHeartbeats 4000000 in
theorem bin_sll (A A' : Option Addr) (c c' : Nat) (a b : List Bool) (w : World) (h : RB w w.heap.size A a) (h' : RB w w.heap.size A' b) (hA' : A' = none → c' = 0) (hab : b.length = a.length) (h1 : 1 ≤ a.length) (hn : a.length ≤ 128) :
    Calls Try.prog 50 #[.string ⟨#[115, 108, 108]⟩, .slice A a.length c, .slice A' a.length c'] w (RetBo w a.length (f_sll a.length (nb a) (nb b))) := by
  have C1 := refFar_any A' c' b w h' (by omega)
  rw [hab] at C1
  obtain ⟨k, hk⟩ : ∃ k, min (nb b) a.length = k := ⟨_, rfl⟩
  rw [hk] at C1
  have hk1 : k ≤ 128 := by omega
  have HKK := Lib.hid hk
  have C2 := refShift_any A c a (k : Int) false w h (by omega) (by omega) (by omega)
  clear hk
  have HH := Lib.hid (And.intro h h')
  have HAB := Lib.hid hab
  clear h h' hab
  go_enter Try.func50, Try.ntmps50
  go_wp2_with fail
  refine C1.mono ?_
  rintro e w1 ⟨rfl, rfl⟩
  clear C1
  go_wp2_with fail
  refine C2.mono ?_
  rintro e w1 ⟨v, rfl, ho, hb⟩
  obtain ⟨A1, c1, rfl, hr, _⟩ := ho.val
  have HX := Lib.hid (And.intro hr hb)
  clear ho hr hb C2
  go_wp2
  go_ret2
  exact RetBo.of rfl (shL_len _ _ _ _) ((nb_sll a k).trans (by rw [r_sll hn, HKK.out])) HX.out.1 HX.out.2
set_option maxRecDepth 100000 in
set_option maxHeartbeats 4000000 in
theorem bin_srl (A A' : Option Addr) (c c' : Nat) (a b : List Bool) (w : World) (h : RB w w.heap.size A a) (h' : RB w w.heap.size A' b) (hA' : A' = none → c' = 0) (hab : b.length = a.length) (h1 : 1 ≤ a.length) (hn : a.length ≤ 128) :
    Calls Try.prog 50 #[.string ⟨#[115, 114, 108]⟩, .slice A a.length c, .slice A' a.length c'] w (RetBo w a.length (f_srl a.length (nb a) (nb b))) := by
  have C1 := refFar_any A' c' b w h' (by omega)
  rw [hab] at C1
  obtain ⟨k, hk⟩ : ∃ k, min (nb b) a.length = k := ⟨_, rfl⟩
  rw [hk] at C1
  have hk1 : k ≤ 128 := by omega
  have HKK := Lib.hid hk
  have C2 := refShift_any A c a (-(k : Int)) false w h (by omega) (by omega) (by omega)
  clear hk
  have HH := Lib.hid (And.intro h h')
  have HAB := Lib.hid hab
  clear h h' hab
  go_enter Try.func50, Try.ntmps50
  go_wp2_with fail
  refine C1.mono ?_
  rintro e w1 ⟨rfl, rfl⟩
  clear C1
  go_wp2_with fail
  refine C2.mono ?_
  rintro e w1 ⟨v, rfl, ho, hb⟩
  obtain ⟨A1, c1, rfl, hr, _⟩ := ho.val
  have HX := Lib.hid (And.intro hr hb)
  clear ho hr hb C2
  go_wp2
  go_ret2
  exact RetBo.of rfl (shL_len _ _ _ _) ((nb_srl a k).trans (by rw [r_srl hn (nb_lt a), HKK.out])) HX.out.1 HX.out.2
set_option maxRecDepth 100000 in
set_option maxHeartbeats 4000000 in
theorem bin_sra (A A' : Option Addr) (c c' : Nat) (a b : List Bool) (w : World) (h : RB w w.heap.size A a) (h' : RB w w.heap.size A' b) (hA' : A' = none → c' = 0) (hab : b.length = a.length) (h1 : 1 ≤ a.length) (hn : a.length ≤ 128) :
    Calls Try.prog 50 #[.string ⟨#[115, 114, 97]⟩, .slice A a.length c, .slice A' a.length c'] w (RetBo w a.length (f_sra a.length (nb a) (nb b))) := by
  have C1 := refFar_any A' c' b w h' (by omega)
  rw [hab] at C1
  obtain ⟨k, hk⟩ : ∃ k, min (nb b) a.length = k := ⟨_, rfl⟩
  rw [hk] at C1
  have hk1 : k ≤ 128 := by omega
  have HKK := Lib.hid hk
  obtain ⟨u, hu⟩ : ∃ u, a.length - 1 = u := ⟨_, rfl⟩
  obtain ⟨t, ht⟩ : ∃ t, (nb a).testBit (a.length - 1) = t := ⟨_, rfl⟩
  have HT := Lib.hid ht
  obtain ⟨ada, rfl, hba, hca⟩ := h (a.length - 1) (by omega)
  rw [← nb_bit, ht, hu] at hca
  have hul : u < a.length := by omega
  have hul' : (u : Int) < (a.length : Int) := by omega
  have hu2 : (a.length : Int) - 1 = (u : Int) := by omega
  have C2 : Hid (∀ wx, Below w.heap.size w wx → Calls Try.prog 84 #[.slice (some ada) a.length c, .int .i64 (IntKind.i64.wrap (-(k : Int))), .bool t] wx (fun e w' => ∃ v, e = .returned v ∧ OwnB w' wx.heap.size v (shL a (-(k : Int)) t a.length) ∧ Below wx.heap.size wx w')) := Lib.hid fun wx hx => by rw [IntWalk.i64_in (-(k : Int)) (by omega)]; exact refShift_any (some ada) c a (-(k : Int)) t wx (h.nx hx) (by omega) (by omega) (by omega)
  have C1 : Hid (∀ wx, Below w.heap.size w wx → Calls Try.prog 85 #[.slice A' a.length c'] wx fun e w' => e = .returned (.int .i64 ((k : Nat) : Int)) ∧ wx = w') := Lib.hid fun wx hx => by
    have := refFar_any A' c' b wx (h'.nx hx) (by omega)
    rwa [hab, hk] at this
  have hU := (Below.refl w.heap.size w).drew
  have K0 : w.drew.cell? (ada.add u) = some (.bool t) := (hU.cell (by rw [blk_add]; exact hba)).trans hca
  clear hk hu ht
  have HH := Lib.hid (And.intro h h')
  have HAB := Lib.hid hab
  clear h h' hab
  go_enter Try.func50, Try.ntmps50
  go_wp2_with fail
  go_region_held3 (fun w' => w'.cell? (ada.add u) = some (.bool t))
    (first | exact K0 | exact hca | exact K1 | go_keep)
    (first
      | (go_at_call 85; ((with_reducible refine (C1.out _ hU).mono ?_); rintro e w1 ⟨rfl, rfl⟩))
      | (go_at_call 84; ((with_reducible refine (C2.out _ hU).mono ?_); rintro e w1 ⟨v, rfl, ho, hb⟩; have hB := bnxB hU hb; have K1 := (hB.cell (p := ada.add u) (by rw [blk_add]; exact hba)).trans hca)))
  obtain ⟨A1, c1, rfl, hr, _⟩ := ho.val
  have HX := Lib.hid (And.intro hr hB)
  clear ho hr hb hB C1 C2 K0 K1 hU
  go_wp2
  go_ret2
  exact RetBo.of rfl (shL_len _ _ _ _) (by rw [r_sra a (nb b) hn h1, HKK.out, HT.out]) HX.out.1 HX.out.2
set_option maxRecDepth 100000 in
set_option maxHeartbeats 4000000 in
theorem bin_ult (A A' : Option Addr) (c c' : Nat) (a b : List Bool) (w : World) (h : RB w w.heap.size A a) (h' : RB w w.heap.size A' b) (hA' : A' = none → c' = 0) (hab : b.length = a.length) (h1 : 1 ≤ a.length) (hn : a.length ≤ 128) :
    Calls Try.prog 50 #[.string ⟨#[117, 108, 116]⟩, .slice A a.length c, .slice A' a.length c'] w (RetBo w 1 (bn (decide (nb a < nb b)))) := by
  have L1 := refLess_any A A' c c' a b w h h' hab (by omega)
  obtain ⟨x, hx⟩ : ∃ x, decide (nb a < nb b) = x := ⟨_, rfl⟩
  rw [hx] at L1
  have HXX := Lib.hid hx
  clear hx
  have HH := Lib.hid (And.intro h h')
  have HAB := Lib.hid hab
  clear h h' hab
  go_enter Try.func50, Try.ntmps50
  go_wp2_with fail
  refine L1.mono ?_
  rintro e w1 ⟨rfl, hb1⟩
  clear L1
  go_wp2_with fail
  refine (refFlag_any x _).mono ?_
  rintro e w2 ⟨v, l, rfl, hl, hN, ho, hb⟩
  obtain ⟨A1, c1, rfl, hr, _⟩ := ho.val
  have HL := Lib.hid hl
  have HX := Lib.hid (And.intro hN (And.intro hr hb))
  clear hl hN ho hr hb 
  go_wp2
  go_ret2
  exact RetBo.of rfl HL.out (HX.out.1.trans (by rw [HXX.out])) HX.out.2.1 (bnxB hb1 HX.out.2.2)
set_option maxRecDepth 100000 in
set_option maxHeartbeats 4000000 in
theorem bin_eq (A A' : Option Addr) (c c' : Nat) (a b : List Bool) (w : World) (h : RB w w.heap.size A a) (h' : RB w w.heap.size A' b) (hA' : A' = none → c' = 0) (hab : b.length = a.length) (h1 : 1 ≤ a.length) (hn : a.length ≤ 128) :
    Calls Try.prog 50 #[.string ⟨#[101, 113]⟩, .slice A a.length c, .slice A' a.length c'] w (RetBo w 1 (bn (nb a == nb b))) := by
  have L1 := refLess_any A A' c c' a b w h h' hab (by omega)
  obtain ⟨x, hx⟩ : ∃ x, decide (nb a < nb b) = x := ⟨_, rfl⟩
  rw [hx] at L1
  have HXX := Lib.hid hx
  clear hx
  have L2 : Hid (∀ wx, Below w.heap.size w wx → Calls Try.prog 86 #[.slice A' a.length c', .slice A a.length c] wx (RetV wx (.bool (decide (nb b < nb a))))) := Lib.hid fun wx hx => by
    have := refLess_any A' A c' c b a wx (h'.nx hx) (h.nx hx) hab.symm (by omega)
    rwa [hab] at this
  obtain ⟨y, hy⟩ : ∃ y, decide (nb b < nb a) = y := ⟨_, rfl⟩
  rw [hy] at L2
  have HYY := Lib.hid hy
  clear hy
  have HH := Lib.hid (And.intro h h')
  have HAB := Lib.hid hab
  clear h h' hab
  cases x
  · go_enter Try.func50, Try.ntmps50
    go_wp2_with fail
    refine L1.mono ?_
    rintro e w1 ⟨rfl, hb1⟩
    have c2 := L2.out _ hb1
    clear L1
    go_wp2_with fail
    refine c2.mono ?_
    rintro e w2 ⟨rfl, hb2⟩
    have hB := bnxB hb1 hb2
    clear c2 hb1 hb2
    go_wp2_with fail
    refine (refFlag_any (!y) _).mono ?_
    rintro e w3 ⟨v, l, rfl, hl, hN, ho, hb⟩
    obtain ⟨A1, c1, rfl, hr, _⟩ := ho.val
    have HL := Lib.hid hl
    have HX := Lib.hid (And.intro hN (And.intro hr hb))
    clear hl hN ho hr hb
    go_wp2
    go_ret2
    exact RetBo.of rfl HL.out (HX.out.1.trans (by rw [r_eq, HXX.out, HYY.out]; rfl)) HX.out.2.1 (bnxB hB HX.out.2.2)
  · go_enter Try.func50, Try.ntmps50
    go_wp2_with fail
    refine L1.mono ?_
    rintro e w1 ⟨rfl, hb1⟩
    clear L1
    go_wp2_with fail
    refine (refFlag_any false _).mono ?_
    rintro e w3 ⟨v, l, rfl, hl, hN, ho, hb⟩
    obtain ⟨A1, c1, rfl, hr, _⟩ := ho.val
    have HL := Lib.hid hl
    have HX := Lib.hid (And.intro hN (And.intro hr hb))
    clear hl hN ho hr hb
    go_wp2
    go_ret2
    exact RetBo.of rfl HL.out (HX.out.1.trans (by rw [r_eq, HXX.out]; rfl)) HX.out.2.1 (bnxB hb1 HX.out.2.2)
end Go.Proofs.Ytnnoflohekmnbaa
/- The reference's signed less of two rows of bits. -/
namespace Go.Proofs.Ytnnoflohekmnbaa
open Go.RowKit
set_option maxRecDepth 100000 in
set_option maxHeartbeats 4000000 in
theorem bin_slt (A A' : Option Addr) (c c' : Nat) (a b : List Bool) (w : World) (h : RB w w.heap.size A a) (h' : RB w w.heap.size A' b) (hA' : A' = none → c' = 0) (hab : b.length = a.length) (h1 : 1 ≤ a.length) (hn : a.length ≤ 128) :
    Calls Try.prog 50 #[.string ⟨#[115, 108, 116]⟩, .slice A a.length c, .slice A' a.length c'] w (RetBo w 1 (bn (sltB (nb a) (nb b) a.length a.length))) := by
  obtain ⟨u, hu⟩ : ∃ u, a.length - 1 = u := ⟨_, rfl⟩
  obtain ⟨ada, rfl, hba, hca⟩ := h (a.length - 1) (by omega)
  obtain ⟨adb, rfl, hbb, hcb⟩ := h' (a.length - 1) (by omega)
  rw [← nb_bit] at hca hcb
  obtain ⟨x, hx⟩ : ∃ x, (nb a).testBit (a.length - 1) = x := ⟨_, rfl⟩
  obtain ⟨y, hy⟩ : ∃ y, (nb b).testBit (a.length - 1) = y := ⟨_, rfl⟩
  rw [hx, hu] at hca
  rw [hy, hu] at hcb
  have HX1 := Lib.hid hx
  have HY1 := Lib.hid hy
  have hul : u < a.length := by omega
  have hul' : (u : Int) < (a.length : Int) := by omega
  have hu2 : (a.length : Int) - 1 = (u : Int) := by omega
  obtain ⟨z, hz⟩ : ∃ z, decide (nb a < nb b) = z := ⟨_, rfl⟩
  have HZ1 := Lib.hid hz
  have L1 : Hid (∀ wx, Below w.heap.size w wx → Calls Try.prog 86 #[.slice (some ada) a.length c, .slice (some adb) a.length c'] wx (RetV wx (.bool z))) := Lib.hid fun wx hx => by
    have := refLess_any (some ada) (some adb) c c' a b wx (h.nx hx) (h'.nx hx) hab (by omega)
    rwa [hz] at this
  have hca' : w.drew.cell? (ada.add u) = some (.bool x) := (((Below.refl w.heap.size w).drew).cell (by rw [blk_add]; exact hba)).trans hca
  have hcb' : w.drew.cell? (adb.add u) = some (.bool y) := (((Below.refl w.heap.size w).drew).cell (by rw [blk_add]; exact hbb)).trans hcb
  have HKK : Hid (∀ wx, Below w.heap.size w wx → wx.cell? (ada.add u) = some (.bool x) ∧ wx.cell? (adb.add u) = some (.bool y)) := Lib.hid fun wx hx => ⟨(hx.cell (by rw [blk_add]; exact hba)).trans hca, (hx.cell (by rw [blk_add]; exact hbb)).trans hcb⟩
  have hU := (Below.refl w.heap.size w).drew
  have K0 := HKK.out _ hU
  clear hx hy hz hu h h' hab hA' hca hcb hca' hcb'
  cases x <;> cases y
  · go_enter Try.func50, Try.ntmps50
    go_wp2_with fail
    refine wp_region_noPanic ?_
    refine wp_region_held_drew (S := (fun w' => w'.cell? (ada.add u) = some (.bool false) ∧ w'.cell? (adb.add u) = some (.bool false))) (by kernel_rfl) ?_ (fun hHeld => ?_)
    · exact K0
    refine wpAnyH_take (i := 0) (oi := { dst := some 146, op := Op.move (Operand.tmp 1), type := 65, pos := "ref.go:265", after := #[], guard := none }) (v := ?_) rfl (by kernel_rfl) (by kernel_rfl) (by kernel_rfl) (fun _ _ _ h => h) (Or.inl ⟨by rfl, ?_⟩) (by assumption) ?_
    rotate_left
    · intro w hSw
      (try dsimp only at hSw)
      go_simp
      try with_reducible rfl
    try simp only [Act.put, List.setIfInBounds_toArray, List.set_cons_zero, List.set_cons_succ]
    refine wpAnyH_take (i := 1) (oi := { dst := some 147, op := Op.move (Operand.tmp 8), type := 3, pos := "ref.go:265", after := #[], guard := none }) (v := ?_) rfl (by kernel_rfl) (by kernel_rfl) (by kernel_rfl) (fun _ _ _ h => h) (Or.inl ⟨by rfl, ?_⟩) (by assumption) ?_
    rotate_left
    · intro w hSw
      (try dsimp only at hSw)
      go_simp
      try with_reducible rfl
    try simp only [Act.put, List.setIfInBounds_toArray, List.set_cons_zero, List.set_cons_succ]
    refine wpAnyH_take (i := 2) (oi := { dst := some 148, op := Op.indexAddr 65 (Operand.tmp 146) (Operand.tmp 147), type := 0, pos := "ref.go:265", after := #[{ on := 0, ground := Ground.data }, { on := 1, ground := Ground.data }], guard := none }) (v := ?_) rfl (by kernel_rfl) (by kernel_rfl) (by kernel_rfl) (fun _ _ _ h => h) (Or.inl ⟨by rfl, ?_⟩) (by assumption) ?_
    rotate_left
    · intro w hSw
      (try dsimp only at hSw)
      go_simp
      try with_reducible rfl
    try simp only [Act.put, List.setIfInBounds_toArray, List.set_cons_zero, List.set_cons_succ]
    refine wpAnyH_take (i := 3) (oi := { dst := some 149, op := Op.load 4 (Operand.tmp 148), type := 4, pos := "ref.go:265", after := #[{ on := 2, ground := Ground.data }], guard := none }) (v := ?_) rfl (by kernel_rfl) (by kernel_rfl) (by kernel_rfl) (fun _ _ _ h => h) (Or.inl ⟨by rfl, ?_⟩) (by assumption) ?_
    rotate_left
    · intro w hSw
      (try dsimp only at hSw)
      go_simp
      try with_reducible rfl
    try simp only [Act.put, List.setIfInBounds_toArray, List.set_cons_zero, List.set_cons_succ]
    refine wpAnyH_take (i := 4) (oi := { dst := some 150, op := Op.move (Operand.tmp 149), type := 4, pos := "ref.go:265", after := #[{ on := 3, ground := Ground.data }], guard := none }) (v := ?_) rfl (by kernel_rfl) (by kernel_rfl) (by kernel_rfl) (fun _ _ _ h => h) (Or.inl ⟨by rfl, ?_⟩) (by assumption) ?_
    rotate_left
    · intro w hSw
      (try dsimp only at hSw)
      go_simp
      try with_reducible rfl
    try simp only [Act.put, List.setIfInBounds_toArray, List.set_cons_zero, List.set_cons_succ]
    refine wpAnyH_take (i := 5) (oi := { dst := some 151, op := Op.move (Operand.tmp 2), type := 65, pos := "ref.go:265", after := #[{ on := 4, ground := Ground.guard }], guard := some (4, true) }) (v := undef) rfl (by kernel_rfl) (by kernel_rfl) (by kernel_rfl) (fun _ _ _ h => h) (Or.inr ⟨by rfl, rfl⟩) (by assumption) ?_
    try simp only [Act.put, List.setIfInBounds_toArray, List.set_cons_zero, List.set_cons_succ]
    refine wpAnyH_take (i := 6) (oi := { dst := some 152, op := Op.move (Operand.tmp 8), type := 3, pos := "ref.go:265", after := #[{ on := 4, ground := Ground.guard }], guard := some (4, true) }) (v := undef) rfl (by kernel_rfl) (by kernel_rfl) (by kernel_rfl) (fun _ _ _ h => h) (Or.inr ⟨by rfl, rfl⟩) (by assumption) ?_
    try simp only [Act.put, List.setIfInBounds_toArray, List.set_cons_zero, List.set_cons_succ]
    refine wpAnyH_take (i := 7) (oi := { dst := some 153, op := Op.indexAddr 65 (Operand.tmp 151) (Operand.tmp 152), type := 0, pos := "ref.go:265", after := #[{ on := 5, ground := Ground.data }, { on := 6, ground := Ground.data }, { on := 4, ground := Ground.guard }], guard := some (4, true) }) (v := undef) rfl (by kernel_rfl) (by kernel_rfl) (by kernel_rfl) (fun _ _ _ h => h) (Or.inr ⟨by rfl, rfl⟩) (by assumption) ?_
    try simp only [Act.put, List.setIfInBounds_toArray, List.set_cons_zero, List.set_cons_succ]
    refine wpAnyH_take (i := 8) (oi := { dst := some 154, op := Op.load 4 (Operand.tmp 153), type := 4, pos := "ref.go:265", after := #[{ on := 7, ground := Ground.data }, { on := 4, ground := Ground.guard }], guard := some (4, true) }) (v := undef) rfl (by kernel_rfl) (by kernel_rfl) (by kernel_rfl) (fun _ _ _ h => h) (Or.inr ⟨by rfl, rfl⟩) (by assumption) ?_
    try simp only [Act.put, List.setIfInBounds_toArray, List.set_cons_zero, List.set_cons_succ]
    refine wpAnyH_take (i := 9) (oi := { dst := some 155, op := Op.unOp UnOp.not 4 (Operand.tmp 154), type := 4, pos := "ref.go:265", after := #[{ on := 8, ground := Ground.data }, { on := 4, ground := Ground.guard }], guard := some (4, true) }) (v := undef) rfl (by kernel_rfl) (by kernel_rfl) (by kernel_rfl) (fun _ _ _ h => h) (Or.inr ⟨by rfl, rfl⟩) (by assumption) ?_
    try simp only [Act.put, List.setIfInBounds_toArray, List.set_cons_zero, List.set_cons_succ]
    refine wpAnyH_take (i := 10) (oi := { dst := some 156, op := Op.pick (Operand.tmp 150) (Operand.tmp 155) (Operand.const (Value.bool false)), type := 4, pos := "ref.go:265", after := #[{ on := 4, ground := Ground.data }, { on := 9, ground := Ground.data }], guard := none }) (v := ?_) rfl (by kernel_rfl) (by kernel_rfl) (by kernel_rfl) (fun _ _ _ h => h) (Or.inl ⟨by rfl, ?_⟩) (by assumption) ?_
    rotate_left
    · intro w hSw
      (try dsimp only at hSw)
      go_simp
      try with_reducible rfl
    try simp only [Act.put, List.setIfInBounds_toArray, List.set_cons_zero, List.set_cons_succ]
    refine wpAnyH_take (i := 11) (oi := { dst := some 157, op := Op.move (Operand.tmp 156), type := 4, pos := "ref.go:265", after := #[{ on := 10, ground := Ground.data }, { on := 4, ground := Ground.chain }], guard := none }) (v := ?_) rfl (by kernel_rfl) (by kernel_rfl) (by kernel_rfl) (fun _ _ _ h => h) (Or.inl ⟨by rfl, ?_⟩) (by assumption) ?_
    rotate_left
    · intro w hSw
      (try dsimp only at hSw)
      go_simp
      try with_reducible rfl
    try simp only [Act.put, List.setIfInBounds_toArray, List.set_cons_zero, List.set_cons_succ]
    refine wpAnyH_take (i := 12) (oi := { dst := some 158, op := Op.move (Operand.tmp 1), type := 65, pos := "ref.go:265", after := #[{ on := 11, ground := Ground.guard }], guard := some (11, false) }) (v := ?_) rfl (by kernel_rfl) (by kernel_rfl) (by kernel_rfl) (fun _ _ _ h => h) (Or.inl ⟨by rfl, ?_⟩) (by assumption) ?_
    rotate_left
    · intro w hSw
      (try dsimp only at hSw)
      go_simp
      try with_reducible rfl
    try simp only [Act.put, List.setIfInBounds_toArray, List.set_cons_zero, List.set_cons_succ]
    refine wpAnyH_take (i := 13) (oi := { dst := some 159, op := Op.move (Operand.tmp 8), type := 3, pos := "ref.go:265", after := #[{ on := 11, ground := Ground.guard }], guard := some (11, false) }) (v := ?_) rfl (by kernel_rfl) (by kernel_rfl) (by kernel_rfl) (fun _ _ _ h => h) (Or.inl ⟨by rfl, ?_⟩) (by assumption) ?_
    rotate_left
    · intro w hSw
      (try dsimp only at hSw)
      go_simp
      try with_reducible rfl
    try simp only [Act.put, List.setIfInBounds_toArray, List.set_cons_zero, List.set_cons_succ]
    refine wpAnyH_take (i := 14) (oi := { dst := some 160, op := Op.indexAddr 65 (Operand.tmp 158) (Operand.tmp 159), type := 0, pos := "ref.go:265", after := #[{ on := 12, ground := Ground.data }, { on := 13, ground := Ground.data }, { on := 11, ground := Ground.guard }], guard := some (11, false) }) (v := ?_) rfl (by kernel_rfl) (by kernel_rfl) (by kernel_rfl) (fun _ _ _ h => h) (Or.inl ⟨by rfl, ?_⟩) (by assumption) ?_
    rotate_left
    · intro w hSw
      (try dsimp only at hSw)
      go_simp
      try with_reducible rfl
    try simp only [Act.put, List.setIfInBounds_toArray, List.set_cons_zero, List.set_cons_succ]
    refine wpAnyH_take (i := 15) (oi := { dst := some 161, op := Op.load 4 (Operand.tmp 160), type := 4, pos := "ref.go:265", after := #[{ on := 14, ground := Ground.data }, { on := 11, ground := Ground.guard }], guard := some (11, false) }) (v := ?_) rfl (by kernel_rfl) (by kernel_rfl) (by kernel_rfl) (fun _ _ _ h => h) (Or.inl ⟨by rfl, ?_⟩) (by assumption) ?_
    rotate_left
    · intro w hSw
      (try dsimp only at hSw)
      go_simp
      try with_reducible rfl
    try simp only [Act.put, List.setIfInBounds_toArray, List.set_cons_zero, List.set_cons_succ]
    refine wpAnyH_take (i := 16) (oi := { dst := some 162, op := Op.move (Operand.tmp 2), type := 65, pos := "ref.go:265", after := #[{ on := 11, ground := Ground.guard }], guard := some (11, false) }) (v := ?_) rfl (by kernel_rfl) (by kernel_rfl) (by kernel_rfl) (fun _ _ _ h => h) (Or.inl ⟨by rfl, ?_⟩) (by assumption) ?_
    rotate_left
    · intro w hSw
      (try dsimp only at hSw)
      go_simp
      try with_reducible rfl
    try simp only [Act.put, List.setIfInBounds_toArray, List.set_cons_zero, List.set_cons_succ]
    refine wpAnyH_take (i := 17) (oi := { dst := some 163, op := Op.move (Operand.tmp 8), type := 3, pos := "ref.go:265", after := #[{ on := 11, ground := Ground.guard }], guard := some (11, false) }) (v := ?_) rfl (by kernel_rfl) (by kernel_rfl) (by kernel_rfl) (fun _ _ _ h => h) (Or.inl ⟨by rfl, ?_⟩) (by assumption) ?_
    rotate_left
    · intro w hSw
      (try dsimp only at hSw)
      go_simp
      try with_reducible rfl
    try simp only [Act.put, List.setIfInBounds_toArray, List.set_cons_zero, List.set_cons_succ]
    refine wpAnyH_take (i := 18) (oi := { dst := some 164, op := Op.indexAddr 65 (Operand.tmp 162) (Operand.tmp 163), type := 0, pos := "ref.go:265", after := #[{ on := 16, ground := Ground.data }, { on := 17, ground := Ground.data }, { on := 11, ground := Ground.guard }], guard := some (11, false) }) (v := ?_) rfl (by kernel_rfl) (by kernel_rfl) (by kernel_rfl) (fun _ _ _ h => h) (Or.inl ⟨by rfl, ?_⟩) (by assumption) ?_
    rotate_left
    · intro w hSw
      (try dsimp only at hSw)
      go_simp
      try with_reducible rfl
    try simp only [Act.put, List.setIfInBounds_toArray, List.set_cons_zero, List.set_cons_succ]
    refine wpAnyH_take (i := 19) (oi := { dst := some 165, op := Op.load 4 (Operand.tmp 164), type := 4, pos := "ref.go:265", after := #[{ on := 18, ground := Ground.data }, { on := 11, ground := Ground.guard }], guard := some (11, false) }) (v := ?_) rfl (by kernel_rfl) (by kernel_rfl) (by kernel_rfl) (fun _ _ _ h => h) (Or.inl ⟨by rfl, ?_⟩) (by assumption) ?_
    rotate_left
    · intro w hSw
      (try dsimp only at hSw)
      go_simp
      try with_reducible rfl
    try simp only [Act.put, List.setIfInBounds_toArray, List.set_cons_zero, List.set_cons_succ]
    refine wpAnyH_take (i := 20) (oi := { dst := some 166, op := Op.binOp BinOp.eql 4 (Operand.tmp 161) (Operand.tmp 165) 4, type := 4, pos := "ref.go:265", after := #[{ on := 15, ground := Ground.data }, { on := 19, ground := Ground.data }, { on := 11, ground := Ground.guard }], guard := some (11, false) }) (v := ?_) rfl (by kernel_rfl) (by kernel_rfl) (by kernel_rfl) (fun _ _ _ h => h) (Or.inl ⟨by rfl, ?_⟩) (by assumption) ?_
    rotate_left
    · intro w hSw
      (try dsimp only at hSw)
      go_simp
      try with_reducible rfl
    try simp only [Act.put, List.setIfInBounds_toArray, List.set_cons_zero, List.set_cons_succ]
    refine wpAnyH_take (i := 21) (oi := { dst := some 167, op := Op.move (Operand.tmp 166), type := 4, pos := "ref.go:265", after := #[{ on := 20, ground := Ground.data }, { on := 11, ground := Ground.chain }, { on := 11, ground := Ground.guard }], guard := some (11, false) }) (v := ?_) rfl (by kernel_rfl) (by kernel_rfl) (by kernel_rfl) (fun _ _ _ h => h) (Or.inl ⟨by rfl, ?_⟩) (by assumption) ?_
    rotate_left
    · intro w hSw
      (try dsimp only at hSw)
      go_simp
      try with_reducible rfl
    try simp only [Act.put, List.setIfInBounds_toArray, List.set_cons_zero, List.set_cons_succ]
    refine wpAnyH_take (i := 22) (oi := { dst := some 168, op := Op.move (Operand.tmp 1), type := 65, pos := "ref.go:265", after := #[{ on := 21, ground := Ground.guard }], guard := some (21, true) }) (v := ?_) rfl (by kernel_rfl) (by kernel_rfl) (by kernel_rfl) (fun _ _ _ h => h) (Or.inl ⟨by rfl, ?_⟩) (by assumption) ?_
    rotate_left
    · intro w hSw
      (try dsimp only at hSw)
      go_simp
      try with_reducible rfl
    try simp only [Act.put, List.setIfInBounds_toArray, List.set_cons_zero, List.set_cons_succ]
    refine wpAnyH_take (i := 23) (oi := { dst := some 169, op := Op.move (Operand.tmp 2), type := 65, pos := "ref.go:265", after := #[{ on := 21, ground := Ground.guard }], guard := some (21, true) }) (v := ?_) rfl (by kernel_rfl) (by kernel_rfl) (by kernel_rfl) (fun _ _ _ h => h) (Or.inl ⟨by rfl, ?_⟩) (by assumption) ?_
    rotate_left
    · intro w hSw
      (try dsimp only at hSw)
      go_simp
      try with_reducible rfl
    try simp only [Act.put, List.setIfInBounds_toArray, List.set_cons_zero, List.set_cons_succ]
    refine wpAnyH_ready (rs := [24]) (by kernel_rfl) (by simp) ?_
    refine AllReadyH.cons (o := { dst := some 170, op := Op.call { callee := Callee.value (Operand.func 86), args := #[Operand.tmp 168, Operand.tmp 169], argTypes := #[65, 65] }, type := 4, pos := "ref.go:265", after := #[{ on := 22, ground := Ground.data }, { on := 23, ground := Ground.data }, { on := 21, ground := Ground.chain }, { on := 21, ground := Ground.guard }], guard := some (21, true) }) rfl (fun K hK => ?_) AllReadyH.nil
    go_simp
    with_reducible refine (L1.out _ hU).mono ?_
    rintro e u1 ⟨rfl, hu1⟩
    have U1 := bnxB hU hu1
    have K1 := HKK.out _ U1
    go_wp2_with fail
    refine hK.out _ _ ?_ (fun hHeld => ?_)
    · exact K1
    clear hK K
    try simp only [Act.put, List.setIfInBounds_toArray, List.set_cons_zero, List.set_cons_succ]
    refine wpAnyH_take (i := 25) (oi := { dst := some 171, op := Op.pick (Operand.tmp 167) (Operand.tmp 170) (Operand.const (Value.bool false)), type := 4, pos := "ref.go:265", after := #[{ on := 21, ground := Ground.data }, { on := 24, ground := Ground.data }, { on := 11, ground := Ground.guard }], guard := some (11, false) }) (v := ?_) rfl (by kernel_rfl) (by kernel_rfl) (by kernel_rfl) (fun _ _ _ h => h) (Or.inl ⟨by rfl, ?_⟩) (by assumption) ?_
    rotate_left
    · intro w hSw
      (try dsimp only at hSw)
      go_simp
      try with_reducible rfl
    try simp only [Act.put, List.setIfInBounds_toArray, List.set_cons_zero, List.set_cons_succ]
    refine wpAnyH_take (i := 26) (oi := { dst := some 172, op := Op.pick (Operand.tmp 157) (Operand.const (Value.bool true)) (Operand.tmp 171), type := 4, pos := "ref.go:265", after := #[{ on := 11, ground := Ground.data }, { on := 25, ground := Ground.data }], guard := none }) (v := ?_) rfl (by kernel_rfl) (by kernel_rfl) (by kernel_rfl) (fun _ _ _ h => h) (Or.inl ⟨by rfl, ?_⟩) (by assumption) ?_
    rotate_left
    · intro w hSw
      (try dsimp only at hSw)
      go_simp
      try with_reducible rfl
    try simp only [Act.put, List.setIfInBounds_toArray, List.set_cons_zero, List.set_cons_succ]
    refine wpAnyH_ready (rs := [27]) (by kernel_rfl) (by simp) ?_
    refine AllReadyH.cons (o := { dst := some 173, op := Op.call { callee := Callee.value (Operand.func 45), args := #[Operand.tmp 172], argTypes := #[4] }, type := 65, pos := "ref.go:265", after := #[{ on := 26, ground := Ground.data }, { on := 24, ground := Ground.chain }], guard := none }) rfl (fun K hK => ?_) AllReadyH.nil
    go_simp
    with_reducible refine (refFlag_any z _).mono ?_
    rintro e u2 ⟨v, l, rfl, hl, hN, ho, hu2⟩
    have U2 := bnxB U1 hu2
    have K2 := HKK.out _ U2
    go_wp2_with fail
    refine hK.out _ _ ?_ (fun hHeld => ?_)
    · exact K2
    clear hK K
    try simp only [Act.put, List.setIfInBounds_toArray, List.set_cons_zero, List.set_cons_succ]
    refine wpAnyH_take (i := 28) (oi := { dst := some 6, op := Op.assign (Operand.tmp 173), type := 65, pos := "ref.go:265", after := #[{ on := 27, ground := Ground.data }, { on := 27, ground := Ground.chain }, { on := 0, ground := Ground.phase }, { on := 1, ground := Ground.phase }, { on := 2, ground := Ground.phase }, { on := 3, ground := Ground.phase }, { on := 4, ground := Ground.phase }, { on := 5, ground := Ground.phase }, { on := 6, ground := Ground.phase }, { on := 7, ground := Ground.phase }, { on := 8, ground := Ground.phase }, { on := 9, ground := Ground.phase }, { on := 10, ground := Ground.phase }, { on := 11, ground := Ground.phase }, { on := 12, ground := Ground.phase }, { on := 13, ground := Ground.phase }, { on := 14, ground := Ground.phase }, { on := 15, ground := Ground.phase }, { on := 16, ground := Ground.phase }, { on := 17, ground := Ground.phase }, { on := 18, ground := Ground.phase }, { on := 19, ground := Ground.phase }, { on := 20, ground := Ground.phase }, { on := 21, ground := Ground.phase }, { on := 22, ground := Ground.phase }, { on := 23, ground := Ground.phase }, { on := 24, ground := Ground.phase }, { on := 25, ground := Ground.phase }, { on := 26, ground := Ground.phase }, { on := 27, ground := Ground.phase }], guard := none }) (v := ?_) rfl (by kernel_rfl) (by kernel_rfl) (by kernel_rfl) (fun _ _ _ h => h) (Or.inl ⟨by rfl, ?_⟩) (by assumption) ?_
    rotate_left
    · intro w hSw
      (try dsimp only at hSw)
      go_simp
      try with_reducible rfl
    try simp only [Act.put, List.setIfInBounds_toArray, List.set_cons_zero, List.set_cons_succ]
    refine wpAnyH_take (i := 29) (oi := { dst := some 7, op := Op.assign (Operand.const (Value.bool true)), type := 4, pos := "ref.go:265", after := #[{ on := 28, ground := Ground.chain }, { on := 0, ground := Ground.phase }, { on := 1, ground := Ground.phase }, { on := 2, ground := Ground.phase }, { on := 3, ground := Ground.phase }, { on := 4, ground := Ground.phase }, { on := 5, ground := Ground.phase }, { on := 6, ground := Ground.phase }, { on := 7, ground := Ground.phase }, { on := 8, ground := Ground.phase }, { on := 9, ground := Ground.phase }, { on := 10, ground := Ground.phase }, { on := 11, ground := Ground.phase }, { on := 12, ground := Ground.phase }, { on := 13, ground := Ground.phase }, { on := 14, ground := Ground.phase }, { on := 15, ground := Ground.phase }, { on := 16, ground := Ground.phase }, { on := 17, ground := Ground.phase }, { on := 18, ground := Ground.phase }, { on := 19, ground := Ground.phase }, { on := 20, ground := Ground.phase }, { on := 21, ground := Ground.phase }, { on := 22, ground := Ground.phase }, { on := 23, ground := Ground.phase }, { on := 24, ground := Ground.phase }, { on := 25, ground := Ground.phase }, { on := 26, ground := Ground.phase }, { on := 27, ground := Ground.phase }, { on := 28, ground := Ground.phase }], guard := none }) (v := ?_) rfl (by kernel_rfl) (by kernel_rfl) (by kernel_rfl) (fun _ _ _ h => h) (Or.inl ⟨by rfl, ?_⟩) (by assumption) ?_
    rotate_left
    · intro w hSw
      (try dsimp only at hSw)
      go_simp
      try with_reducible rfl
    try simp only [Act.put, List.setIfInBounds_toArray, List.set_cons_zero, List.set_cons_succ]
    refine wpAnyH_done (by kernel_rfl) ?_ _
    refine NoPanic.normal ?_
    obtain ⟨A1, c1, rfl, hr, _⟩ := ho.val
    have HL := Lib.hid hl
    have HX := Lib.hid (And.intro hN (And.intro hr U2))
    clear hl hN ho hr U1 hu1 U2 hu2 K0 K1 K2 HKK L1 hU
    go_wp2
    go_ret2
    exact RetBo.of rfl HL.out (HX.out.1.trans (by rw [r_slt, HX1.out, HY1.out, HZ1.out]; cases z <;> rfl)) HX.out.2.1 HX.out.2.2
  · go_enter Try.func50, Try.ntmps50
    go_wp2_with fail
    refine wp_region_noPanic ?_
    refine wp_region_held_drew (S := (fun w' => w'.cell? (ada.add u) = some (.bool false) ∧ w'.cell? (adb.add u) = some (.bool true))) (by kernel_rfl) ?_ (fun hHeld => ?_)
    · exact K0
    refine wpAnyH_take (i := 0) (oi := { dst := some 146, op := Op.move (Operand.tmp 1), type := 65, pos := "ref.go:265", after := #[], guard := none }) (v := ?_) rfl (by kernel_rfl) (by kernel_rfl) (by kernel_rfl) (fun _ _ _ h => h) (Or.inl ⟨by rfl, ?_⟩) (by assumption) ?_
    rotate_left
    · intro w hSw
      (try dsimp only at hSw)
      go_simp
      try with_reducible rfl
    try simp only [Act.put, List.setIfInBounds_toArray, List.set_cons_zero, List.set_cons_succ]
    refine wpAnyH_take (i := 1) (oi := { dst := some 147, op := Op.move (Operand.tmp 8), type := 3, pos := "ref.go:265", after := #[], guard := none }) (v := ?_) rfl (by kernel_rfl) (by kernel_rfl) (by kernel_rfl) (fun _ _ _ h => h) (Or.inl ⟨by rfl, ?_⟩) (by assumption) ?_
    rotate_left
    · intro w hSw
      (try dsimp only at hSw)
      go_simp
      try with_reducible rfl
    try simp only [Act.put, List.setIfInBounds_toArray, List.set_cons_zero, List.set_cons_succ]
    refine wpAnyH_take (i := 2) (oi := { dst := some 148, op := Op.indexAddr 65 (Operand.tmp 146) (Operand.tmp 147), type := 0, pos := "ref.go:265", after := #[{ on := 0, ground := Ground.data }, { on := 1, ground := Ground.data }], guard := none }) (v := ?_) rfl (by kernel_rfl) (by kernel_rfl) (by kernel_rfl) (fun _ _ _ h => h) (Or.inl ⟨by rfl, ?_⟩) (by assumption) ?_
    rotate_left
    · intro w hSw
      (try dsimp only at hSw)
      go_simp
      try with_reducible rfl
    try simp only [Act.put, List.setIfInBounds_toArray, List.set_cons_zero, List.set_cons_succ]
    refine wpAnyH_take (i := 3) (oi := { dst := some 149, op := Op.load 4 (Operand.tmp 148), type := 4, pos := "ref.go:265", after := #[{ on := 2, ground := Ground.data }], guard := none }) (v := ?_) rfl (by kernel_rfl) (by kernel_rfl) (by kernel_rfl) (fun _ _ _ h => h) (Or.inl ⟨by rfl, ?_⟩) (by assumption) ?_
    rotate_left
    · intro w hSw
      (try dsimp only at hSw)
      go_simp
      try with_reducible rfl
    try simp only [Act.put, List.setIfInBounds_toArray, List.set_cons_zero, List.set_cons_succ]
    refine wpAnyH_take (i := 4) (oi := { dst := some 150, op := Op.move (Operand.tmp 149), type := 4, pos := "ref.go:265", after := #[{ on := 3, ground := Ground.data }], guard := none }) (v := ?_) rfl (by kernel_rfl) (by kernel_rfl) (by kernel_rfl) (fun _ _ _ h => h) (Or.inl ⟨by rfl, ?_⟩) (by assumption) ?_
    rotate_left
    · intro w hSw
      (try dsimp only at hSw)
      go_simp
      try with_reducible rfl
    try simp only [Act.put, List.setIfInBounds_toArray, List.set_cons_zero, List.set_cons_succ]
    refine wpAnyH_take (i := 5) (oi := { dst := some 151, op := Op.move (Operand.tmp 2), type := 65, pos := "ref.go:265", after := #[{ on := 4, ground := Ground.guard }], guard := some (4, true) }) (v := undef) rfl (by kernel_rfl) (by kernel_rfl) (by kernel_rfl) (fun _ _ _ h => h) (Or.inr ⟨by rfl, rfl⟩) (by assumption) ?_
    try simp only [Act.put, List.setIfInBounds_toArray, List.set_cons_zero, List.set_cons_succ]
    refine wpAnyH_take (i := 6) (oi := { dst := some 152, op := Op.move (Operand.tmp 8), type := 3, pos := "ref.go:265", after := #[{ on := 4, ground := Ground.guard }], guard := some (4, true) }) (v := undef) rfl (by kernel_rfl) (by kernel_rfl) (by kernel_rfl) (fun _ _ _ h => h) (Or.inr ⟨by rfl, rfl⟩) (by assumption) ?_
    try simp only [Act.put, List.setIfInBounds_toArray, List.set_cons_zero, List.set_cons_succ]
    refine wpAnyH_take (i := 7) (oi := { dst := some 153, op := Op.indexAddr 65 (Operand.tmp 151) (Operand.tmp 152), type := 0, pos := "ref.go:265", after := #[{ on := 5, ground := Ground.data }, { on := 6, ground := Ground.data }, { on := 4, ground := Ground.guard }], guard := some (4, true) }) (v := undef) rfl (by kernel_rfl) (by kernel_rfl) (by kernel_rfl) (fun _ _ _ h => h) (Or.inr ⟨by rfl, rfl⟩) (by assumption) ?_
    try simp only [Act.put, List.setIfInBounds_toArray, List.set_cons_zero, List.set_cons_succ]
    refine wpAnyH_take (i := 8) (oi := { dst := some 154, op := Op.load 4 (Operand.tmp 153), type := 4, pos := "ref.go:265", after := #[{ on := 7, ground := Ground.data }, { on := 4, ground := Ground.guard }], guard := some (4, true) }) (v := undef) rfl (by kernel_rfl) (by kernel_rfl) (by kernel_rfl) (fun _ _ _ h => h) (Or.inr ⟨by rfl, rfl⟩) (by assumption) ?_
    try simp only [Act.put, List.setIfInBounds_toArray, List.set_cons_zero, List.set_cons_succ]
    refine wpAnyH_take (i := 9) (oi := { dst := some 155, op := Op.unOp UnOp.not 4 (Operand.tmp 154), type := 4, pos := "ref.go:265", after := #[{ on := 8, ground := Ground.data }, { on := 4, ground := Ground.guard }], guard := some (4, true) }) (v := undef) rfl (by kernel_rfl) (by kernel_rfl) (by kernel_rfl) (fun _ _ _ h => h) (Or.inr ⟨by rfl, rfl⟩) (by assumption) ?_
    try simp only [Act.put, List.setIfInBounds_toArray, List.set_cons_zero, List.set_cons_succ]
    refine wpAnyH_take (i := 10) (oi := { dst := some 156, op := Op.pick (Operand.tmp 150) (Operand.tmp 155) (Operand.const (Value.bool false)), type := 4, pos := "ref.go:265", after := #[{ on := 4, ground := Ground.data }, { on := 9, ground := Ground.data }], guard := none }) (v := ?_) rfl (by kernel_rfl) (by kernel_rfl) (by kernel_rfl) (fun _ _ _ h => h) (Or.inl ⟨by rfl, ?_⟩) (by assumption) ?_
    rotate_left
    · intro w hSw
      (try dsimp only at hSw)
      go_simp
      try with_reducible rfl
    try simp only [Act.put, List.setIfInBounds_toArray, List.set_cons_zero, List.set_cons_succ]
    refine wpAnyH_take (i := 11) (oi := { dst := some 157, op := Op.move (Operand.tmp 156), type := 4, pos := "ref.go:265", after := #[{ on := 10, ground := Ground.data }, { on := 4, ground := Ground.chain }], guard := none }) (v := ?_) rfl (by kernel_rfl) (by kernel_rfl) (by kernel_rfl) (fun _ _ _ h => h) (Or.inl ⟨by rfl, ?_⟩) (by assumption) ?_
    rotate_left
    · intro w hSw
      (try dsimp only at hSw)
      go_simp
      try with_reducible rfl
    try simp only [Act.put, List.setIfInBounds_toArray, List.set_cons_zero, List.set_cons_succ]
    refine wpAnyH_take (i := 12) (oi := { dst := some 158, op := Op.move (Operand.tmp 1), type := 65, pos := "ref.go:265", after := #[{ on := 11, ground := Ground.guard }], guard := some (11, false) }) (v := ?_) rfl (by kernel_rfl) (by kernel_rfl) (by kernel_rfl) (fun _ _ _ h => h) (Or.inl ⟨by rfl, ?_⟩) (by assumption) ?_
    rotate_left
    · intro w hSw
      (try dsimp only at hSw)
      go_simp
      try with_reducible rfl
    try simp only [Act.put, List.setIfInBounds_toArray, List.set_cons_zero, List.set_cons_succ]
    refine wpAnyH_take (i := 13) (oi := { dst := some 159, op := Op.move (Operand.tmp 8), type := 3, pos := "ref.go:265", after := #[{ on := 11, ground := Ground.guard }], guard := some (11, false) }) (v := ?_) rfl (by kernel_rfl) (by kernel_rfl) (by kernel_rfl) (fun _ _ _ h => h) (Or.inl ⟨by rfl, ?_⟩) (by assumption) ?_
    rotate_left
    · intro w hSw
      (try dsimp only at hSw)
      go_simp
      try with_reducible rfl
    try simp only [Act.put, List.setIfInBounds_toArray, List.set_cons_zero, List.set_cons_succ]
    refine wpAnyH_take (i := 14) (oi := { dst := some 160, op := Op.indexAddr 65 (Operand.tmp 158) (Operand.tmp 159), type := 0, pos := "ref.go:265", after := #[{ on := 12, ground := Ground.data }, { on := 13, ground := Ground.data }, { on := 11, ground := Ground.guard }], guard := some (11, false) }) (v := ?_) rfl (by kernel_rfl) (by kernel_rfl) (by kernel_rfl) (fun _ _ _ h => h) (Or.inl ⟨by rfl, ?_⟩) (by assumption) ?_
    rotate_left
    · intro w hSw
      (try dsimp only at hSw)
      go_simp
      try with_reducible rfl
    try simp only [Act.put, List.setIfInBounds_toArray, List.set_cons_zero, List.set_cons_succ]
    refine wpAnyH_take (i := 15) (oi := { dst := some 161, op := Op.load 4 (Operand.tmp 160), type := 4, pos := "ref.go:265", after := #[{ on := 14, ground := Ground.data }, { on := 11, ground := Ground.guard }], guard := some (11, false) }) (v := ?_) rfl (by kernel_rfl) (by kernel_rfl) (by kernel_rfl) (fun _ _ _ h => h) (Or.inl ⟨by rfl, ?_⟩) (by assumption) ?_
    rotate_left
    · intro w hSw
      (try dsimp only at hSw)
      go_simp
      try with_reducible rfl
    try simp only [Act.put, List.setIfInBounds_toArray, List.set_cons_zero, List.set_cons_succ]
    refine wpAnyH_take (i := 16) (oi := { dst := some 162, op := Op.move (Operand.tmp 2), type := 65, pos := "ref.go:265", after := #[{ on := 11, ground := Ground.guard }], guard := some (11, false) }) (v := ?_) rfl (by kernel_rfl) (by kernel_rfl) (by kernel_rfl) (fun _ _ _ h => h) (Or.inl ⟨by rfl, ?_⟩) (by assumption) ?_
    rotate_left
    · intro w hSw
      (try dsimp only at hSw)
      go_simp
      try with_reducible rfl
    try simp only [Act.put, List.setIfInBounds_toArray, List.set_cons_zero, List.set_cons_succ]
    refine wpAnyH_take (i := 17) (oi := { dst := some 163, op := Op.move (Operand.tmp 8), type := 3, pos := "ref.go:265", after := #[{ on := 11, ground := Ground.guard }], guard := some (11, false) }) (v := ?_) rfl (by kernel_rfl) (by kernel_rfl) (by kernel_rfl) (fun _ _ _ h => h) (Or.inl ⟨by rfl, ?_⟩) (by assumption) ?_
    rotate_left
    · intro w hSw
      (try dsimp only at hSw)
      go_simp
      try with_reducible rfl
    try simp only [Act.put, List.setIfInBounds_toArray, List.set_cons_zero, List.set_cons_succ]
    refine wpAnyH_take (i := 18) (oi := { dst := some 164, op := Op.indexAddr 65 (Operand.tmp 162) (Operand.tmp 163), type := 0, pos := "ref.go:265", after := #[{ on := 16, ground := Ground.data }, { on := 17, ground := Ground.data }, { on := 11, ground := Ground.guard }], guard := some (11, false) }) (v := ?_) rfl (by kernel_rfl) (by kernel_rfl) (by kernel_rfl) (fun _ _ _ h => h) (Or.inl ⟨by rfl, ?_⟩) (by assumption) ?_
    rotate_left
    · intro w hSw
      (try dsimp only at hSw)
      go_simp
      try with_reducible rfl
    try simp only [Act.put, List.setIfInBounds_toArray, List.set_cons_zero, List.set_cons_succ]
    refine wpAnyH_take (i := 19) (oi := { dst := some 165, op := Op.load 4 (Operand.tmp 164), type := 4, pos := "ref.go:265", after := #[{ on := 18, ground := Ground.data }, { on := 11, ground := Ground.guard }], guard := some (11, false) }) (v := ?_) rfl (by kernel_rfl) (by kernel_rfl) (by kernel_rfl) (fun _ _ _ h => h) (Or.inl ⟨by rfl, ?_⟩) (by assumption) ?_
    rotate_left
    · intro w hSw
      (try dsimp only at hSw)
      go_simp
      try with_reducible rfl
    try simp only [Act.put, List.setIfInBounds_toArray, List.set_cons_zero, List.set_cons_succ]
    refine wpAnyH_take (i := 20) (oi := { dst := some 166, op := Op.binOp BinOp.eql 4 (Operand.tmp 161) (Operand.tmp 165) 4, type := 4, pos := "ref.go:265", after := #[{ on := 15, ground := Ground.data }, { on := 19, ground := Ground.data }, { on := 11, ground := Ground.guard }], guard := some (11, false) }) (v := ?_) rfl (by kernel_rfl) (by kernel_rfl) (by kernel_rfl) (fun _ _ _ h => h) (Or.inl ⟨by rfl, ?_⟩) (by assumption) ?_
    rotate_left
    · intro w hSw
      (try dsimp only at hSw)
      go_simp
      try with_reducible rfl
    try simp only [Act.put, List.setIfInBounds_toArray, List.set_cons_zero, List.set_cons_succ]
    refine wpAnyH_take (i := 21) (oi := { dst := some 167, op := Op.move (Operand.tmp 166), type := 4, pos := "ref.go:265", after := #[{ on := 20, ground := Ground.data }, { on := 11, ground := Ground.chain }, { on := 11, ground := Ground.guard }], guard := some (11, false) }) (v := ?_) rfl (by kernel_rfl) (by kernel_rfl) (by kernel_rfl) (fun _ _ _ h => h) (Or.inl ⟨by rfl, ?_⟩) (by assumption) ?_
    rotate_left
    · intro w hSw
      (try dsimp only at hSw)
      go_simp
      try with_reducible rfl
    try simp only [Act.put, List.setIfInBounds_toArray, List.set_cons_zero, List.set_cons_succ]
    refine wpAnyH_take (i := 22) (oi := { dst := some 168, op := Op.move (Operand.tmp 1), type := 65, pos := "ref.go:265", after := #[{ on := 21, ground := Ground.guard }], guard := some (21, true) }) (v := undef) rfl (by kernel_rfl) (by kernel_rfl) (by kernel_rfl) (fun _ _ _ h => h) (Or.inr ⟨by rfl, rfl⟩) (by assumption) ?_
    try simp only [Act.put, List.setIfInBounds_toArray, List.set_cons_zero, List.set_cons_succ]
    refine wpAnyH_take (i := 23) (oi := { dst := some 169, op := Op.move (Operand.tmp 2), type := 65, pos := "ref.go:265", after := #[{ on := 21, ground := Ground.guard }], guard := some (21, true) }) (v := undef) rfl (by kernel_rfl) (by kernel_rfl) (by kernel_rfl) (fun _ _ _ h => h) (Or.inr ⟨by rfl, rfl⟩) (by assumption) ?_
    try simp only [Act.put, List.setIfInBounds_toArray, List.set_cons_zero, List.set_cons_succ]
    refine wpAnyH_take (i := 24) (oi := { dst := some 170, op := Op.call { callee := Callee.value (Operand.func 86), args := #[Operand.tmp 168, Operand.tmp 169], argTypes := #[65, 65] }, type := 4, pos := "ref.go:265", after := #[{ on := 22, ground := Ground.data }, { on := 23, ground := Ground.data }, { on := 21, ground := Ground.chain }, { on := 21, ground := Ground.guard }], guard := some (21, true) }) (v := undef) rfl (by kernel_rfl) (by kernel_rfl) (by kernel_rfl) (fun _ _ _ h => h) (Or.inr ⟨by rfl, rfl⟩) (by assumption) ?_
    try simp only [Act.put, List.setIfInBounds_toArray, List.set_cons_zero, List.set_cons_succ]
    refine wpAnyH_take (i := 25) (oi := { dst := some 171, op := Op.pick (Operand.tmp 167) (Operand.tmp 170) (Operand.const (Value.bool false)), type := 4, pos := "ref.go:265", after := #[{ on := 21, ground := Ground.data }, { on := 24, ground := Ground.data }, { on := 11, ground := Ground.guard }], guard := some (11, false) }) (v := ?_) rfl (by kernel_rfl) (by kernel_rfl) (by kernel_rfl) (fun _ _ _ h => h) (Or.inl ⟨by rfl, ?_⟩) (by assumption) ?_
    rotate_left
    · intro w hSw
      (try dsimp only at hSw)
      go_simp
      try with_reducible rfl
    try simp only [Act.put, List.setIfInBounds_toArray, List.set_cons_zero, List.set_cons_succ]
    refine wpAnyH_take (i := 26) (oi := { dst := some 172, op := Op.pick (Operand.tmp 157) (Operand.const (Value.bool true)) (Operand.tmp 171), type := 4, pos := "ref.go:265", after := #[{ on := 11, ground := Ground.data }, { on := 25, ground := Ground.data }], guard := none }) (v := ?_) rfl (by kernel_rfl) (by kernel_rfl) (by kernel_rfl) (fun _ _ _ h => h) (Or.inl ⟨by rfl, ?_⟩) (by assumption) ?_
    rotate_left
    · intro w hSw
      (try dsimp only at hSw)
      go_simp
      try with_reducible rfl
    try simp only [Act.put, List.setIfInBounds_toArray, List.set_cons_zero, List.set_cons_succ]
    refine wpAnyH_ready (rs := [27]) (by kernel_rfl) (by simp) ?_
    refine AllReadyH.cons (o := { dst := some 173, op := Op.call { callee := Callee.value (Operand.func 45), args := #[Operand.tmp 172], argTypes := #[4] }, type := 65, pos := "ref.go:265", after := #[{ on := 26, ground := Ground.data }, { on := 24, ground := Ground.chain }], guard := none }) rfl (fun K hK => ?_) AllReadyH.nil
    go_simp
    with_reducible refine (refFlag_any false _).mono ?_
    rintro e u1 ⟨v, l, rfl, hl, hN, ho, hu1⟩
    have U1 := bnxB hU hu1
    have K1 := HKK.out _ U1
    go_wp2_with fail
    refine hK.out _ _ ?_ (fun hHeld => ?_)
    · exact K1
    clear hK K
    try simp only [Act.put, List.setIfInBounds_toArray, List.set_cons_zero, List.set_cons_succ]
    refine wpAnyH_take (i := 28) (oi := { dst := some 6, op := Op.assign (Operand.tmp 173), type := 65, pos := "ref.go:265", after := #[{ on := 27, ground := Ground.data }, { on := 27, ground := Ground.chain }, { on := 0, ground := Ground.phase }, { on := 1, ground := Ground.phase }, { on := 2, ground := Ground.phase }, { on := 3, ground := Ground.phase }, { on := 4, ground := Ground.phase }, { on := 5, ground := Ground.phase }, { on := 6, ground := Ground.phase }, { on := 7, ground := Ground.phase }, { on := 8, ground := Ground.phase }, { on := 9, ground := Ground.phase }, { on := 10, ground := Ground.phase }, { on := 11, ground := Ground.phase }, { on := 12, ground := Ground.phase }, { on := 13, ground := Ground.phase }, { on := 14, ground := Ground.phase }, { on := 15, ground := Ground.phase }, { on := 16, ground := Ground.phase }, { on := 17, ground := Ground.phase }, { on := 18, ground := Ground.phase }, { on := 19, ground := Ground.phase }, { on := 20, ground := Ground.phase }, { on := 21, ground := Ground.phase }, { on := 22, ground := Ground.phase }, { on := 23, ground := Ground.phase }, { on := 24, ground := Ground.phase }, { on := 25, ground := Ground.phase }, { on := 26, ground := Ground.phase }, { on := 27, ground := Ground.phase }], guard := none }) (v := ?_) rfl (by kernel_rfl) (by kernel_rfl) (by kernel_rfl) (fun _ _ _ h => h) (Or.inl ⟨by rfl, ?_⟩) (by assumption) ?_
    rotate_left
    · intro w hSw
      (try dsimp only at hSw)
      go_simp
      try with_reducible rfl
    try simp only [Act.put, List.setIfInBounds_toArray, List.set_cons_zero, List.set_cons_succ]
    refine wpAnyH_take (i := 29) (oi := { dst := some 7, op := Op.assign (Operand.const (Value.bool true)), type := 4, pos := "ref.go:265", after := #[{ on := 28, ground := Ground.chain }, { on := 0, ground := Ground.phase }, { on := 1, ground := Ground.phase }, { on := 2, ground := Ground.phase }, { on := 3, ground := Ground.phase }, { on := 4, ground := Ground.phase }, { on := 5, ground := Ground.phase }, { on := 6, ground := Ground.phase }, { on := 7, ground := Ground.phase }, { on := 8, ground := Ground.phase }, { on := 9, ground := Ground.phase }, { on := 10, ground := Ground.phase }, { on := 11, ground := Ground.phase }, { on := 12, ground := Ground.phase }, { on := 13, ground := Ground.phase }, { on := 14, ground := Ground.phase }, { on := 15, ground := Ground.phase }, { on := 16, ground := Ground.phase }, { on := 17, ground := Ground.phase }, { on := 18, ground := Ground.phase }, { on := 19, ground := Ground.phase }, { on := 20, ground := Ground.phase }, { on := 21, ground := Ground.phase }, { on := 22, ground := Ground.phase }, { on := 23, ground := Ground.phase }, { on := 24, ground := Ground.phase }, { on := 25, ground := Ground.phase }, { on := 26, ground := Ground.phase }, { on := 27, ground := Ground.phase }, { on := 28, ground := Ground.phase }], guard := none }) (v := ?_) rfl (by kernel_rfl) (by kernel_rfl) (by kernel_rfl) (fun _ _ _ h => h) (Or.inl ⟨by rfl, ?_⟩) (by assumption) ?_
    rotate_left
    · intro w hSw
      (try dsimp only at hSw)
      go_simp
      try with_reducible rfl
    try simp only [Act.put, List.setIfInBounds_toArray, List.set_cons_zero, List.set_cons_succ]
    refine wpAnyH_done (by kernel_rfl) ?_ _
    refine NoPanic.normal ?_
    obtain ⟨A1, c1, rfl, hr, _⟩ := ho.val
    have HL := Lib.hid hl
    have HX := Lib.hid (And.intro hN (And.intro hr U1))
    clear hl hN ho hr U1 hu1 K0 K1 HKK L1 hU
    go_wp2
    go_ret2
    exact RetBo.of rfl HL.out (HX.out.1.trans (by rw [r_slt, HX1.out, HY1.out, HZ1.out]; cases z <;> rfl)) HX.out.2.1 HX.out.2.2
  · go_enter Try.func50, Try.ntmps50
    go_wp2_with fail
    refine wp_region_noPanic ?_
    refine wp_region_held_drew (S := (fun w' => w'.cell? (ada.add u) = some (.bool true) ∧ w'.cell? (adb.add u) = some (.bool false))) (by kernel_rfl) ?_ (fun hHeld => ?_)
    · exact K0
    refine wpAnyH_take (i := 0) (oi := { dst := some 146, op := Op.move (Operand.tmp 1), type := 65, pos := "ref.go:265", after := #[], guard := none }) (v := ?_) rfl (by kernel_rfl) (by kernel_rfl) (by kernel_rfl) (fun _ _ _ h => h) (Or.inl ⟨by rfl, ?_⟩) (by assumption) ?_
    rotate_left
    · intro w hSw
      (try dsimp only at hSw)
      go_simp
      try with_reducible rfl
    try simp only [Act.put, List.setIfInBounds_toArray, List.set_cons_zero, List.set_cons_succ]
    refine wpAnyH_take (i := 1) (oi := { dst := some 147, op := Op.move (Operand.tmp 8), type := 3, pos := "ref.go:265", after := #[], guard := none }) (v := ?_) rfl (by kernel_rfl) (by kernel_rfl) (by kernel_rfl) (fun _ _ _ h => h) (Or.inl ⟨by rfl, ?_⟩) (by assumption) ?_
    rotate_left
    · intro w hSw
      (try dsimp only at hSw)
      go_simp
      try with_reducible rfl
    try simp only [Act.put, List.setIfInBounds_toArray, List.set_cons_zero, List.set_cons_succ]
    refine wpAnyH_take (i := 2) (oi := { dst := some 148, op := Op.indexAddr 65 (Operand.tmp 146) (Operand.tmp 147), type := 0, pos := "ref.go:265", after := #[{ on := 0, ground := Ground.data }, { on := 1, ground := Ground.data }], guard := none }) (v := ?_) rfl (by kernel_rfl) (by kernel_rfl) (by kernel_rfl) (fun _ _ _ h => h) (Or.inl ⟨by rfl, ?_⟩) (by assumption) ?_
    rotate_left
    · intro w hSw
      (try dsimp only at hSw)
      go_simp
      try with_reducible rfl
    try simp only [Act.put, List.setIfInBounds_toArray, List.set_cons_zero, List.set_cons_succ]
    refine wpAnyH_take (i := 3) (oi := { dst := some 149, op := Op.load 4 (Operand.tmp 148), type := 4, pos := "ref.go:265", after := #[{ on := 2, ground := Ground.data }], guard := none }) (v := ?_) rfl (by kernel_rfl) (by kernel_rfl) (by kernel_rfl) (fun _ _ _ h => h) (Or.inl ⟨by rfl, ?_⟩) (by assumption) ?_
    rotate_left
    · intro w hSw
      (try dsimp only at hSw)
      go_simp
      try with_reducible rfl
    try simp only [Act.put, List.setIfInBounds_toArray, List.set_cons_zero, List.set_cons_succ]
    refine wpAnyH_take (i := 4) (oi := { dst := some 150, op := Op.move (Operand.tmp 149), type := 4, pos := "ref.go:265", after := #[{ on := 3, ground := Ground.data }], guard := none }) (v := ?_) rfl (by kernel_rfl) (by kernel_rfl) (by kernel_rfl) (fun _ _ _ h => h) (Or.inl ⟨by rfl, ?_⟩) (by assumption) ?_
    rotate_left
    · intro w hSw
      (try dsimp only at hSw)
      go_simp
      try with_reducible rfl
    try simp only [Act.put, List.setIfInBounds_toArray, List.set_cons_zero, List.set_cons_succ]
    refine wpAnyH_take (i := 5) (oi := { dst := some 151, op := Op.move (Operand.tmp 2), type := 65, pos := "ref.go:265", after := #[{ on := 4, ground := Ground.guard }], guard := some (4, true) }) (v := ?_) rfl (by kernel_rfl) (by kernel_rfl) (by kernel_rfl) (fun _ _ _ h => h) (Or.inl ⟨by rfl, ?_⟩) (by assumption) ?_
    rotate_left
    · intro w hSw
      (try dsimp only at hSw)
      go_simp
      try with_reducible rfl
    try simp only [Act.put, List.setIfInBounds_toArray, List.set_cons_zero, List.set_cons_succ]
    refine wpAnyH_take (i := 6) (oi := { dst := some 152, op := Op.move (Operand.tmp 8), type := 3, pos := "ref.go:265", after := #[{ on := 4, ground := Ground.guard }], guard := some (4, true) }) (v := ?_) rfl (by kernel_rfl) (by kernel_rfl) (by kernel_rfl) (fun _ _ _ h => h) (Or.inl ⟨by rfl, ?_⟩) (by assumption) ?_
    rotate_left
    · intro w hSw
      (try dsimp only at hSw)
      go_simp
      try with_reducible rfl
    try simp only [Act.put, List.setIfInBounds_toArray, List.set_cons_zero, List.set_cons_succ]
    refine wpAnyH_take (i := 7) (oi := { dst := some 153, op := Op.indexAddr 65 (Operand.tmp 151) (Operand.tmp 152), type := 0, pos := "ref.go:265", after := #[{ on := 5, ground := Ground.data }, { on := 6, ground := Ground.data }, { on := 4, ground := Ground.guard }], guard := some (4, true) }) (v := ?_) rfl (by kernel_rfl) (by kernel_rfl) (by kernel_rfl) (fun _ _ _ h => h) (Or.inl ⟨by rfl, ?_⟩) (by assumption) ?_
    rotate_left
    · intro w hSw
      (try dsimp only at hSw)
      go_simp
      try with_reducible rfl
    try simp only [Act.put, List.setIfInBounds_toArray, List.set_cons_zero, List.set_cons_succ]
    refine wpAnyH_take (i := 8) (oi := { dst := some 154, op := Op.load 4 (Operand.tmp 153), type := 4, pos := "ref.go:265", after := #[{ on := 7, ground := Ground.data }, { on := 4, ground := Ground.guard }], guard := some (4, true) }) (v := ?_) rfl (by kernel_rfl) (by kernel_rfl) (by kernel_rfl) (fun _ _ _ h => h) (Or.inl ⟨by rfl, ?_⟩) (by assumption) ?_
    rotate_left
    · intro w hSw
      (try dsimp only at hSw)
      go_simp
      try with_reducible rfl
    try simp only [Act.put, List.setIfInBounds_toArray, List.set_cons_zero, List.set_cons_succ]
    refine wpAnyH_take (i := 9) (oi := { dst := some 155, op := Op.unOp UnOp.not 4 (Operand.tmp 154), type := 4, pos := "ref.go:265", after := #[{ on := 8, ground := Ground.data }, { on := 4, ground := Ground.guard }], guard := some (4, true) }) (v := ?_) rfl (by kernel_rfl) (by kernel_rfl) (by kernel_rfl) (fun _ _ _ h => h) (Or.inl ⟨by rfl, ?_⟩) (by assumption) ?_
    rotate_left
    · intro w hSw
      (try dsimp only at hSw)
      go_simp
      try with_reducible rfl
    try simp only [Act.put, List.setIfInBounds_toArray, List.set_cons_zero, List.set_cons_succ]
    refine wpAnyH_take (i := 10) (oi := { dst := some 156, op := Op.pick (Operand.tmp 150) (Operand.tmp 155) (Operand.const (Value.bool false)), type := 4, pos := "ref.go:265", after := #[{ on := 4, ground := Ground.data }, { on := 9, ground := Ground.data }], guard := none }) (v := ?_) rfl (by kernel_rfl) (by kernel_rfl) (by kernel_rfl) (fun _ _ _ h => h) (Or.inl ⟨by rfl, ?_⟩) (by assumption) ?_
    rotate_left
    · intro w hSw
      (try dsimp only at hSw)
      go_simp
      try with_reducible rfl
    try simp only [Act.put, List.setIfInBounds_toArray, List.set_cons_zero, List.set_cons_succ]
    refine wpAnyH_take (i := 11) (oi := { dst := some 157, op := Op.move (Operand.tmp 156), type := 4, pos := "ref.go:265", after := #[{ on := 10, ground := Ground.data }, { on := 4, ground := Ground.chain }], guard := none }) (v := ?_) rfl (by kernel_rfl) (by kernel_rfl) (by kernel_rfl) (fun _ _ _ h => h) (Or.inl ⟨by rfl, ?_⟩) (by assumption) ?_
    rotate_left
    · intro w hSw
      (try dsimp only at hSw)
      go_simp
      try with_reducible rfl
    try simp only [Act.put, List.setIfInBounds_toArray, List.set_cons_zero, List.set_cons_succ]
    refine wpAnyH_take (i := 12) (oi := { dst := some 158, op := Op.move (Operand.tmp 1), type := 65, pos := "ref.go:265", after := #[{ on := 11, ground := Ground.guard }], guard := some (11, false) }) (v := undef) rfl (by kernel_rfl) (by kernel_rfl) (by kernel_rfl) (fun _ _ _ h => h) (Or.inr ⟨by rfl, rfl⟩) (by assumption) ?_
    try simp only [Act.put, List.setIfInBounds_toArray, List.set_cons_zero, List.set_cons_succ]
    refine wpAnyH_take (i := 13) (oi := { dst := some 159, op := Op.move (Operand.tmp 8), type := 3, pos := "ref.go:265", after := #[{ on := 11, ground := Ground.guard }], guard := some (11, false) }) (v := undef) rfl (by kernel_rfl) (by kernel_rfl) (by kernel_rfl) (fun _ _ _ h => h) (Or.inr ⟨by rfl, rfl⟩) (by assumption) ?_
    try simp only [Act.put, List.setIfInBounds_toArray, List.set_cons_zero, List.set_cons_succ]
    refine wpAnyH_take (i := 14) (oi := { dst := some 160, op := Op.indexAddr 65 (Operand.tmp 158) (Operand.tmp 159), type := 0, pos := "ref.go:265", after := #[{ on := 12, ground := Ground.data }, { on := 13, ground := Ground.data }, { on := 11, ground := Ground.guard }], guard := some (11, false) }) (v := undef) rfl (by kernel_rfl) (by kernel_rfl) (by kernel_rfl) (fun _ _ _ h => h) (Or.inr ⟨by rfl, rfl⟩) (by assumption) ?_
    try simp only [Act.put, List.setIfInBounds_toArray, List.set_cons_zero, List.set_cons_succ]
    refine wpAnyH_take (i := 15) (oi := { dst := some 161, op := Op.load 4 (Operand.tmp 160), type := 4, pos := "ref.go:265", after := #[{ on := 14, ground := Ground.data }, { on := 11, ground := Ground.guard }], guard := some (11, false) }) (v := undef) rfl (by kernel_rfl) (by kernel_rfl) (by kernel_rfl) (fun _ _ _ h => h) (Or.inr ⟨by rfl, rfl⟩) (by assumption) ?_
    try simp only [Act.put, List.setIfInBounds_toArray, List.set_cons_zero, List.set_cons_succ]
    refine wpAnyH_take (i := 16) (oi := { dst := some 162, op := Op.move (Operand.tmp 2), type := 65, pos := "ref.go:265", after := #[{ on := 11, ground := Ground.guard }], guard := some (11, false) }) (v := undef) rfl (by kernel_rfl) (by kernel_rfl) (by kernel_rfl) (fun _ _ _ h => h) (Or.inr ⟨by rfl, rfl⟩) (by assumption) ?_
    try simp only [Act.put, List.setIfInBounds_toArray, List.set_cons_zero, List.set_cons_succ]
    refine wpAnyH_take (i := 17) (oi := { dst := some 163, op := Op.move (Operand.tmp 8), type := 3, pos := "ref.go:265", after := #[{ on := 11, ground := Ground.guard }], guard := some (11, false) }) (v := undef) rfl (by kernel_rfl) (by kernel_rfl) (by kernel_rfl) (fun _ _ _ h => h) (Or.inr ⟨by rfl, rfl⟩) (by assumption) ?_
    try simp only [Act.put, List.setIfInBounds_toArray, List.set_cons_zero, List.set_cons_succ]
    refine wpAnyH_take (i := 18) (oi := { dst := some 164, op := Op.indexAddr 65 (Operand.tmp 162) (Operand.tmp 163), type := 0, pos := "ref.go:265", after := #[{ on := 16, ground := Ground.data }, { on := 17, ground := Ground.data }, { on := 11, ground := Ground.guard }], guard := some (11, false) }) (v := undef) rfl (by kernel_rfl) (by kernel_rfl) (by kernel_rfl) (fun _ _ _ h => h) (Or.inr ⟨by rfl, rfl⟩) (by assumption) ?_
    try simp only [Act.put, List.setIfInBounds_toArray, List.set_cons_zero, List.set_cons_succ]
    refine wpAnyH_take (i := 19) (oi := { dst := some 165, op := Op.load 4 (Operand.tmp 164), type := 4, pos := "ref.go:265", after := #[{ on := 18, ground := Ground.data }, { on := 11, ground := Ground.guard }], guard := some (11, false) }) (v := undef) rfl (by kernel_rfl) (by kernel_rfl) (by kernel_rfl) (fun _ _ _ h => h) (Or.inr ⟨by rfl, rfl⟩) (by assumption) ?_
    try simp only [Act.put, List.setIfInBounds_toArray, List.set_cons_zero, List.set_cons_succ]
    refine wpAnyH_take (i := 20) (oi := { dst := some 166, op := Op.binOp BinOp.eql 4 (Operand.tmp 161) (Operand.tmp 165) 4, type := 4, pos := "ref.go:265", after := #[{ on := 15, ground := Ground.data }, { on := 19, ground := Ground.data }, { on := 11, ground := Ground.guard }], guard := some (11, false) }) (v := undef) rfl (by kernel_rfl) (by kernel_rfl) (by kernel_rfl) (fun _ _ _ h => h) (Or.inr ⟨by rfl, rfl⟩) (by assumption) ?_
    try simp only [Act.put, List.setIfInBounds_toArray, List.set_cons_zero, List.set_cons_succ]
    refine wpAnyH_take (i := 21) (oi := { dst := some 167, op := Op.move (Operand.tmp 166), type := 4, pos := "ref.go:265", after := #[{ on := 20, ground := Ground.data }, { on := 11, ground := Ground.chain }, { on := 11, ground := Ground.guard }], guard := some (11, false) }) (v := undef) rfl (by kernel_rfl) (by kernel_rfl) (by kernel_rfl) (fun _ _ _ h => h) (Or.inr ⟨by rfl, rfl⟩) (by assumption) ?_
    try simp only [Act.put, List.setIfInBounds_toArray, List.set_cons_zero, List.set_cons_succ]
    refine wpAnyH_take (i := 22) (oi := { dst := some 168, op := Op.move (Operand.tmp 1), type := 65, pos := "ref.go:265", after := #[{ on := 21, ground := Ground.guard }], guard := some (21, true) }) (v := undef) rfl (by kernel_rfl) (by kernel_rfl) (by kernel_rfl) (fun _ _ _ h => h) (Or.inr ⟨by rfl, rfl⟩) (by assumption) ?_
    try simp only [Act.put, List.setIfInBounds_toArray, List.set_cons_zero, List.set_cons_succ]
    refine wpAnyH_take (i := 23) (oi := { dst := some 169, op := Op.move (Operand.tmp 2), type := 65, pos := "ref.go:265", after := #[{ on := 21, ground := Ground.guard }], guard := some (21, true) }) (v := undef) rfl (by kernel_rfl) (by kernel_rfl) (by kernel_rfl) (fun _ _ _ h => h) (Or.inr ⟨by rfl, rfl⟩) (by assumption) ?_
    try simp only [Act.put, List.setIfInBounds_toArray, List.set_cons_zero, List.set_cons_succ]
    refine wpAnyH_take (i := 24) (oi := { dst := some 170, op := Op.call { callee := Callee.value (Operand.func 86), args := #[Operand.tmp 168, Operand.tmp 169], argTypes := #[65, 65] }, type := 4, pos := "ref.go:265", after := #[{ on := 22, ground := Ground.data }, { on := 23, ground := Ground.data }, { on := 21, ground := Ground.chain }, { on := 21, ground := Ground.guard }], guard := some (21, true) }) (v := undef) rfl (by kernel_rfl) (by kernel_rfl) (by kernel_rfl) (fun _ _ _ h => h) (Or.inr ⟨by rfl, rfl⟩) (by assumption) ?_
    try simp only [Act.put, List.setIfInBounds_toArray, List.set_cons_zero, List.set_cons_succ]
    refine wpAnyH_take (i := 25) (oi := { dst := some 171, op := Op.pick (Operand.tmp 167) (Operand.tmp 170) (Operand.const (Value.bool false)), type := 4, pos := "ref.go:265", after := #[{ on := 21, ground := Ground.data }, { on := 24, ground := Ground.data }, { on := 11, ground := Ground.guard }], guard := some (11, false) }) (v := undef) rfl (by kernel_rfl) (by kernel_rfl) (by kernel_rfl) (fun _ _ _ h => h) (Or.inr ⟨by rfl, rfl⟩) (by assumption) ?_
    try simp only [Act.put, List.setIfInBounds_toArray, List.set_cons_zero, List.set_cons_succ]
    refine wpAnyH_take (i := 26) (oi := { dst := some 172, op := Op.pick (Operand.tmp 157) (Operand.const (Value.bool true)) (Operand.tmp 171), type := 4, pos := "ref.go:265", after := #[{ on := 11, ground := Ground.data }, { on := 25, ground := Ground.data }], guard := none }) (v := ?_) rfl (by kernel_rfl) (by kernel_rfl) (by kernel_rfl) (fun _ _ _ h => h) (Or.inl ⟨by rfl, ?_⟩) (by assumption) ?_
    rotate_left
    · intro w hSw
      (try dsimp only at hSw)
      go_simp
      try with_reducible rfl
    try simp only [Act.put, List.setIfInBounds_toArray, List.set_cons_zero, List.set_cons_succ]
    refine wpAnyH_ready (rs := [27]) (by kernel_rfl) (by simp) ?_
    refine AllReadyH.cons (o := { dst := some 173, op := Op.call { callee := Callee.value (Operand.func 45), args := #[Operand.tmp 172], argTypes := #[4] }, type := 65, pos := "ref.go:265", after := #[{ on := 26, ground := Ground.data }, { on := 24, ground := Ground.chain }], guard := none }) rfl (fun K hK => ?_) AllReadyH.nil
    go_simp
    with_reducible refine (refFlag_any true _).mono ?_
    rintro e u1 ⟨v, l, rfl, hl, hN, ho, hu1⟩
    have U1 := bnxB hU hu1
    have K1 := HKK.out _ U1
    go_wp2_with fail
    refine hK.out _ _ ?_ (fun hHeld => ?_)
    · exact K1
    clear hK K
    try simp only [Act.put, List.setIfInBounds_toArray, List.set_cons_zero, List.set_cons_succ]
    refine wpAnyH_take (i := 28) (oi := { dst := some 6, op := Op.assign (Operand.tmp 173), type := 65, pos := "ref.go:265", after := #[{ on := 27, ground := Ground.data }, { on := 27, ground := Ground.chain }, { on := 0, ground := Ground.phase }, { on := 1, ground := Ground.phase }, { on := 2, ground := Ground.phase }, { on := 3, ground := Ground.phase }, { on := 4, ground := Ground.phase }, { on := 5, ground := Ground.phase }, { on := 6, ground := Ground.phase }, { on := 7, ground := Ground.phase }, { on := 8, ground := Ground.phase }, { on := 9, ground := Ground.phase }, { on := 10, ground := Ground.phase }, { on := 11, ground := Ground.phase }, { on := 12, ground := Ground.phase }, { on := 13, ground := Ground.phase }, { on := 14, ground := Ground.phase }, { on := 15, ground := Ground.phase }, { on := 16, ground := Ground.phase }, { on := 17, ground := Ground.phase }, { on := 18, ground := Ground.phase }, { on := 19, ground := Ground.phase }, { on := 20, ground := Ground.phase }, { on := 21, ground := Ground.phase }, { on := 22, ground := Ground.phase }, { on := 23, ground := Ground.phase }, { on := 24, ground := Ground.phase }, { on := 25, ground := Ground.phase }, { on := 26, ground := Ground.phase }, { on := 27, ground := Ground.phase }], guard := none }) (v := ?_) rfl (by kernel_rfl) (by kernel_rfl) (by kernel_rfl) (fun _ _ _ h => h) (Or.inl ⟨by rfl, ?_⟩) (by assumption) ?_
    rotate_left
    · intro w hSw
      (try dsimp only at hSw)
      go_simp
      try with_reducible rfl
    try simp only [Act.put, List.setIfInBounds_toArray, List.set_cons_zero, List.set_cons_succ]
    refine wpAnyH_take (i := 29) (oi := { dst := some 7, op := Op.assign (Operand.const (Value.bool true)), type := 4, pos := "ref.go:265", after := #[{ on := 28, ground := Ground.chain }, { on := 0, ground := Ground.phase }, { on := 1, ground := Ground.phase }, { on := 2, ground := Ground.phase }, { on := 3, ground := Ground.phase }, { on := 4, ground := Ground.phase }, { on := 5, ground := Ground.phase }, { on := 6, ground := Ground.phase }, { on := 7, ground := Ground.phase }, { on := 8, ground := Ground.phase }, { on := 9, ground := Ground.phase }, { on := 10, ground := Ground.phase }, { on := 11, ground := Ground.phase }, { on := 12, ground := Ground.phase }, { on := 13, ground := Ground.phase }, { on := 14, ground := Ground.phase }, { on := 15, ground := Ground.phase }, { on := 16, ground := Ground.phase }, { on := 17, ground := Ground.phase }, { on := 18, ground := Ground.phase }, { on := 19, ground := Ground.phase }, { on := 20, ground := Ground.phase }, { on := 21, ground := Ground.phase }, { on := 22, ground := Ground.phase }, { on := 23, ground := Ground.phase }, { on := 24, ground := Ground.phase }, { on := 25, ground := Ground.phase }, { on := 26, ground := Ground.phase }, { on := 27, ground := Ground.phase }, { on := 28, ground := Ground.phase }], guard := none }) (v := ?_) rfl (by kernel_rfl) (by kernel_rfl) (by kernel_rfl) (fun _ _ _ h => h) (Or.inl ⟨by rfl, ?_⟩) (by assumption) ?_
    rotate_left
    · intro w hSw
      (try dsimp only at hSw)
      go_simp
      try with_reducible rfl
    try simp only [Act.put, List.setIfInBounds_toArray, List.set_cons_zero, List.set_cons_succ]
    refine wpAnyH_done (by kernel_rfl) ?_ _
    refine NoPanic.normal ?_
    obtain ⟨A1, c1, rfl, hr, _⟩ := ho.val
    have HL := Lib.hid hl
    have HX := Lib.hid (And.intro hN (And.intro hr U1))
    clear hl hN ho hr U1 hu1 K0 K1 HKK L1 hU
    go_wp2
    go_ret2
    exact RetBo.of rfl HL.out (HX.out.1.trans (by rw [r_slt, HX1.out, HY1.out, HZ1.out]; rfl)) HX.out.2.1 HX.out.2.2
  · go_enter Try.func50, Try.ntmps50
    go_wp2_with fail
    refine wp_region_noPanic ?_
    refine wp_region_held_drew (S := (fun w' => w'.cell? (ada.add u) = some (.bool true) ∧ w'.cell? (adb.add u) = some (.bool true))) (by kernel_rfl) ?_ (fun hHeld => ?_)
    · exact K0
    refine wpAnyH_take (i := 0) (oi := { dst := some 146, op := Op.move (Operand.tmp 1), type := 65, pos := "ref.go:265", after := #[], guard := none }) (v := ?_) rfl (by kernel_rfl) (by kernel_rfl) (by kernel_rfl) (fun _ _ _ h => h) (Or.inl ⟨by rfl, ?_⟩) (by assumption) ?_
    rotate_left
    · intro w hSw
      (try dsimp only at hSw)
      go_simp
      try with_reducible rfl
    try simp only [Act.put, List.setIfInBounds_toArray, List.set_cons_zero, List.set_cons_succ]
    refine wpAnyH_take (i := 1) (oi := { dst := some 147, op := Op.move (Operand.tmp 8), type := 3, pos := "ref.go:265", after := #[], guard := none }) (v := ?_) rfl (by kernel_rfl) (by kernel_rfl) (by kernel_rfl) (fun _ _ _ h => h) (Or.inl ⟨by rfl, ?_⟩) (by assumption) ?_
    rotate_left
    · intro w hSw
      (try dsimp only at hSw)
      go_simp
      try with_reducible rfl
    try simp only [Act.put, List.setIfInBounds_toArray, List.set_cons_zero, List.set_cons_succ]
    refine wpAnyH_take (i := 2) (oi := { dst := some 148, op := Op.indexAddr 65 (Operand.tmp 146) (Operand.tmp 147), type := 0, pos := "ref.go:265", after := #[{ on := 0, ground := Ground.data }, { on := 1, ground := Ground.data }], guard := none }) (v := ?_) rfl (by kernel_rfl) (by kernel_rfl) (by kernel_rfl) (fun _ _ _ h => h) (Or.inl ⟨by rfl, ?_⟩) (by assumption) ?_
    rotate_left
    · intro w hSw
      (try dsimp only at hSw)
      go_simp
      try with_reducible rfl
    try simp only [Act.put, List.setIfInBounds_toArray, List.set_cons_zero, List.set_cons_succ]
    refine wpAnyH_take (i := 3) (oi := { dst := some 149, op := Op.load 4 (Operand.tmp 148), type := 4, pos := "ref.go:265", after := #[{ on := 2, ground := Ground.data }], guard := none }) (v := ?_) rfl (by kernel_rfl) (by kernel_rfl) (by kernel_rfl) (fun _ _ _ h => h) (Or.inl ⟨by rfl, ?_⟩) (by assumption) ?_
    rotate_left
    · intro w hSw
      (try dsimp only at hSw)
      go_simp
      try with_reducible rfl
    try simp only [Act.put, List.setIfInBounds_toArray, List.set_cons_zero, List.set_cons_succ]
    refine wpAnyH_take (i := 4) (oi := { dst := some 150, op := Op.move (Operand.tmp 149), type := 4, pos := "ref.go:265", after := #[{ on := 3, ground := Ground.data }], guard := none }) (v := ?_) rfl (by kernel_rfl) (by kernel_rfl) (by kernel_rfl) (fun _ _ _ h => h) (Or.inl ⟨by rfl, ?_⟩) (by assumption) ?_
    rotate_left
    · intro w hSw
      (try dsimp only at hSw)
      go_simp
      try with_reducible rfl
    try simp only [Act.put, List.setIfInBounds_toArray, List.set_cons_zero, List.set_cons_succ]
    refine wpAnyH_take (i := 5) (oi := { dst := some 151, op := Op.move (Operand.tmp 2), type := 65, pos := "ref.go:265", after := #[{ on := 4, ground := Ground.guard }], guard := some (4, true) }) (v := ?_) rfl (by kernel_rfl) (by kernel_rfl) (by kernel_rfl) (fun _ _ _ h => h) (Or.inl ⟨by rfl, ?_⟩) (by assumption) ?_
    rotate_left
    · intro w hSw
      (try dsimp only at hSw)
      go_simp
      try with_reducible rfl
    try simp only [Act.put, List.setIfInBounds_toArray, List.set_cons_zero, List.set_cons_succ]
    refine wpAnyH_take (i := 6) (oi := { dst := some 152, op := Op.move (Operand.tmp 8), type := 3, pos := "ref.go:265", after := #[{ on := 4, ground := Ground.guard }], guard := some (4, true) }) (v := ?_) rfl (by kernel_rfl) (by kernel_rfl) (by kernel_rfl) (fun _ _ _ h => h) (Or.inl ⟨by rfl, ?_⟩) (by assumption) ?_
    rotate_left
    · intro w hSw
      (try dsimp only at hSw)
      go_simp
      try with_reducible rfl
    try simp only [Act.put, List.setIfInBounds_toArray, List.set_cons_zero, List.set_cons_succ]
    refine wpAnyH_take (i := 7) (oi := { dst := some 153, op := Op.indexAddr 65 (Operand.tmp 151) (Operand.tmp 152), type := 0, pos := "ref.go:265", after := #[{ on := 5, ground := Ground.data }, { on := 6, ground := Ground.data }, { on := 4, ground := Ground.guard }], guard := some (4, true) }) (v := ?_) rfl (by kernel_rfl) (by kernel_rfl) (by kernel_rfl) (fun _ _ _ h => h) (Or.inl ⟨by rfl, ?_⟩) (by assumption) ?_
    rotate_left
    · intro w hSw
      (try dsimp only at hSw)
      go_simp
      try with_reducible rfl
    try simp only [Act.put, List.setIfInBounds_toArray, List.set_cons_zero, List.set_cons_succ]
    refine wpAnyH_take (i := 8) (oi := { dst := some 154, op := Op.load 4 (Operand.tmp 153), type := 4, pos := "ref.go:265", after := #[{ on := 7, ground := Ground.data }, { on := 4, ground := Ground.guard }], guard := some (4, true) }) (v := ?_) rfl (by kernel_rfl) (by kernel_rfl) (by kernel_rfl) (fun _ _ _ h => h) (Or.inl ⟨by rfl, ?_⟩) (by assumption) ?_
    rotate_left
    · intro w hSw
      (try dsimp only at hSw)
      go_simp
      try with_reducible rfl
    try simp only [Act.put, List.setIfInBounds_toArray, List.set_cons_zero, List.set_cons_succ]
    refine wpAnyH_take (i := 9) (oi := { dst := some 155, op := Op.unOp UnOp.not 4 (Operand.tmp 154), type := 4, pos := "ref.go:265", after := #[{ on := 8, ground := Ground.data }, { on := 4, ground := Ground.guard }], guard := some (4, true) }) (v := ?_) rfl (by kernel_rfl) (by kernel_rfl) (by kernel_rfl) (fun _ _ _ h => h) (Or.inl ⟨by rfl, ?_⟩) (by assumption) ?_
    rotate_left
    · intro w hSw
      (try dsimp only at hSw)
      go_simp
      try with_reducible rfl
    try simp only [Act.put, List.setIfInBounds_toArray, List.set_cons_zero, List.set_cons_succ]
    refine wpAnyH_take (i := 10) (oi := { dst := some 156, op := Op.pick (Operand.tmp 150) (Operand.tmp 155) (Operand.const (Value.bool false)), type := 4, pos := "ref.go:265", after := #[{ on := 4, ground := Ground.data }, { on := 9, ground := Ground.data }], guard := none }) (v := ?_) rfl (by kernel_rfl) (by kernel_rfl) (by kernel_rfl) (fun _ _ _ h => h) (Or.inl ⟨by rfl, ?_⟩) (by assumption) ?_
    rotate_left
    · intro w hSw
      (try dsimp only at hSw)
      go_simp
      try with_reducible rfl
    try simp only [Act.put, List.setIfInBounds_toArray, List.set_cons_zero, List.set_cons_succ]
    refine wpAnyH_take (i := 11) (oi := { dst := some 157, op := Op.move (Operand.tmp 156), type := 4, pos := "ref.go:265", after := #[{ on := 10, ground := Ground.data }, { on := 4, ground := Ground.chain }], guard := none }) (v := ?_) rfl (by kernel_rfl) (by kernel_rfl) (by kernel_rfl) (fun _ _ _ h => h) (Or.inl ⟨by rfl, ?_⟩) (by assumption) ?_
    rotate_left
    · intro w hSw
      (try dsimp only at hSw)
      go_simp
      try with_reducible rfl
    try simp only [Act.put, List.setIfInBounds_toArray, List.set_cons_zero, List.set_cons_succ]
    refine wpAnyH_take (i := 12) (oi := { dst := some 158, op := Op.move (Operand.tmp 1), type := 65, pos := "ref.go:265", after := #[{ on := 11, ground := Ground.guard }], guard := some (11, false) }) (v := ?_) rfl (by kernel_rfl) (by kernel_rfl) (by kernel_rfl) (fun _ _ _ h => h) (Or.inl ⟨by rfl, ?_⟩) (by assumption) ?_
    rotate_left
    · intro w hSw
      (try dsimp only at hSw)
      go_simp
      try with_reducible rfl
    try simp only [Act.put, List.setIfInBounds_toArray, List.set_cons_zero, List.set_cons_succ]
    refine wpAnyH_take (i := 13) (oi := { dst := some 159, op := Op.move (Operand.tmp 8), type := 3, pos := "ref.go:265", after := #[{ on := 11, ground := Ground.guard }], guard := some (11, false) }) (v := ?_) rfl (by kernel_rfl) (by kernel_rfl) (by kernel_rfl) (fun _ _ _ h => h) (Or.inl ⟨by rfl, ?_⟩) (by assumption) ?_
    rotate_left
    · intro w hSw
      (try dsimp only at hSw)
      go_simp
      try with_reducible rfl
    try simp only [Act.put, List.setIfInBounds_toArray, List.set_cons_zero, List.set_cons_succ]
    refine wpAnyH_take (i := 14) (oi := { dst := some 160, op := Op.indexAddr 65 (Operand.tmp 158) (Operand.tmp 159), type := 0, pos := "ref.go:265", after := #[{ on := 12, ground := Ground.data }, { on := 13, ground := Ground.data }, { on := 11, ground := Ground.guard }], guard := some (11, false) }) (v := ?_) rfl (by kernel_rfl) (by kernel_rfl) (by kernel_rfl) (fun _ _ _ h => h) (Or.inl ⟨by rfl, ?_⟩) (by assumption) ?_
    rotate_left
    · intro w hSw
      (try dsimp only at hSw)
      go_simp
      try with_reducible rfl
    try simp only [Act.put, List.setIfInBounds_toArray, List.set_cons_zero, List.set_cons_succ]
    refine wpAnyH_take (i := 15) (oi := { dst := some 161, op := Op.load 4 (Operand.tmp 160), type := 4, pos := "ref.go:265", after := #[{ on := 14, ground := Ground.data }, { on := 11, ground := Ground.guard }], guard := some (11, false) }) (v := ?_) rfl (by kernel_rfl) (by kernel_rfl) (by kernel_rfl) (fun _ _ _ h => h) (Or.inl ⟨by rfl, ?_⟩) (by assumption) ?_
    rotate_left
    · intro w hSw
      (try dsimp only at hSw)
      go_simp
      try with_reducible rfl
    try simp only [Act.put, List.setIfInBounds_toArray, List.set_cons_zero, List.set_cons_succ]
    refine wpAnyH_take (i := 16) (oi := { dst := some 162, op := Op.move (Operand.tmp 2), type := 65, pos := "ref.go:265", after := #[{ on := 11, ground := Ground.guard }], guard := some (11, false) }) (v := ?_) rfl (by kernel_rfl) (by kernel_rfl) (by kernel_rfl) (fun _ _ _ h => h) (Or.inl ⟨by rfl, ?_⟩) (by assumption) ?_
    rotate_left
    · intro w hSw
      (try dsimp only at hSw)
      go_simp
      try with_reducible rfl
    try simp only [Act.put, List.setIfInBounds_toArray, List.set_cons_zero, List.set_cons_succ]
    refine wpAnyH_take (i := 17) (oi := { dst := some 163, op := Op.move (Operand.tmp 8), type := 3, pos := "ref.go:265", after := #[{ on := 11, ground := Ground.guard }], guard := some (11, false) }) (v := ?_) rfl (by kernel_rfl) (by kernel_rfl) (by kernel_rfl) (fun _ _ _ h => h) (Or.inl ⟨by rfl, ?_⟩) (by assumption) ?_
    rotate_left
    · intro w hSw
      (try dsimp only at hSw)
      go_simp
      try with_reducible rfl
    try simp only [Act.put, List.setIfInBounds_toArray, List.set_cons_zero, List.set_cons_succ]
    refine wpAnyH_take (i := 18) (oi := { dst := some 164, op := Op.indexAddr 65 (Operand.tmp 162) (Operand.tmp 163), type := 0, pos := "ref.go:265", after := #[{ on := 16, ground := Ground.data }, { on := 17, ground := Ground.data }, { on := 11, ground := Ground.guard }], guard := some (11, false) }) (v := ?_) rfl (by kernel_rfl) (by kernel_rfl) (by kernel_rfl) (fun _ _ _ h => h) (Or.inl ⟨by rfl, ?_⟩) (by assumption) ?_
    rotate_left
    · intro w hSw
      (try dsimp only at hSw)
      go_simp
      try with_reducible rfl
    try simp only [Act.put, List.setIfInBounds_toArray, List.set_cons_zero, List.set_cons_succ]
    refine wpAnyH_take (i := 19) (oi := { dst := some 165, op := Op.load 4 (Operand.tmp 164), type := 4, pos := "ref.go:265", after := #[{ on := 18, ground := Ground.data }, { on := 11, ground := Ground.guard }], guard := some (11, false) }) (v := ?_) rfl (by kernel_rfl) (by kernel_rfl) (by kernel_rfl) (fun _ _ _ h => h) (Or.inl ⟨by rfl, ?_⟩) (by assumption) ?_
    rotate_left
    · intro w hSw
      (try dsimp only at hSw)
      go_simp
      try with_reducible rfl
    try simp only [Act.put, List.setIfInBounds_toArray, List.set_cons_zero, List.set_cons_succ]
    refine wpAnyH_take (i := 20) (oi := { dst := some 166, op := Op.binOp BinOp.eql 4 (Operand.tmp 161) (Operand.tmp 165) 4, type := 4, pos := "ref.go:265", after := #[{ on := 15, ground := Ground.data }, { on := 19, ground := Ground.data }, { on := 11, ground := Ground.guard }], guard := some (11, false) }) (v := ?_) rfl (by kernel_rfl) (by kernel_rfl) (by kernel_rfl) (fun _ _ _ h => h) (Or.inl ⟨by rfl, ?_⟩) (by assumption) ?_
    rotate_left
    · intro w hSw
      (try dsimp only at hSw)
      go_simp
      try with_reducible rfl
    try simp only [Act.put, List.setIfInBounds_toArray, List.set_cons_zero, List.set_cons_succ]
    refine wpAnyH_take (i := 21) (oi := { dst := some 167, op := Op.move (Operand.tmp 166), type := 4, pos := "ref.go:265", after := #[{ on := 20, ground := Ground.data }, { on := 11, ground := Ground.chain }, { on := 11, ground := Ground.guard }], guard := some (11, false) }) (v := ?_) rfl (by kernel_rfl) (by kernel_rfl) (by kernel_rfl) (fun _ _ _ h => h) (Or.inl ⟨by rfl, ?_⟩) (by assumption) ?_
    rotate_left
    · intro w hSw
      (try dsimp only at hSw)
      go_simp
      try with_reducible rfl
    try simp only [Act.put, List.setIfInBounds_toArray, List.set_cons_zero, List.set_cons_succ]
    refine wpAnyH_take (i := 22) (oi := { dst := some 168, op := Op.move (Operand.tmp 1), type := 65, pos := "ref.go:265", after := #[{ on := 21, ground := Ground.guard }], guard := some (21, true) }) (v := ?_) rfl (by kernel_rfl) (by kernel_rfl) (by kernel_rfl) (fun _ _ _ h => h) (Or.inl ⟨by rfl, ?_⟩) (by assumption) ?_
    rotate_left
    · intro w hSw
      (try dsimp only at hSw)
      go_simp
      try with_reducible rfl
    try simp only [Act.put, List.setIfInBounds_toArray, List.set_cons_zero, List.set_cons_succ]
    refine wpAnyH_take (i := 23) (oi := { dst := some 169, op := Op.move (Operand.tmp 2), type := 65, pos := "ref.go:265", after := #[{ on := 21, ground := Ground.guard }], guard := some (21, true) }) (v := ?_) rfl (by kernel_rfl) (by kernel_rfl) (by kernel_rfl) (fun _ _ _ h => h) (Or.inl ⟨by rfl, ?_⟩) (by assumption) ?_
    rotate_left
    · intro w hSw
      (try dsimp only at hSw)
      go_simp
      try with_reducible rfl
    try simp only [Act.put, List.setIfInBounds_toArray, List.set_cons_zero, List.set_cons_succ]
    refine wpAnyH_ready (rs := [24]) (by kernel_rfl) (by simp) ?_
    refine AllReadyH.cons (o := { dst := some 170, op := Op.call { callee := Callee.value (Operand.func 86), args := #[Operand.tmp 168, Operand.tmp 169], argTypes := #[65, 65] }, type := 4, pos := "ref.go:265", after := #[{ on := 22, ground := Ground.data }, { on := 23, ground := Ground.data }, { on := 21, ground := Ground.chain }, { on := 21, ground := Ground.guard }], guard := some (21, true) }) rfl (fun K hK => ?_) AllReadyH.nil
    go_simp
    with_reducible refine (L1.out _ hU).mono ?_
    rintro e u1 ⟨rfl, hu1⟩
    have U1 := bnxB hU hu1
    have K1 := HKK.out _ U1
    go_wp2_with fail
    refine hK.out _ _ ?_ (fun hHeld => ?_)
    · exact K1
    clear hK K
    try simp only [Act.put, List.setIfInBounds_toArray, List.set_cons_zero, List.set_cons_succ]
    refine wpAnyH_take (i := 25) (oi := { dst := some 171, op := Op.pick (Operand.tmp 167) (Operand.tmp 170) (Operand.const (Value.bool false)), type := 4, pos := "ref.go:265", after := #[{ on := 21, ground := Ground.data }, { on := 24, ground := Ground.data }, { on := 11, ground := Ground.guard }], guard := some (11, false) }) (v := ?_) rfl (by kernel_rfl) (by kernel_rfl) (by kernel_rfl) (fun _ _ _ h => h) (Or.inl ⟨by rfl, ?_⟩) (by assumption) ?_
    rotate_left
    · intro w hSw
      (try dsimp only at hSw)
      go_simp
      try with_reducible rfl
    try simp only [Act.put, List.setIfInBounds_toArray, List.set_cons_zero, List.set_cons_succ]
    refine wpAnyH_take (i := 26) (oi := { dst := some 172, op := Op.pick (Operand.tmp 157) (Operand.const (Value.bool true)) (Operand.tmp 171), type := 4, pos := "ref.go:265", after := #[{ on := 11, ground := Ground.data }, { on := 25, ground := Ground.data }], guard := none }) (v := ?_) rfl (by kernel_rfl) (by kernel_rfl) (by kernel_rfl) (fun _ _ _ h => h) (Or.inl ⟨by rfl, ?_⟩) (by assumption) ?_
    rotate_left
    · intro w hSw
      (try dsimp only at hSw)
      go_simp
      try with_reducible rfl
    try simp only [Act.put, List.setIfInBounds_toArray, List.set_cons_zero, List.set_cons_succ]
    refine wpAnyH_ready (rs := [27]) (by kernel_rfl) (by simp) ?_
    refine AllReadyH.cons (o := { dst := some 173, op := Op.call { callee := Callee.value (Operand.func 45), args := #[Operand.tmp 172], argTypes := #[4] }, type := 65, pos := "ref.go:265", after := #[{ on := 26, ground := Ground.data }, { on := 24, ground := Ground.chain }], guard := none }) rfl (fun K hK => ?_) AllReadyH.nil
    go_simp
    with_reducible refine (refFlag_any z _).mono ?_
    rintro e u2 ⟨v, l, rfl, hl, hN, ho, hu2⟩
    have U2 := bnxB U1 hu2
    have K2 := HKK.out _ U2
    go_wp2_with fail
    refine hK.out _ _ ?_ (fun hHeld => ?_)
    · exact K2
    clear hK K
    try simp only [Act.put, List.setIfInBounds_toArray, List.set_cons_zero, List.set_cons_succ]
    refine wpAnyH_take (i := 28) (oi := { dst := some 6, op := Op.assign (Operand.tmp 173), type := 65, pos := "ref.go:265", after := #[{ on := 27, ground := Ground.data }, { on := 27, ground := Ground.chain }, { on := 0, ground := Ground.phase }, { on := 1, ground := Ground.phase }, { on := 2, ground := Ground.phase }, { on := 3, ground := Ground.phase }, { on := 4, ground := Ground.phase }, { on := 5, ground := Ground.phase }, { on := 6, ground := Ground.phase }, { on := 7, ground := Ground.phase }, { on := 8, ground := Ground.phase }, { on := 9, ground := Ground.phase }, { on := 10, ground := Ground.phase }, { on := 11, ground := Ground.phase }, { on := 12, ground := Ground.phase }, { on := 13, ground := Ground.phase }, { on := 14, ground := Ground.phase }, { on := 15, ground := Ground.phase }, { on := 16, ground := Ground.phase }, { on := 17, ground := Ground.phase }, { on := 18, ground := Ground.phase }, { on := 19, ground := Ground.phase }, { on := 20, ground := Ground.phase }, { on := 21, ground := Ground.phase }, { on := 22, ground := Ground.phase }, { on := 23, ground := Ground.phase }, { on := 24, ground := Ground.phase }, { on := 25, ground := Ground.phase }, { on := 26, ground := Ground.phase }, { on := 27, ground := Ground.phase }], guard := none }) (v := ?_) rfl (by kernel_rfl) (by kernel_rfl) (by kernel_rfl) (fun _ _ _ h => h) (Or.inl ⟨by rfl, ?_⟩) (by assumption) ?_
    rotate_left
    · intro w hSw
      (try dsimp only at hSw)
      go_simp
      try with_reducible rfl
    try simp only [Act.put, List.setIfInBounds_toArray, List.set_cons_zero, List.set_cons_succ]
    refine wpAnyH_take (i := 29) (oi := { dst := some 7, op := Op.assign (Operand.const (Value.bool true)), type := 4, pos := "ref.go:265", after := #[{ on := 28, ground := Ground.chain }, { on := 0, ground := Ground.phase }, { on := 1, ground := Ground.phase }, { on := 2, ground := Ground.phase }, { on := 3, ground := Ground.phase }, { on := 4, ground := Ground.phase }, { on := 5, ground := Ground.phase }, { on := 6, ground := Ground.phase }, { on := 7, ground := Ground.phase }, { on := 8, ground := Ground.phase }, { on := 9, ground := Ground.phase }, { on := 10, ground := Ground.phase }, { on := 11, ground := Ground.phase }, { on := 12, ground := Ground.phase }, { on := 13, ground := Ground.phase }, { on := 14, ground := Ground.phase }, { on := 15, ground := Ground.phase }, { on := 16, ground := Ground.phase }, { on := 17, ground := Ground.phase }, { on := 18, ground := Ground.phase }, { on := 19, ground := Ground.phase }, { on := 20, ground := Ground.phase }, { on := 21, ground := Ground.phase }, { on := 22, ground := Ground.phase }, { on := 23, ground := Ground.phase }, { on := 24, ground := Ground.phase }, { on := 25, ground := Ground.phase }, { on := 26, ground := Ground.phase }, { on := 27, ground := Ground.phase }, { on := 28, ground := Ground.phase }], guard := none }) (v := ?_) rfl (by kernel_rfl) (by kernel_rfl) (by kernel_rfl) (fun _ _ _ h => h) (Or.inl ⟨by rfl, ?_⟩) (by assumption) ?_
    rotate_left
    · intro w hSw
      (try dsimp only at hSw)
      go_simp
      try with_reducible rfl
    try simp only [Act.put, List.setIfInBounds_toArray, List.set_cons_zero, List.set_cons_succ]
    refine wpAnyH_done (by kernel_rfl) ?_ _
    refine NoPanic.normal ?_
    obtain ⟨A1, c1, rfl, hr, _⟩ := ho.val
    have HL := Lib.hid hl
    have HX := Lib.hid (And.intro hN (And.intro hr U2))
    clear hl hN ho hr U1 hu1 U2 hu2 K0 K1 K2 HKK L1 hU
    go_wp2
    go_ret2
    exact RetBo.of rfl HL.out (HX.out.1.trans (by rw [r_slt, HX1.out, HY1.out, HZ1.out]; cases z <;> rfl)) HX.out.2.1 HX.out.2.2
end Go.Proofs.Ytnnoflohekmnbaa
/- The reference's and, or, xor of two rows of bits. -/
namespace Go.Proofs.Ytnnoflohekmnbaa
open Go.RowKit
/-- Two rows, bit by bit. -/
def zb (f : Bool → Bool → Bool) (a b : List Bool) (j : Nat) : List Bool := (List.range j).map (fun i => f (a.getD i false) (b.getD i false))
theorem zb_len (f : Bool → Bool → Bool) (a b : List Bool) (j : Nat) : (zb f a b j).length = j := by simp [zb]
theorem zb_next (f : Bool → Bool → Bool) (a b : List Bool) (j : Nat) : zb f a b (j + 1) = zb f a b j ++ [f (a.getD j false) (b.getD j false)] := by unfold zb; rw [List.range_succ, List.map_append]; rfl
theorem zb_bit (f : Bool → Bool → Bool) (a b : List Bool) (j i : Nat) : (nb (zb f a b j)).testBit i = (decide (i < j) && f ((nb a).testBit i) ((nb b).testBit i)) := by
  rw [nb_bit, nb_bit, nb_bit]
  by_cases h : i < j
  · simp [zb, List.getD_eq_getElem?_getD, h]
  · have : (zb f a b j).length ≤ i := by rw [zb_len]; omega
    simp [List.getD_eq_getElem?_getD, List.getElem?_eq_none this, h]
theorem zb_and (a b : List Bool) : nb (zb (· && ·) a b a.length) = f_and a.length (nb a) (nb b) := Nat.eq_of_testBit_eq fun i => by rw [zb_bit, and_bit]
theorem zb_or (a b : List Bool) : nb (zb (· || ·) a b a.length) = f_or a.length (nb a) (nb b) := Nat.eq_of_testBit_eq fun i => by rw [zb_bit, or_bit]
theorem zb_xor (a b : List Bool) : nb (zb (· != ·) a b a.length) = f_xor a.length (nb a) (nb b) := Nat.eq_of_testBit_eq fun i => by
  rw [zb_bit, xor_bit]
set_option maxRecDepth 100000 in
set_option maxHeartbeats 4000000 in
theorem bin_and (A A' : Option Addr) (c c' : Nat) (a b : List Bool) (w : World) (h : RB w w.heap.size A a) (h' : RB w w.heap.size A' b) (hA' : A' = none → c' = 0) (hab : b.length = a.length) (h1 : 1 ≤ a.length) (hn : a.length ≤ 128) :
    Calls Try.prog 50 #[.string ⟨#[97, 110, 100]⟩, .slice A a.length c, .slice A' a.length c'] w (RetBo w a.length (f_and a.length (nb a) (nb b))) := by
  have HH := Lib.hid (And.intro h h')
  have HAB := Lib.hid hab
  clear h h' hab hA'
  obtain ⟨n, hnn⟩ : ∃ n, a.length = n := ⟨_, rfl⟩
  rw [hnn] at h1 hn ⊢
  have HN := Lib.hid hnn
  clear hnn
  go_enter Try.func50, Try.ntmps50
  go_wp2
  go_loopw [9, 10] (fun v i wr => ∃ (j : Nat), j ≤ n ∧ i = .int .i64 j ∧ OwnB wr w.heap.size v (zb (· && ·) a b j) ∧ Below w.heap.size w wr) (fun _ i _ => n - (intOf i).toNat)
  case atStart => exact ⟨0, Nat.zero_le _, rfl, OwnB.nil _ _, Below.refl _ _⟩
  case round =>
    obtain ⟨j, hj, rfl, hown, hb⟩ := hrel
    by_cases hlt : j < n
    · have hlt' : (j : Int) < (n : Int) := by omega
      obtain ⟨ada, rfl, hba, hca⟩ := HH.out.1 j (by have := HN.out; omega)
      obtain ⟨adb, rfl, hbb, hcb⟩ := HH.out.2 j (by have := HN.out; have := HAB.out; omega)
      have hca1 := (hb.cell (p := ada.add j) (by rw [blk_add]; exact hba)).trans hca
      have hcb1 := (hb.cell (p := adb.add j) (by rw [blk_add]; exact hbb)).trans hcb
      have HE := Lib.hid (zb_next (· && ·) a b j)
      have hl : (zb (· && ·) a b j).length ≤ 1000 := by rw [zb_len]; omega
      generalize zb (· && ·) a b j = r at *
      generalize a.getD j false = x at *
      generalize b.getD j false = y at *
      have HB := Lib.hid hb
      have HO := Lib.hid hown
      clear hb hown hca hcb
      cases x <;> cases y
      all_goals
        go_wp2
        go_quiet (fail)
        go_wp2_with (first
          | (at_builtin; refine wpB1 rfl (.tmp 63) (.tmp 65) rfl _ r rfl (HO.out.old (below_drewN (Below.refl _ _) _)) _ rfl (below_drewN HB.out _) ?c1 ?_))
        case c1 => omega
        intro v' w3 hown' hb'
        go_wp2
        go_roundw
        case rel => exact ⟨j + 1, by omega, by go_num, by rw [HE.out]; exact hown', hb'⟩
        case measure => simp [intOf]; omega
    · obtain rfl : j = n := by omega
      obtain ⟨A1, c1, rfl, hr, _⟩ := hown.val
      have HX := Lib.hid (And.intro hr hb)
      have HZ := Lib.hid (show nb (zb (· && ·) a b j) = f_and j (nb a) (nb b) by have := zb_and a b; rwa [HN.out] at this)
      rw [zb_len]
      clear hown hr hb
      go_wp2
      go_ret2
      exact RetBo.of (zb_len _ _ _ _).symm (zb_len _ _ _ _) HZ.out HX.out.1 HX.out.2
set_option maxRecDepth 100000 in
set_option maxHeartbeats 4000000 in
theorem bin_or (A A' : Option Addr) (c c' : Nat) (a b : List Bool) (w : World) (h : RB w w.heap.size A a) (h' : RB w w.heap.size A' b) (hA' : A' = none → c' = 0) (hab : b.length = a.length) (h1 : 1 ≤ a.length) (hn : a.length ≤ 128) :
    Calls Try.prog 50 #[.string ⟨#[111, 114]⟩, .slice A a.length c, .slice A' a.length c'] w (RetBo w a.length (f_or a.length (nb a) (nb b))) := by
  have HH := Lib.hid (And.intro h h')
  have HAB := Lib.hid hab
  clear h h' hab hA'
  obtain ⟨n, hnn⟩ : ∃ n, a.length = n := ⟨_, rfl⟩
  rw [hnn] at h1 hn ⊢
  have HN := Lib.hid hnn
  clear hnn
  go_enter Try.func50, Try.ntmps50
  go_wp2
  go_loopw [9, 10] (fun v i wr => ∃ (j : Nat), j ≤ n ∧ i = .int .i64 j ∧ OwnB wr w.heap.size v (zb (· || ·) a b j) ∧ Below w.heap.size w wr) (fun _ i _ => n - (intOf i).toNat)
  case atStart => exact ⟨0, Nat.zero_le _, rfl, OwnB.nil _ _, Below.refl _ _⟩
  case round =>
    obtain ⟨j, hj, rfl, hown, hb⟩ := hrel
    by_cases hlt : j < n
    · have hlt' : (j : Int) < (n : Int) := by omega
      obtain ⟨ada, rfl, hba, hca⟩ := HH.out.1 j (by have := HN.out; omega)
      obtain ⟨adb, rfl, hbb, hcb⟩ := HH.out.2 j (by have := HN.out; have := HAB.out; omega)
      have hca1 := (hb.cell (p := ada.add j) (by rw [blk_add]; exact hba)).trans hca
      have hcb1 := (hb.cell (p := adb.add j) (by rw [blk_add]; exact hbb)).trans hcb
      have HE := Lib.hid (zb_next (· || ·) a b j)
      have hl : (zb (· || ·) a b j).length ≤ 1000 := by rw [zb_len]; omega
      generalize zb (· || ·) a b j = r at *
      generalize a.getD j false = x at *
      generalize b.getD j false = y at *
      have HB := Lib.hid hb
      have HO := Lib.hid hown
      clear hb hown hca hcb
      cases x <;> cases y
      all_goals
        go_wp2
        go_quiet (fail)
        go_wp2_with (first
          | (at_builtin; refine wpB1 rfl (.tmp 63) (.tmp 65) rfl _ r rfl (HO.out.old (below_drewN (Below.refl _ _) _)) _ rfl (below_drewN HB.out _) ?c1 ?_))
        case c1 => omega
        intro v' w3 hown' hb'
        go_wp2
        go_roundw
        case rel => exact ⟨j + 1, by omega, by go_num, by rw [HE.out]; exact hown', hb'⟩
        case measure => simp [intOf]; omega
    · obtain rfl : j = n := by omega
      obtain ⟨A1, c1, rfl, hr, _⟩ := hown.val
      have HX := Lib.hid (And.intro hr hb)
      have HZ := Lib.hid (show nb (zb (· || ·) a b j) = f_or j (nb a) (nb b) by have := zb_or a b; rwa [HN.out] at this)
      rw [zb_len]
      clear hown hr hb
      go_wp2
      go_ret2
      exact RetBo.of (zb_len _ _ _ _).symm (zb_len _ _ _ _) HZ.out HX.out.1 HX.out.2
set_option maxRecDepth 100000 in
set_option maxHeartbeats 4000000 in
theorem bin_xor (A A' : Option Addr) (c c' : Nat) (a b : List Bool) (w : World) (h : RB w w.heap.size A a) (h' : RB w w.heap.size A' b) (hA' : A' = none → c' = 0) (hab : b.length = a.length) (h1 : 1 ≤ a.length) (hn : a.length ≤ 128) :
    Calls Try.prog 50 #[.string ⟨#[120, 111, 114]⟩, .slice A a.length c, .slice A' a.length c'] w (RetBo w a.length (f_xor a.length (nb a) (nb b))) := by
  have HH := Lib.hid (And.intro h h')
  have HAB := Lib.hid hab
  clear h h' hab hA'
  obtain ⟨n, hnn⟩ : ∃ n, a.length = n := ⟨_, rfl⟩
  rw [hnn] at h1 hn ⊢
  have HN := Lib.hid hnn
  clear hnn
  go_enter Try.func50, Try.ntmps50
  go_wp2
  go_loopw [9, 10] (fun v i wr => ∃ (j : Nat), j ≤ n ∧ i = .int .i64 j ∧ OwnB wr w.heap.size v (zb (· != ·) a b j) ∧ Below w.heap.size w wr) (fun _ i _ => n - (intOf i).toNat)
  case atStart => exact ⟨0, Nat.zero_le _, rfl, OwnB.nil _ _, Below.refl _ _⟩
  case round =>
    obtain ⟨j, hj, rfl, hown, hb⟩ := hrel
    by_cases hlt : j < n
    · have hlt' : (j : Int) < (n : Int) := by omega
      obtain ⟨ada, rfl, hba, hca⟩ := HH.out.1 j (by have := HN.out; omega)
      obtain ⟨adb, rfl, hbb, hcb⟩ := HH.out.2 j (by have := HN.out; have := HAB.out; omega)
      have hca1 := (hb.cell (p := ada.add j) (by rw [blk_add]; exact hba)).trans hca
      have hcb1 := (hb.cell (p := adb.add j) (by rw [blk_add]; exact hbb)).trans hcb
      have HE := Lib.hid (zb_next (· != ·) a b j)
      have hl : (zb (· != ·) a b j).length ≤ 1000 := by rw [zb_len]; omega
      generalize zb (· != ·) a b j = r at *
      generalize a.getD j false = x at *
      generalize b.getD j false = y at *
      have HB := Lib.hid hb
      have HO := Lib.hid hown
      clear hb hown hca hcb
      cases x <;> cases y
      all_goals
        go_wp2
        go_quiet (fail)
        go_wp2_with (first
          | (at_builtin; refine wpB1 rfl (.tmp 63) (.tmp 65) rfl _ r rfl (HO.out.old (below_drewN (Below.refl _ _) _)) _ rfl (below_drewN HB.out _) ?c1 ?_))
        case c1 => omega
        intro v' w3 hown' hb'
        go_wp2
        go_roundw
        case rel => exact ⟨j + 1, by omega, by go_num, by rw [HE.out]; exact hown', hb'⟩
        case measure => simp [intOf]; omega
    · obtain rfl : j = n := by omega
      obtain ⟨A1, c1, rfl, hr, _⟩ := hown.val
      have HX := Lib.hid (And.intro hr hb)
      have HZ := Lib.hid (show nb (zb (· != ·) a b j) = f_xor j (nb a) (nb b) by have := zb_xor a b; rwa [HN.out] at this)
      rw [zb_len]
      clear hown hr hb
      go_wp2
      go_ret2
      exact RetBo.of (zb_len _ _ _ _).symm (zb_len _ _ _ _) HZ.out HX.out.1 HX.out.2
end Go.Proofs.Ytnnoflohekmnbaa
