/-
  UnitSound, walked.
-/
import Derived.Test.YtlebagdildpkmaaProg
import Derived.WalkKit
import Derived.WalkSpells
import Derived.WalkLawsBesides
import Derived.Lib.Hide
import Derived.BigQuiet
import Derived.Deep.QuietTactic
import Derived.Deep.RegionWith
import Derived.Deep.RegionHeld3
import Derived.Test.YtlebagdildpkmaaD1
import Derived.Test.YtlebagdildpkmaaB7
set_option linter.unusedVariables false
namespace Go.Proofs.Ytlebagdildpkmaa
open Go.RowKit
theorem litT_neg {m : List Bool} {y : Int} (h : litT m (-y) = true) : litT m y = false := by
  unfold litT at h ⊢
  by_cases h0 : 0 < y
  · rw [if_neg (by omega)] at h
    simp only [Bool.and_eq_true, decide_eq_true_eq, Bool.not_eq_true'] at h
    rw [if_pos h0, show (y - 1).toNat = (-(-y) - 1).toNat by omega, h.2]; simp
  · by_cases h1 : y < 0
    · rw [if_pos (by omega)] at h
      simp only [Bool.and_eq_true, decide_eq_true_eq] at h
      rw [if_neg h0]
      rw [show (-y - 1).toNat = (-y - 1).toNat from rfl, h.2]; simp
    · rw [if_neg h0, decide_eq_false h1]; simp
theorem litT_or {m : List Bool} {x : Int} (x0 : x ≠ 0) (h1 : -(m.length : Int) ≤ x) (h2 : x ≤ m.length) (h : litT m x = false) : litT m (-x) = true := by
  unfold litT at h ⊢
  by_cases h0 : 0 < x
  · rw [if_pos h0, decide_eq_true h2, Bool.true_and] at h
    rw [if_neg (by omega), decide_eq_true (by omega), decide_eq_true (by omega), show (-(-x) - 1).toNat = (x - 1).toNat by omega, h]; rfl
  · rw [if_neg h0, decide_eq_true (by omega), decide_eq_true h1, Bool.true_and, Bool.true_and, Bool.not_eq_false'] at h
    rw [if_pos (by omega), decide_eq_true (by omega), h]; rfl
theorem sound_lit {L : List (List Int)} {A : List Int} {m : List Bool} (hL : hoT L m = true) (hA : ∀ a ∈ A, litT m a = true) {x : Int} (h : Forced L A x) : litT m x = true := by
  induction h with
  | given x hx => exact hA x hx
  | unit c x hc hxc _ ih =>
    have h1 := List.all_eq_true.1 hL c hc
    obtain ⟨y, hy, hyt⟩ := List.any_eq_true.1 h1
    by_cases e : y = x
    · exact e ▸ hyt
    · have := litT_neg (ih y hy e); rw [hyt] at this; cases this
theorem sound_clash {L : List (List Int)} {A : List Int} {m : List Bool} (hL : hoT L m = true) (hA : ∀ a ∈ A, litT m a = true) : clashB L A = false := by
  rw [Bool.eq_false_iff]
  intro hc
  rcases (clashB_iff L A).1 hc with ⟨x, h1, h2⟩ | ⟨c, hcL, hy⟩
  · have a := sound_lit hL hA h1
    have b := litT_neg (sound_lit hL hA h2)
    rw [a] at b; cases b
  · have h1 := List.all_eq_true.1 hL c hcL
    obtain ⟨y, hyc, hyt⟩ := List.any_eq_true.1 h1
    have b := litT_neg (sound_lit hL hA (hy y hyc))
    rw [hyt] at b; cases b
theorem sound_refutes {L : List (List Int)} {c : List Int} {m : List Bool} (hL : hoT L m = true) (hx : ∀ x ∈ c, x ≠ 0 ∧ -(m.length : Int) ≤ x ∧ x ≤ m.length) (hr : clashB L (negC c) = true) : clT c m = true := by
  cases hc : clT c m with
  | true => rfl
  | false =>
    have hf := List.any_eq_false.1 hc
    have := sound_clash (A := negC c) hL (by
      intro a ha
      obtain ⟨x, hxc, rfl⟩ := List.mem_map.1 ha
      obtain ⟨x0, x1, x2⟩ := hx x hxc
      exact litT_or x0 x1 x2 (by simpa using hf x hxc))
    rw [hr] at this; cases this
theorem clT_one (m : List Bool) (x : Int) : clT [x] m = litT m x := by simp [clT]
theorem clause_lit (MA : Option Addr) (km : Nat) (x : Int) (m : List Bool) (z : World) (hm : RB z z.heap.size MA m) (hmm : m.length ≤ maxLen) :
    Calls Try.prog 20 #[.slice (some ⟨z.heap.size, 0, none⟩) 1 1, .slice MA m.length km] (z.alloc (.cells #[.int .i64 x] 3)) (RetS (z.alloc (.cells #[.int .i64 x] 3)) (.bool (litT m x))) := by
  have := refClause_any (some ⟨z.heap.size, 0, none⟩) MA 1 km [x] m (z.alloc (.cells #[.int .i64 x] 3)) (lit_ri z [x] (by simp)) (hm.nx (bal (Below.refl _ _) _)) (by simp [maxLen]) hmm
  rw [clT_one] at this
  exact this
/-- The argument. -/
def SoundIn (n : Int) (LA AA MA : Option Addr) (a k b k' d km : Nat) : Value := .agg #[.int .i64 n, .slice LA a k, .slice AA b k', .slice MA d km]
set_option maxHeartbeats 8000000 in
set_option maxRecDepth 100000 in
theorem sound_in (LA AA MA : Option Addr) (k k' km : Nat) (L : List (List Int)) (c : List Int) (m : List Bool) (w : World) (hL : RCk w w.heap.size LA L) (hR : RI w w.heap.size AA c) (hB : RB w w.heap.size MA m) (hm : mayF (m.length : Int) L c = true) :
    Calls Try.prog 4 #[.agg #[.int .i64 (m.length : Int), .slice LA L.length k, .slice AA c.length k', .slice MA m.length km]] w (RetV w (.bool true)) := by
  obtain ⟨hM, l1, l2, l3, n0, n1, lx, cx⟩ := may_parts hm
  have hmm : m.length ≤ maxLen := by unfold maxLen; omega
  have b0 := bal (Below.refl w.heap.size w) (.cells #[.int .i64 (m.length : Int), .slice LA L.length k, .slice AA c.length k', .slice MA m.length km] 32)
  generalize hw0 : w.alloc (.cells #[.int .i64 (m.length : Int), .slice LA L.length k, .slice AA c.length k', .slice MA m.length km] 32) = w0 at b0
  have HW0 := Lib.hid hw0
  have HB0 := Lib.hid b0
  have hL0 := hL.nx b0
  have hR0 := hR.nx b0
  have hM0 := hB.nx b0
  have C1 := shown_any w0
  have C2 : Hid (∀ wx, Below w0.heap.size w0 wx → Calls Try.prog 11 #[.int .i64 (m.length : Int), .slice LA L.length k, .slice AA c.length k'] wx (RetV wx (.bool true))) := Lib.hid fun wx hx => by
    have := may_any LA AA k k' (m.length : Int) L c wx (hL0.nx hx).rc (hR0.nx hx) (by unfold maxLen; omega) (by unfold maxLen; omega)
    rwa [hm] at this
  have C3 : Hid (∀ wx, Below w0.heap.size w0 wx → Calls Try.prog 19 #[.agg #[.int .i64 (m.length : Int), .slice LA L.length k], .slice MA m.length km] wx (RetV wx (.bool (hoT L m)))) := Lib.hid fun wx hx => refHolds_any LA MA k km (m.length : Int) L m wx (hL0.nx hx).rc (hM0.nx hx) (by unfold maxLen; omega) hmm
  have C4 : Hid (∀ wx, Below w0.heap.size w0 wx → Calls Try.prog 15 #[.int .i64 (m.length : Int), .slice LA L.length k, .slice AA c.length k'] wx (RetV wx (.bool (clashB L (negC c))))) := Lib.hid fun wx hx => Refutes_any LA AA k k' (m.length : Int) L c wx (hL0.nx hx) (hR0.nx hx) hM
  have C5 : Hid (∀ wx, Below w0.heap.size w0 wx → Calls Try.prog 20 #[.slice AA c.length k', .slice MA m.length km] wx (RetS wx (.bool (clT c m)))) := Lib.hid fun wx hx => refClause_any AA MA k' km c m wx (hR0.nx hx) (hM0.nx hx) (by unfold maxLen; omega) hmm
  have C6 : Hid (∀ wx, Below w0.heap.size w0 wx → Calls Try.prog 12 #[.int .i64 (m.length : Int), .slice LA L.length k, .slice AA c.length k'] wx (RetIB wx (closeL L c) (clashB L c))) := Lib.hid fun wx hx => Close_any LA AA k k' (m.length : Int) L c wx (hL0.nx hx) (hR0.nx hx) hM
  have C7 : Hid (∀ wx x, Below w0.heap.size w0 wx → Calls Try.prog 20 #[.slice (some ⟨wx.heap.size, 0, none⟩) 1 1, .slice MA m.length km] (wx.alloc (.cells #[.int .i64 x] 3)) (RetS (wx.alloc (.cells #[.int .i64 x] 3)) (.bool (litT m x)))) := Lib.hid fun wx x hx => clause_lit MA km x m wx (hM0.nx hx) hmm
  have HSR : Hid (hoT L m = true → clashB L (negC c) = true → clT c m = true) := Lib.hid fun h1 h2 => sound_refutes h1 (fun x hx => by have := cx x hx; omega) h2
  have HSC : Hid (hoT L m = true → (∀ a ∈ c, litT m a = true) → clashB L c = false) := Lib.hid fun h1 h2 => sound_clash h1 h2
  have HSL : Hid (hoT L m = true → (∀ a ∈ c, litT m a = true) → ∀ x ∈ closeL L c, litT m x = true) := Lib.hid fun h1 h2 x hx => sound_lit h1 h2 ((closeL_mem (sound_clash h1 h2) x).1 hx)
  have HR0 := Lib.hid hR0
  have HCX := Lib.hid cx
  have dn : ((m.length : Int) != (m.length : Int)) = false := by simp
  have dn' : (m.length != m.length) = false := by simp
  clear hL hR hB hm hM lx cx l3 hL0 hR0 hM0 hw0 b0 hmm
  cases hh : hoT L m
  · rw [hh] at C3
    clear HSR HSC HSL hh C4 C5
    go_enter Try.func4, Try.ntmps4
    go_wp2_with fail
    rw [HW0.out]
    refine C1.mono ?_; rintro e w1 ⟨rfl, hb1⟩
    have c2 := C2.out w1 hb1
    have HB1 := Lib.hid hb1
    clear C1 C2 hb1
    go_wp2_with fail
    refine c2.mono ?_; rintro e w2 ⟨rfl, hb2⟩
    have hB2 := bnx HB1.out hb2
    have c3 := C3.out w2 hB2
    have HB2 := Lib.hid hB2
    clear c2 C3 hb2 HB1 hB2
    go_wp2_with fail
    refine c3.mono ?_; rintro e w3 ⟨rfl, hb3⟩
    have HB3 := Lib.hid (bnx HB2.out hb3)
    clear c3 hb3 HB2
    go_wp2
    go_loopg [9] c.length (fun g s9 wr => ∃ j : Nat, j + g = c.length ∧ s9 = .int .i64 j ∧ Below w0.heap.size w0 wr)
    case atStart => exact ⟨0, by omega, rfl, HB3.out⟩
    case round =>
      obtain ⟨j, hj, rfl, hb⟩ := hrel
      clear HB3
      cases gk with
      | zero =>
        have q1 : ¬ ((j : Int) < c.length) := by omega
        have q2 : ¬ (j < c.length) := by omega
        have c6 := C6.out wr hb
        have HB4 := Lib.hid hb
        clear hb C6
        go_wp2_with fail
        refine c6.mono ?_; rintro e w5 ⟨v, rfl, hown, hb5⟩
        obtain ⟨Ax, kx, rfl, _, _, hxk, hkm⟩ := hown.val
        have HB5 := Lib.hid (bnx HB0.out (bnx HB4.out hb5))
        have hxm : (closeL L c).length ≤ maxLen := by omega
        unfold maxLen at hxm
        clear c6 hown hb5
        generalize closeL L c = F at *
        generalize clashB L c = cb at *
        go_wp2
        refine wp_loop_rounds 2 ?_
        rw [rounds_succ]
        by_cases hF : (0 : Int) < F.length
        · have q3 : decide ((0 : Int) < F.length) = true := decide_eq_true hF
          go_wp2
          go_ret
          exact ⟨rfl, HB5.out⟩
        · have q3 : decide ((0 : Int) < F.length) = false := decide_eq_false hF
          go_wp2
          go_ret
          exact ⟨rfl, HB5.out⟩
      | succ g =>
        have hjl : j < c.length := by omega
        obtain ⟨ad, rfl, hab, hcz⟩ := HR0.out j hjl
        have hcc := (hb.cell (p := ad.add j) (by rw [block_add]; exact hab)).trans hcz
        have c7 := C7.out wr (c.getD j 0) hb
        have hjl' : (j : Int) < c.length := by omega
        have HB4 := Lib.hid hb
        clear hcz hb
        generalize c.getD j 0 = x at *
        cases hx : litT m x
        · rw [hx] at c7
          go_wp2_with fail
          refine c7.mono ?_; rintro e w4 ⟨rfl, rfl⟩
          have HB5 := Lib.hid (bnx HB0.out (bal HB4.out (.cells #[.int .i64 x] 3)))
          clear c7
          go_wp2
          go_ret
          exact ⟨rfl, HB5.out⟩
        · rw [hx] at c7
          go_wp2_with fail
          refine c7.mono ?_; rintro e w4 ⟨rfl, rfl⟩
          clear c7
          go_wp2
          go_roundg g
          case measure => omega
          case rel => exact ⟨j + 1, by omega, by go_num, bal HB4.out _⟩
  · rw [hh] at C3 HSR HSC HSL
    cases hr : clashB L (negC c)
    all_goals
      rw [hr] at C4 HSR
      clear hh hr
      go_enter Try.func4, Try.ntmps4
      go_wp2_with fail
      rw [HW0.out]
      refine C1.mono ?_; rintro e w1 ⟨rfl, hb1⟩
      have c2 := C2.out w1 hb1
      have HB1 := Lib.hid hb1
      clear C1 C2 hb1
      go_wp2_with fail
      refine c2.mono ?_; rintro e w2 ⟨rfl, hb2⟩
      have hB2 := bnx HB1.out hb2
      have c3 := C3.out w2 hB2
      have HB2 := Lib.hid hB2
      clear c2 C3 hb2 HB1 hB2
      go_wp2_with fail
      refine c3.mono ?_; rintro e w3 ⟨rfl, hb3⟩
      have hB3 := bnx HB2.out hb3
      have c4 := C4.out w3 hB3
      have HB3a := Lib.hid hB3
      clear c3 hb3 HB2 C4 hB3
      go_wp2_with fail
      refine c4.mono ?_; rintro e w4 ⟨rfl, hb4⟩
      have hB4 := bnx HB3a.out hb4
      have c5 := C5.out w4 hB4
      have HB3 := Lib.hid hB4
      clear c4 hb4 hB4 HB3a
      first
        | (rw [HSR.out (by simp) (by simp)] at c5
           go_wp2_with fail
           refine c5.mono ?_; rintro e w5 ⟨rfl, rfl⟩)
        | skip
      clear c5 C5 HSR
      go_wp2
      go_loopg [9] c.length (fun g s9 wr => ∃ j : Nat, j + g = c.length ∧ s9 = .int .i64 j ∧ Below w0.heap.size w0 wr ∧ Hid (∀ a ∈ c.take j, litT m a = true))
      case atStart => exact ⟨0, by omega, rfl, HB3.out, Lib.hid (by simp)⟩
      case round =>
        obtain ⟨j, hj, rfl, hb, HJ⟩ := hrel
        clear HB3
        cases gk with
        | zero =>
          have q1 : ¬ ((j : Int) < c.length) := by omega
          have q2 : ¬ (j < c.length) := by omega
          have c6 := C6.out wr hb
          have hall : ∀ a ∈ c, litT m a = true := fun a ha => HJ.out a (by rw [List.take_of_length_le (by omega)]; exact ha)
          rw [HSC.out (by simp) hall] at c6
          have HAL := Lib.hid (HSL.out (by simp) hall)
          have HB4 := Lib.hid hb
          clear hb C6 hall HSC HSL HJ
          go_wp2_with fail
          refine c6.mono ?_; rintro e w5 ⟨v, rfl, hown, hb5⟩
          obtain ⟨Ax, kx, rfl, hrx, _, hxk, hkm⟩ := hown.val
          have HB5 := Lib.hid (bnx HB4.out hb5)
          have HRX := Lib.hid hrx
          have hxm : (closeL L c).length ≤ 9223372036854775807 := by unfold maxLen at hkm; omega
          clear c6 hown hb5 hrx hxk hkm
          generalize closeL L c = F at *
          go_wp2
          go_loopg [12] F.length (fun g s12 wr => ∃ i : Nat, i + g = F.length ∧ s12 = .int .i64 i ∧ Below w0.heap.size w0 wr ∧ Below w5.heap.size w5 wr)
          case atStart => exact ⟨0, by omega, rfl, HB5.out, Below.refl _ _⟩
          case round =>
            obtain ⟨i, hi, rfl, hb6, hb7⟩ := hrel
            cases gk with
            | zero =>
              have q3 : ¬ ((i : Int) < F.length) := by omega
              have q4 : ¬ (i < F.length) := by omega
              have HB6 := Lib.hid (bnx HB0.out hb6)
              clear hb6 hb7
              go_wp2
              go_ret
              exact ⟨rfl, HB6.out⟩
            | succ g =>
              have hil : i < F.length := by omega
              obtain ⟨ad, rfl, hab, hcz⟩ := HRX.out i hil
              have hcc := (hb7.cell (p := ad.add i) (by rw [block_add]; exact hab)).trans hcz
              have c7 := C7.out wr (F.getD i 0) hb6
              rw [HAL.out _ (getD_mem F i hil)] at c7
              have hil' : (i : Int) < F.length := by omega
              have HB6 := Lib.hid hb6
              have HB7 := Lib.hid hb7
              clear hcz hb6 hb7
              generalize F.getD i 0 = x at *
              go_wp2_with fail
              refine c7.mono ?_; rintro e w7 ⟨rfl, rfl⟩
              clear c7
              go_wp2
              go_roundg g
              case measure => omega
              case rel => exact ⟨i + 1, by omega, by go_num, bal HB6.out _, bal HB7.out _⟩
        | succ g =>
          have hjl : j < c.length := by omega
          obtain ⟨ad, rfl, hab, hcz⟩ := HR0.out j hjl
          have hcc := (hb.cell (p := ad.add j) (by rw [block_add]; exact hab)).trans hcz
          have c7 := C7.out wr (c.getD j 0) hb
          have hjl' : (j : Int) < c.length := by omega
          have HB4 := Lib.hid hb
          have htk := take_snocI c j hjl
          have HTK := Lib.hid htk
          clear hcz hb htk
          generalize c.getD j 0 = x at *
          cases hx : litT m x
          · rw [hx] at c7
            go_wp2_with fail
            refine c7.mono ?_; rintro e w4 ⟨rfl, rfl⟩
            have HB5 := Lib.hid (bnx HB0.out (bal HB4.out (.cells #[.int .i64 x] 3)))
            clear c7
            go_wp2
            go_ret
            exact ⟨rfl, HB5.out⟩
          · rw [hx] at c7
            have HXT := Lib.hid hx
            clear hx
            go_wp2_with fail
            refine c7.mono ?_; rintro e w4 ⟨rfl, rfl⟩
            clear c7
            go_wp2
            go_roundg g
            case measure => omega
            case rel =>
              refine ⟨j + 1, by omega, by go_num, bal HB4.out _, Lib.hid ?_⟩
              rw [HTK.out]
              intro a ha
              rcases List.mem_append.1 ha with h' | h'
              · exact HJ.out a h'
              · rw [List.mem_singleton.1 h']; exact HXT.out
set_option maxHeartbeats 2000000 in
theorem sound_out1 (LA AA MA : Option Addr) (k k' km mm : Nat) (n : Int) (L : List (List Int)) (c : List Int) (w : World) (hL : RCk w w.heap.size LA L) (hR : RI w w.heap.size AA c) (hl : L.length ≤ maxLen) (hc : c.length ≤ maxLen) (hm : mayF n L c = false) :
    Calls Try.prog 4 #[.agg #[.int .i64 n, .slice LA L.length k, .slice AA c.length k', .slice MA mm km]] w (RetV w (.bool true)) := by
  have b0 := bal (Below.refl w.heap.size w) (.cells #[.int .i64 n, .slice LA L.length k, .slice AA c.length k', .slice MA mm km] 32)
  generalize hw0 : w.alloc (.cells #[.int .i64 n, .slice LA L.length k, .slice AA c.length k', .slice MA mm km] 32) = w0 at b0
  have HW0 := Lib.hid hw0
  have HB0 := Lib.hid b0
  have C1 := shown_any w0
  have C2 : Hid (∀ wx, Below w0.heap.size w0 wx → Calls Try.prog 11 #[.int .i64 n, .slice LA L.length k, .slice AA c.length k'] wx (RetV wx (.bool false))) := Lib.hid fun wx hx => by
    have := may_any LA AA k k' n L c wx ((hL.nx b0).nx hx).rc ((hR.nx b0).nx hx) hl hc
    rwa [hm] at this
  clear hL hR hm hl hc hw0 b0
  go_enter Try.func4, Try.ntmps4
  go_wp2_with fail
  rw [HW0.out]
  refine C1.mono ?_; rintro e w1 ⟨rfl, hb1⟩
  have c2 := C2.out w1 hb1
  have HB1 := Lib.hid hb1
  clear C1 C2 hb1
  go_wp2_with fail
  refine c2.mono ?_; rintro e w2 ⟨rfl, hb2⟩
  have HB := Lib.hid (bnx HB0.out (bnx HB1.out hb2))
  clear c2 hb2 HB1
  go_wp2
  go_ret
  exact ⟨rfl, HB.out⟩
set_option maxHeartbeats 2000000 in
theorem sound_out2 (LA AA MA : Option Addr) (k k' km mm : Nat) (n : Int) (L : List (List Int)) (c : List Int) (w : World) (hL : RCk w w.heap.size LA L) (hR : RI w w.heap.size AA c) (hl : L.length ≤ maxLen) (hc : c.length ≤ maxLen) (hm : mayF n L c = true) (hn : (mm : Int) ≠ n) (hmm : mm ≤ maxLen) :
    Calls Try.prog 4 #[.agg #[.int .i64 n, .slice LA L.length k, .slice AA c.length k', .slice MA mm km]] w (RetV w (.bool true)) := by
  unfold maxLen at hmm
  have dn : ((mm : Int) != n) = true := by simp [hn]
  have b0 := bal (Below.refl w.heap.size w) (.cells #[.int .i64 n, .slice LA L.length k, .slice AA c.length k', .slice MA mm km] 32)
  generalize hw0 : w.alloc (.cells #[.int .i64 n, .slice LA L.length k, .slice AA c.length k', .slice MA mm km] 32) = w0 at b0
  have HW0 := Lib.hid hw0
  have HB0 := Lib.hid b0
  have C1 := shown_any w0
  have C2 : Hid (∀ wx, Below w0.heap.size w0 wx → Calls Try.prog 11 #[.int .i64 n, .slice LA L.length k, .slice AA c.length k'] wx (RetV wx (.bool true))) := Lib.hid fun wx hx => by
    have := may_any LA AA k k' n L c wx ((hL.nx b0).nx hx).rc ((hR.nx b0).nx hx) hl hc
    rwa [hm] at this
  clear hL hR hm hl hc hw0 b0 hn
  go_enter Try.func4, Try.ntmps4
  go_wp2_with fail
  rw [HW0.out]
  refine C1.mono ?_; rintro e w1 ⟨rfl, hb1⟩
  have c2 := C2.out w1 hb1
  have HB1 := Lib.hid hb1
  clear C1 C2 hb1
  go_wp2_with fail
  refine c2.mono ?_; rintro e w2 ⟨rfl, hb2⟩
  have HB := Lib.hid (bnx HB0.out (bnx HB1.out hb2))
  clear c2 hb2 HB1
  go_wp2
  go_ret
  exact ⟨rfl, HB.out⟩
theorem sound_any (LA AA MA : Option Addr) (k k' km : Nat) (n : Int) (L : List (List Int)) (c : List Int) (m : List Bool) (w : World) (hL : RCk w w.heap.size LA L) (hR : RI w w.heap.size AA c) (hB : RB w w.heap.size MA m) (hl : L.length ≤ maxLen) (hc : c.length ≤ maxLen) (hmm : m.length ≤ maxLen) :
    Calls Try.prog 4 #[.agg #[.int .i64 n, .slice LA L.length k, .slice AA c.length k', .slice MA m.length km]] w (RetV w (.bool true)) := by
  cases hm : mayF n L c
  · exact sound_out1 LA AA MA k k' km m.length n L c w hL hR hl hc hm
  · by_cases e : (m.length : Int) = n
    · subst e
      exact sound_in LA AA MA k k' km L c m w hL hR hB hm
    · exact sound_out2 LA AA MA k k' km m.length n L c w hL hR hl hc hm e hmm
end Go.Proofs.Ytlebagdildpkmaa
