/-
  UnitRefutes, walked.
-/
import Derived.Test.YtlebagdildpkmaaProg
import Derived.WalkKit
import Derived.WalkSpells
import Derived.WalkLawsBesides
import Derived.Lib.Hide
import Derived.BigQuiet
import Derived.Deep.QuietTactic
import Derived.Deep.RegionWith
import Derived.Deep.RegionHeld3
import Derived.Test.YtlebagdildpkmaaD1
import Derived.Test.YtlebagdildpkmaaB7
import Derived.Laws.AppendOwnNone
set_option linter.unusedVariables false
namespace Go.Proofs.Ytlebagdildpkmaa
open Go.RowKit
theorem Forced.mono {L : List (List Int)} {A A' : List Int} (hA : ∀ x ∈ A, x ∈ A') {x : Int} (h : Forced L A x) : Forced L A' x := by
  induction h with
  | given x hx => exact .given x (hA x hx)
  | unit c x hc hxc _ ih => exact .unit c x hc hxc ih
theorem Clash.mono {L : List (List Int)} {A A' : List Int} (hA : ∀ x ∈ A, x ∈ A') (h : Clash L A) : Clash L A' := by
  rcases h with ⟨x, h1, h2⟩ | ⟨c, hc, h⟩
  · exact .inl ⟨x, h1.mono hA, h2.mono hA⟩
  · exact .inr ⟨c, hc, fun y hy => (h y hy).mono hA⟩
theorem ref_self {L : List (List Int)} {c : List Int} (hc : c ∈ L) : clashB L (negC c) = true :=
  (clashB_iff _ _).2 (.inr ⟨c, hc, fun y hy => .given _ (List.mem_map.2 ⟨y, hy, rfl⟩)⟩)
theorem ref_more {L : List (List Int)} {c m : List Int} (h : clashB L (negC c) = true) : clashB L (negC (c ++ m)) = true :=
  (clashB_iff _ _).2 (((clashB_iff _ _).1 h).mono (fun x hx => by
    obtain ⟨y, hy, rfl⟩ := List.mem_map.1 hx
    exact List.mem_map.2 ⟨y, by simp [hy], rfl⟩))
theorem forced_none {A : List Int} {x : Int} (h : Forced [] A x) : x ∈ A := by
  cases h with
  | given _ h => exact h
  | unit c _ hc => simp at hc
theorem ref_none (c : List Int) : clashB [] (negC c) = c.any (fun x => c.contains (-x)) := by
  rw [Bool.eq_iff_iff, clashB_iff, List.any_eq_true]
  constructor
  · rintro (⟨x, h1, h2⟩ | ⟨d, hd, _⟩)
    · obtain ⟨y, hy, rfl⟩ := List.mem_map.1 (forced_none h1)
      obtain ⟨z, hz, e⟩ := List.mem_map.1 (forced_none h2)
      refine ⟨y, hy, ?_⟩
      have : z = -y := by omega
      subst this
      simpa using hz
    · simp at hd
  · rintro ⟨x, hx, h⟩
    have h' : -x ∈ c := by simpa using h
    refine .inl ⟨-x, .given _ (List.mem_map.2 ⟨x, hx, rfl⟩), .given _ (List.mem_map.2 ⟨-x, h', rfl⟩)⟩
/-- 'append(s, t...)', of rows of numbers. -/
theorem wpIs {z w : World} {ops : Array Oper} {rest : List Oper} {o : Oper} {a : Act} {Q : Exit → Act → World → Prop} (hgd : o.guard = none) (s x : Operand)
    (ho : o.op = .call { callee := .builtin .append, args := #[s, x], argTypes := #[23, 23] })
    (v : Value) (l : List Int) (hs : a.eval s = v) (hown : OwnI w z.heap.size v l) (A : Option Addr) (k : Nat) (m : List Int) (hx : a.eval x = .slice A m.length k) (hr : RI w w.heap.size A m) (hA : A = none → k = 0) (hb : Below z.heap.size z w)
    (hsz : l.length ≤ 100000) (hsm : m.length ≤ 100000)
    (h : ∀ v' w', OwnI w' z.heap.size v' (l ++ m) → Below z.heap.size z w' → wpList Try.prog ops Q rest (a.put o.dst v') w') : wpList Try.prog ops Q (o :: rest) a w := by
  obtain ⟨i0, hi0, hz0, hz1, hz2⟩ := info_parts int_info
  have hbs := hb.size
  cases A with
  | none =>
    have h0 : m = [] := by
      cases m with
      | nil => rfl
      | cons x l => obtain ⟨ad, e, _⟩ := hr 0 (by simp); cases e
    subst h0
    have hk := hA rfl
    subst hk
    refine wpList_append_own_none hgd s x 23 ho z.heap.size 3 i0 1 Try.underlying23 hi0 v l.length (l.map (Value.int .i64)) hs hown hx ?_
    exact h v w (by simpa using hown) hb
  | some ad =>
    refine wpList_append_own _ hgd s x 23 ho z.heap.size 3 i0 (.int .i64 0) 1 8 Try.underlying23 hi0 hz0 hz1 hz2 rfl (by omega) v l.length (l.map (Value.int .i64)) hs hown ad m.length k (m.map (Value.int .i64)) hx (by simp) ?_ ?_ (by unfold maxLen; omega) (by omega) hbs ?_
    · intro j u hj
      have hjl : j < m.length := by
        have := (List.getElem?_eq_some_iff.1 hj).1
        simpa using this
      obtain ⟨ad', e, _, hc⟩ := hr j hjl
      cases e
      rw [hc]
      simp [hjl] at hj
      rw [← hj]
      simp [List.getD_eq_getElem?_getD, hjl]
    · intro u hu; obtain ⟨x, _, rfl⟩ := List.mem_map.1 hu; rfl
    · intro v' w' hown' hg _
      refine h v' w' ?_ (hb.grown hg hbs (fun k hk => ((World.ownsRow.lt hown) k hk).1))
      unfold OwnI
      simpa using hown'
theorem empty_own (w : World) : OwnI (w.alloc (.cells #[] 3)) w.heap.size (.slice (some ⟨w.heap.size, 0, none⟩) 0 0) [] := lit_own w w.heap.size (Nat.le_refl _) [] (by simp)
set_option maxHeartbeats 2000000 in
set_option maxRecDepth 100000 in
theorem refutes_in (LA AA MA : Option Addr) (k k' km : Nat) (n : Int) (L : List (List Int)) (c m : List Int) (w : World) (hL : RCk w w.heap.size LA L) (hR : RI w w.heap.size AA c) (hB : RI w w.heap.size MA m) (zA : AA = none → k' = 0) (zM : MA = none → km = 0) (hm : mayF n L c = true) (hm2 : mayF n [] m = true) (hcm : c.length + m.length ≤ 40) :
    Calls Try.prog 8 #[.agg #[.int .i64 n, .slice LA L.length k, .slice AA c.length k', .slice MA m.length km]] w (RetV w (.bool true)) := by
  obtain ⟨hM, l1, l2, l3, n0, n1, lx, cx⟩ := may_parts hm
  obtain ⟨hM2, _, _, _, _, _, _, mx⟩ := may_parts hm2
  have b0 := bal (Below.refl w.heap.size w) (.cells #[.int .i64 n, .slice LA L.length k, .slice AA c.length k', .slice MA m.length km] 45)
  generalize hw0 : w.alloc (.cells #[.int .i64 n, .slice LA L.length k, .slice AA c.length k', .slice MA m.length km] 45) = w0 at b0
  have HW0 := Lib.hid hw0
  have HB0 := Lib.hid b0
  have hL0 := hL.nx b0
  have hR0 := hR.nx b0
  have hM0 := hB.nx b0
  have C1 := shown_any w0
  have C2 : Hid (∀ wx, Below w0.heap.size w0 wx → Calls Try.prog 11 #[.int .i64 n, .slice LA L.length k, .slice AA c.length k'] wx (RetV wx (.bool true))) := Lib.hid fun wx hx => by
    have := may_any LA AA k k' n L c wx (hL0.nx hx).rc (hR0.nx hx) (by unfold maxLen; omega) (by unfold maxLen; omega)
    rwa [hm] at this
  have C3 : Hid (∀ wx, Below w0.heap.size w0 wx → Calls Try.prog 11 #[.int .i64 n, .slice none 0 0, .slice MA m.length km] wx (RetV wx (.bool true))) := Lib.hid fun wx hx => by
    have := may_any none MA 0 km n [] m wx (fun i hi => absurd hi (by simp)) (hM0.nx hx) (by simp [maxLen]) (by unfold maxLen; omega)
    rwa [hm2] at this
  have C4 : Hid (∀ wx, Below w0.heap.size w0 wx → Calls Try.prog 15 #[.int .i64 n, .slice LA L.length k, .slice AA c.length k'] wx (RetV wx (.bool (clashB L (negC c))))) := Lib.hid fun wx hx => Refutes_any LA AA k k' n L c wx (hL0.nx hx) (hR0.nx hx) hM
  have hMb : May L (c ++ m) := ⟨hM.lits, fun x hx => by rcases List.mem_append.1 hx with h | h; exact hM.alit x h; exact hM2.alit x h, hM.tot, hM.len, hM.lens, by simp; omega⟩
  have C5 : Hid (∀ wx v, Below w0.heap.size w0 wx → OwnI wx w0.heap.size v (c ++ m) → clashB L (negC c) = true → Calls Try.prog 15 #[.int .i64 n, .slice LA L.length k, v] wx (RetV wx (.bool true))) := Lib.hid fun wx v hx ho hc => by
    obtain ⟨Ao, ko, rfl, hro, _⟩ := ho.val
    have := Refutes_any LA Ao k ko n L (c ++ m) wx (hL0.nx hx) hro hMb
    rwa [ref_more hc] at this
  have hMs : ∀ u ∈ L, May L u := fun u hu => ⟨hM.lits, hM.lits u hu, hM.tot, hM.len, hM.lens, hM.lens u hu⟩
  have C6 : Hid (∀ wx A1 k1 u, u ∈ L → Below w0.heap.size w0 wx → RI wx wx.heap.size A1 u → Calls Try.prog 15 #[.int .i64 n, .slice LA L.length k, .slice A1 u.length k1] wx (RetV wx (.bool true))) := Lib.hid fun wx A1 k1 u hu hx hr => by
    have := Refutes_any LA A1 k k1 n L u wx (hL0.nx hx) hr (hMs u hu)
    rwa [ref_self hu] at this
  have hMn : May [] c := ⟨by simp, hM.alit, by simp [tot], by simp, by simp, hM.alen⟩
  have C7 : Hid (∀ wx, Below w0.heap.size w0 wx → Calls Try.prog 15 #[.int .i64 n, .slice none 0 0, .slice AA c.length k'] wx (RetV wx (.bool (c.any (fun x => c.contains (-x)))))) := Lib.hid fun wx hx => by
    have := Refutes_any none AA 0 k' n [] c wx (fun i hi => absurd hi (by simp)) (hR0.nx hx) hMn
    rwa [ref_none] at this
  have C8 : Hid (∀ wx x, Below w0.heap.size w0 wx → Calls Try.prog 21 #[.slice AA c.length k', .int .i64 x] wx (RetS wx (.bool (c.contains x)))) := Lib.hid fun wx x hx => In_any AA k' c x wx (hR0.nx hx) (by unfold maxLen; omega)
  have HR0 := Lib.hid hR0
  have HL0 := Lib.hid hL0
  have HM0 := Lib.hid hM0
  have HCX := Lib.hid cx
  have HZA := Lib.hid zA
  have HZM := Lib.hid zM
  have dn : decide ((40 : Int) < (c.length : Int) + m.length) = false := decide_eq_false (by omega)
  have dn' : decide (40 < c.length + m.length) = false := decide_eq_false (by omega)
  clear hL hR hB hm hm2 hM hM2 hMb hMs hMn lx cx mx l3 hL0 hR0 hM0 hw0 b0 zA zM
  go_enter Try.func8, Try.ntmps8
  go_wp2_with fail
  rw [HW0.out]
  refine C1.mono ?_; rintro e w1 ⟨rfl, hb1⟩
  have c2 := C2.out w1 hb1
  have HB1 := Lib.hid hb1
  clear C1 C2 hb1
  go_wp2_with fail
  refine c2.mono ?_; rintro e w2 ⟨rfl, hb2⟩
  have hB2 := bnx HB1.out hb2
  have c3 := C3.out w2 hB2
  have HB2 := Lib.hid hB2
  clear c2 C3 hb2 HB1 hB2
  go_wp2_with fail
  refine c3.mono ?_; rintro e w3 ⟨rfl, hb3⟩
  have hB3 := bnx HB2.out hb3
  have he := empty_own w3
  have hbe := bal (Below.refl w3.heap.size w3) (.cells #[] 3)
  have r1 := HR0.out.nx (bnx hB3 hbe)
  have HB3 := Lib.hid hB3
  clear c3 hb3 HB2 hB3
  go_wp2_with (first | (at_builtin; refine wpIs rfl (.tmp 41) (.tmp 42) rfl _ [] rfl he AA k' c rfl r1 HZA.out hbe (by simp) (by omega) ?_) | fail)
  intro v4 w4 ho4 hb4
  have r2 := HM0.out.nx (bnx HB3.out hb4)
  obtain ⟨A4, k4, rfl, _⟩ := ho4.val
  clear he hbe r1
  go_wp2_with (first | (at_builtin; refine wpIs rfl (.tmp 43) (.tmp 44) rfl _ c rfl ho4 MA km m rfl r2 HZM.out hb4 (by omega) (by omega) ?_) | fail)
  intro v5 w5 ho5 hb5
  obtain ⟨A5, k5, hv5, _⟩ := ho5.val
  obtain ⟨nb, hnb⟩ : ∃ nb, (c ++ m).length = nb := ⟨_, rfl⟩
  rw [hnb] at hv5
  subst hv5
  have HO5 := Lib.hid (ho5.base HB3.out.size)
  have HB5 := Lib.hid (bnx HB3.out hb5)
  clear hnb
  clear ho4 hb4 r2 ho5 hb5 HB3
  go_wp2
  go_loopg [9] L.length (fun g s9 wr => ∃ j : Nat, j + g = L.length ∧ s9 = .int .i64 j ∧ Below w0.heap.size w0 wr ∧ Below w5.heap.size w5 wr)
  case atStart => exact ⟨0, by omega, rfl, HB5.out, Below.refl _ _⟩
  case round =>
    obtain ⟨j, hj, rfl, hb, hb'⟩ := hrel
    cases gk with
    | zero =>
      have q1 : ¬ ((j : Int) < L.length) := by omega
      have q2 : ¬ (j < L.length) := by omega
      have HB6 := Lib.hid hb
      have HO6 := Lib.hid (HO5.out.old hb')
      obtain ⟨TW, hTW⟩ : ∃ b, c.any (fun x => c.contains (-x)) = b := ⟨_, rfl⟩
      rw [hTW] at C7
      have HT : Hid ((false || (c.drop 0).any (fun x => c.contains (-x))) = TW) := Lib.hid (by simpa using hTW)
      clear hb hb' hTW HO5 HB5
      go_wp2
      go_loopg [10, 11] c.length (fun g2 s10 s11 wx => ∃ (i : Nat) (tw : Bool), i + g2 = c.length ∧ s11 = .int .i64 i ∧ s10 = .bool tw ∧ Hid ((tw || (c.drop i).any (fun x => c.contains (-x))) = TW) ∧ wr = wx)
      case atStart => exact ⟨0, false, by omega, rfl, rfl, HT, rfl⟩
      case round =>
        obtain ⟨i, tw, hi, rfl, rfl, HI, rfl⟩ := hrel
        clear HT
        cases gk with
        | zero =>
          have q3 : ¬ ((i : Int) < c.length) := by omega
          have q4 : ¬ (i < c.length) := by omega
          have e := HI.out
          rw [List.drop_of_length_le (by omega)] at e
          simp at e
          subst e
          clear HI
          have c4 := C4.out wr HB6.out
          cases hr : clashB L (negC c)
          · rw [hr] at c4
            clear C5 hr
            cases tw
            all_goals
              go_wp2_with fail
              refine c4.mono ?_; rintro e w7 ⟨rfl, hb7⟩
              have hB7 := bnx HB6.out hb7
              have c7 := C7.out w7 hB7
              have HB7 := Lib.hid hB7
              clear c4 hb7 hB7
              go_wp2_with fail
              refine c7.mono ?_; rintro e w8 ⟨rfl, hb8⟩
              have HB8 := Lib.hid (bnx HB0.out (bnx HB7.out hb8))
              clear c7 hb8
              go_wp2
              go_ret
              exact ⟨rfl, HB8.out⟩
          · rw [hr] at c4
            have HCR := Lib.hid hr
            clear hr
            cases tw
            all_goals
              go_wp2_with fail
              refine c4.mono ?_; rintro e w7 ⟨rfl, hb7⟩
              have hB7 := bnx HB6.out hb7
              have c5 := C5.out w7 _ hB7 (HO6.out.old hb7) HCR.out
              have HB7 := Lib.hid hB7
              clear c4 hb7 hB7
              go_wp2_with fail
              (with_reducible refine c5.mono ?_); rintro e w8 ⟨rfl, hb8⟩
              have hB8 := bnx HB7.out hb8
              have c7 := C7.out w8 hB8
              have HB8 := Lib.hid hB8
              clear c5 hb8 hB8
              go_wp2_with fail
              refine c7.mono ?_; rintro e w9 ⟨rfl, hb9⟩
              have HB9 := Lib.hid (bnx HB0.out (bnx HB8.out hb9))
              clear c7 hb9
              go_wp2
              go_ret
              exact ⟨rfl, HB9.out⟩
        | succ g2 =>
          have hil : i < c.length := by omega
          have hm := getD_mem c i hil
          obtain ⟨ad, rfl, hab, hcz⟩ := HR0.out i hil
          have hcc := (HB6.out.cell (p := ad.add i) (by rw [block_add]; exact hab)).trans hcz
          obtain ⟨x0, x1, x2⟩ := HCX.out _ hm
          have e := HI.out
          rw [dropI c i hil, List.any_cons] at e
          have hil' : (i : Int) < c.length := by omega
          clear hcz hm HI
          generalize c.getD i 0 = x at *
          have c8 := C8.out wr (-x) HB6.out
          cases tw
          · cases hx : c.contains (-x)
            all_goals
              rw [hx] at c8 e
              have HE := Lib.hid e
              clear e hx
              go_wp2_with fail
              refine c8.mono ?_; rintro e w7 ⟨rfl, rfl⟩
              clear c8
              go_wp2
              go_roundg g2
              case measure => omega
              case rel => exact ⟨i + 1, _, by omega, by go_num, rfl, Lib.hid (by simpa using HE.out), rfl⟩
          · have HE : Hid ((true || (c.drop (i + 1)).any (fun x => c.contains (-x))) = TW) := Lib.hid (by simpa using e)
            clear e c8
            go_wp2
            go_roundg g2
            case measure => omega
            case rel => exact ⟨i + 1, true, by omega, by go_num, rfl, HE, rfl⟩
    | succ g =>
      have hjl : j < L.length := by omega
      have hu := getD_memC L j hjl
      obtain ⟨a1, A1, k1, rfl, hab, hc1, ru, m1, m2⟩ := (HL0.out.nx hb) j hjl
      have c6 := C6.out wr A1 k1 _ hu hb ru
      have hjl' : (j : Int) < L.length := by omega
      have HB6 := Lib.hid hb
      have HB7 := Lib.hid hb'
      clear hb hb' ru hu
      generalize L.getD j [] = u at *
      go_wp2_with fail
      refine c6.mono ?_; rintro e w6 ⟨rfl, hb6⟩
      have HB8 := Lib.hid (And.intro (bnx HB6.out hb6) (bnx HB7.out hb6))
      clear c6 hb6 hc1
      go_wp2
      go_roundg g
      case measure => omega
      case rel => exact ⟨j + 1, by omega, by go_num, HB8.out.1, HB8.out.2⟩
end Go.Proofs.Ytlebagdildpkmaa
