/-
  UnitMore, its way through.
-/
import Derived.Test.YtlebagdildpkmaaProg
import Derived.WalkKit
import Derived.WalkSpells
import Derived.WalkLawsBesides
import Derived.Lib.Hide
import Derived.BigQuiet
import Derived.Deep.QuietTactic
import Derived.Deep.RegionWith
import Derived.Deep.RegionHeld3
import Derived.Test.YtlebagdildpkmaaD6
set_option linter.unusedVariables false
namespace Go.Proofs.Ytlebagdildpkmaa
open Go.RowKit
/-- 'append(s, c)', of a row of clauses and a clause. -/
theorem wpK1 {z w : World} {ops : Array Oper} {rest : List Oper} {o : Oper} {a : Act} {Q : Exit → Act → World → Prop} (hgd : o.guard = none) (s x : Operand)
    (ho : o.op = .call { callee := .builtin .append, args := #[s, x], argTypes := #[22, 22] })
    (v : Value) (L : List (List Int)) (hs : a.eval s = v) (hown : OwnK w z.heap.size v L) (MA : Option Addr) (km : Nat) (m : List Int) (hx : a.eval x = .slice (some ⟨w.heap.size, 0, none⟩) 1 1) (hr : RI z z.heap.size MA m) (h1 : m.length ≤ km) (h2 : km ≤ maxLen) (hb : Below z.heap.size z w)
    (hsz : L.length ≤ 100000)
    (h : ∀ v' w', OwnK w' z.heap.size v' (L ++ [m]) → Below z.heap.size z w' → wpList Try.prog ops Q rest (a.put o.dst v') w') : wpList Try.prog ops Q (o :: rest) a (w.alloc (.cells #[.slice MA m.length km] 23)) := by
  obtain ⟨i0, hi0, hz0, hz1, hz2⟩ := info_parts cls_info
  have hbs := hb.size
  obtain ⟨vs, how, hl, hone, hxs⟩ := hown
  refine wpList_append_own _ hgd s x 22 ho z.heap.size 23 i0 (.slice none 0 0) 1 24 Try.underlying22 hi0 hz0 hz1 hz2 rfl (by omega) v L.length vs hs (World.ownsRow.alloc how _) ⟨w.heap.size, 0, none⟩ 1 1 [.slice MA m.length km] hx rfl (cell_one_new _ _ _) ?_ (by unfold maxLen; omega) (by omega) (by simp; omega) ?_
  · intro u hu; simp at hu; subst hu; rfl
  · intro v' w' hown' hg _
    have hb' := (hb.alloc hbs (.cells #[.slice MA m.length km] 23)).grown hg (by simp; omega) (fun k hk => ((World.ownsRow.lt how) k hk).1)
    refine h v' w' ⟨vs ++ [.slice MA m.length km], by simpa using hown', by simp [hl], ?_, ?_⟩ hb'
    · intro u hu
      rcases List.mem_append.1 hu with h1 | h1
      · exact hone u h1
      · rw [List.mem_singleton.1 h1]; rfl
    · intro i hi
      by_cases hil : i < L.length
      · obtain ⟨A', c', e, hri, q⟩ := hxs i hil
        have e1 : (L ++ [m]).getD i [] = L.getD i [] := by simp [List.getD_eq_getElem?_getD, List.getElem?_append_left hil]
        rw [e1]
        exact ⟨A', c', by rw [List.getElem?_append_left (by omega)]; exact e, (hri.back hb).below hb', q⟩
      · have hi' : i = L.length := by simp at hi; omega
        subst hi'
        have e1 : (L ++ [m]).getD L.length [] = m := by simp [List.getD_eq_getElem?_getD]
        rw [e1]
        exact ⟨MA, km, by rw [List.getElem?_append_right (by omega), hl]; simp, hr.below hb', h1, h2⟩
theorem may_more {L : List (List Int)} {c m : List Int} (hM : May L c) (hM2 : May [] m) (h1 : L.length ≤ 40) (ht : tot L ≤ 5000000) : May (L ++ [m]) c := by
  refine ⟨?_, hM.alit, ?_, ?_, ?_, hM.alen⟩
  · intro d hd
    rcases List.mem_append.1 hd with h | h
    · exact hM.lits d h
    · rw [List.mem_singleton.1 h]; exact hM2.alit
  · rw [tot_snoc]; have := hM2.alen; omega
  · simp; omega
  · intro d hd
    rcases List.mem_append.1 hd with h | h
    · exact hM.lens d h
    · rw [List.mem_singleton.1 h]; exact hM2.alen
theorem may_again {L : List (List Int)} {c : List Int} (hM : May L c) (h : clashB L c = false) : May L (closeL L c) := by
  have hc := closed_closeL h
  have hn : (closeL L c).Nodup := (closeL_lt L c).imp (fun h e => by subst e; exact ltP_irrefl _ h)
  refine ⟨hM.lits, fun x hx => (hc.sound x hx).lit hM.lits hM.alit, hM.tot, hM.len, hM.lens, ?_⟩
  have := closed_len hc hM hn
  omega
set_option maxHeartbeats 3000000 in
set_option maxRecDepth 100000 in
theorem more_in (LA AA MA : Option Addr) (k k' km : Nat) (n : Int) (L : List (List Int)) (c m : List Int) (w : World) (hL : RCk w w.heap.size LA L) (hR : RI w w.heap.size AA c) (hB : RI w w.heap.size MA m) (zL : LA = none → k = 0) (hmk : m.length ≤ km) (hkm : km ≤ maxLen) (hm : mayF n L c = true) (hm2 : mayF n [] m = true) (hcl : c.length ≤ 30) :
    Calls Try.prog 5 #[.agg #[.int .i64 n, .slice LA L.length k, .slice AA c.length k', .slice MA m.length km]] w (RetV w (.bool true)) := by
  obtain ⟨hM, l1, l2, l3, n0, n1, lx, cx⟩ := may_parts hm
  obtain ⟨hM2, _, l4, _, _, _, _, mx⟩ := may_parts hm2
  have htot : tot L ≤ 5000000 := by
    have h40 : ∀ (M : List (List Int)), (∀ d ∈ M, d.length ≤ 40) → tot M ≤ M.length * 42 := by
      intro M
      induction M with
      | nil => simp [tot]
      | cons a M ih =>
        intro hM
        have h1 := ih (fun d hd => hM d (by simp [hd]))
        have h2 := hM a (by simp)
        have e : tot (a :: M) = (a.length + 2) + tot M := by simp [tot]
        rw [e, List.length_cons]; omega
    have := h40 L l3
    omega
  have b0 := bal (Below.refl w.heap.size w) (.cells #[.int .i64 n, .slice LA L.length k, .slice AA c.length k', .slice MA m.length km] 39)
  generalize hw0 : w.alloc (.cells #[.int .i64 n, .slice LA L.length k, .slice AA c.length k', .slice MA m.length km] 39) = w0 at b0
  have HW0 := Lib.hid hw0
  have HB0 := Lib.hid b0
  have hL0 := hL.nx b0
  have hR0 := hR.nx b0
  have hM0 := hB.nx b0
  have C1 := shown_any w0
  have C2 : Hid (∀ wx, Below w0.heap.size w0 wx → Calls Try.prog 11 #[.int .i64 n, .slice LA L.length k, .slice AA c.length k'] wx (RetV wx (.bool true))) := Lib.hid fun wx hx => by
    have := may_any LA AA k k' n L c wx (hL0.nx hx).rc (hR0.nx hx) (by unfold maxLen; omega) (by unfold maxLen; omega)
    rwa [hm] at this
  have C3 : Hid (∀ wx, Below w0.heap.size w0 wx → Calls Try.prog 11 #[.int .i64 n, .slice none 0 0, .slice MA m.length km] wx (RetV wx (.bool true))) := Lib.hid fun wx hx => by
    have := may_any none MA 0 km n [] m wx (fun i hi => absurd hi (by simp)) (hM0.nx hx) (by simp [maxLen]) (by unfold maxLen; omega)
    rwa [hm2] at this
  have C4 : Hid (∀ wx, Below w0.heap.size w0 wx → Calls Try.prog 12 #[.int .i64 n, .slice LA L.length k, .slice AA c.length k'] wx (RetIB wx (closeL L c) (clashB L c))) := Lib.hid fun wx hx => Close_any LA AA k k' n L c wx (hL0.nx hx) (hR0.nx hx) hM
  have C5 : Hid (∀ wx z v, Below w0.heap.size w0 wx → OwnK wx z v (L ++ [m]) → z ≤ wx.heap.size → Calls Try.prog 12 #[.int .i64 n, v, .slice AA c.length k'] wx (RetIB wx (closeL (L ++ [m]) c) (clashB (L ++ [m]) c))) := Lib.hid fun wx z v hx ho hz => by
    obtain ⟨A5, k5, rfl, hr5⟩ := ho.val hz
    exact Close_any A5 AA k5 k' n (L ++ [m]) c wx hr5 (hR0.nx hx) (may_more hM hM2 l1 htot)
  have C6 : Hid (clashB L c = false → ∀ wx A6 k6, Below w0.heap.size w0 wx → RI wx wx.heap.size A6 (closeL L c) → Calls Try.prog 12 #[.int .i64 n, .slice LA L.length k, .slice A6 (closeL L c).length k6] wx (RetIB wx (closeL L c) false)) := Lib.hid fun h wx A6 k6 hx hr => by
    have := Close_any LA A6 k k6 n L (closeL L c) wx (hL0.nx hx) hr (may_again hM h)
    rwa [again_close h, again_clash h] at this
  have HMC : Hid (clashB L c = true → clashB (L ++ [m]) c = true) := Lib.hid more_clash
  have HMX : Hid (clashB L c = false → clashB (L ++ [m]) c = false → ∀ x ∈ closeL L c, x ∈ closeL (L ++ [m]) c) := Lib.hid fun h1 h2 x hx => more_close h1 h2 hx
  have HNB : Hid (clashB L c = false → ∀ x ∈ closeL L c, -x ∉ closeL L c) := Lib.hid fun h1 => (closed_closeL h1).cons
  have HHA : Hid (clashB L c = false → ∀ x ∈ c, x ∈ closeL L c) := Lib.hid fun h1 => (closed_closeL h1).has
  have HBD : Hid (clashB L c = false → ∀ x ∈ closeL L c, x ≠ 0 ∧ -100000 ≤ x ∧ x ≤ 100000) := Lib.hid fun h1 => (may_again hM h1).alit
  have HEM : Hid (clashB L c = true → closeL L c = []) := Lib.hid closeL_clash
  have HR0 := Lib.hid hR0
  have HL0 := Lib.hid hL0
  have HM0 := Lib.hid hM0
  have HZL := Lib.hid zL
  have HKM := Lib.hid hkm
  have dn : decide ((30 : Int) < (c.length : Int)) = false := decide_eq_false (by omega)
  have dn' : decide (30 < c.length) = false := decide_eq_false (by omega)
  clear hL hR hB hm hm2 hM hM2 lx cx mx l3 hL0 hR0 hM0 hw0 b0 zL htot hkm
  go_enter Try.func5, Try.ntmps5
  go_wp2_with fail
  rw [HW0.out]
  refine C1.mono ?_; rintro e w1 ⟨rfl, hb1⟩
  have c2 := C2.out w1 hb1
  have HB1 := Lib.hid hb1
  clear C1 C2 hb1
  go_wp2_with fail
  refine c2.mono ?_; rintro e w2 ⟨rfl, hb2⟩
  have hB2 := bnx HB1.out hb2
  have c3 := C3.out w2 hB2
  have HB2 := Lib.hid hB2
  clear c2 C3 hb2 HB1 hB2
  go_wp2_with fail
  refine c3.mono ?_; rintro e w3 ⟨rfl, hb3⟩
  have hB3 := bnx HB2.out hb3
  have c4 := C4.out w3 hB3
  have HB3 := Lib.hid hB3
  clear c3 C4 hb3 HB2 hB3
  go_wp2_with fail
  refine c4.mono ?_; rintro e w4 ⟨v4, rfl, ho4, hb4⟩
  have hB4 := bnx HB3.out hb4
  obtain ⟨Ax, kx, rfl, hrx, _, hxk, hkm⟩ := ho4.val
  have hxm : (closeL L c).length ≤ 9223372036854775807 := by unfold maxLen at hkm; omega
  have he := empty_ownK w4
  have hbe := bal (Below.refl w4.heap.size w4) (.cells #[] 23)
  have r1 := HL0.out.nx hB4
  have r2 := HM0.out.nx hB4
  have HRX := Lib.hid hrx
  have HB4 := Lib.hid hB4
  have HR2 := Lib.hid r2
  clear c4 ho4 hb4 hB4 hrx hxk hkm r2 HB3
  go_wp2_with (first | (at_builtin; refine wpKs rfl (.tmp 50) (.tmp 51) rfl _ [] rfl he LA k L rfl r1 HZL.out hbe (by simp) (by omega) ?_) | fail)
  intro v5 w5 ho5 hb5
  obtain ⟨A5, k5, rfl, _⟩ := ho5.val hb5.size
  clear he hbe r1
  go_wp2_with (first | (at_builtin; refine wpK1 rfl (.tmp 52) (.tmp 54) rfl _ L rfl ho5 MA km m rfl HR2.out hmk HKM.out hb5 (by omega) ?_) | fail)
  intro v6 w6 ho6 hb6
  obtain ⟨A6, k6, hv6, _⟩ := ho6.val hb6.size
  obtain ⟨nb, hnb⟩ : ∃ nb, (L ++ [m]).length = nb := ⟨_, rfl⟩
  rw [hnb] at hv6
  subst hv6
  have c5 := C5.out w6 _ _ (bnx HB4.out hb6) ho6 hb6.size
  have HB6 := Lib.hid hb6
  clear ho5 hb5 ho6 hb6 hnb C5 HR2
  go_wp2_with fail
  (with_reducible refine c5.mono ?_); rintro e w7 ⟨v7, rfl, ho7, hb7⟩
  obtain ⟨Ay, ky, rfl, hry, _, hyk, hkm⟩ := ho7.val
  have hym : (closeL (L ++ [m]) c).length ≤ maxLen := by omega
  have HYM := Lib.hid hym
  have hB7 := bnx HB6.out hb7
  have HB7 := Lib.hid hB7
  have HRY := Lib.hid hry
  clear c5 ho7 hb7 hB7 hry hyk hkm HB6 hym
  cases hcc : clashB L c
  · have c6 := C6.out hcc w7 Ax kx (bnx HB4.out HB7.out) (HRX.out.nx HB7.out)
    have HX1 := Lib.hid (HMX.out hcc)
    have HX2 := Lib.hid (HNB.out hcc)
    have HX3 := Lib.hid (HHA.out hcc)
    have HX4 := Lib.hid (HBD.out hcc)
    clear C6 HMX HNB HHA HBD HMC HEM hcc
    generalize closeL L c = F at *
    generalize closeL (L ++ [m]) c = G at *
    generalize clashB (L ++ [m]) c = ot at *
    go_wp2_with fail
    refine c6.mono ?_; rintro e w8 ⟨v8, rfl, ho8, hb8⟩
    obtain ⟨Az, kz, rfl, hrz, _⟩ := ho8.val
    have hB8 := bnx HB7.out hb8
    have rx := HRX.out.nx hB8
    have ry := HRY.out.nx hb8
    have c7 := Ints_any Az Ax kz kx F F w8 hrz rx (by unfold maxLen; omega) (by unfold maxLen; omega)
    rw [show (F == F) = true by simp] at c7
    have HB8 := Lib.hid hB8
    have HRX8 := Lib.hid rx
    have HRY8 := Lib.hid ry
    clear c6 ho8 hb8 hrz hB8 rx ry HRX HRY HB7
    go_wp2_with fail
    refine c7.mono ?_; rintro e w9 ⟨rfl, hb9⟩
    have HB9 := Lib.hid (bnx HB8.out hb9)
    have HRX9 := Lib.hid (HRX8.out.nx hb9)
    have HRY9 := Lib.hid (HRY8.out.nx hb9)
    have HFB := Lib.hid (bnx HB0.out (bnx HB4.out HB9.out))
    have hR9 := HR0.out.nx (bnx HB4.out HB9.out)
    have HR9 := Lib.hid hR9
    have hFm : F.length ≤ maxLen := by unfold maxLen; omega
    have HFM := Lib.hid hFm
    clear c7 hb9 HB8 HRX8 HRY8 hR9 hFm HR0 HL0 HM0
    go_wp2
    go_loopg [15] F.length (fun g s15 wr => ∃ i : Nat, i + g = F.length ∧ s15 = .int .i64 i ∧ w9 = wr)
    case atStart => exact ⟨0, by omega, rfl, rfl⟩
    case round =>
      obtain ⟨i, hi, rfl, rfl⟩ := hrel
      cases gk with
      | zero =>
        have q1 : ¬ ((i : Int) < F.length) := by omega
        have q2 : ¬ (i < F.length) := by omega
        go_wp2
        go_loopg [16] c.length (fun g s16 wr => ∃ i : Nat, i + g = c.length ∧ s16 = .int .i64 i ∧ w9 = wr)
        case atStart => exact ⟨0, by omega, rfl, rfl⟩
        case round =>
          obtain ⟨j, hj, rfl, rfl⟩ := hrel
          cases gk with
          | zero =>
            have q3 : ¬ ((j : Int) < c.length) := by omega
            have q4 : ¬ (j < c.length) := by omega
            go_wp2
            go_ret
            exact ⟨rfl, HFB.out⟩
          | succ g =>
            have hjl : j < c.length := by omega
            have hmem := HX3.out _ (getD_mem c j hjl)
            obtain ⟨ad, rfl, hab, hcz⟩ := HR9.out j hjl
            have hjl' : (j : Int) < c.length := by omega
            have c8 := In_any Ax kx F (c.getD j 0) w9 HRX9.out HFM.out
            rw [show F.contains (c.getD j 0) = true by simpa using hmem] at c8
            clear hmem
            generalize c.getD j 0 = x at *
            go_wp2_with fail
            refine c8.mono ?_; rintro e wa ⟨rfl, rfl⟩
            clear c8
            go_wp2
            go_roundg g
            case measure => omega
            case rel => exact ⟨j + 1, by omega, by go_num, rfl⟩
      | succ g =>
        have hil : i < F.length := by omega
        have hmem := getD_mem F i hil
        have hn1 := HX2.out _ hmem
        have hx1 : ot = false → F.getD i 0 ∈ G := fun e => HX1.out e _ hmem
        obtain ⟨x0, x1, x2⟩ := HX4.out _ hmem
        obtain ⟨ad, rfl, hab, hcz⟩ := HRX9.out i hil
        have hil' : (i : Int) < F.length := by omega
        have c8 := In_any (some ad) kx F (-(F.getD i 0)) w9 HRX9.out HFM.out
        rw [show F.contains (-(F.getD i 0)) = false by simpa using hn1] at c8
        have c9 := In_any Ay ky G (F.getD i 0) w9 HRY9.out HYM.out
        clear hmem hn1
        generalize F.getD i 0 = x at *
        cases ot
        · rw [show G.contains x = true by simpa using hx1 rfl] at c9
          clear hx1
          go_wp2_with fail
          refine c8.mono ?_; rintro e wa ⟨rfl, rfl⟩
          go_wp2_with fail
          refine c9.mono ?_; rintro e wa ⟨rfl, rfl⟩
          clear c8 c9
          go_wp2
          go_roundg g
          case measure => omega
          case rel => exact ⟨i + 1, by omega, by go_num, rfl⟩
        · clear hx1 c9
          go_wp2_with fail
          refine c8.mono ?_; rintro e wa ⟨rfl, rfl⟩
          clear c8
          go_wp2
          go_roundg g
          case measure => omega
          case rel => exact ⟨i + 1, by omega, by go_num, rfl⟩
  · have h1 := HMC.out hcc
    have h2 := HEM.out hcc
    rw [h1, h2]
    have HFB := Lib.hid (bnx HB0.out (bnx HB4.out HB7.out))
    clear hcc h1 h2 HMC HEM HRX HRY HYM C6 HMX HNB HHA HBD
    go_wp2
    go_ret
    exact ⟨rfl, HFB.out⟩
end Go.Proofs.Ytlebagdildpkmaa
