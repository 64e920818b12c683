/-
  UnitTurned, its way through.
-/
import Derived.Test.YtlebagdildpkmaaProg
import Derived.WalkKit
import Derived.WalkSpells
import Derived.WalkLawsBesides
import Derived.Lib.Hide
import Derived.BigQuiet
import Derived.Deep.QuietTactic
import Derived.Deep.RegionWith
import Derived.Deep.RegionHeld3
import Derived.Test.YtlebagdildpkmaaD7
import Derived.Deep.Cut
import Derived.Deep.DeepCutAuto
set_option linter.unusedVariables false
namespace Go.Proofs.Ytlebagdildpkmaa
open Go.RowKit
theorem rev_next (u : List Int) (i : Nat) (h : i < u.length) : (u.drop i).reverse = (u.drop (i + 1)).reverse ++ [u.getD i 0] := by
  rw [dropI u i h]; simp
theorem own_rix {w : World} {base : Nat} {v vd : Value} {l : List Int} {A : Option Addr} {c : Nat} (h : OwnI w base vd l) (hv : vd = .slice A l.length c) (hb : ∀ g, v.ownBlock = some g → g < base) : RIx w v A l := by
  intro i hi
  obtain ⟨A', c', e, hr, _⟩ := h.val
  rw [e] at hv
  injection hv with e1 _ _
  subst e1
  obtain ⟨ad, e2, h1, h2⟩ := hr i hi
  refine ⟨ad, e2, h1, ?_, h2⟩
  intro e3
  have hlt := hb _ e3
  rcases h.2 with ⟨h0, hz⟩ | ⟨g, cap, cur, hv2, hg, _⟩
  · omega
  · rw [e] at hv2
    injection hv2 with e4 _ _
    rw [e2] at e4
    injection e4 with e5
    rw [e5] at hlt
    simp at hlt
    omega
theorem old_rix {w : World} {B : Nat} {v : Value} {A : Option Addr} {l : List Int} (h : RI w B A l) (hB : B ≤ w.heap.size) (hb : ∀ g, v.ownBlock = some g → B ≤ g) : RIx w v A l := by
  intro i hi
  obtain ⟨ad, e, h1, h2⟩ := h i hi
  exact ⟨ad, e, by omega, fun e3 => by have := hb _ e3; omega, h2⟩
theorem wpQH {z w : World} {ops : Array Oper} {rest : List Oper} {o : Oper} {a : Act} {Q : Exit → Act → World → Prop} (hgd : o.guard = none) (s x : Operand)
    (ho : o.op = .call { callee := .builtin .append, args := #[s, x], argTypes := #[22, 22] })
    (v : Value) (L : List (List Int)) (hs : a.eval s = v) (hown : OwnQ w z.heap.size v L) (us : List Value) (M : List (List Int)) (n : Nat) (hn : us.length = n) (hul : us.length = M.length) (hone' : ∀ u ∈ us, u.oneCell' = true)
    (hus : ∀ i, i < M.length → ∃ A' c', us[i]? = some (.slice A' (M.getD i []).length c') ∧ RIx w v A' (M.getD i []) ∧ (M.getD i []).length ≤ c' ∧ c' ≤ maxLen)
    (H : Nat) (hH : w.heap.size = H) (hx : a.eval x = .slice (some ⟨H, 0, none⟩) n n) (hb : Below z.heap.size z w) (hsz : L.length ≤ 100000) (hsm : M.length ≤ 1000)
    (h : ∀ v' w', OwnQ w' z.heap.size v' (L ++ M) → Below z.heap.size z w' → wpList Try.prog ops Q rest (a.put o.dst v') w') : wpList Try.prog ops Q (o :: rest) a (w.alloc (.cells us.toArray 23)) := by
  subst hH
  exact wpQ hgd s x ho v L hs hown us M n hn hul hone' hus hx hb hsz hsm h
set_option maxHeartbeats 3000000 in
set_option maxRecDepth 100000 in
theorem turned_in (LA AA : Option Addr) (k k' : Nat) (n V : Int) (L : List (List Int)) (c : List Int) (w : World) (hL : RCk w w.heap.size LA L) (hR : RI w w.heap.size AA c) (bV : -9223372036854775808 ≤ V ∧ V ≤ 9223372036854775807) (hm : mayF n L c = true) :
    Calls Try.prog 6 #[.agg #[.int .i64 n, .slice LA L.length k, .slice AA c.length k', .int .i64 V]] w (RetV w (.bool true)) := by
  obtain ⟨hM, l1, l2, l3, n0, n1, lx, cx⟩ := may_parts hm
  have b0 := bal (Below.refl w.heap.size w) (.cells #[.int .i64 n, .slice LA L.length k, .slice AA c.length k', .int .i64 V] 43)
  generalize hw0 : w.alloc (.cells #[.int .i64 n, .slice LA L.length k, .slice AA c.length k', .int .i64 V] 43) = w0 at b0
  have HW0 := Lib.hid hw0
  have HB0 := Lib.hid b0
  have hL0 := hL.nx b0
  have hR0 := hR.nx b0
  have C1 := shown_any w0
  have C2 : Hid (∀ wx, Below w0.heap.size w0 wx → Calls Try.prog 11 #[.int .i64 n, .slice LA L.length k, .slice AA c.length k'] wx (RetV wx (.bool true))) := Lib.hid fun wx hx => by
    have := may_any LA AA k k' n L c wx (hL0.nx hx).rc (hR0.nx hx) (by unfold maxLen; omega) (by unfold maxLen; omega)
    rwa [hm] at this
  have C3 : Hid (∀ wx, Below w0.heap.size w0 wx → Calls Try.prog 12 #[.int .i64 n, .slice LA L.length k, .slice AA c.length k'] wx (RetIB wx (closeL L c) (clashB L c))) := Lib.hid fun wx hx => Close_any LA AA k k' n L c wx (hL0.nx hx) (hR0.nx hx) hM
  have C4 : Hid (∀ wx A4 k4 n4 A5 k5 n5, RCk wx wx.heap.size A4 (backL L 0 ++ both V n) → RI wx wx.heap.size A5 c.reverse → n4 = (backL L 0 ++ both V n).length → n5 = c.reverse.length → Calls Try.prog 12 #[.int .i64 n, .slice A4 n4 k4, .slice A5 n5 k5] wx (RetIB wx (closeL L c) (clashB L c))) := Lib.hid fun wx A4 k4 n4 A5 k5 n5 h4 h5 e4 e5 => by
    subst e4 e5
    have := Close_any A4 A5 k4 k5 n (backL L 0 ++ both V n) c.reverse wx h4 h5 (turned_may hM l1 l3 n1)
    rwa [turned_close, turned_clash] at this
  have C5 : Hid (∀ wx, Below w0.heap.size w0 wx → Calls Try.prog 17 #[.slice AA c.length k'] wx (RetI wx (sortF c))) := Lib.hid fun wx hx => sort_any AA k' c wx (hR0.nx hx) (by omega)
  have C6 : Hid (∀ wx A5 k5 n5, RI wx wx.heap.size A5 c.reverse → n5 = c.reverse.length → Calls Try.prog 17 #[.slice A5 n5 k5] wx (RetI wx (sortF c))) := Lib.hid fun wx A5 k5 n5 h5 e5 => by
    subst e5
    have := sort_any A5 k5 c.reverse wx h5 (by simp; omega)
    rwa [turned_sort] at this
  have C7 : Hid (∀ wx A5 k5, RI wx wx.heap.size A5 (sortF c) → Calls Try.prog 17 #[.slice A5 (sortF c).length k5] wx (RetI wx (sortF c))) := Lib.hid fun wx A5 k5 h5 => by
    have := sort_any A5 k5 (sortF c) wx h5 (by have := sortF_len c; omega)
    rwa [show sortF (sortF c) = sortF c from sorted_uniq _ _ (sortF_lt _) (sortF_lt _) (fun x => sortF_mem _ x)] at this
  have hsl := sortF_len c
  have HL0 := Lib.hid hL0
  have HR0 := Lib.hid hR0
  have H3 := Lib.hid l3
  clear hL hR hm hM lx cx l3 hL0 hR0 hw0 b0
  go_enter Try.func6, Try.ntmps6
  go_wp2_with fail
  rw [HW0.out]
  refine C1.mono ?_; rintro e w1 ⟨rfl, hb1⟩
  have c2 := C2.out w1 hb1
  have HB1 := Lib.hid hb1
  clear C1 C2 hb1
  go_wp2_with fail
  refine c2.mono ?_; rintro e w2 ⟨rfl, hb2⟩
  have hB2 := bnx HB1.out hb2
  have HB2 := Lib.hid hB2
  have HL2 := Lib.hid (HL0.out.nx hB2)
  have HR2 := Lib.hid (HR0.out.nx hB2)
  clear c2 hb2 HB1 hB2
  go_wp2
  go_loopg [8, 9] L.length (fun g s8 s9 wr => ∃ (v : Value) (ii : Int), g ≤ L.length ∧ s8 = v ∧ s9 = .int .i64 ii ∧ ii = (g : Int) - 1 ∧ OwnQ wr w2.heap.size v (backL L g) ∧ Below w2.heap.size w2 wr)
  case atStart => exact ⟨_, _, Nat.le_refl _, rfl, rfl, by omega, by rw [backL_end]; exact OwnQ.nil _ _, Below.refl _ _⟩
  case round =>
    obtain ⟨v, ii, hg, rfl, rfl, hii, hQ, hb⟩ := hrel
    cases gk with
    | zero =>
      obtain rfl : ii = -1 := by omega
      obtain ⟨Ab, kb, rfl, _⟩ := hQ.val
      have hbl := backL_len L 0
      obtain ⟨nb, hnb⟩ : ∃ nb, (backL L 0).length = nb := ⟨_, rfl⟩
      have HNB := Lib.hid hnb
      have hnb2 : nb ≤ 80 := by omega
      rw [hnb] at hQ
      have HQ := Lib.hid hQ
      have HB := Lib.hid hb
      rw [hnb]
      clear hQ hb hnb hbl hii
      have hqb : ∀ g, (Value.slice Ab nb kb).ownBlock = some g → g < wr.heap.size := fun g hg => by
        obtain ⟨_, _, _, _, h⟩ := HQ.out.val
        exact (h g hg).2
      by_cases hV : 1 ≤ V ∧ V ≤ n
      · have d1 : decide (1 ≤ V) = true := decide_eq_true hV.1
        have d2 : decide (V ≤ n) = true := decide_eq_true hV.2
        have d1' : decide (V ≥ 1) = true := decide_eq_true hV.1
        have HBO : Hid (both V n = [[V, -V]]) := Lib.hid (if_pos hV)
        obtain ⟨v1, v2⟩ := hV
        have hlo := lit_own wr wr.heap.size (Nat.le_refl _) [V, -V] (by simp)
        have hrx := own_rix (v := .slice Ab nb kb) (A := some ⟨wr.heap.size, 0, none⟩) (c := 2) hlo rfl hqb
        have hbl := bal (Below.refl wr.heap.size wr) (.cells #[.int .i64 V, .int .i64 (-V)] 3)
        have hsz : (wr.alloc (.cells #[.int .i64 V, .int .i64 (-V)] 3)).heap.size = wr.heap.size + 1 := by simp
        have hQ2 := HQ.out.old hbl
        have hB2 := bnx HB.out hbl
        have hus : ∀ i, i < [[V, -V]].length → ∃ A' c', [Value.slice (some ⟨wr.heap.size, 0, none⟩) 2 2][i]? = some (.slice A' ([[V, -V]].getD i []).length c') ∧ RIx (wr.alloc (.cells #[.int .i64 V, .int .i64 (-V)] 3)) (.slice Ab nb kb) A' ([[V, -V]].getD i []) ∧ ([[V, -V]].getD i []).length ≤ c' ∧ c' ≤ maxLen := by
          intro i hi
          have : i = 0 := by simp at hi; omega
          subst this
          exact ⟨some ⟨wr.heap.size, 0, none⟩, 2, by simp, hrx, by simp, by simp [maxLen]⟩
        have hone : ∀ x ∈ [Value.slice (some ⟨wr.heap.size, 0, none⟩) 2 2], x.oneCell' = true := by
          intro x hx; simp at hx; subst hx; rfl
        have HUS := Lib.hid hus
        have HON := Lib.hid hone
        clear hlo hrx hbl hus hone hqb
        go_wp2_with (first | (at_builtin; refine wpQH (us := [Value.slice (some ⟨wr.heap.size, 0, none⟩) 2 2]) (M := [[V, -V]]) rfl (.tmp 77) (.tmp 82) rfl _ (backL L 0) rfl hQ2 1 rfl rfl HON.out HUS.out (wr.heap.size + 1) hsz rfl hB2 (by rw [HNB.out]; omega) (by simp) ?_) | fail)
        intro v' wb hQ' hb'
        rw [← HBO.out] at hQ'
        obtain ⟨Ac, kc, hvc, _⟩ := hQ'.val
        obtain ⟨nc, hnc⟩ : ∃ nc, (backL L 0 ++ both V n).length = nc := ⟨_, rfl⟩
        rw [hnc] at hvc
        subst hvc
        have HQB := Lib.hid hQ'
        have HBB := Lib.hid hb'
        have HNC := Lib.hid hnc
        clear hQ' hb' hQ2 hB2 hnc HUS HON HQ HB HNB HBO d1 d2 d1' v1 v2
        go_wp2
        clear HL0 HR0 H3
        go_loopg [12, 13] c.length (fun g s12 s13 wr => ∃ (vd : Value) (ii : Int), g ≤ c.length ∧ s12 = vd ∧ s13 = .int .i64 ii ∧ ii = (g : Int) - 1 ∧ OwnI wr wb.heap.size vd ((c.drop g).reverse) ∧ Below wb.heap.size wb wr)
        case atStart => exact ⟨_, _, Nat.le_refl _, rfl, rfl, by omega, by rw [List.drop_length]; exact OwnI.nil _ _, Below.refl _ _⟩
        case round =>
          obtain ⟨vd, ii, hg, rfl, rfl, hii, hO, hb⟩ := hrel
          cases gk with
          | zero =>
            obtain rfl : ii = -1 := by omega
            rw [List.drop_zero] at hO
            obtain ⟨Ad, kd, hvd, hrd, _⟩ := hO.val
            rw [List.length_reverse] at hvd
            subst hvd
            have hbw := bnx HBB.out hb
            have c3 := C3.out wr (bnx HB2.out hbw)
            have HO1 := Lib.hid hO
            have HQ1 := Lib.hid (HQB.out.old hb)
            have HB3 := Lib.hid (bnx HB2.out hbw)
            clear hO hb hrd hbw hii hg HQB
            generalize closeL L c = F at *
            generalize clashB L c = cb at *
            go_wp2_with fail
            refine c3.mono ?_; rintro e w4 ⟨v4, rfl, ho4, hb4⟩
            obtain ⟨A4, k4, rfl, hr4, _, h4k, h4m⟩ := ho4.val
            have hFm : F.length ≤ maxLen := by omega
            obtain ⟨Aq, kq, hvq, hrq, _⟩ := (HQ1.out.old hb4).val
            rw [HNC.out] at hvq
            cases hvq
            obtain ⟨Ar, kr, hvr, hrr, _⟩ := (HO1.out.old hb4).val
            rw [List.length_reverse] at hvr
            cases hvr
            have HRQ := Lib.hid hrq
            have HO4 := Lib.hid ho4
            have HB4 := Lib.hid (bnx HB3.out hb4)
            have HRR := Lib.hid hrr
            have HR4 := Lib.hid hr4
            have HFM := Lib.hid hFm
            clear c3 ho4 hb4 hr4 h4k h4m hrq hrr hFm HB3 HQ1 HO1
            go_wp2_with fail
            (with_reducible refine (C4.out w4 _ _ _ _ _ _ HRQ.out HRR.out HNC.out.symm (by simp)).mono ?_); rintro e w5 ⟨v5, rfl, ho5, hb5⟩
            obtain ⟨A5, k5, rfl, hr5, _⟩ := ho5.val
            have c5 := C5.out w5 (bnx HB4.out hb5)
            have HB5 := Lib.hid (bnx HB4.out hb5)
            have HR5 := Lib.hid hr5
            have HR45 := Lib.hid (HR4.out.nx hb5)
            have HRR5 := Lib.hid (HRR.out.nx hb5)
            clear C4 ho5 hb5 hr5 HB4 HR4 HRR HRQ
            generalize sortF c = S at *
            go_wp2_with fail
            refine c5.mono ?_; rintro e w6 ⟨v6, rfl, ho6, hb6⟩
            obtain ⟨A6, k6, rfl, hr6, _⟩ := ho6.val
            have HRR6 := Lib.hid (HRR5.out.nx hb6)
            have HB6 := Lib.hid (bnx HB5.out hb6)
            have HR6 := Lib.hid hr6
            have HR56 := Lib.hid (HR5.out.nx hb6)
            have HR46 := Lib.hid (HR45.out.nx hb6)
            clear c5 ho6 hb6 hr6 HB5 HR5 HR45 HRR5 C5
            go_wp2_with fail
            (with_reducible refine (C6.out w6 _ _ _ HRR6.out (by simp)).mono ?_); rintro e w7 ⟨v7, rfl, ho7, hb7⟩
            obtain ⟨A7, k7, rfl, hr7, _⟩ := ho7.val
            have c7 := Ints_any A4 A5 k4 k5 F F w7 (HR46.out.nx hb7) (HR56.out.nx hb7) HFM.out HFM.out
            rw [show (F == F) = true by simp] at c7
            have HB7 := Lib.hid (bnx HB6.out hb7)
            have HR7 := Lib.hid hr7
            have HR67 := Lib.hid (HR6.out.nx hb7)
            have dcb : (cb == cb) = true := by simp
            clear C6 HRR6 ho7 hb7 hr7 HB6 HR6 HR56 HR46
            have hSm : S.length ≤ maxLen := by unfold maxLen; omega
            have HSM := Lib.hid hSm
            clear hSm
            go_wp2_with fail
            refine c7.mono ?_; rintro e w8 ⟨rfl, hb8⟩
            have c8 := Ints_any A6 A7 k6 k7 S S w8 (HR67.out.nx hb8) (HR7.out.nx hb8) HSM.out HSM.out
            rw [show (S == S) = true by simp] at c8
            have HB8 := Lib.hid (bnx HB7.out hb8)
            have HR68 := Lib.hid (HR67.out.nx hb8)
            clear c7 hb8 HB7 HR7 HR67
            go_wp2_with fail
            refine c8.mono ?_; rintro e w9 ⟨rfl, hb9⟩
            have c9 := C7.out w9 A6 k6 (HR68.out.nx hb9)
            have HB9 := Lib.hid (bnx HB8.out hb9)
            have HR69 := Lib.hid (HR68.out.nx hb9)
            clear c8 hb9 HB8 HR68 C7
            go_wp2_with fail
            refine c9.mono ?_; rintro e wa ⟨va, rfl, hoa, hba⟩
            obtain ⟨Aa, ka, rfl, hra, _⟩ := hoa.val
            have c10 := Ints_any Aa A6 ka k6 S S wa hra (HR69.out.nx hba) HSM.out HSM.out
            rw [show (S == S) = true by simp] at c10
            have HBa := Lib.hid (bnx HB9.out hba)
            clear c9 hoa hba hra HB9 HR69
            go_wp2_with fail
            refine c10.mono ?_; rintro e wc ⟨rfl, hbc⟩
            have HF := Lib.hid (bnx HB0.out (bnx HBa.out hbc))
            clear c10 hbc HBa
            go_wp2
            go_ret
            exact ⟨by first | rfl | simp, HF.out⟩
          | succ i =>
            obtain rfl : ii = (i : Int) := by omega
            have hil : i < c.length := by omega
            have hil' : (i : Int) < c.length := by omega
            obtain ⟨a2, rfl, hab2, hcz2⟩ := HR2.out i hil
            have hc2 := ((bnx HBB.out hb).cell (p := a2.add i) (by rw [block_add]; exact hab2)).trans hcz2
            have HRN := Lib.hid (rev_next c i hil)
            have hol : ((c.drop (i + 1)).reverse).length ≤ 100000 := by simp; omega
            obtain ⟨Ad, kd, hvd, _⟩ := hO.val
            obtain ⟨nd, hnd⟩ : ∃ nd, ((c.drop (i + 1)).reverse).length = nd := ⟨_, rfl⟩
            rw [hnd] at hvd
            subst hvd
            generalize c.getD i 0 = x at *
            clear hcz2 hnd hii hg
            go_wp2_with (first | (at_builtin; refine wpI1 rfl (.tmp 91) (.tmp 96) rfl _ _ rfl hO x rfl hb hol ?_) | fail)
            intro v' w' hO' hb'
            rw [← HRN.out] at hO'
            have HO' := Lib.hid hO'
            have HB' := Lib.hid hb'
            clear hO' hb' hO hb hc2
            go_wp2
            go_roundg i
            case measure => omega
            case rel => exact ⟨v', (i : Int) - 1, by omega, rfl, by go_num, rfl, HO'.out, HB'.out⟩
      · have HBO : Hid (both V n = []) := Lib.hid (if_neg hV)
        have hd : decide (1 ≤ V) = false ∨ (decide (1 ≤ V) = true ∧ decide (V ≤ n) = false) := by
          by_cases h1 : 1 ≤ V
          · exact .inr ⟨decide_eq_true h1, decide_eq_false (fun h2 => hV ⟨h1, h2⟩)⟩
          · exact .inl (decide_eq_false h1)
        have hQ' := HQ.out
        rw [show backL L 0 = backL L 0 ++ both V n by rw [HBO.out]; simp] at hQ'
        have HQB := Lib.hid hQ'
        have HBB := HB
        have hnc := HNB.out
        rw [show backL L 0 = backL L 0 ++ both V n by rw [HBO.out]; simp] at hnc
        have HNC := Lib.hid hnc
        clear hV hQ' hnc HQ HB HNB hqb HBO
        generalize wr = wb at *
        obtain ⟨Ac, hAc⟩ : ∃ Ac, Ab = Ac := ⟨_, rfl⟩
        obtain ⟨nc, hnc⟩ : ∃ nc, nb = nc := ⟨_, rfl⟩
        obtain ⟨kc, hkc⟩ : ∃ kc, kb = kc := ⟨_, rfl⟩
        subst hAc hnc hkc
        rcases hd with d1 | ⟨d1, d2⟩
        all_goals
          go_wp2
          clear HL0 HR0 H3
          go_loopg [12, 13] c.length (fun g s12 s13 wr => ∃ (vd : Value) (ii : Int), g ≤ c.length ∧ s12 = vd ∧ s13 = .int .i64 ii ∧ ii = (g : Int) - 1 ∧ OwnI wr wb.heap.size vd ((c.drop g).reverse) ∧ Below wb.heap.size wb wr)
          case atStart => exact ⟨_, _, Nat.le_refl _, rfl, rfl, by omega, by rw [List.drop_length]; exact OwnI.nil _ _, Below.refl _ _⟩
          case round =>
            obtain ⟨vd, ii, hg, rfl, rfl, hii, hO, hb⟩ := hrel
            cases gk with
            | zero =>
              obtain rfl : ii = -1 := by omega
              rw [List.drop_zero] at hO
              obtain ⟨Ad, kd, hvd, hrd, _⟩ := hO.val
              rw [List.length_reverse] at hvd
              subst hvd
              have hbw := bnx HBB.out hb
              have c3 := C3.out wr (bnx HB2.out hbw)
              have HO1 := Lib.hid hO
              have HQ1 := Lib.hid (HQB.out.old hb)
              have HB3 := Lib.hid (bnx HB2.out hbw)
              clear hO hb hrd hbw hii hg HQB
              generalize closeL L c = F at *
              generalize clashB L c = cb at *
              go_wp2_with fail
              refine c3.mono ?_; rintro e w4 ⟨v4, rfl, ho4, hb4⟩
              obtain ⟨A4, k4, rfl, hr4, _, h4k, h4m⟩ := ho4.val
              have hFm : F.length ≤ maxLen := by omega
              obtain ⟨Aq, kq, hvq, hrq, _⟩ := (HQ1.out.old hb4).val
              rw [HNC.out] at hvq
              cases hvq
              obtain ⟨Ar, kr, hvr, hrr, _⟩ := (HO1.out.old hb4).val
              rw [List.length_reverse] at hvr
              cases hvr
              have HRQ := Lib.hid hrq
              have HO4 := Lib.hid ho4
              have HB4 := Lib.hid (bnx HB3.out hb4)
              have HRR := Lib.hid hrr
              have HR4 := Lib.hid hr4
              have HFM := Lib.hid hFm
              clear c3 ho4 hb4 hr4 h4k h4m hrq hrr hFm HB3 HQ1 HO1
              go_wp2_with fail
              (with_reducible refine (C4.out w4 _ _ _ _ _ _ HRQ.out HRR.out HNC.out.symm (by simp)).mono ?_); rintro e w5 ⟨v5, rfl, ho5, hb5⟩
              obtain ⟨A5, k5, rfl, hr5, _⟩ := ho5.val
              have c5 := C5.out w5 (bnx HB4.out hb5)
              have HB5 := Lib.hid (bnx HB4.out hb5)
              have HR5 := Lib.hid hr5
              have HR45 := Lib.hid (HR4.out.nx hb5)
              have HRR5 := Lib.hid (HRR.out.nx hb5)
              clear C4 ho5 hb5 hr5 HB4 HR4 HRR HRQ
              generalize sortF c = S at *
              go_wp2_with fail
              refine c5.mono ?_; rintro e w6 ⟨v6, rfl, ho6, hb6⟩
              obtain ⟨A6, k6, rfl, hr6, _⟩ := ho6.val
              have HRR6 := Lib.hid (HRR5.out.nx hb6)
              have HB6 := Lib.hid (bnx HB5.out hb6)
              have HR6 := Lib.hid hr6
              have HR56 := Lib.hid (HR5.out.nx hb6)
              have HR46 := Lib.hid (HR45.out.nx hb6)
              clear c5 ho6 hb6 hr6 HB5 HR5 HR45 HRR5 C5
              go_wp2_with fail
              (with_reducible refine (C6.out w6 _ _ _ HRR6.out (by simp)).mono ?_); rintro e w7 ⟨v7, rfl, ho7, hb7⟩
              obtain ⟨A7, k7, rfl, hr7, _⟩ := ho7.val
              have c7 := Ints_any A4 A5 k4 k5 F F w7 (HR46.out.nx hb7) (HR56.out.nx hb7) HFM.out HFM.out
              rw [show (F == F) = true by simp] at c7
              have HB7 := Lib.hid (bnx HB6.out hb7)
              have HR7 := Lib.hid hr7
              have HR67 := Lib.hid (HR6.out.nx hb7)
              have dcb : (cb == cb) = true := by simp
              clear C6 HRR6 ho7 hb7 hr7 HB6 HR6 HR56 HR46
              have hSm : S.length ≤ maxLen := by unfold maxLen; omega
              have HSM := Lib.hid hSm
              clear hSm
              go_wp2_with fail
              refine c7.mono ?_; rintro e w8 ⟨rfl, hb8⟩
              have c8 := Ints_any A6 A7 k6 k7 S S w8 (HR67.out.nx hb8) (HR7.out.nx hb8) HSM.out HSM.out
              rw [show (S == S) = true by simp] at c8
              have HB8 := Lib.hid (bnx HB7.out hb8)
              have HR68 := Lib.hid (HR67.out.nx hb8)
              clear c7 hb8 HB7 HR7 HR67
              go_wp2_with fail
              refine c8.mono ?_; rintro e w9 ⟨rfl, hb9⟩
              have c9 := C7.out w9 A6 k6 (HR68.out.nx hb9)
              have HB9 := Lib.hid (bnx HB8.out hb9)
              have HR69 := Lib.hid (HR68.out.nx hb9)
              clear c8 hb9 HB8 HR68 C7
              go_wp2_with fail
              refine c9.mono ?_; rintro e wa ⟨va, rfl, hoa, hba⟩
              obtain ⟨Aa, ka, rfl, hra, _⟩ := hoa.val
              have c10 := Ints_any Aa A6 ka k6 S S wa hra (HR69.out.nx hba) HSM.out HSM.out
              rw [show (S == S) = true by simp] at c10
              have HBa := Lib.hid (bnx HB9.out hba)
              clear c9 hoa hba hra HB9 HR69
              go_wp2_with fail
              refine c10.mono ?_; rintro e wc ⟨rfl, hbc⟩
              have HF := Lib.hid (bnx HB0.out (bnx HBa.out hbc))
              clear c10 hbc HBa
              go_wp2
              go_ret
              exact ⟨by first | rfl | simp, HF.out⟩
            | succ i =>
              obtain rfl : ii = (i : Int) := by omega
              have hil : i < c.length := by omega
              have hil' : (i : Int) < c.length := by omega
              obtain ⟨a2, rfl, hab2, hcz2⟩ := HR2.out i hil
              have hc2 := ((bnx HBB.out hb).cell (p := a2.add i) (by rw [block_add]; exact hab2)).trans hcz2
              have HRN := Lib.hid (rev_next c i hil)
              have hol : ((c.drop (i + 1)).reverse).length ≤ 100000 := by simp; omega
              obtain ⟨Ad, kd, hvd, _⟩ := hO.val
              obtain ⟨nd, hnd⟩ : ∃ nd, ((c.drop (i + 1)).reverse).length = nd := ⟨_, rfl⟩
              rw [hnd] at hvd
              subst hvd
              generalize c.getD i 0 = x at *
              clear hcz2 hnd hii hg
              go_wp2_with (first | (at_builtin; refine wpI1 rfl (.tmp 91) (.tmp 96) rfl _ _ rfl hO x rfl hb hol ?_) | fail)
              intro v' w' hO' hb'
              rw [← HRN.out] at hO'
              have HO' := Lib.hid hO'
              have HB' := Lib.hid hb'
              clear hO' hb' hO hb hc2
              go_wp2
              go_roundg i
              case measure => omega
              case rel => exact ⟨v', (i : Int) - 1, by omega, rfl, by go_num, rfl, HO'.out, HB'.out⟩
    | succ j =>
      obtain rfl : ii = (j : Int) := by omega
      have hjl : j < L.length := by omega
      obtain ⟨a1, A1, k1, rfl, hab, hcz, rz, m1, m2⟩ := HL2.out j hjl
      have hul := H3.out _ (getD_memC L j hjl)
      have hbn := backL_next L j hjl
      have hbl := backL_len L (j + 1)
      obtain ⟨Ab, kb, rfl, _, hqb⟩ := hQ.val
      generalize L.getD j [] = u at *
      have hc1 := (hb.cell (p := a1.add j) (by rw [block_add]; exact hab)).trans hcz
      have hjl' : (j : Int) < L.length := by omega
      have hbs := hb.size
      obtain ⟨nb, hnb⟩ : ∃ nb, (backL L (j + 1)).length = nb := ⟨_, rfl⟩
      have hnb2 : nb ≤ 80 := by omega
      rw [hnb] at hQ hqb
      rw [hnb]
      have HQ := Lib.hid hQ
      have HB := Lib.hid hb
      have HRZ := Lib.hid rz
      have HBN := Lib.hid hbn
      have HQB := Lib.hid hqb
      have HNB := Lib.hid hnb
      have HC1 := Lib.hid hc1
      have hablt : (a1.add j).block < wr.heap.size := by rw [block_add]; omega
      clear hQ hb rz hbn hqb hcz hbl hnb hii hg
      generalize wr = wq at *
      go_wp2
      clear hc1
      go_loopg [10, 11] u.length (fun g s10 s11 wr => ∃ (vd : Value) (ii : Int), g ≤ u.length ∧ s10 = vd ∧ s11 = .int .i64 ii ∧ ii = (g : Int) - 1 ∧ OwnI wr wq.heap.size vd ((u.drop g).reverse) ∧ Below wq.heap.size wq wr)
      case atStart => exact ⟨_, _, Nat.le_refl _, rfl, rfl, by omega, by rw [List.drop_length]; exact OwnI.nil _ _, Below.refl _ _⟩
      case round =>
        obtain ⟨vd, ii, hg, rfl, rfl, hii, hO, hb⟩ := hrel
        have hc1 := (hb.cell (p := a1.add j) hablt).trans HC1.out
        have hbs2 := hb.size
        cases gk with
        | zero =>
          obtain rfl : ii = -1 := by omega
          rw [List.drop_zero] at hO
          obtain ⟨Ad, kd, hvd, _, _, hdk, hkm⟩ := hO.val
          rw [List.length_reverse] at hvd hdk
          have hrx := own_rix (v := .slice Ab nb kb) (A := Ad) (c := kd) hO (by rw [List.length_reverse]; exact hvd) (fun g hg => (HQB.out g hg).2)
          have hrz : RI wr w2.heap.size A1 u := HRZ.out.below (bnx HB.out hb |>.mono (Nat.le_refl _))
          have hru := old_rix (v := .slice Ab nb kb) hrz (by omega) (fun g hg => (HQB.out g hg).1)
          subst hvd
          have hQ2 := HQ.out.old hb
          have hB2 := bnx HB.out hb
          have hus : ∀ i, i < [u.reverse, u].length → ∃ A' c', [Value.slice Ad u.length kd, .slice A1 u.length k1][i]? = some (.slice A' ([u.reverse, u].getD i []).length c') ∧ RIx wr (.slice Ab nb kb) A' ([u.reverse, u].getD i []) ∧ ([u.reverse, u].getD i []).length ≤ c' ∧ c' ≤ maxLen := by
            intro i hi
            have : i = 0 ∨ i = 1 := by simp at hi; omega
            rcases this with rfl | rfl
            · exact ⟨Ad, kd, by simp, hrx, by simpa using hdk, hkm⟩
            · exact ⟨A1, k1, by simp, hru, m1, m2⟩
          have hone : ∀ x ∈ [Value.slice Ad u.length kd, .slice A1 u.length k1], x.oneCell' = true := by
            intro x hx; simp at hx; rcases hx with rfl | rfl <;> rfl
          have HUS := Lib.hid hus
          have HON := Lib.hid hone
          clear hO hrx hrz hru hus hone hii hg
          go_wp2_with (first | (at_builtin; refine wpQ (us := [Value.slice Ad u.length kd, .slice A1 u.length k1]) (M := [u.reverse, u]) rfl (.tmp 62) (.tmp 68) rfl _ (backL L (j + 1)) rfl hQ2 2 rfl rfl HON.out HUS.out rfl hB2 (by rw [HNB.out]; omega) (by simp) ?_) | fail)
          intro v' w' hQ' hb'
          rw [← HBN.out] at hQ'
          have HQ' := Lib.hid hQ'
          have HB' := Lib.hid hb'
          clear hQ' hb' hQ2 hB2 hc1
          go_wp2
          go_roundg j
          case measure => omega
          case rel => exact ⟨v', (j : Int) - 1, by omega, rfl, by go_num, rfl, HQ'.out, HB'.out⟩
        | succ i =>
          obtain rfl : ii = (i : Int) := by omega
          have hil : i < u.length := by omega
          have hil' : (i : Int) < u.length := by omega
          obtain ⟨a2, rfl, hab2, hcz2⟩ := HRZ.out i hil
          have hc2 := ((bnx HB.out hb).cell (p := a2.add i) (by rw [block_add]; exact hab2)).trans hcz2
          have HRN := Lib.hid (rev_next u i hil)
          have hol : ((u.drop (i + 1)).reverse).length ≤ 100000 := by simp; omega
          obtain ⟨Ad, kd, hvd, _⟩ := hO.val
          obtain ⟨nd, hnd⟩ : ∃ nd, ((u.drop (i + 1)).reverse).length = nd := ⟨_, rfl⟩
          rw [hnd] at hvd
          subst hvd
          generalize u.getD i 0 = x at *
          clear hcz2 hnd hii hg
          go_wp2_with (first | (at_builtin; refine wpI1 rfl (.tmp 52) (.tmp 60) rfl _ _ rfl hO x rfl hb hol ?_) | fail)
          intro v' w' hO' hb'
          rw [← HRN.out] at hO'
          have HO' := Lib.hid hO'
          have HB' := Lib.hid hb'
          clear hO' hb' hO hb hc1 hc2
          go_wp2
          go_roundg i
          case measure => omega
          case rel => exact ⟨v', (i : Int) - 1, by omega, rfl, by go_num, rfl, HO'.out, HB'.out⟩
end Go.Proofs.Ytlebagdildpkmaa
