/-
  vidimusref02's div over the translated program. Nothing is assumed.
-/
import Derived.Test.YtnnoflohekmnbaaProg
import Derived.WalkKit
import Derived.WalkSpells
import Derived.WalkLawsBesides
import Derived.LoopN
import Derived.IntWalk
import Derived.Lib.Hide
import Derived.Test.YtnnoflohekmnbaaN6
import Derived.Laws.BitsAllLaws
import Derived.Laws.Externs
import Derived.BigQuiet
import Derived.BigRegion
import Derived.Deep.QuietTactic
import Derived.Deep.RegionWith
import Derived.Deep.RegionHeld3
import Derived.StillTailTactics
import Derived.RegionTactic
import Derived.ChangeAlike
set_option linter.unusedVariables false
namespace Go.Proofs.Ytnnoflohekmnbaa
open Go.RowKit
theorem OwnB.cap {w : World} {base : Nat} {A : Option Addr} {n c : Nat} {l : List Bool} (h : OwnB w base (.slice A n c) l) : n = l.length ∧ l.length ≤ c ∧ c ≤ maxLen ∧ (∀ ad, A = some ad → base ≤ ad.block) := by
  rcases h.2 with ⟨h', hn⟩ | ⟨g, cap, cur, h', hg, _, h1, h2, _⟩
  · injection h' with e1 e2 e3
    subst e1 e2 e3
    exact ⟨hn.symm, by omega, by omega, fun ad e => by cases e⟩
  · injection h' with e1 e2 e3
    subst e1 e2 e3
    exact ⟨rfl, h1, h2, fun ad e => by injection e with e; subst e; exact hg⟩
/-- 'append(s, t...)', with all that was there below z. -/
theorem wpBsz {z w : World} {ops : Array Oper} {rest : List Oper} {o : Oper} {a : Act} {Q : Exit → Act → World → Prop} (hgd : o.guard = none) (s x : Operand)
    (ho : o.op = .call { callee := .builtin .append, args := #[s, x], argTypes := #[65, 65] })
    (v : Value) (l : List Bool) (hs : a.eval s = v) (hown : OwnB w z.heap.size v l) (B : Nat) (A : Option Addr) (m c : Nat) (r : List Bool) (hx : a.eval x = .slice A m c) (hm : m = r.length) (hr : RB w B A r) (hA : A = none → c = 0) (hb : Below z.heap.size z w)
    (hsz : l.length + r.length ≤ 100000)
    (h : ∀ v' w', OwnB w' z.heap.size v' (l ++ r) → Below z.heap.size z w' → wpList Try.prog ops Q rest (a.put o.dst v') w') : wpList Try.prog ops Q (o :: rest) a w := by
  have hbs := hb.size
  exact wpBs hgd s x ho z.heap.size v l hs hown B A m c r hx hm hr hA hsz hbs (fun v' w' h1 hg => h v' w' h1 (hb.grown hg hbs (fun k hk => ((World.ownsRow.lt hown) k hk).1)))
theorem OwnB.lit0 (w : World) : OwnB (w.alloc (.cells #[] 4)) w.heap.size (.slice (some ⟨w.heap.size, 0, none⟩) 0 0) [] :=
  World.ownsRow_lit (base := w.heap.size) (e := 4) (size := 1) w #[] 0 (Nat.le_refl _) (by unfold maxLen; omega) rfl
theorem refSub_own (A A' : Option Addr) (c c' : Nat) (a b : List Bool) (w : World) (h : RB w w.heap.size A a) (h' : RB w w.heap.size A' b) (hab : b.length = a.length) (hn : a.length ≤ 1000) :
    Calls Try.prog 44 #[.slice A a.length c, .slice A' a.length c'] w (fun e w' => ∃ A3 c3 l3, e = .returned (.slice A3 a.length c3) ∧ l3.length = a.length ∧ nb l3 = (nb a + (2 ^ a.length - 1 - nb b) + bn true) % 2 ^ a.length ∧ RB w' w'.heap.size A3 l3 ∧ (∀ ad, A3 = some ad → w.heap.size ≤ ad.block) ∧ a.length ≤ c3 ∧ Below w.heap.size w w') := by
  have H := refNot_any A' c' b w h' (by omega)
  rw [hab] at H
  have H2 := fun (w1 : World) (hb : Below w.heap.size w w1) A2 c2 (l : List Bool) (hl : l.length = a.length) (hr : RB w1 w1.heap.size A2 l) => refAdd_any A A2 c c2 a l true w1 (h.nx hb) hr hl hn
  have H2 := Lib.hid H2
  generalize (nb a : Nat) = N at *
  obtain ⟨S, hS⟩ : ∃ S, (N + (2 ^ a.length - 1 - nb b) + bn true) % 2 ^ a.length = S := ⟨_, rfl⟩
  rw [hS]
  have HS := Lib.hid hS
  generalize 2 ^ a.length - 1 - nb b = K at *
  clear hS h h'
  have HN := Lib.hid hn
  clear hn hab
  go_enter Try.func44, Try.ntmps44
  go_wp2_with fail
  refine H.mono ?_
  rintro e w1 ⟨v, l, rfl, hl, hN, ho, hb⟩
  obtain ⟨A2, c2, rfl, hr, _⟩ := ho.val
  rw [hl]
  have H3 := H2.out w1 hb A2 c2 l hl hr
  rw [hN] at H3
  have HL := Lib.hid hl
  have HB := Lib.hid hb
  clear H2 hl hN ho hr hb
  go_wp2_with fail
  refine H3.mono ?_
  rintro e w2 ⟨v, l2, rfl, hl2, hN2, ho2, hb2⟩
  obtain ⟨A3, c3, rfl, hr3, _⟩ := ho2.val
  obtain ⟨_, kc, _, kp⟩ := ho2.cap
  rw [hl2] at kc ⊢
  have hp3 : ∀ ad, A3 = some ad → w.heap.size ≤ ad.block := fun ad e => Nat.le_trans HB.out.size (kp ad e)
  clear H3 kp
  go_wp2
  go_ret
  exact ⟨A3, c3, l2, rfl, hl2, hN2.trans HS.out, hr3, hp3, kc, bnxB HB.out hb2⟩
/-- A call that tells two rows of W bits. -/
def RetBB (w0 : World) (W Q R : Nat) (e : Ending) (w' : World) : Prop := ∃ A c l A' c' l', e = .returned (.tuple #[.slice A W c, .slice A' W c']) ∧ l.length = W ∧ nb l = Q ∧ RB w' w'.heap.size A l ∧ l'.length = W ∧ nb l' = R ∧ RB w' w'.heap.size A' l' ∧ Below w0.heap.size w0 w'
set_option maxRecDepth 100000 in
set_option maxHeartbeats 3200000 in
theorem refDiv_any (A A' : Option Addr) (c c' : Nat) (a b : List Bool) (w : World) (h : RB w w.heap.size A a) (h' : RB w w.heap.size A' b) (hA' : A' = none → c' = 0) (hab : b.length = a.length) (h1 : 1 ≤ a.length) (hn : a.length ≤ 900) :
    Calls Try.prog 83 #[.slice A a.length c, .slice A' a.length c'] w (RetBB w a.length (qD (nb b) (nb a) a.length) (rD (nb b) (nb a))) := by
  obtain ⟨W, hW⟩ : ∃ W, a.length = W := ⟨_, rfl⟩
  rw [hW] at hab h1 hn ⊢
  have hmk := mkB W (by omega)
  have hmk2 : ∀ wx, (Instr.makeSlice 65 (.int .i64 ((W : Int) + 1)) (.int .i64 ((W : Int) + 1))).run Try.prog wx = .ok (.slice (some ⟨wx.heap.size, 0, none⟩) (W + 1) (W + 1)) (wx.alloc (mkO (W + 1))) := fun wx => mkB (W + 1) (by omega) wx
  have hKb : nb (b ++ [false]) = nb b := by rw [nb_snoc]; simp [bn]
  have hK : nb b < 2 ^ W := hab ▸ nb_lt b
  obtain ⟨Q, hQ⟩ : ∃ Q, qD (nb b) (nb a) W = Q := ⟨_, rfl⟩
  obtain ⟨R, hR⟩ : ∃ R, rD (nb b) (nb a) = R := ⟨_, rfl⟩
  rw [hQ, hR]
  have HQ := Lib.hid hQ
  have HR := Lib.hid hR
  have HW := Lib.hid hW
  have HK := Lib.hid hK
  have HKb := Lib.hid hKb
  have HAB := Lib.hid hab
  clear hQ hR hW hKb hK hab
  go_enter Try.func83, Try.ntmps83
  have hz1 : ([] : List Bool).length + b.length ≤ 100000 := by have := HAB.out; simp; omega
  have hz2 : b.length ≤ 100000 := by have := HAB.out; omega
  have hrz := Lib.hid (h'.below (bal (bal (bal (Below.refl w.heap.size w) (mkO W)) (mkO (W + 1))) (.cells #[] 4)))
  have hl0 : Hid (OwnB (((w.alloc (mkO W)).alloc (mkO (W + 1))).alloc (.cells #[] 4)) ((w.alloc (mkO W)).alloc (mkO (W + 1))).heap.size (.slice (some ⟨w.heap.size + 1 + 1, 0, none⟩) 0 0) []) := by
    have := OwnB.lit0 ((w.alloc (mkO W)).alloc (mkO (W + 1)))
    have e : ((w.alloc (mkO W)).alloc (mkO (W + 1))).heap.size = w.heap.size + 1 + 1 := by simp
    rw [e] at this
    rw [e]
    exact this
  go_wp2_with (first | (at_builtin; go_loud (refine wpBsz (z := (w.alloc (mkO W)).alloc (mkO (W + 1))) rfl (.tmp 18) (.tmp 19) rfl _ [] rfl hl0.out w.heap.size A' W c' b rfl HAB.out.symm hrz.out hA' (bal (Below.refl _ _) _) hz1 ?_)))
  intro v1 w1 ho1' hb1'
  have ez : ((w.alloc (mkO W)).alloc (mkO (W + 1))).heap.size = w.heap.size + 1 + 1 := by simp
  have ho1 : Hid (OwnB w1 ((w.alloc (mkO W)).alloc (mkO (W + 1))).heap.size v1 b) := by show OwnB _ _ _ _; rw [ez]; simpa using ho1'
  have hb1 : Hid (Below ((w.alloc (mkO W)).alloc (mkO (W + 1))).heap.size ((w.alloc (mkO W)).alloc (mkO (W + 1))) w1) := by show Below _ _ _; rw [ez]; simpa using hb1'
  clear ho1' hb1' ez
  go_wp2_with (first | (at_builtin; go_loud (refine wpB1 rfl (.tmp 20) (.tmp 21) rfl _ _ rfl ho1.out _ rfl hb1.out hz2 ?_)))
  intro v2 w2 ho2' hb2'
  have ez : ((w.alloc (mkO W)).alloc (mkO (W + 1))).heap.size = w.heap.size + 1 + 1 := by simp
  have ho2 : OwnB w2 ((w.alloc (mkO W)).alloc (mkO (W + 1))).heap.size v2 (b ++ [false]) := by rw [ez]; simpa using ho2'
  have hb2 : Below ((w.alloc (mkO W)).alloc (mkO (W + 1))).heap.size ((w.alloc (mkO W)).alloc (mkO (W + 1))) w2 := by rw [ez]; simpa using hb2'
  clear ho2' hb2' ez
  obtain ⟨Ab, cb, rfl, hrb, _⟩ := ho2.val
  have hpb : Past w.heap.size Ab := fun ad e => by have := (OwnB.cap ho2).2.2.2 ad e; simp at this; omega
  have hq0 : Bq w2 w.heap.size (List.replicate W false) := ((bq_made w W).below (bal (Below.refl _ _) (mkO (W + 1))) (by simp)).below hb2 (by simp; omega)
  have hr0 : RB w2 w2.heap.size (some ⟨w.heap.size + 1, 0, none⟩) (List.replicate (W + 1) false) := by
    have := (bq_made (w.alloc (mkO W)) (W + 1)).rb (by simp)
    have := this.nx hb2
    simpa using this
  have hB2 : Below w.heap.size w w2 := bnxB (bal (bal (Below.refl _ _) _) _) hb2
  have hlb : (b ++ [false]).length = W + 1 := by have := HAB.out; simp; omega
  rw [hlb]
  have hg0 : w.heap.size < w2.heap.size := by have := hb2.size; simp at this; omega
  clear ho1 ho2 hb1 hb2 hz1 hz2 hrz hl0
  have HH := Lib.hid h
  clear h h' hA' hmk hmk2
  generalize hb' : b ++ [false] = b' at *
  have HB' := Lib.hid hb'
  clear hb'
  go_wp2
  go_loopw [7, 9] (fun r i wr => ∃ (j : Nat) (Ar : Option Addr) (cr : Nat) (lr lq : List Bool), j ≤ W ∧ r = .slice Ar (W + 1) cr ∧ i = .int .i64 ((j : Int) - 1) ∧ lr.length = W + 1 ∧ lq.length = W ∧
      Hid (nb lr = rD (nb b) (nb (a.drop j))) ∧ Hid (nb lq = 2 ^ j * qD (nb b) (nb (a.drop j)) (W - j)) ∧ RB wr wr.heap.size Ar lr ∧ Past w.heap.size Ar ∧ W + 1 ≤ cr ∧ Bq wr w.heap.size lq ∧ RB wr wr.heap.size Ab b' ∧ Below w.heap.size w wr ∧ w.heap.size < wr.heap.size) (fun _ i _ => (intOf i + 1).toNat)
  case atStart =>
    refine ⟨W, _, _, _, _, Nat.le_refl _, rfl, rfl, by simp, by simp, ?_, ?_, hr0, fun ad e => by injection e with e; subst e; simp, Nat.le_refl _, hq0, hrb, hB2, hg0⟩
    · show _ = _; rw [nb_rep_false, ← HW.out, List.drop_length]; simp [nb, rD]
    · show _ = _; rw [nb_rep_false, ← HW.out, List.drop_length]; simp [nb, qD]
  case round =>
    obtain ⟨j, Ar, cr, lr, lq, hj, rfl, rfl, hlr, hlq, HNr, HNq, hrr, hpr, hcr, hq, hrb2, hB, hgs⟩ := hrel
    clear hr0 hq0 hrb hB2 hg0
    rcases j with _ | j
    · have hsl := fun wx => slice_hB Ar (W + 1) cr W (by omega) (by omega) wx
      have HE1 : Hid (nb lr = R) := by show _ = _; rw [HNr.out, List.drop_zero]; exact HR.out
      have HE2 : Hid (nb lq = Q) := by show _ = _; rw [HNq.out, List.drop_zero, Nat.pow_zero, Nat.one_mul]; exact HQ.out
      have HLt : Hid (R < 2 ^ W) := by
        show _ < _
        rw [← HR.out]
        have h2 : nb a < 2 ^ W := HW.out ▸ nb_lt a
        have h3 := HK.out
        unfold rD
        split
        · exact h2
        · exact Nat.lt_of_le_of_lt (Nat.mod_le _ _) h2
      rw [show ((0 : Nat) : Int) - 1 = -1 from rfl]
      clear HNr HNq HR HQ HK HKb HAB HB' HH hrb2
      go_wp2_with fail
      go_quiet (fail)
      go_wp2
      go_ret2
      have hbd := below_drewN (Below.refl wr.heap.size wr) nq
      refine ⟨_, _, lq, _, _, lr.take W, rfl, hlq, HE2.out, ?_, by simp; omega, ?_, ?_, below_drewN hB _⟩
      · exact (hq.rb hgs).nx hbd
      · have hx := HE1.out
        have hy := HLt.out
        have : lr = lr.take W ++ [lr.getD W false] := by rw [← take_succ_ lr W (by omega), List.take_of_length_le (by omega)]
        have h5 : nb lr = nb (lr.take W) + 2 ^ W * bn (lr.getD W false) := by
          conv => lhs; rw [this]
          rw [nb_snoc, List.length_take, Nat.min_eq_left (by omega)]
        rw [hx] at h5
        cases hz : lr.getD W false
        · rw [hz] at h5; simp [bn] at h5; exact h5.symm
        · rw [hz] at h5; simp [bn] at h5; omega
      · have := hrr.nx hbd
        intro i hi
        rw [List.length_take] at hi
        obtain ⟨ad, e1, e2, e3⟩ := this i (by omega)
        refine ⟨ad, e1, e2, e3.trans ?_⟩
        have : (lr.take W).getD i false = lr.getD i false := by
          simp only [List.getD_eq_getElem?_getD, List.getElem?_take]
          rw [if_pos (by omega)]
        rw [this]
    · have e1 : ((j + 1 : Nat) : Int) - 1 = (j : Int) := by omega
      rw [e1]
      have hWa := HW.out
      obtain ⟨ad, rfl, hbk, hc⟩ := HH.out j (by omega)
      replace hc := (hB.cell (by rw [blk_add]; exact hbk)).trans hc
      have hdr := nb_drop a j (by omega)
      have hfit : 2 * nb (a.drop (j + 1)) + bn (a.getD j false) < 2 ^ W := by
        rw [Nat.add_comm, ← hdr]
        have := nb_lt (a.drop j)
        rw [List.length_drop, hWa] at this
        exact Nat.lt_of_lt_of_le this (Nat.pow_le_pow_right (by omega) (by omega))
      have hb1 := bn_le (a.getD j false)
      have hfits := div_fits W (nb b) _ _ hb1 HK.out hfit
      have hwj : W - j = (W - (j + 1)) + 1 := by omega
      rw [Nat.add_comm] at hdr
      generalize a.getD j false = x at *
      have HS : Hid (∀ wx, Below wr.heap.size wr wx → Calls Try.prog 84 #[.slice Ar (W + 1) cr, .int .i64 1, .bool x] wx (fun e w' => ∃ A2 c2 l2, e = .returned (.slice A2 (W + 1) c2) ∧ l2.length = W + 1 ∧ nb l2 = 2 * rD (nb b) (nb (a.drop (j + 1))) + bn x ∧ RB w' w'.heap.size A2 l2 ∧ (∀ ad, A2 = some ad → wx.heap.size ≤ ad.block) ∧ W + 1 ≤ c2 ∧ Below wx.heap.size wx w')) := by
        intro wx hbx
        have := refShift_any Ar cr lr 1 x wx (hrr.nx hbx) (by omega) (by omega) (by omega)
        rw [hlr] at this
        refine this.mono ?_
        rintro e w' ⟨v, rfl, ho, hb'⟩
        obtain ⟨A2, c2, rfl, hr, _⟩ := ho.val
        obtain ⟨k1, k2, k3, k4⟩ := ho.cap
        rw [shL_len] at k1 k2
        refine ⟨A2, c2, _, by rw [shL_len], shL_len _ _ _ _, ?_, hr, k4, k2, hb'⟩
        have e5 := nb_up1 lr x
        rw [hlr] at e5
        rw [e5, HNr.out, Nat.mod_eq_of_lt hfits]
      have hkb : nb b' = nb b := HKb.out
      have HL : Hid (∀ wx A2 c2 l2, Below wr.heap.size wr wx → l2.length = W + 1 → RB wx wx.heap.size A2 l2 → nb l2 = 2 * rD (nb b) (nb (a.drop (j + 1))) + bn x → Calls Try.prog 86 #[.slice A2 (W + 1) c2, .slice Ab (W + 1) cb] wx (RetV wx (.bool (decide (2 * rD (nb b) (nb (a.drop (j + 1))) + bn x < nb b))))) := by
        intro wx A2 c2 l2 hbx hl2 hr2 hN2
        have := refLess_any A2 Ab c2 cb l2 b' wx hr2 (hrb2.nx hbx) (by omega) (by omega)
        rw [hl2, hN2, hkb] at this
        exact this
      by_cases hcmp : 2 * rD (nb b) (nb (a.drop (j + 1))) + bn x < nb b
      · obtain ⟨z1, z2⟩ := div_lt (nb b) (nb (a.drop (j + 1))) (bn x) (W - (j + 1)) hb1 hcmp
        rw [← hdr] at z1 z2
        have HZ1 := Lib.hid z1
        have HZ2 : Hid (nb lq = 2 ^ j * qD (nb b) (nb (a.drop j)) (W - j)) := by
          show _ = _
          rw [hwj, z2]
          exact q_same _ _ _ HNq.out
        rw [decide_eq_true hcmp] at HL
        clear HNr HNq HR HQ HK HKb HAB HB' HH hfits hfit hdr hWa hcmp z1 z2 hkb hwj hb1
        go_wp2_with fail
        refine (HS.out wr (Below.refl _ _)).mono ?_
        rintro e w3 ⟨A2, c2, l2, rfl, k1, k2, k3, k4, k5, k6⟩
        have H4 := HL.out w3 A2 c2 l2 k6 k1 k3 k2
        have K := Lib.hid (And.intro k1 (And.intro k2 (And.intro k3 (And.intro k4 (And.intro k5 k6)))))
        clear k1 k2 k3 k4 k5 k6 HS HL
        go_wp2_with fail
        refine H4.mono ?_
        rintro e w4 ⟨rfl, hb4⟩
        clear H4
        go_wp2
        go_roundw
        case rel =>
          obtain ⟨k1, k2, k3, k4, k5, k6⟩ := K.out
          have hB4 : Below wr.heap.size wr w4 := bnxB k6 hb4
          exact ⟨j, A2, c2, l2, lq, by omega, rfl, rfl, k1, hlq, by show _ = _; rw [k2, HZ1.out], HZ2, k3.nx hb4, fun ad e => by have := k4 ad e; omega, k5, hq.below hB4 hgs, hrb2.nx hB4, bnxB hB hB4, by have := hB4.size; omega⟩
        case measure => (simp [intOf] <;> omega)
      · obtain ⟨z1, z2⟩ := div_ge (nb b) (nb (a.drop (j + 1))) (bn x) (W - (j + 1)) hb1 hcmp
        rw [← hdr] at z1 z2
        have HZ1 := Lib.hid z1
        have HZ2 : Hid (nb (lq.set j true) = 2 ^ j * qD (nb b) (nb (a.drop j)) (W - j)) := by
          show _ = _
          rw [hwj, z2]
          exact q_step _ _ _ HNq.out (by omega)
        have HU : Hid (∀ wx A2 c2 l2, Below wr.heap.size wr wx → l2.length = W + 1 → RB wx wx.heap.size A2 l2 → nb l2 = 2 * rD (nb b) (nb (a.drop (j + 1))) + bn x → Calls Try.prog 44 #[.slice A2 (W + 1) c2, .slice Ab (W + 1) cb] wx (fun e w' => ∃ A3 c3 l3, e = .returned (.slice A3 (W + 1) c3) ∧ l3.length = W + 1 ∧ nb l3 = rD (nb b) (nb (a.drop j)) ∧ RB w' w'.heap.size A3 l3 ∧ (∀ ad, A3 = some ad → wx.heap.size ≤ ad.block) ∧ W + 1 ≤ c3 ∧ Below wx.heap.size wx w')) := by
          intro wx A2 c2 l2 hbx hl2 hr2 hN2
          have := refSub_own A2 Ab c2 cb l2 b' wx hr2 (hrb2.nx hbx) (by omega) (by omega)
          rw [hl2, hN2, hkb, sub_num _ _ _ (by omega) hfits, ← z1] at this
          exact this
        rw [decide_eq_false hcmp] at HL
        have hqj := (hq j (by omega))
        clear HNr HNq HR HQ HK HKb HAB HB' HH hfits hfit hdr hWa hcmp z1 z2 hkb hwj hb1
        go_wp2_with fail
        refine (HS.out wr (Below.refl _ _)).mono ?_
        rintro e w3 ⟨A2, c2, l2, rfl, k1, k2, k3, k4, k5, k6⟩
        have H4 := HL.out w3 A2 c2 l2 k6 k1 k3 k2
        have K := Lib.hid (And.intro k1 (And.intro k2 (And.intro k3 (And.intro k4 (And.intro k5 k6)))))
        clear k1 k2 k3 k4 k5 k6 HS HL
        go_wp2_with fail
        refine H4.mono ?_
        rintro e w4 ⟨rfl, hb4⟩
        clear H4
        have H5 := HU.out w4 A2 c2 l2 (bnxB K.out.2.2.2.2.2 hb4) K.out.1 (K.out.2.2.1.nx hb4) K.out.2.1
        have HB4 := Lib.hid (bnxB K.out.2.2.2.2.2 hb4)
        clear K HU hb4
        go_wp2_with fail
        refine H5.mono ?_
        rintro e w5 ⟨A3, c3, l3, rfl, m1, m2, m3, m4, m5, m6⟩
        have hB5 : Below wr.heap.size wr w5 := bnxB HB4.out m6
        have hq5 := hq.below hB5 hgs
        obtain ⟨q1, q2⟩ := hq5 j (by omega)
        have hs4 := HB4.out.size
        have HB5 := Lib.hid hB5
        have M := Lib.hid (And.intro m1 (And.intro m2 (And.intro m3 (And.intro m4 m5))))
        have HQ5 := Lib.hid hq5
        have hg5 : w.heap.size < w5.heap.size := by have := hB5.size; omega
        clear m1 m2 m3 m4 m5 m6 HB4 H5 hq5 hB5 hqj
        go_wp2
        go_roundw
        case rel =>
          obtain ⟨m1, m2, m3, m4, m5⟩ := M.out
          have hB5 := HB5.out
          refine ⟨j, A3, c3, l3, lq.set j true, by omega, rfl, rfl, m1, by rw [List.length_set]; exact hlq, m2, HZ2, ?_, fun ad e => by have := m4 ad e; omega, m5, HQ5.out.store j (by omega) true, ?_, (bnxB hB hB5).setCell (by simp) _, by simpa using hg5⟩
          · have := m3.stored (g := w.heap.size) (m := j) (fun ad e => by have := m4 ad e; omega) (.bool true)
            simpa using this
          · have := (hrb2.nx hB5).stored (g := w.heap.size) (m := j) (fun ad e => by have := hpb ad e; omega) (.bool true)
            simpa using this
        case measure => (simp [intOf] <;> omega)
end Go.Proofs.Ytnnoflohekmnbaa
