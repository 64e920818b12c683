/-
  UnitForced, walked.
-/
import Derived.Test.YtlebagdildpkmaaProg
import Derived.WalkKit
import Derived.WalkSpells
import Derived.WalkLawsBesides
import Derived.Lib.Hide
import Derived.BigQuiet
import Derived.Deep.QuietTactic
import Derived.Deep.RegionWith
import Derived.Deep.RegionHeld3
import Derived.Test.YtlebagdildpkmaaC3
import Derived.Deep.LoopGhost
import Derived.Deep.Cut
import Derived.Deep.DeepCutAuto
set_option linter.unusedVariables false
namespace Go.Proofs.Ytlebagdildpkmaa
open Go.RowKit
theorem RCk.rc {w : World} {B : Nat} {A : Option Addr} {L : List (List Int)} (h : RCk w B A L) : RC w B A L := by
  intro i hi
  obtain ⟨ad, A', c', e, hlt, hc, hr, h1, h2⟩ := h i hi
  exact ⟨ad, A', c', e, hlt, hc, hr, by omega⟩
theorem may_parts {n : Int} {L : List (List Int)} {c : List Int} (h : mayF n L c = true) : May L c ∧ L.length ≤ 40 ∧ c.length ≤ 40 ∧ (∀ d ∈ L, d.length ≤ 40) ∧ 0 ≤ n ∧ n ≤ 60 ∧ (∀ d ∈ L, ∀ x ∈ d, x ≠ 0 ∧ -n ≤ x ∧ x ≤ n) ∧ (∀ x ∈ c, x ≠ 0 ∧ -n ≤ x ∧ x ≤ n) := by
  simp only [mayF, Bool.and_eq_true, decide_eq_true_eq] at h
  obtain ⟨⟨⟨⟨h1, h2⟩, h3⟩, h4⟩, h5⟩ := h
  obtain ⟨s1, s2⟩ := small_parts h2
  obtain ⟨_, s4⟩ := small_parts h4
  obtain ⟨r0, _, _, r1⟩ := right_parts h3
  obtain ⟨_, _, _, r2⟩ := right_parts h5
  have hc := s4 c (by simp)
  have hL : ∀ d ∈ L, d.length ≤ 40 := fun d hd => by have := s2 d hd; omega
  have hx : ∀ d ∈ L, ∀ x ∈ d, x ≠ 0 ∧ -n ≤ x ∧ x ≤ n := fun d hd => (r1 d hd).2
  have hy : ∀ x ∈ c, x ≠ 0 ∧ -n ≤ x ∧ x ≤ n := (r2 c (by simp)).2
  have ht : ∀ (M : List (List Int)), (∀ d ∈ M, d.length ≤ 40) → tot M ≤ M.length * 42 := by
    intro M
    induction M with
    | nil => simp [tot]
    | cons a M ih =>
      intro hM
      have h1 := ih (fun d hd => hM d (by simp [hd]))
      have h2 := hM a (by simp)
      have e : tot (a :: M) = (a.length + 2) + tot M := by simp [tot]
      rw [e, List.length_cons]; omega
  refine ⟨⟨fun d hd x hxd => ?_, fun x hxc => ?_, by have := ht L hL; omega, by omega, fun d hd => by have := hL d hd; omega, by omega⟩, by omega, by omega, hL, r0, h1, hx, hy⟩
  · have := hx d hd x hxd; omega
  · have := hy x hxc; omega
/-- How often another literal stands that isn't forced the other way round. -/
def openN (F : List Int) : Int → List Int → Nat
  | _, [] => 0
  | f, a :: t => if F.contains (-a) = false ∧ a ≠ f then 1 + openN F a t else openN F f t
theorem openN_pos {F : List Int} {f z : Int} : ∀ (t : List Int), z ∈ t → z ≠ f → -z ∉ F → 1 ≤ openN F f t
  | [], h, _, _ => by simp at h
  | a :: t, h, hz, hn => by
    unfold openN
    split
    · omega
    · rename_i hc
      rcases List.mem_cons.1 h with e | e
      · subst e; exact absurd ⟨by simp [hn], hz⟩ hc
      · exact openN_pos t e hz hn
theorem openN_two {F : List Int} {y z : Int} (hyz : y ≠ z) (hy : -y ∉ F) (hz : -z ∉ F) : ∀ (t : List Int) (f : Int), y ∈ t → z ∈ t → (∀ a ∈ t, a ≠ f) → 2 ≤ openN F f t
  | [], _, h, _, _ => by simp at h
  | a :: t, f, h1, h2, hf => by
    unfold openN
    split
    · rename_i hc
      have : 1 ≤ openN F a t := by
        rcases List.mem_cons.1 h1 with e1 | e1
        · rcases List.mem_cons.1 h2 with e2 | e2
          · exact absurd (e1.trans e2.symm) hyz
          · exact openN_pos t e2 (fun e => hyz (e1.trans e.symm)) hz
        · by_cases e : y = a
          · rcases List.mem_cons.1 h2 with e2 | e2
            · exact absurd (e.trans e2.symm) hyz
            · exact openN_pos t e2 (fun e3 => hyz (e.trans e3.symm)) hz
          · exact openN_pos t e1 e hy
      omega
    · rename_i hc
      have ha : F.contains (-a) = true := by
        cases hx : F.contains (-a) with
        | true => rfl
        | false => exact absurd ⟨hx, hf a (by simp)⟩ hc
      have ha' : -a ∈ F := by simpa using ha
      have g1 : y ∈ t := by
        rcases List.mem_cons.1 h1 with e | e
        · subst e; exact absurd ha' hy
        · exact e
      have g2 : z ∈ t := by
        rcases List.mem_cons.1 h2 with e | e
        · subst e; exact absurd ha' hz
        · exact e
      exact openN_two hyz hy hz t f g1 g2 (fun b hb => hf b (by simp [hb]))
/-- What is forced is closed. -/
theorem closed_closeL {L : List (List Int)} {A : List Int} (h : clashB L A = false) : Closed L A (closeL L A) := by
  have hno : ¬ Clash L A := fun hc => by rw [(clashB_iff L A).2 hc] at h; cases h
  have hm := closeL_mem h
  refine ⟨fun z hz => (hm z).1 hz, fun z hz => (hm z).2 (.given z hz), fun z hz hn => hno (.inl ⟨z, (hm z).1 hz, (hm _).1 hn⟩), fun c hc => ?_⟩
  apply Classical.byContradiction
  intro hcon
  rw [not_or] at hcon
  obtain ⟨h1, h2⟩ := hcon
  by_cases hall : ∀ y ∈ c, Forced L A (-y)
  · exact hno (.inr ⟨c, hc, hall⟩)
  · simp only [Classical.not_forall] at hall
    obtain ⟨y, hy, hyn⟩ := hall
    apply h1
    refine ⟨y, hy, (hm y).2 (.unit c y hc hy fun z hz hne => ?_)⟩
    apply Classical.byContradiction
    intro hzn
    exact h2 ⟨y, z, hy, hz, fun e => hne e.symm, fun hx => hyn ((hm _).1 hx), fun hx => hzn ((hm _).1 hx)⟩
theorem forced_scan {L : List (List Int)} {A : List Int} (h : clashB L A = false) {u : List Int} (hu : u ∈ L) (hx : ∀ x ∈ u, x ≠ 0) : u.any (closeL L A).contains = true ∨ 2 ≤ openN (closeL L A) 0 u := by
  rcases (closed_closeL h).each u hu with ⟨y, hy, hF⟩ | ⟨y, z, hy, hz, hyz, ny, nz⟩
  · left
    rw [List.any_eq_true]
    exact ⟨y, hy, by simpa using hF⟩
  · exact .inr (openN_two hyz ny nz u 0 hy hz hx)
set_option maxHeartbeats 8000000 in
set_option maxRecDepth 100000 in
theorem forced_in (LA AA : Option Addr) (k k' : Nat) (n : Int) (L : List (List Int)) (c : List Int) (w : World) (hL : RCk w w.heap.size LA L) (hR : RI w w.heap.size AA c) (hm : mayF n L c = true) :
    Calls Try.prog 7 #[.int .i64 n, .slice LA L.length k, .slice AA c.length k'] w (RetV w (.bool true)) := by
  obtain ⟨hM, l1, l2, l3, n0, n1, lx, cx⟩ := may_parts hm
  have C1 := shown_any w
  have C2 : Hid (∀ wx, Below w.heap.size w wx → Calls Try.prog 11 #[.int .i64 n, .slice LA L.length k, .slice AA c.length k'] wx (RetV wx (.bool true))) := Lib.hid fun wx hx => by
    have := may_any LA AA k k' n L c wx (hL.nx hx).rc (hR.nx hx) (by unfold maxLen; omega) (by unfold maxLen; omega)
    rwa [hm] at this
  have C3 : Hid (∀ wx, Below w.heap.size w wx → Calls Try.prog 12 #[.int .i64 n, .slice LA L.length k, .slice AA c.length k'] wx (RetIB wx (closeL L c) (clashB L c))) := Lib.hid fun wx hx => Close_any LA AA k k' n L c wx (hL.nx hx) (hR.nx hx) hM
  have HL := Lib.hid hL
  have HX := Lib.hid lx
  have H3 := Lib.hid l3
  clear hL hR hm hM lx cx l3
  go_enter Try.func7, Try.ntmps7
  go_wp2_with fail
  refine C1.mono ?_; rintro e w1 ⟨rfl, hb1⟩
  have c2 := C2.out w1 hb1
  have HB1 := Lib.hid hb1
  clear C1 C2 hb1
  go_wp2_with fail
  refine c2.mono ?_; rintro e w2 ⟨rfl, hb2⟩
  have hB2 := bnx HB1.out hb2
  have c3 := C3.out w2 hB2
  have HB2 := Lib.hid hB2
  clear c2 C3 hb2 HB1 hB2
  go_wp2_with fail
  refine c3.mono ?_; rintro e w3 ⟨v, rfl, hown, hb3⟩
  have hB3 := bnx HB2.out hb3
  obtain ⟨Ax, kx, rfl, hrx, _, hxk, hkm⟩ := hown.val
  have HB3 := Lib.hid hB3
  have HRX := Lib.hid hrx
  clear c3 HB2 hb3 hown hrx
  cases hcl : clashB L c
  · have HS := Lib.hid (fun u hu hx => forced_scan (A := c) hcl (u := u) hu hx)
    have hxm : (closeL L c).length ≤ maxLen := by omega
    have HXM := Lib.hid hxm
    clear hcl hxm hxk hkm
    generalize closeL L c = F at *
    go_wp2
    go_loopg [10] L.length (fun g s10 wr => ∃ j : Nat, j + g = L.length ∧ s10 = .int .i64 j ∧ w3 = wr)
    case atStart => exact ⟨0, by omega, rfl, rfl⟩
    case round =>
      obtain ⟨j, hj, rfl, rfl⟩ := hrel
      cases gk with
      | zero =>
        have q1 : ¬ ((j : Int) < L.length) := by omega
        have q2 : ¬ (j < L.length) := by omega
        go_wp2
        go_ret
        exact ⟨rfl, HB3.out⟩
      | succ g =>
        have hjl : j < L.length := by omega
        obtain ⟨a1, A1, k1, rfl, hab, hc1, r1, m1, m2⟩ := (HL.out.nx HB3.out) j hjl
        have hsc := HS.out _ (getD_memC L j hjl) (fun x hx => (HX.out _ (getD_memC L j hjl) x hx).1)
        have hux := HX.out _ (getD_memC L j hjl)
        have hul := H3.out _ (getD_memC L j hjl)
        generalize L.getD j [] = u at *
        have hjl' : (j : Int) < L.length := by omega
        obtain ⟨IS, hIS⟩ : ∃ b, u.any F.contains = b := ⟨_, rfl⟩
        obtain ⟨OP, hOP⟩ : ∃ b, openN F 0 u = b := ⟨_, rfl⟩
        rw [hIS, hOP] at hsc
        have HSC := Lib.hid hsc
        have HI : Hid ((false || (u.drop 0).any F.contains) = IS) := Lib.hid (by simpa using hIS)
        have HO : Hid (0 + openN F 0 (u.drop 0) = OP) := Lib.hid (by simpa using hOP)
        have HR1 := Lib.hid r1
        have HUX := Lib.hid hux
        clear hsc hIS hOP r1 hux
        go_wp2
        go_loopg [11, 12, 13, 14] u.length (fun g2 s11 s12 s13 s14 wr => ∃ (i op : Nat) (fi : Int) (is : Bool), i + g2 = u.length ∧ op ≤ i ∧ s14 = .int .i64 i ∧ s11 = .int .i64 op ∧ s12 = .int .i64 fi ∧ s13 = .bool is ∧ Hid ((is || (u.drop i).any F.contains) = IS) ∧ Hid (op + openN F fi (u.drop i) = OP) ∧ w3 = wr)
        case atStart => exact ⟨0, 0, 0, false, by omega, by omega, rfl, rfl, rfl, rfl, HI, HO, rfl⟩
        case round =>
          obtain ⟨i, op, fi, is, hi, hop, rfl, rfl, rfl, rfl, HI2, HO2, rfl⟩ := hrel
          clear HI HO
          cases gk with
          | zero =>
            obtain rfl : i = u.length := by omega
            have q1 : ¬ ((u.length : Int) < u.length) := by omega
            have q2 : ¬ (u.length < u.length) := by omega
            have hfin : is = true ∨ (is = false ∧ 2 ≤ op) := by
              have h1 := HI2.out
              have h2 := HO2.out
              rw [List.drop_length] at h1 h2
              simp [openN] at h1 h2
              rcases HSC.out with h | h
              · left; rw [h1, h]
              · cases is
                · right; exact ⟨rfl, by omega⟩
                · left; rfl
            clear HI2 HO2
            rcases hfin with rfl | ⟨rfl, hop2⟩
            · go_wp2
              go_roundg g
              case measure => omega
              case rel => exact ⟨j + 1, by omega, by go_num, rfl⟩
            · have d1 : decide ((op : Int) < 2) = false := decide_eq_false (by omega)
              have d2 : decide (op < 2) = false := decide_eq_false (by omega)
              go_wp2
              go_roundg g
              case measure => omega
              case rel => exact ⟨j + 1, by omega, by go_num, rfl⟩
          | succ g2 =>
            have hil : i < u.length := by omega
            obtain ⟨a2, rfl, hab2, hc2⟩ := HR1.out i hil
            obtain ⟨x0, x1, x2⟩ := HUX.out _ (getD_mem u i hil)
            have h1 := HI2.out
            have h2 := HO2.out
            rw [dropI u i hil] at h1 h2
            rw [List.any_cons] at h1
            rw [openN] at h2
            generalize u.getD i 0 = x at *
            have hil' : (i : Int) < u.length := by omega
            have D1 := In_any Ax kx F x w3 HRX.out HXM.out
            have D2 := In_any Ax kx F (-x) w3 HRX.out HXM.out
            clear HI2 HO2
            by_cases hb2 : F.contains (-x) = false ∧ x ≠ fi
            · rw [if_pos hb2] at h2
              have d3 : (x != fi) = true := by simp [hb2.2]
              rw [hb2.1] at D2
              have HN2 : Hid (op + 1 + openN F x (u.drop (i + 1)) = OP) := Lib.hid (by omega)
              clear h2 hb2
              cases is
              · cases hb1 : F.contains x
                all_goals
                  rw [hb1] at D1 h1
                  have HN1 := Lib.hid h1
                  clear hb1 h1
                  go_wp2_with fail
                  refine D1.mono ?_; rintro e w4 ⟨rfl, rfl⟩
                  go_wp2_with fail
                  refine D2.mono ?_; rintro e w4 ⟨rfl, rfl⟩
                  go_wp2
                  go_roundg g2
                  case measure => omega
                  case rel => exact ⟨i + 1, op + 1, x, _, by omega, by omega, by go_num, by go_num, rfl, rfl, Lib.hid (by simpa using HN1.out), HN2, rfl⟩
              · have HN1 : Hid ((true || (u.drop (i + 1)).any F.contains) = IS) := Lib.hid (by simpa using h1)
                clear h1
                go_wp2_with fail
                refine D2.mono ?_; rintro e w4 ⟨rfl, rfl⟩
                go_wp2
                go_roundg g2
                case measure => omega
                case rel => exact ⟨i + 1, op + 1, x, _, by omega, by omega, by go_num, by go_num, rfl, rfl, HN1, HN2, rfl⟩
            · rw [if_neg hb2] at h2
              have HN2 := Lib.hid h2
              have hd : F.contains (-x) = true ∨ (F.contains (-x) = false ∧ (x != fi) = false) := by
                cases hx : F.contains (-x)
                · right
                  refine ⟨rfl, ?_⟩
                  cases hy : (x != fi)
                  · rfl
                  · exact absurd ⟨hx, by simpa using hy⟩ hb2
                · exact .inl rfl
              clear h2 hb2
              rcases hd with hd | ⟨hd, d3⟩
              all_goals
                rw [hd] at D2
                clear hd
                cases is
                · cases hb1 : F.contains x
                  all_goals
                    rw [hb1] at D1 h1
                    have HN1 := Lib.hid h1
                    clear hb1 h1
                    go_wp2_with fail
                    refine D1.mono ?_; rintro e w4 ⟨rfl, rfl⟩
                    go_wp2_with fail
                    refine D2.mono ?_; rintro e w4 ⟨rfl, rfl⟩
                    go_wp2
                    go_roundg g2
                    case measure => omega
                    case rel => exact ⟨i + 1, op, fi, _, by omega, by omega, by go_num, rfl, rfl, rfl, Lib.hid (by simpa using HN1.out), HN2, rfl⟩
                · have HN1 : Hid ((true || (u.drop (i + 1)).any F.contains) = IS) := Lib.hid (by simpa using h1)
                  clear h1
                  go_wp2_with fail
                  refine D2.mono ?_; rintro e w4 ⟨rfl, rfl⟩
                  go_wp2
                  go_roundg g2
                  case measure => omega
                  case rel => exact ⟨i + 1, op, fi, _, by omega, by omega, by go_num, rfl, rfl, rfl, HN1, HN2, rfl⟩
  · have hx0 := closeL_clash hcl
    rw [hx0]
    clear hcl hxk hkm HRX
    go_wp2
    go_ret
    exact ⟨rfl, HB3.out⟩
end Go.Proofs.Ytlebagdildpkmaa
