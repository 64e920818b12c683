/-
  The reference's Check, walked.
  The reference's left.
  The reference's Close.
  The reference's Close, walked.
  The reference's Refutes.
-/
import Derived.Test.YtahedhpffjgimaaDoorProg
import Derived.WalkKit
import Derived.WalkSpells
import Derived.WalkLawsBesides
import Derived.Lib.Hide
import Derived.BigQuiet
import Derived.Deep.QuietTactic
import Derived.Deep.RegionWith
import Derived.Deep.RegionHeld3
import Derived.Test.YtahedhpffjgimaaDoorQ25
import Derived.Test.YtahedhpffjgimaaDoorQ11
import Derived.Test.YtahedhpffjgimaaDoorQ19
import Derived.IntWalk
import Derived.Laws.AppendOwnNone
import Derived.Test.YtahedhpffjgimaaDoorQ15
import Derived.Deep.LoopGhost
import Derived.Test.YtahedhpffjgimaaDoorQ16
import Derived.Deep.Cut
set_option linter.unusedVariables false
/- The reference's Check, walked. -/
namespace Go.Proofs.YtahedhpffjgimaaDoor
open Go.RowKit
open Go.Lib Go.Sort
theorem stepKn {z w : World} {ops : Array Oper} {o : Oper} {a : Act} {K : Act → World → Prop} {Q : Exit → Act → World → Prop} {E : Prop} (hgd : o.guard = none) (s x : Operand)
    (ho : o.op = .call { callee := .builtin .append, args := #[s, x], argTypes := #[22, 22] })
    (v : Value) (L : List (List Int)) (hs : a.eval s = v) (hown : OwnK w z.heap.size v L) (hx : a.eval x = .slice none 0 0)
    (h : K (a.put o.dst v) w) : if Region.wanted o (yielded ops a.tmps) = true then Oper.wp Tryd.prog o a w K Q else E := by
  have hw : Region.wanted o (yielded ops a.tmps) = true := by simp [Region.wanted, hgd]
  rw [if_pos hw]
  obtain ⟨i0, hi0, hz0, hz1, hz2⟩ := info_parts cls_info
  obtain ⟨vs, how, hl, hone, hxs⟩ := hown
  have hrun := run_append_owned_none (P := Tryd.prog) (w := w) z.heap.size 22 o.type 26 i0 1 Tryd.underlying22 hi0 v L.length vs how
  unfold Oper.wp
  simp [execOp, ho, resolve, invoke, builtin, hs, hx, hrun, Result.andThen]
  exact h
def L60 (c : List Int) : Prop := c.length ≤ 20 ∧ ∀ y ∈ c, y ≠ 0 ∧ -60 ≤ y ∧ y ≤ 60
theorem L60.lits {c : List Int} (h : L60 c) : Lits c ∧ c.length ≤ 1000 := ⟨fun y hy => by have := h.2 y hy; omega, by have := h.1; omega⟩
theorem forced60 {L : List (List Int)} {c : List Int} (hL : ∀ d ∈ L, L60 d) (hc : L60 c) {x : Int} (h : Forced L (negC c) x) : x ≠ 0 ∧ -60 ≤ x ∧ x ≤ 60 := by
  cases h with
  | given _ h =>
    simp only [negC, List.mem_map] at h
    obtain ⟨y, hy, rfl⟩ := h
    have := hc.2 y hy
    omega
  | unit c _ hc hx _ => exact (hL c hc).2 x hx
/-- The clauses that stand in the loop: a slice, whose clauses are small. -/
structure Rw (w : World) (v : Value) (L : List (List Int)) (n : Nat) : Prop where
  at_ : ∃ (A : Option Addr) (c : Nat), v = .slice A L.length c ∧ RCk w w.heap.size A L ∧ L.length ≤ c ∧ (A = none → c = 0)
  few : L.length ≤ n
  small : ∀ c ∈ L, L60 c
theorem Rw.nx {w w' : World} {v : Value} {L : List (List Int)} {n : Nat} (h : Rw w v L n) (hb : Below w.heap.size w w') : Rw w' v L n := by
  obtain ⟨⟨A, c, e, hr, h1, h2⟩, h3, h4⟩ := h
  exact ⟨⟨A, c, e, hr.nx hb, h1, h2⟩, h3, h4⟩
theorem Rw.own {w : World} {base : Nat} {v : Value} {L : List (List Int)} {n : Nat} (h : OwnK w base v L) (hb : base ≤ w.heap.size) (h1 : L.length ≤ n) (h2 : ∀ c ∈ L, L60 c) : Rw w v L n := by
  obtain ⟨A, c, e, hr, a1, _, a2⟩ := h.val2 hb
  exact ⟨⟨A, c, e, hr, a1, a2⟩, h1, h2⟩
theorem Rw.gd {w : World} {v : Value} {L : List (List Int)} {n : Nat} (h : Rw w v L n) (hn : n ≤ 1000) : Gd L 1000 := ⟨by have := h.few; omega, fun c hc => (h.small c hc).lits⟩
theorem del_yes {L : List (List Int)} {c : List Int} {i j : Nat} {t : List Stp} (hi : i < L.length) (h : (setsOf L).getD i [] = sortF c) (hf : ∀ a, a < i → (setsOf L).getD a [] ≠ sortF c) :
    checkQ (setsOf L) j ((true, c) :: t) = checkQ (setsOf (L.take i ++ L.drop (i + 1))) (j + 1) t := by
  have hl : i < (setsOf L).length := by rw [setsOf_len]; exact hi
  have hm : (setsOf L).contains (sortF c) = true := by
    rw [List.contains_iff_mem, ← h]
    simp [List.getD_eq_getElem?_getD, hl]
  rw [checkQ_del hm, erase_first hl h hf, setsOf_cut]
theorem del_no {L : List (List Int)} {c : List Int} {j : Nat} {t : List Stp} (hf : ∀ a, a < L.length → (setsOf L).getD a [] ≠ sortF c) : checkQ (setsOf L) j ((true, c) :: t) = (j, 4) := by
  refine checkQ_none ?_
  rw [Bool.eq_false_iff]
  intro hm
  rw [List.contains_iff_mem] at hm
  obtain ⟨a, ha, e⟩ := List.mem_iff_getElem.1 hm
  exact hf a (by rwa [setsOf_len] at ha) (by simp [List.getD_eq_getElem?_getD, ha, e])
theorem add_more {L : List (List Int)} {c : List Int} {j : Nat} {t : List Stp} (h : clashB L (negC c) = true) (hc : c ≠ []) : checkQ (setsOf L) j ((false, c) :: t) = checkQ (setsOf (L ++ [c])) (j + 1) t := by
  rw [checkQ_add (by rw [clashB_sets]; exact h) hc, setsOf_app]
theorem add_bad {L : List (List Int)} {c : List Int} {j : Nat} {t : List Stp} (h : clashB L (negC c) = false) : checkQ (setsOf L) j ((false, c) :: t) = (j, 6) := checkQ_bad (by rw [clashB_sets]; exact h)
theorem add_end {L : List (List Int)} {j : Nat} {t : List Stp} (h : clashB L (negC []) = true) : checkQ (setsOf L) j ((false, []) :: t) = (j, 0) := checkQ_end (by rw [clashB_sets]; exact h)
theorem cut_small {L : List (List Int)} (h : ∀ c ∈ L, L60 c) (i : Nat) : ∀ c ∈ L.take i ++ L.drop (i + 1), L60 c := fun c hc => h c ((List.mem_append.1 hc).elim List.mem_of_mem_take List.mem_of_mem_drop)
end Go.Proofs.YtahedhpffjgimaaDoor
/- The reference's left. -/
namespace Go.Proofs.YtahedhpffjgimaaDoor
open Go.RowKit
/-- Which literal is left, and how many. -/
def lf (F : List Int) : Int → List Int → Int × Int
  | only, [] => if only = 0 then (0, 0) else (only, 1)
  | only, x :: t => if F.contains x = true then (0, 2) else if F.contains (-x) = true ∨ x = only then lf F only t else if only ≠ 0 then (0, 2) else lf F x t
theorem lf_spec {F u : List Int} (hu : Lits u) : ∀ (m k : Nat) (only : Int), k + m = u.length → Seen F u k only →
    ((lf F only (u.drop k)).2 = 0 ∧ (lf F only (u.drop k)).1 = 0 ∧ ∀ y ∈ u, -y ∈ F) ∨
    ((lf F only (u.drop k)).2 = 1 ∧ (lf F only (u.drop k)).1 ∈ u ∧ (lf F only (u.drop k)).1 ∉ F ∧ -(lf F only (u.drop k)).1 ∉ F ∧ ∀ y ∈ u, y = (lf F only (u.drop k)).1 ∨ -y ∈ F) ∨
    ((lf F only (u.drop k)).2 = 2 ∧ (lf F only (u.drop k)).1 = 0 ∧ ((∃ y ∈ u, y ∈ F) ∨ ∃ y z, y ∈ u ∧ z ∈ u ∧ y ≠ z ∧ -y ∉ F ∧ -z ∉ F))
  | 0, k, only, hk, hs => by
    have e : k = u.length := by omega
    subst e
    rw [List.drop_length, lf]
    by_cases h0 : only = 0
    · rw [if_pos h0]; subst h0
      exact .inl ⟨rfl, rfl, hs.none hu⟩
    · rw [if_neg h0]
      obtain ⟨o1, o2, o3⟩ := hs.2.resolve_left h0
      exact .inr (.inl ⟨rfl, o1, o2, o3, fun y hy => hs.1 y (by rw [List.take_length]; exact hy)⟩)
  | m + 1, k, only, hk, hs => by
    have hkl : k < u.length := by omega
    have hx := getD_mem u k hkl
    rw [show u.drop k = u.getD k 0 :: u.drop (k + 1) by rw [List.drop_eq_getElem_cons hkl]; simp [List.getD, hkl], lf]
    by_cases h1 : F.contains (u.getD k 0) = true
    · rw [if_pos h1]
      exact .inr (.inr ⟨rfl, rfl, .inl ⟨_, hx, by simpa using h1⟩⟩)
    · rw [if_neg h1]
      have h1' : u.getD k 0 ∉ F := by simpa using h1
      by_cases h2 : F.contains (-(u.getD k 0)) = true ∨ u.getD k 0 = only
      · rw [if_pos h2]
        refine lf_spec hu m (k + 1) only (by omega) (hs.next hkl ?_)
        rcases h2 with h | h
        · exact .inr (by simpa using h)
        · exact .inl h
      · rw [if_neg h2]
        have h2' : -(u.getD k 0) ∉ F := by
          intro hm; exact h2 (.inl (by simpa using hm))
        by_cases h3 : only ≠ 0
        · rw [if_pos h3]
          obtain ⟨o1, o2, o3⟩ := hs.2.resolve_left h3
          exact .inr (.inr ⟨rfl, rfl, .inr ⟨only, _, o1, hx, fun e => h2 (.inr e.symm), o3, h2'⟩⟩)
        · rw [if_neg h3]
          have h30 : only = 0 := by simpa using h3
          subst h30
          exact lf_spec hu m (k + 1) _ (by omega) (hs.set hu hkl h1' h2')
set_option maxHeartbeats 2000000 in
set_option maxRecDepth 100000 in
theorem left_any (FA CA : Option Addr) (kf kc : Nat) (F c : List Int) (w : World) (hF : RI w w.heap.size FA F) (hC : RI w w.heap.size CA c) (hx : Lits c) (hf : F.length ≤ maxLen) (hc : c.length ≤ 1000000) :
    Calls Tryd.prog 90 #[.slice FA F.length kf, .slice CA c.length kc] w (RetS w (.tuple #[.int .i64 (lf F 0 c).1, .int .i64 (lf F 0 c).2])) := by
  obtain ⟨a, b, hab⟩ : ∃ a b, lf F 0 c = (a, b) := ⟨_, _, rfl⟩
  rw [hab]
  have H0 : Hid (lf F 0 (c.drop 0) = (a, b)) := Lib.hid (by simpa using hab)
  have C : Hid (∀ x, Calls Tryd.prog 89 #[.slice FA F.length kf, .int .i64 x] w (RetS w (.bool (F.contains x)))) := Lib.hid fun x => In_any FA kf F x w hF hf
  have HC := Lib.hid hC
  have HX := Lib.hid hx
  clear hF hC hx hf hab
  go_enter Tryd.func90, Tryd.ntmps90
  go_wp2
  go_loopg [6, 7] c.length (fun g s6 s7 wr => ∃ (i : Nat) (only : Int), i + g = c.length ∧ s7 = .int .i64 i ∧ s6 = .int .i64 only ∧ Hid (lf F only (c.drop i) = (a, b)) ∧ w = wr)
  case atStart => exact ⟨0, 0, by omega, rfl, rfl, H0, rfl⟩
  case round =>
    obtain ⟨i, only, hi, rfl, rfl, HI, rfl⟩ := hrel
    clear H0
    cases gk with
    | zero =>
      have q1 : ¬ ((i : Int) < c.length) := by omega
      have q2 : ¬ (i < c.length) := by omega
      have e := HI.out
      rw [List.drop_of_length_le (by omega), lf] at e
      by_cases h0 : only = 0
      · rw [if_pos h0] at e
        simp only [Prod.mk.injEq] at e
        obtain ⟨rfl, rfl⟩ := e
        subst h0
        clear HI
        go_wp2
        go_ret2
        exact ⟨rfl, rfl⟩
      · rw [if_neg h0] at e
        simp only [Prod.mk.injEq] at e
        obtain ⟨rfl, rfl⟩ := e
        have d : (only == 0) = false := by rw [beq_eq_false_iff_ne]; exact h0
        clear HI
        go_wp2
        go_ret2
        exact ⟨rfl, rfl⟩
    | succ g =>
      have hil : i < c.length := by omega
      have hil' : (i : Int) < c.length := by omega
      obtain ⟨ad, rfl, hab, hcz⟩ := HC.out i hil
      obtain ⟨x0, x1, x2⟩ := HX.out _ (getD_mem c i hil)
      have e := HI.out
      rw [dropI c i hil, lf] at e
      clear HI
      generalize c.getD i 0 = x at *
      have c1 := C.out x
      have c2 := C.out (-x)
      by_cases h1 : F.contains x = true
      · rw [if_pos h1] at e
        simp only [Prod.mk.injEq] at e
        obtain ⟨rfl, rfl⟩ := e
        rw [h1] at c1
        clear h1
        generalize F.contains (-x) = b2 at *
        go_wp2_with fail
        refine c1.mono ?_; rintro e w1 ⟨rfl, rfl⟩
        go_wp2_with fail
        refine c2.mono ?_; rintro e w1 ⟨rfl, rfl⟩
        clear c1 c2
        go_wp2
        go_ret2
        exact ⟨rfl, rfl⟩
      · rw [if_neg h1] at e
        have h1f : F.contains x = false := by simpa using h1
        rw [h1f] at c1
        by_cases h2 : F.contains (-x) = true ∨ x = only
        · rw [if_pos h2] at e
          have HE := Lib.hid e
          have hd : F.contains (-x) = true ∨ (F.contains (-x) = false ∧ (x == only) = true) := by
            cases hx : F.contains (-x)
            · right; refine ⟨rfl, ?_⟩
              rcases h2 with h | h
              · rw [hx] at h; cases h
              · simp [h]
            · exact .inl rfl
          clear e h1 h1f h2
          rcases hd with hd | ⟨hd, d2⟩
          all_goals
            rw [hd] at c2
            clear hd
            go_wp2_with fail
            refine c1.mono ?_; rintro e w1 ⟨rfl, rfl⟩
            go_wp2_with fail
            refine c2.mono ?_; rintro e w1 ⟨rfl, rfl⟩
            clear c1 c2
            go_wp2
            go_roundg g
            case measure => omega
            case rel => exact ⟨i + 1, only, by omega, by go_num, rfl, HE, rfl⟩
        · rw [if_neg h2] at e
          have hb2 : F.contains (-x) = false := by
            cases hx : F.contains (-x)
            · rfl
            · exact absurd (.inl hx) h2
          have d2 : (x == only) = false := by rw [beq_eq_false_iff_ne]; exact fun e => h2 (.inr e)
          rw [hb2] at c2
          clear h1 h1f h2 hb2
          by_cases h3 : only ≠ 0
          · rw [if_pos h3] at e
            simp only [Prod.mk.injEq] at e
            obtain ⟨rfl, rfl⟩ := e
            have d3 : (only != 0) = true := by simp [h3]
            clear h3
            go_wp2_with fail
            refine c1.mono ?_; rintro e w1 ⟨rfl, rfl⟩
            go_wp2_with fail
            refine c2.mono ?_; rintro e w1 ⟨rfl, rfl⟩
            clear c1 c2
            go_wp2
            go_ret2
            exact ⟨rfl, rfl⟩
          · rw [if_neg h3] at e
            have HE := Lib.hid e
            obtain rfl : only = 0 := by simpa using h3
            clear e h3
            go_wp2_with fail
            refine c1.mono ?_; rintro e w1 ⟨rfl, rfl⟩
            go_wp2_with fail
            refine c2.mono ?_; rintro e w1 ⟨rfl, rfl⟩
            clear c1 c2
            go_wp2
            go_roundg g
            case measure => omega
            case rel => exact ⟨i + 1, x, by omega, by go_num, rfl, HE, rfl⟩
end Go.Proofs.YtahedhpffjgimaaDoor
/- The reference's Close. -/
namespace Go.Proofs.YtahedhpffjgimaaDoor
open Go.RowKit
/-- What is forced so far. -/
structure Sofar (L : List (List Int)) (A F : List Int) : Prop where
  lt : F.Pairwise ltP
  sound : ∀ z ∈ F, Forced L A z
  has : ∀ z ∈ A, z ∈ F
  cons : ∀ z ∈ F, -z ∉ F
theorem Sofar.nodup {L : List (List Int)} {A F : List Int} (h : Sofar L A F) : F.Nodup := h.lt.imp (fun h e => by subst e; exact ltP_irrefl _ h)
theorem Sofar.lits {L : List (List Int)} {A F : List Int} (h : Sofar L A F) (hM : May L A) : Lits F := fun z hz => (h.sound z hz).lit hM.lits hM.alit
theorem Sofar.len {L : List (List Int)} {A F : List Int} (h : Sofar L A F) (hM : May L A) (hx : ∀ z, Forced L A z → z ≠ 0 ∧ -60 ≤ z ∧ z ≤ 60) : F.length ≤ 121 :=
  nodup_le 121 F (-60) h.nodup (fun z hz => by have := hx z (h.sound z hz); omega)
theorem Sofar.next {L : List (List Int)} {A F : List Int} (h : Sofar L A F) {x : Int} (x0 : x ≠ 0) (hf : Forced L A x) (h1 : x ∉ F) (h2 : -x ∉ F) : Sofar L A (sortF (F ++ [x])) := by
  refine ⟨sortF_lt _, fun z hz => ?_, fun z hz => ?_, fun z hz hn => ?_⟩
  · rw [sortF_mem] at hz
    rcases List.mem_append.1 hz with e | e
    · exact h.sound z e
    · rw [List.mem_singleton.1 e]; exact hf
  · rw [sortF_mem]; simp [h.has z hz]
  · rw [sortF_mem] at hz hn
    rcases List.mem_append.1 hz with e | e <;> rcases List.mem_append.1 hn with e' | e'
    · exact h.cons z e e'
    · have := List.mem_singleton.1 e'
      exact h2 (by rw [← this]; simpa using e)
    · have := List.mem_singleton.1 e
      rw [this] at e'; exact h2 e'
    · have a := List.mem_singleton.1 e
      have b := List.mem_singleton.1 e'
      omega
theorem Sofar.next_len {L : List (List Int)} {A F : List Int} (h : Sofar L A F) {x : Int} (h1 : x ∉ F) : (sortF (F ++ [x])).length = F.length + 1 := by
  have h2 := sortF_len (F ++ [x])
  have h3 : F.length + 1 ≤ (sortF (F ++ [x])).length := by
    have hn : (F ++ [x]).Nodup := by
      rw [List.nodup_append]
      exact ⟨h.nodup, by simp, by intro a ha b hb; simp at hb; subst hb; intro e; exact h1 (e ▸ ha)⟩
    have hs : ∀ (a b : List Int), a.Nodup → (∀ y ∈ a, y ∈ b) → a.length ≤ b.length := by
      intro a
      induction a with
      | nil => simp
      | cons y a ih =>
        intro b ha hb
        rw [List.nodup_cons] at ha
        have hy := hb y (by simp)
        have := ih (b.erase y) ha.2 (fun z hz => by
          have hne : z ≠ y := fun e => ha.1 (e ▸ hz)
          exact (List.mem_erase_of_ne hne).2 (hb z (by simp [hz])))
        rw [List.length_erase_of_mem hy] at this
        have hp : 0 < b.length := List.length_pos_of_mem hy
        simp only [List.length_cons]; omega
    have := hs (F ++ [x]) (sortF (F ++ [x])) hn (fun y hy => (sortF_mem _ y).2 hy)
    simpa using this
  simp at h2
  omega
/-- What is known of the first j clauses, and of the literal that is to be added. -/
def Known (L : List (List Int)) (F : List Int) (j : Nat) (more : Int) : Prop :=
  (more = 0 ∧ ∀ c ∈ L.take j, (∃ y ∈ c, y ∈ F) ∨ ∃ y z, y ∈ c ∧ z ∈ c ∧ y ≠ z ∧ -y ∉ F ∧ -z ∉ F) ∨
  (more ≠ 0 ∧ more ∉ F ∧ -more ∉ F ∧ ∃ c ∈ L, more ∈ c ∧ ∀ y ∈ c, y = more ∨ -y ∈ F)
theorem Known.first (L : List (List Int)) (F : List Int) : Known L F 0 0 := .inl ⟨rfl, by simp⟩
theorem Known.two {L : List (List Int)} {F : List Int} {j : Nat} {more : Int} (h : Known L F j more) (hj : j < L.length) (hc : (∃ y ∈ L.getD j [], y ∈ F) ∨ ∃ y z, y ∈ L.getD j [] ∧ z ∈ L.getD j [] ∧ y ≠ z ∧ -y ∉ F ∧ -z ∉ F) : Known L F (j + 1) more := by
  rcases h with ⟨h1, h2⟩ | h
  · refine .inl ⟨h1, ?_⟩
    rw [take_snocC L j hj]
    intro c hcm
    rcases List.mem_append.1 hcm with e | e
    · exact h2 c e
    · rw [List.mem_singleton.1 e]; exact hc
  · exact .inr h
theorem Known.one {L : List (List Int)} {F : List Int} {j : Nat} {more x : Int} (h : Known L F j more) (hj : j < L.length) (x0 : x ≠ 0) (h1 : x ∉ F) (h2 : -x ∉ F) (hx : x ∈ L.getD j []) (hy : ∀ y ∈ L.getD j [], y = x ∨ -y ∈ F) : Known L F (j + 1) x :=
  .inr ⟨x0, h1, h2, _, getD_memC L j hj, hx, hy⟩
theorem Known.closed {L : List (List Int)} {A F : List Int} (h : Known L F L.length 0) (hs : Sofar L A F) : Closed L A F := by
  refine ⟨hs.sound, hs.has, hs.cons, fun c hc => ?_⟩
  rcases h with ⟨_, h⟩ | ⟨h, _⟩
  · exact h c (by rw [List.take_length]; exact hc)
  · exact absurd rfl h
theorem Known.forced {L : List (List Int)} {A F : List Int} {j : Nat} {more : Int} (h : Known L F j more) (hm : more ≠ 0) (hs : Sofar L A F) : Forced L A more ∧ more ∉ F ∧ -more ∉ F := by
  rcases h with ⟨h, _⟩ | ⟨_, h1, h2, c, hc, hx, hy⟩
  · exact absurd h hm
  · exact ⟨.unit c more hc hx (fun y hyc hne => hs.sound _ ((hy y hyc).resolve_left hne)), h1, h2⟩
theorem sortF_id {F : List Int} (h : F.Pairwise ltP) : sortF F = F := sorted_uniq _ _ (sortF_lt _) h (sortF_mem F)
end Go.Proofs.YtahedhpffjgimaaDoor
/- The reference's Close, walked. -/
namespace Go.Proofs.YtahedhpffjgimaaDoor
open Go.RowKit
theorem ret_clash {w w' : World} {L : List (List Int)} {A : List Int} (h : Clash L A) (hb : Below w.heap.size w w') : RetIB w (closeL L A) (clashB L A) (.returned (.tuple #[.slice none 0 0, .bool true])) w' := by
  have hc := (clashB_iff L A).2 h
  rw [hc, closeL_clash hc]
  exact ⟨_, rfl, OwnI.nil _ _, hb⟩
set_option maxHeartbeats 3000000 in
set_option maxRecDepth 100000 in
theorem refClose_any (LA AA : Option Addr) (k k' : Nat) (n : Int) (L : List (List Int)) (A : List Int) (w : World) (hL : RCk w w.heap.size LA L) (hR : RI w w.heap.size AA A) (hM : May L A) (hl : L.length ≤ 1000) (hal : A.length ≤ 90000) (hx : ∀ z, Forced L A z → z ≠ 0 ∧ -60 ≤ z ∧ z ≤ 60) :
    Calls Tryd.prog 80 #[.int .i64 n, .slice LA L.length k, .slice AA A.length k'] w (RetIB w (closeL L A) (clashB L A)) := by
  have C1 := refSort_any AA k' A w hR hM.alit hal
  have HL := Lib.hid hL
  have HM := Lib.hid hM
  have HX := Lib.hid hx
  have hs0 : ∀ z ∈ sortF A, Forced L A z := fun z hz => .given z ((sortF_mem A z).1 hz)
  have HS0 := Lib.hid hs0
  clear hL hR hM hx hs0
  go_enter Tryd.func80, Tryd.ntmps80
  go_wp2_with fail
  refine C1.mono ?_; rintro e w1 ⟨v1, rfl, ho1, hb1⟩
  obtain ⟨A1, k1, rfl, hr1, _, h1k, h1m⟩ := ho1.val
  have hfl : (sortF A).length ≤ 90000 := by have := sortF_len A; omega
  have HO1 := Lib.hid ho1
  have HB1 := Lib.hid hb1
  have HR1 := Lib.hid hr1
  have HSO : Hid ((∀ y ∈ sortF A, -y ∉ sortF A) → Sofar L A (sortF A)) := Lib.hid fun h => ⟨sortF_lt _, HS0.out, fun z hz => (sortF_mem A z).2 hz, h⟩
  clear C1 ho1 hb1 hr1 h1k h1m
  generalize sortF A = F0 at *
  go_wp2
  go_loopg [9] F0.length (fun g s9 wr => ∃ i : Nat, i + g = F0.length ∧ s9 = .int .i64 i ∧ Hid (∀ y ∈ F0.take i, -y ∉ F0) ∧ w1 = wr)
  case atStart => exact ⟨0, by omega, rfl, Lib.hid (by simp), rfl⟩
  case round =>
    obtain ⟨i, hi, rfl, HI, rfl⟩ := hrel
    cases gk with
    | succ g =>
      have hil : i < F0.length := by omega
      have hil' : (i : Int) < F0.length := by omega
      have hm := getD_mem F0 i hil
      obtain ⟨x0, x1, x2⟩ := HX.out _ (HS0.out _ hm)
      obtain ⟨ad, rfl, hab, hcz⟩ := HR1.out i hil
      have htk := take_snocI F0 i hil
      have c2 := In_any (some ad) k1 F0 (-(F0.getD i 0)) w1 HR1.out (by unfold maxLen; omega)
      have HFO := Lib.hid (HS0.out _ hm)
      have HTK := Lib.hid htk
      clear hm htk
      generalize F0.getD i 0 = x at *
      by_cases hx : -x ∈ F0
      · rw [show F0.contains (-x) = true by simpa using hx] at c2
        have HCL : Hid (Clash L A) := Lib.hid (.inl ⟨x, HFO.out, HS0.out _ hx⟩)
        clear hx
        go_wp2_with fail
        refine c2.mono ?_; rintro e w2 ⟨rfl, rfl⟩
        clear c2
        go_wp2
        go_ret2
        exact ret_clash HCL.out HB1.out
      · rw [show F0.contains (-x) = false by simpa using hx] at c2
        have HNX := Lib.hid hx
        clear hx
        go_wp2_with fail
        refine c2.mono ?_; rintro e w2 ⟨rfl, rfl⟩
        clear c2
        go_wp2
        go_roundg g
        case measure => omega
        case rel =>
          refine ⟨i + 1, by omega, by go_num, Lib.hid ?_, rfl⟩
          rw [HTK.out]; intro y hy
          rcases List.mem_append.1 hy with e | e
          · exact HI.out y e
          · rw [List.mem_singleton.1 e]; exact HNX.out
    | zero =>
      have q1 : ¬ ((i : Int) < F0.length) := by omega
      have q2 : ¬ (i < F0.length) := by omega
      have hsf : Sofar L A F0 := HSO.out (fun y hy => HI.out y (by rw [List.take_of_length_le (by omega)]; exact hy))
      have hf121 := hsf.len HM.out HX.out
      have HSF := Lib.hid hsf
      clear hsf HI HSO
      go_wp2
      go_loopg [8] (122 - F0.length) (fun g s8 wr => ∃ (v : Value) (F : List Int), s8 = v ∧ F.length + g = 122 ∧ OwnI wr w.heap.size v F ∧ Below w.heap.size w wr ∧ Hid (Sofar L A F))
      case atStart => exact ⟨_, F0, rfl, by omega, HO1.out, HB1.out, HSF⟩
      case round =>
        obtain ⟨v, F, rfl, hFg, hO, hb, HS⟩ := hrel
        have hFl := HS.out.len HM.out HX.out
        obtain ⟨AF, kF, rfl, hrF, zF, _⟩ := hO.val
        have HO2 := Lib.hid hO
        have HB2 := Lib.hid hb
        have HRF := Lib.hid hrF
        have HZF := Lib.hid zF
        clear HO1 HB1 HR1 HSF hO hb hrF zF
        cases gk with
        | zero => omega
        | succ g =>
          generalize wr = wz at *
          go_wp2
          go_loopg [11, 12] L.length (fun g s11 s12 wr => ∃ (j : Nat) (more : Int), j + g = L.length ∧ s12 = .int .i64 j ∧ s11 = .int .i64 more ∧ Hid (Known L F j more) ∧ wz = wr)
          case atStart => exact ⟨0, 0, by omega, rfl, rfl, Lib.hid (Known.first L F), rfl⟩
          case round =>
            obtain ⟨j, more, hj, rfl, rfl, HK, rfl⟩ := hrel
            cases gk with
            | succ g2 =>
              have hjl : j < L.length := by omega
              have hjl' : (j : Int) < L.length := by omega
              obtain ⟨a1, A2, k2, rfl, hab, hc1, ru, m1, m2⟩ := (HL.out.nx HB2.out) j hjl
              have hmu := getD_memC L j hjl
              have hsp := lf_spec (F := F) (HM.out.lits _ hmu) (L.getD j []).length 0 0 (by omega) (Seen.first F _)
              rw [List.drop_zero] at hsp
              have c3 := left_any AF A2 kF k2 F (L.getD j []) wz HRF.out ru (HM.out.lits _ hmu) (by unfold maxLen; omega) (HM.out.lens _ hmu)
              obtain ⟨a, b, hab2⟩ : ∃ a b, lf F 0 (L.getD j []) = (a, b) := ⟨_, _, rfl⟩
              rw [hab2] at hsp c3
              simp only at hsp c3
              rcases hsp with ⟨rfl, rfl, hall⟩ | ⟨rfl, hxm, hx1, hx2, hall⟩ | ⟨rfl, rfl, htwo⟩
              · have HCL : Hid (Clash L A) := Lib.hid (.inr ⟨_, hmu, fun y hy => HS.out.sound _ (hall y hy)⟩)
                clear hall ru hab2 hmu
                generalize L.getD j [] = u at *
                go_wp2_with fail
                refine c3.mono ?_; rintro e w3 ⟨rfl, rfl⟩
                clear c3
                go_wp2
                go_ret2
                exact ret_clash HCL.out HB2.out
              · have hx0 := (HM.out.lits _ hmu _ hxm).1
                have HK2 := Lib.hid (HK.out.one hjl hx0 hx1 hx2 hxm hall)
                clear hall ru hab2 hmu hxm hx1 hx2 hx0
                generalize L.getD j [] = u at *
                go_wp2_with fail
                refine c3.mono ?_; rintro e w3 ⟨rfl, rfl⟩
                clear c3
                go_wp2
                go_roundg g2
                case measure => omega
                case rel => exact ⟨j + 1, a, by omega, by go_num, rfl, HK2, rfl⟩
              · have HK2 := Lib.hid (HK.out.two hjl htwo)
                clear htwo ru hab2 hmu
                generalize L.getD j [] = u at *
                go_wp2_with fail
                refine c3.mono ?_; rintro e w3 ⟨rfl, rfl⟩
                clear c3
                go_wp2
                go_roundg g2
                case measure => omega
                case rel => exact ⟨j + 1, more, by omega, by go_num, rfl, HK2, rfl⟩
            | zero =>
              have q3 : ¬ ((j : Int) < L.length) := by omega
              have q4 : ¬ (j < L.length) := by omega
              obtain rfl : j = L.length := by omega
              by_cases h0 : more = 0
              · subst h0
                have HCL := Lib.hid (HK.out.closed HS.out)
                clear HK
                go_wp2
                go_ret2
                refine ⟨_, by rw [HCL.out.no]; rfl, ?_, HB2.out⟩
                rw [HCL.out.eq, sortF_id HS.out.lt]; exact HO2.out
              · have d0 : (more == 0) = false := by rw [beq_eq_false_iff_ne]; exact h0
                obtain ⟨hfo, hm1, hm2⟩ := HK.out.forced h0 HS.out
                have hsn := HS.out.next h0 hfo hm1 hm2
                have hln := HS.out.next_len hm1
                have HSN := Lib.hid hsn
                have HLN := Lib.hid hln
                have hlit : Lits (F ++ [more]) := fun y hy => by
                  rcases List.mem_append.1 hy with e | e
                  · exact HS.out.lits HM.out y e
                  · rw [List.mem_singleton.1 e]; exact hfo.lit HM.out.lits HM.out.alit
                have HLI := Lib.hid hlit
                have he := empty_own wz
                have hbe := bal (Below.refl wz.heap.size wz) (.cells #[] 3)
                have r1 := HRF.out.nx hbe
                clear HK hfo hm1 hm2 hsn hln hlit h0
                go_wp2_with (first | (at_builtin; refine wpIs rfl (.tmp 54) (.tmp 55) rfl _ [] rfl he AF kF F rfl r1 HZF.out hbe (by simp) (by omega) ?_) | fail)
                intro v4 w4 ho4 hb4
                obtain ⟨A4, k4, rfl, _⟩ := ho4.val
                clear he hbe r1
                go_wp2_with (first | (at_builtin; refine wpI1 rfl (.tmp 56) (.tmp 58) rfl _ F rfl ho4 more rfl hb4 (by omega) ?_) | fail)
                intro v5 w5 ho5 hb5
                obtain ⟨A5, k5, hv5, hr5, _⟩ := ho5.val
                have c6 := refSort_any A5 k5 (F ++ [more]) w5 hr5 HLI.out (by simp; omega)
                obtain ⟨nb, hnb⟩ : ∃ nb, (F ++ [more]).length = nb := ⟨_, rfl⟩
                rw [hnb] at hv5 c6
                subst hv5
                have HB5 := Lib.hid (bnx HB2.out hb5)
                clear ho4 hb4 ho5 hb5 hr5 hnb
                go_wp2_with fail
                (with_reducible refine c6.mono ?_); rintro e w6 ⟨v6, rfl, ho6, hb6⟩
                have HO6 := Lib.hid (ho6.base HB5.out.size)
                have HB6 := Lib.hid (bnx HB5.out hb6)
                clear c6 ho6 hb6
                go_wp2
                go_roundg g
                case measure => omega
                case rel => exact ⟨v6, sortF (F ++ [more]), rfl, by rw [HLN.out]; omega, HO6.out, HB6.out, HSN⟩
end Go.Proofs.YtahedhpffjgimaaDoor
/- The reference's Refutes. -/
namespace Go.Proofs.YtahedhpffjgimaaDoor
open Go.RowKit
theorem neg_next (c : List Int) (i : Nat) (h : i < c.length) : negC (c.take (i + 1)) = negC (c.take i) ++ [-(c.getD i 0)] := by
  rw [take_snocI c i h]; simp [negC]
set_option maxHeartbeats 3000000 in
set_option maxRecDepth 100000 in
theorem refRefutes_any (LA AA : Option Addr) (k k' : Nat) (n : Int) (L : List (List Int)) (c : List Int) (w : World) (hL : RCk w w.heap.size LA L) (hR : RI w w.heap.size AA c) (hM : May L c) (hl : L.length ≤ 1000) (hal : c.length ≤ 90000) (hx : ∀ z, Forced L (negC c) z → z ≠ 0 ∧ -60 ≤ z ∧ z ≤ 60) :
    Calls Tryd.prog 55 #[.int .i64 n, .slice LA L.length k, .slice AA c.length k'] w (RetV w (.bool (clashB L (negC c)))) := by
  have hM' : May L (negC c) := ⟨hM.lits, neg_lits hM.alit, hM.tot, hM.len, hM.lens, by rw [negC_len]; exact hM.alen⟩
  have C1 : Hid (∀ wx A1 k1 n1, Below w.heap.size w wx → RI wx wx.heap.size A1 (negC c) → n1 = (negC c).length → Calls Tryd.prog 80 #[.int .i64 n, .slice LA L.length k, .slice A1 n1 k1] wx (RetIB wx (closeL L (negC c)) (clashB L (negC c)))) := Lib.hid fun wx A1 k1 n1 hb hr e => by
    subst e
    exact refClose_any LA A1 k k1 n L (negC c) wx (hL.nx hb) hr hM' hl (by rw [negC_len]; exact hal) hx
  have HR := Lib.hid hR
  have HX := Lib.hid hM.alit
  clear hL hR hM hM' hx
  generalize clashB L (negC c) = cb at *
  generalize closeL L (negC c) = F at *
  go_enter Tryd.func55, Tryd.ntmps55
  go_wp2
  go_loopg [7, 8] c.length (fun g s7 s8 wr => ∃ (i : Nat) (v : Value), i + g = c.length ∧ s8 = .int .i64 i ∧ s7 = v ∧ OwnI wr w.heap.size v (negC (c.take i)) ∧ Below w.heap.size w wr)
  case atStart => exact ⟨0, _, by omega, rfl, rfl, by simpa [negC] using OwnI.nil _ _, Below.refl _ _⟩
  case round =>
    obtain ⟨i, v, hi, rfl, rfl, hO, hb⟩ := hrel
    cases gk with
    | zero =>
      have q1 : ¬ ((i : Int) < c.length) := by omega
      have q2 : ¬ (i < c.length) := by omega
      rw [List.take_of_length_le (by omega)] at hO
      obtain ⟨A1, k1, hv, hr, _⟩ := hO.val
      obtain ⟨n1, hn1⟩ : ∃ n1, (negC c).length = n1 := ⟨_, rfl⟩
      rw [hn1] at hv
      subst hv
      have c1 := C1.out wr A1 k1 n1 hb hr hn1.symm
      have HB := Lib.hid hb
      clear hO hb hr hn1
      go_wp2_with fail
      (with_reducible refine c1.mono ?_); rintro e w2 ⟨v2, rfl, ho2, hb2⟩
      have HB2 := Lib.hid (bnx HB.out hb2)
      clear c1 ho2 hb2
      go_wp2
      go_ret
      exact ⟨rfl, HB2.out⟩
    | succ g =>
      have hil : i < c.length := by omega
      have hil' : (i : Int) < c.length := by omega
      obtain ⟨ad, rfl, hab, hcz⟩ := HR.out i hil
      have hcc := (hb.cell (p := ad.add i) (by rw [block_add]; exact hab)).trans hcz
      obtain ⟨x0, x1, x2⟩ := HX.out _ (getD_mem c i hil)
      have HNN := Lib.hid (neg_next c i hil)
      have hol : (negC (c.take i)).length ≤ 100000 := by simp [negC]; omega
      obtain ⟨A1, k1, hv, _⟩ := hO.val
      obtain ⟨n1, hn1⟩ : ∃ n1, (negC (c.take i)).length = n1 := ⟨_, rfl⟩
      rw [hn1] at hv
      subst hv
      clear hcz hn1
      generalize c.getD i 0 = x at *
      go_wp2_with (first | (at_builtin; refine wpI1 rfl (.tmp 17) (.tmp 23) rfl _ _ rfl hO (-x) rfl hb hol ?_) | fail)
      intro v' w' hO' hb'
      rw [← HNN.out] at hO'
      have HO' := Lib.hid hO'
      have HB' := Lib.hid hb'
      clear hO' hb' hO hb hcc
      go_wp2
      go_roundg g
      case measure => omega
      case rel => exact ⟨i + 1, v', by omega, by go_num, rfl, HO'.out, HB'.out⟩
end Go.Proofs.YtahedhpffjgimaaDoor
