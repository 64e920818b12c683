/-
  Check: what is laid ahead of its walk.
  Check, walked.
-/
import Derived.Test.YtahedhpffjgimaaDoorProg
import Derived.WalkKit
import Derived.WalkSpells
import Derived.WalkLawsBesides
import Derived.Lib.Hide
import Derived.BigQuiet
import Derived.Deep.QuietTactic
import Derived.Deep.RegionWith
import Derived.Deep.RegionHeld3
import Derived.Test.YtahedhpffjgimaaDoorQ16
set_option linter.unusedVariables false
/- Check: what is laid ahead of its walk. -/
namespace Go.Proofs.YtahedhpffjgimaaDoor
open Go.RowKit
open Go.Lib Go.Sort
/-- Clauses that may be asked about. -/
def Gd (S : List (List Int)) (n : Nat) : Prop := S.length ≤ n ∧ ∀ c ∈ S, Lits c ∧ c.length ≤ 1000
theorem Gd.totLe {S : List (List Int)} {n : Nat} (h : Gd S n) : tot S ≤ n * 1002 := by
  obtain ⟨h1, h2⟩ := h
  have : ∀ (M : List (List Int)), (∀ c ∈ M, c.length ≤ 1000) → tot M ≤ M.length * 1002 := by
    intro M
    induction M with
    | nil => simp [tot]
    | cons a M ih =>
      intro hM
      have h1 := ih (fun d hd => hM d (by simp [hd]))
      have h2 := hM a (by simp)
      have e : tot (a :: M) = (a.length + 2) + tot M := by simp [tot]
      rw [e, List.length_cons]; omega
  exact Nat.le_trans (this S (fun c hc => (h2 c hc).2)) (Nat.mul_le_mul_right _ h1)
theorem Gd.may {S : List (List Int)} {n : Nat} (h : Gd S n) (hn : n ≤ 4000) {c : List Int} (hc : Lits c ∧ c.length ≤ 1000) : May S c := by
  have ht := h.totLe
  obtain ⟨h1, h2⟩ := h
  have h3 : tot S ≤ 10000000 := by omega
  have h4 := hc.2
  exact ⟨fun d hd => (h2 d hd).1, hc.1, h3, by omega, fun d hd => by have := (h2 d hd).2; omega, by omega⟩
theorem Lits.sort {c : List Int} (h : Lits c ∧ c.length ≤ 1000) : Lits (sortF c) ∧ (sortF c).length ≤ 1000 :=
  ⟨fun x hx => h.1 x ((sortF_mem c x).1 hx), by have := sortF_len c; omega⟩
theorem Gd.more {S : List (List Int)} {n : Nat} (h : Gd S n) {c : List Int} (hc : Lits c ∧ c.length ≤ 1000) : Gd (S ++ [c]) (n + 1) := by
  refine ⟨by simp; exact h.1, fun d hd => ?_⟩
  rcases List.mem_append.1 hd with h' | h'
  · exact h.2 d h'
  · rw [List.mem_singleton.1 h']; exact hc
theorem Gd.less {S : List (List Int)} {n : Nat} (h : Gd S n) (c : List Int) : Gd (S.erase c) (n + 1) :=
  ⟨by have := List.length_erase_le (a := c) (l := S); have := h.1; omega, fun d hd => h.2 d (List.mem_of_mem_erase hd)⟩
theorem Gd.sets {L : List (List Int)} {n : Nat} (h : Gd L n) : Gd (setsOf L) n :=
  ⟨by rw [setsOf_len]; exact h.1, fun s hs => by obtain ⟨c, hc, rfl⟩ := setsOf_mem.1 hs; exact Lits.sort (h.2 c hc)⟩
/-- The row of sets while it is filled. -/
def rowS (L : List (List Int)) (j : Nat) : List (List Int) := setsOf (L.take j) ++ List.replicate (L.length - j) []
theorem rowS_len (L : List (List Int)) (j : Nat) (h : j ≤ L.length) : (rowS L j).length = L.length := by simp [rowS, setsOf]; omega
theorem rowS_next (L : List (List Int)) (j : Nat) (h : j < L.length) : rowS L (j + 1) = (rowS L j).set j (sortF (L.getD j [])) := by
  unfold rowS
  rw [takeC L j h, setsOf_app, show L.length - j = (L.length - (j + 1)) + 1 by omega, List.replicate_succ]
  have hl : (setsOf (L.take j)).length = j := by simp [setsOf]; omega
  rw [List.set_append_right _ _ (by omega), hl]
  simp
theorem rowS_full (L : List (List Int)) : rowS L L.length = setsOf L := by simp [rowS]
/-- A clause is stored into a row of one's own. -/
theorem OwnQ.store {w : World} {base g cap n : Nat} {S : List (List Int)} (hn : S.length = n) (h : OwnQ w base (.slice (some ⟨g, 0, none⟩) n cap) S) {j : Nat} (hj : j < n) :
    base ≤ g ∧ (∃ u, w.cell? ⟨g, j, none⟩ = some u) ∧ w.frozen? ⟨g, j, none⟩ = false ∧
      ∀ (A' : Option Addr) (c' : Nat) (l : List Int), RIx w (.slice (some ⟨g, 0, none⟩) n cap) A' l → l.length ≤ c' → c' ≤ maxLen →
        OwnQ (w.setCell ⟨g, j, none⟩ (.slice A' l.length c')) base (.slice (some ⟨g, 0, none⟩) n cap) (S.set j l) := by
  subst hn
  obtain ⟨vs, ho, hl, hone, hx⟩ := h
  refine ⟨(World.ownsRow.lt ho g rfl).1, ⟨_, (World.ownsRow.cellAt ho j (by omega)).trans (List.getElem?_eq_getElem (by omega))⟩, World.ownsRow.frozenAt ho j, ?_⟩
  intro A' c' l hr h1 h2
  have hg : w.grownBy (w.setCell ⟨g, j, none⟩ (.slice A' l.length c')) (some g) := grown_set ⟨g, j, none⟩ _
  refine ⟨vs.set j (.slice A' l.length c'), ?_, by simp [hl], ?_, ?_⟩
  · have := (World.ownsRow.stored ho j (.slice A' l.length c')).1
    rw [List.length_set]; exact this
  · intro u hu
    rcases List.mem_or_eq_of_mem_set hu with h' | h'
    · exact hone u h'
    · rw [h']; rfl
  · intro i hi
    rw [List.length_set] at hi
    by_cases hij : i = j
    · subst hij
      have e : (S.set i l).getD i [] = l := by simp [List.getD_eq_getElem?_getD, hi]
      rw [e]
      exact ⟨A', c', by rw [List.getElem?_set_self (by omega)], hr.grown hg rfl rfl, h1, h2⟩
    · have e : (S.set j l).getD i [] = S.getD i [] := by simp only [List.getD_eq_getElem?_getD]; rw [List.getElem?_set_ne (by omega)]
      rw [e]
      obtain ⟨A1, c1, q0, q1, q2, q3⟩ := hx i hi
      exact ⟨A1, c1, by rw [List.getElem?_set_ne (by omega)]; exact q0, q1.grown hg rfl rfl, q2, q3⟩
/-- A call that tells two numbers, and changes nothing that was there. -/
def RetII (w0 : World) (r : Nat × Int) (e : Ending) (w' : World) : Prop := e = .returned (.tuple #[.int .i64 (r.1 : Int), .int .i64 r.2]) ∧ Below w0.heap.size w0 w'
theorem made_row (w : World) (n : Nat) (hn : n ≤ 1000000) : ∃ w1, (Instr.makeSlice 22 (.int .i64 (n : Int)) (.int .i64 (n : Int))).run Tryd.prog w = .ok (.slice (some ⟨w.heap.size, 0, none⟩) n n) w1 ∧ OwnQ w1 w.heap.size (.slice (some ⟨w.heap.size, 0, none⟩) n n) (List.replicate n []) ∧ Below w.heap.size w w1 := by
  obtain ⟨i0, hi0, hz0, hz1, hz2⟩ := info_parts cls_info
  obtain ⟨w1, hmk, ho1, hg1⟩ := run_makeSlice_full (P := Tryd.prog) (w := w) w.heap.size 22 26 i0 (.slice none 0 0) 1 Tryd.underlying22 hi0 hz0 hz1 .i64 .i64 n (by omega) (by rw [hz2]; omega) (by unfold maxLen; omega) (Nat.le_refl _)
  refine ⟨w1, hmk, ?_, (Below.refl _ _).grown hg1 (Nat.le_refl _) (by intro k hk; cases hk)⟩
  have e : (madeCells (Value.slice none 0 0).cells (n * 1)).toList = List.replicate n (Value.slice none 0 0) := by
    rw [Nat.mul_one]
    show (madeCells #[.slice none 0 0] n).toList = _
    rw [toList_madeCells_one]
  rw [e] at ho1
  refine ⟨_, by rw [List.length_replicate]; exact ho1, by simp, ?_, ?_⟩
  · intro u hu; rw [(List.mem_replicate.1 hu).2]; rfl
  · intro i hi
    rw [List.length_replicate] at hi
    have e1 : (List.replicate n ([] : List Int)).getD i [] = [] := by simp [List.getD_eq_getElem?_getD, hi]
    rw [e1]
    exact ⟨none, 0, by simp [hi], fun a ha => absurd ha (by simp), by simp, by simp⟩
theorem own_rix {w : World} {base : Nat} {v vd : Value} {l : List Int} {A : Option Addr} {c : Nat} (h : OwnI w base vd l) (hv : vd = .slice A l.length c) (hb : ∀ g, v.ownBlock = some g → g < base) : RIx w v A l := by
  intro i hi
  obtain ⟨A', c', e, hr, _⟩ := h.val
  rw [e] at hv
  injection hv with e1 _ _
  subst e1
  obtain ⟨ad, e2, h1, h2⟩ := hr i hi
  refine ⟨ad, e2, h1, ?_, h2⟩
  intro e3
  have hlt := hb _ e3
  rcases h.2 with ⟨h0, hz⟩ | ⟨g, cap, cur, hv2, hg, _⟩
  · omega
  · rw [e] at hv2
    injection hv2 with e4 _ _
    rw [e2] at e4
    injection e4 with e5
    rw [e5] at hlt
    simp at hlt
    omega
theorem old_rix {w : World} {B : Nat} {v : Value} {A : Option Addr} {l : List Int} (h : RI w B A l) (hB : B ≤ w.heap.size) (hb : ∀ g, v.ownBlock = some g → B ≤ g) : RIx w v A l := by
  intro i hi
  obtain ⟨ad, e, h1, h2⟩ := h i hi
  exact ⟨ad, e, by omega, fun e3 => by have := hb _ e3; omega, h2⟩
end Go.Proofs.YtahedhpffjgimaaDoor
/- Check, walked. -/
namespace Go.Proofs.YtahedhpffjgimaaDoor
open Go.RowKit
open Go.Lib Go.Sort
theorem getD_memS (L : List Stp) (j : Nat) (h : j < L.length) : L.getD j (true, []) ∈ L := by simp [List.getD_eq_getElem?_getD, h]
theorem assert_yes (W : World) (v : Value) : (Instr.typeAssert (.iface 101 v) 96 101 true).run Tryd.prog W = .ok (.tuple #[v, .bool true]) W := by kernel_rfl
theorem assert_no (W : World) (v : Value) : (Instr.typeAssert (.iface 129 v) 96 101 true).run Tryd.prog W = .ok (.tuple #[.agg #[.slice none 0 0], .bool false]) W := by kernel_rfl
set_option maxHeartbeats 4000000 in
set_option maxRecDepth 100000 in
theorem Check_any (LA PA : Option Addr) (k kp : Nat) (N : Int) (L : List (List Int)) (P : List Stp) (w : World) (hL : RCk w w.heap.size LA L) (hP : RS w w.heap.size PA P) (hg : Gd L 1000) (hpl : P.length ≤ 1000) (hps : ∀ s ∈ P, Lits s.2 ∧ s.2.length ≤ 1000) :
    Calls Tryd.prog 26 #[.agg #[.int .i64 N, .slice LA L.length k], .slice PA P.length kp] w (RetII w (checkQ (setsOf L) 0 P)) := by
  have b0 := bal (Below.refl w.heap.size w) (.cells #[.int .i64 N, .slice LA L.length k] 24)
  obtain ⟨q0, q1⟩ := box_cells w (.int .i64 N) (.slice LA L.length k) 24
  have hL0 := hL.nx b0
  have hP0 := hP.nx b0
  have hs0 : (w.alloc (.cells #[.int .i64 N, .slice LA L.length k] 24)).heap.size = w.heap.size + 1 := by simp
  generalize hw0 : w.alloc (.cells #[.int .i64 N, .slice LA L.length k] 24) = w0 at b0 q0 q1 hL0 hP0 hs0
  obtain ⟨w1, hmk, hO1, hB1⟩ := made_row w0 L.length (by have := hg.1; omega)
  rw [hs0] at hmk hO1
  rw [← hw0] at hmk
  have HW0 := Lib.hid hw0
  have H0 := Lib.hid (And.intro hO1 hB1)
  have HQ := Lib.hid (And.intro q0 q1)
  have HB0 := Lib.hid (And.intro b0 hs0)
  have HL := Lib.hid hL0
  have HP := Lib.hid hP0
  have HG := Lib.hid (And.intro hg (And.intro hpl hps))
  have q1w : w1.cell? ⟨w.heap.size, 1, none⟩ = some (.slice LA L.length k) := (hB1.cell (by show w.heap.size < _; omega)).trans q1
  have hll : L.length ≤ 1000 := hg.1
  clear hL hP hw0 hO1 hB1 hL0 hP0 hg hps b0
  go_enter Tryd.func26, Tryd.ntmps26
  go_wp2
  clear hmk
  go_loopg [23] L.length (fun g s23 wr => ∃ j : Nat, j + g = L.length ∧ s23 = .int .i64 j ∧ OwnQ wr w0.heap.size (.slice (some ⟨w.heap.size + 1, 0, none⟩) L.length L.length) (rowS L j) ∧ Below w0.heap.size w0 wr)
  case atStart => exact ⟨0, by omega, rfl, by have := H0.out.1; simpa [rowS, setsOf, HB0.out.2] using this, H0.out.2⟩
  case round =>
    obtain ⟨j, hj, rfl, hown, hb⟩ := hrel
    clear H0
    cases gk with
    | zero =>
      obtain rfl : j = L.length := by omega
      have n1 : ¬ ((L.length : Int) < L.length) := by omega
      have n2 : ¬ (L.length < L.length) := by omega
      rw [rowS_full] at hown
      have HO := Lib.hid hown
      have HB := Lib.hid hb
      clear hown hb
      go_wp2
      go_loopg [6, 36] P.length (fun g s6 s36 wr => ∃ (j : Nat) (v : Value) (S : List (List Int)), j + g = P.length ∧ s36 = .int .i64 j ∧ v = s6 ∧ OwnQ wr w0.heap.size v S ∧ Below w0.heap.size w0 wr ∧ Hid (Gd S (1000 + j) ∧ checkQ S j (P.drop j) = checkQ (setsOf L) 0 P))
      case atStart => exact ⟨0, _, _, by omega, rfl, rfl, HO.out, HB.out, Lib.hid ⟨HG.out.1.sets, rfl⟩⟩
      case round =>
        obtain ⟨j, v, S, hj, rfl, rfl, hown, hb, HJ⟩ := hrel
        clear HO HB
        cases gk with
        | zero =>
          obtain rfl : j = P.length := by omega
          have n1 : ¬ ((P.length : Int) < P.length) := by omega
          have n2 : ¬ (P.length < P.length) := by omega
          have HR : Hid (checkQ (setsOf L) 0 P = (P.length, 6)) := Lib.hid (by rw [← HJ.out.2, List.drop_length]; rfl)
          have HB := Lib.hid (bnx HB0.out.1 (hb.mono (by have := HB0.out.2; omega)))
          clear hown hb HJ
          go_wp2
          go_ret2
          exact ⟨by rw [HR.out]; rfl, HB.out⟩
        | succ g =>
          have hjl : j < P.length := by omega
          obtain ⟨ad, A1, c1, rfl, hab, hc0, hc1, hr, hlc, hcm⟩ := HP.out j hjl
          have hcc0 := (hb.cell (p := ad.add (j * 2)) (by rw [block_add]; exact hab)).trans hc0
          have hcc1 := (hb.cell (p := ⟨(ad.add (j * 2)).block, (ad.add (j * 2)).off + 1, none⟩) (by show (ad.add (j * 2)).block < _; rw [block_add]; exact hab)).trans hc1
          have hgd := HG.out.2.2 _ (getD_memS P j hjl)
          have hjl' : (j : Int) < P.length := by omega
          have HD := Lib.hid (dropS P j hjl)
          have HOW := Lib.hid hown
          have HBB := Lib.hid hb
          have HR := Lib.hid ((hr.below hb).mono hb.size)
          clear hc0 hc1 hr hown hb
          generalize P.getD j (true, []) = s at *
          obtain ⟨d, u⟩ := s
          simp only at hcc0 hcc1 hgd hlc
          have hbx : ∀ o, Below wr.heap.size wr (wr.alloc o) := fun o => bal (Below.refl _ _) o
          have hbl : ∀ o, (wr.alloc o).heap.size = wr.heap.size + 1 := fun o => by simp
          have hvb : ∀ g, v.ownBlock = some g → g < wr.heap.size := fun g hg => by
            obtain ⟨_, _, _, _, h⟩ := HOW.out.val
            exact (h g hg).2
          obtain ⟨su, hsu⟩ : ∃ su, sortF u = su := ⟨_, rfl⟩
          have hsl := Lits.sort hgd
          rw [hsu] at hsl
          have HSU := Lib.hid hsu
          have HVB := Lib.hid hvb
          have HGS := Lib.hid HJ.out.1
          have hjn : 1000 + j ≤ 4000 := by have := HG.out.2.1; omega
          have HSL := Lib.hid hsl
          have hul := hgd.2
          have HP1 := Lib.hid HG.out.2.1
          cases d
          · have C1 : Calls Tryd.prog 53 #[.agg #[.bool false, .slice A1 u.length c1]] (wr.alloc (.cells #[.bool false, .slice A1 u.length c1] 54)) (fun e w' => ∃ v, e = .returned (.iface 101 (.agg #[v])) ∧ OwnI w' (wr.alloc (.cells #[.bool false, .slice A1 u.length c1] 54)).heap.size v (sortF u) ∧ Below (wr.alloc (.cells #[.bool false, .slice A1 u.length c1] 54)).heap.size (wr.alloc (.cells #[.bool false, .slice A1 u.length c1] 54)) w') := changeOf_any false A1 c1 u _ (HR.out.nx (hbx _)) (by omega)
            rw [hsu] at C1
            have HE : Hid (checkQ (setsOf L) 0 P = checkQ S j ((false, u) :: P.drop (j + 1))) := Lib.hid (by rw [← HJ.out.2, HD.out])
            clear hsu hvb hgd HD HJ hsl
            go_wp2_with fail
            refine C1.mono ?_; rintro e w3 ⟨v3, rfl, ho3, hb3⟩
            have hq3 := (HOW.out.old (hbx _)).old hb3
            have hB3 := bnx (bnx HBB.out (hbx _)) hb3
            obtain ⟨A3, c3, rfl, hri3, _, hl3, hm3⟩ := ho3.val
            have hrx3 := own_rix ho3 rfl (fun g hg => by have := HVB.out g hg; rw [hbl]; omega)
            have hmay := HGS.out.may hjn HSL.out
            have q1x : w3.cell? ⟨w.heap.size, 0, none⟩ = some (.int .i64 N) := by
              refine (hB3.cell (p := ⟨w.heap.size, 0, none⟩) ?_).trans HQ.out.1
              show w.heap.size < _; have := HB0.out.2; omega
            cases hcl : clashB S (negC su)
            · have C2 := add_no A3 c3 su N v S hq3 hB3 hri3 hmay hcl
              have HX : Hid (checkQ (setsOf L) 0 P = (j, 6)) := Lib.hid (by rw [HE.out]; exact checkQ_bad (by rw [HSU.out]; exact hcl))
              clear C1 hq3 hri3 hrx3 hmay hcl ho3 hb3 hbx hbl HE
              go_wp2_with fail
              refine C2.mono ?_; rintro e w4 ⟨hb4, rfl⟩
              have HB := Lib.hid (bnx HB0.out.1 (hb4.mono (by have := HB0.out.2; omega)))
              clear C2 hb4 hB3
              go_wp2
              go_ret2
              exact ⟨by rw [HX.out]; rfl, HB.out⟩
            · have C2 := add_yes A3 c3 su N v S hq3 hB3 hrx3 hl3 hm3 hmay (by have := HGS.out.1; omega) hcl
              by_cases hu : u = []
              · have hse : su = [] := by rw [← HSU.out, hu, sortF_nil]
                have HX : Hid (checkQ (setsOf L) 0 P = (j, 0)) := Lib.hid (by rw [HE.out, hu]; exact checkQ_end (by rw [sortF_nil, ← hse]; exact hcl))
                subst hse
                clear C1 hq3 hri3 hrx3 hmay hcl ho3 hb3 hbx hbl HE hu
                go_wp2_with fail
                refine C2.mono ?_; rintro e w4 ⟨hb4, v4, rfl, hq4⟩
                have HB := Lib.hid (bnx HB0.out.1 (hb4.mono (by have := HB0.out.2; omega)))
                clear C2 hb4 hB3 hq4
                have kA := assert_yes w4
                go_wp2
                go_ret2
                exact ⟨by rw [HX.out]; rfl, bal HB.out _⟩
              · have hse : su ≠ [] := fun e => hu ((sortF_eq_nil u).1 (by rw [HSU.out]; exact e))
                have hne : ((su.length : Int) == 0) = false := by
                  cases su with
                  | nil => exact absurd rfl hse
                  | cons x t => simp; omega
                have hne2 : (su.length == 0) = false := by
                  cases su with
                  | nil => exact absurd rfl hse
                  | cons x t => simp
                have HX : Hid (checkQ (S ++ [su]) (j + 1) (P.drop (j + 1)) = checkQ (setsOf L) 0 P) := Lib.hid (by rw [HE.out, checkQ_add (by rw [HSU.out]; exact hcl) hu, HSU.out])
                have HGN := Lib.hid (HGS.out.more HSL.out)
                clear C1 hq3 hri3 hrx3 hmay hcl ho3 hb3 hbx hbl HE hu hse
                go_wp2_with fail
                refine C2.mono ?_; rintro e w4 ⟨hb4, v4, rfl, hq4⟩
                have HB := Lib.hid hb4
                have HQ4 := Lib.hid hq4
                clear C2 hb4 hB3 hq4
                have kA := assert_yes w4
                go_wp2
                go_roundg g
                case measure => omega
                case rel => exact ⟨j + 1, v4, _, by omega, by go_num, rfl, HQ4.out.old (bal (Below.refl _ _) _), bal HB.out _, Lib.hid ⟨HGN.out, HX.out⟩⟩
          · have C1 : Calls Tryd.prog 53 #[.agg #[.bool true, .slice A1 u.length c1]] (wr.alloc (.cells #[.bool true, .slice A1 u.length c1] 54)) (fun e w' => ∃ v, e = .returned (.iface 129 (.agg #[v])) ∧ OwnI w' (wr.alloc (.cells #[.bool true, .slice A1 u.length c1] 54)).heap.size v (sortF u) ∧ Below (wr.alloc (.cells #[.bool true, .slice A1 u.length c1] 54)).heap.size (wr.alloc (.cells #[.bool true, .slice A1 u.length c1] 54)) w') := changeOf_any true A1 c1 u _ (HR.out.nx (hbx _)) (by omega)
            rw [hsu] at C1
            have HE : Hid (checkQ (setsOf L) 0 P = checkQ S j ((true, u) :: P.drop (j + 1))) := Lib.hid (by rw [← HJ.out.2, HD.out])
            clear hsu hvb hgd HD HJ hsl
            go_wp2_with fail
            refine C1.mono ?_; rintro e w3 ⟨v3, rfl, ho3, hb3⟩
            have hq3 := (HOW.out.old (hbx _)).old hb3
            have hB3 := bnx (bnx HBB.out (hbx _)) hb3
            obtain ⟨A3, c3, rfl, hri3, _, hl3, hm3⟩ := ho3.val
            have q1x : w3.cell? ⟨w.heap.size, 0, none⟩ = some (.int .i64 N) := by
              refine (hB3.cell (p := ⟨w.heap.size, 0, none⟩) ?_).trans HQ.out.1
              show w.heap.size < _; have := HB0.out.2; omega
            have hsl2 : su.length ≤ maxLen := by have := HSL.out.2; unfold maxLen; omega
            cases hcl : S.contains su
            · have C2 := take_no A3 c3 su N v S hq3 hB3 hri3 hsl2 (by have := HGS.out.1; omega) (fun hm => by rw [List.contains_iff_mem.2 hm] at hcl; cases hcl)
              have HX : Hid (checkQ (setsOf L) 0 P = (j, 4)) := Lib.hid (by rw [HE.out]; exact checkQ_none (by rw [HSU.out]; exact hcl))
              clear C1 hq3 hri3 hcl ho3 hb3 hbx hbl HE
              go_wp2_with fail
              refine C2.mono ?_; rintro e w4 ⟨hb4, rfl⟩
              have HB := Lib.hid (bnx HB0.out.1 (hb4.mono (by have := HB0.out.2; omega)))
              clear C2 hb4 hB3
              go_wp2
              go_ret2
              exact ⟨by rw [HX.out]; rfl, HB.out⟩
            · have C2 := take_yes A3 c3 su N v S hq3 hB3 hri3 hsl2 (by have := HGS.out.1; omega) (List.contains_iff_mem.1 hcl)
              have HX : Hid (checkQ (S.erase su) (j + 1) (P.drop (j + 1)) = checkQ (setsOf L) 0 P) := Lib.hid (by rw [HE.out, checkQ_del (by rw [HSU.out]; exact hcl), HSU.out])
              have HGN := Lib.hid (HGS.out.less su)
              clear C1 hq3 hri3 hcl ho3 hb3 hbx hbl HE
              go_wp2_with fail
              refine C2.mono ?_; rintro e w4 ⟨hb4, v4, rfl, hq4⟩
              have HB := Lib.hid hb4
              have HQ4 := Lib.hid hq4
              clear C2 hb4 hB3 hq4
              have kA := assert_no w4
              go_wp2
              go_roundg g
              case measure => omega
              case rel => exact ⟨j + 1, v4, _, by omega, by go_num, rfl, HQ4.out.old (bal (Below.refl _ _) _), bal HB.out _, Lib.hid ⟨HGN.out, HX.out⟩⟩
    | succ g =>
      have hjl : j < L.length := by omega
      obtain ⟨ad, A1, c1, rfl, hab, hc, hr, hlc, hcm⟩ := HL.out j hjl
      have hcc := (hb.cell (p := ad.add j) (by rw [block_add]; exact hab)).trans hc
      have hrr : RI wr wr.heap.size A1 (L.getD j []) := (hr.below hb).mono hb.size
      have hgd := HG.out.1.2 _ (getD_memC L j hjl)
      have C := sort_any A1 c1 (L.getD j []) wr hrr (by omega)
      have hjl' : (j : Int) < L.length := by omega
      have HOW := Lib.hid hown
      have HNX := Lib.hid (rowS_next L j hjl)
      have HBB := Lib.hid hb
      clear hc hr hrr hown hb
      generalize L.getD j [] = u at *
      obtain ⟨su, hsu⟩ : ∃ su, sortF u = su := ⟨_, rfl⟩
      rw [hsu] at C
      have HSU := Lib.hid hsu
      clear hsu
      go_wp2_with fail
      refine C.mono ?_; rintro e w2 ⟨v, rfl, ho, hb2⟩
      have hq2 := HOW.out.old hb2
      obtain ⟨hst0, ⟨uu, hst1⟩, hst2, hset⟩ := hq2.store (rowS_len L j (by omega)) hjl
      obtain ⟨A2, c2, rfl, _, _, hlc2, hcm2⟩ := ho.val
      have hq3 := hset A2 c2 su (own_rix ho rfl (fun g hg => by
        obtain ⟨_, _, _, _, h⟩ := HOW.out.val
        exact (h g hg).2)) hlc2 hcm2
      have hnx : rowS L (j + 1) = (rowS L j).set j su := by rw [HNX.out, HSU.out]
      rw [← hnx] at hq3
      have HQ3 := Lib.hid hq3
      have HB3 := Lib.hid ((bnx HBB.out hb2).setCell (p := ⟨w.heap.size + 1, j, none⟩) (by show w0.heap.size ≤ w.heap.size + 1; have := HB0.out.2; omega) (.slice A2 su.length c2))
      clear C hset hq2 hq3 ho hb2 hnx
      go_wp2
      go_roundg g
      case measure => omega
      case rel => exact ⟨j + 1, by omega, by go_num, HQ3.out, HB3.out⟩
end Go.Proofs.YtahedhpffjgimaaDoor
