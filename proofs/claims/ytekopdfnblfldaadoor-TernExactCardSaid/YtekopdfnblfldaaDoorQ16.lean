/-
  A model that may be asked about is right; two values and three.
-/
import Derived.Test.YtekopdfnblfldaaDoorProg
import Derived.WalkKit
import Derived.WalkSpells
import Derived.WalkLawsBesides
import Derived.Lib.Hide
import Derived.BigQuiet
import Derived.Deep.QuietTactic
import Derived.Deep.RegionWith
import Derived.Deep.RegionHeld3
import Derived.Test.YtekopdfnblfldaaDoorQ15
import Derived.Test.YtekopdfnblfldaaDoorQ07
set_option linter.unusedVariables false
namespace Go.Proofs.YtekopdfnblfldaaDoor
open Go.RowKit
set_option maxHeartbeats 2000000 in
theorem May_rt (I : Int) (AL AG AO AB AC AN : Option Addr) (cL cG cO cB cC cN : Nat) (L G : List Pr) (O D C : List Int) (N : List Nm) (w : World) (hA : RA w w.heap.size AL AG AO AB AC AN L G O D C N) (lO : O.length ≤ maxLen) (lD : D.length ≤ maxLen) (lC : C.length ≤ maxLen) (lN : N.length ≤ maxLen) :
    Calls Tryd.prog 40 #[.agg #[.int .i64 I, .slice AL L.length cL, .slice AG G.length cG, .slice AO O.length cO, .slice AB D.length cB, .slice AC C.length cC, .slice AN N.length cN]] w (RetP w (Md I L G O D C ∧ I ≤ 40 ∧ L.length ≤ 40 ∧ G.length ≤ 40 ∧ O.length ≤ 40 ∧ D.length ≤ 40 ∧ C.length ≤ 40 ∧ Rt I L G O D C (I + L.length + G.length))) := by
  have hb := bal (Below.refl w.heap.size w) (.cells #[.int .i64 I, .slice AL L.length cL, .slice AG G.length cG, .slice AO O.length cO, .slice AB D.length cB, .slice AC C.length cC, .slice AN N.length cN] 35)
  have hs0 : (w.alloc (.cells #[.int .i64 I, .slice AL L.length cL, .slice AG G.length cG, .slice AO O.length cO, .slice AB D.length cB, .slice AC C.length cC, .slice AN N.length cN] 35)).heap.size = w.heap.size + 1 := by simp
  have hk := KA.new w I AL AG AO AB AC AN cL cG cO cB cC cN L G O D C N
  have CS := Small_any I AL AG AO AB AC AN cL cG cO cB cC cN L G O D C N (w.alloc (.cells #[.int .i64 I, .slice AL L.length cL, .slice AG G.length cG, .slice AO O.length cO, .slice AB D.length cB, .slice AC C.length cC, .slice AN N.length cN] 35)) (hA.nx hb).n
  have CR : Hid (∀ wx, Below w.heap.size w wx → Calls Tryd.prog 52 #[.agg #[.int .i64 I, .slice AL L.length cL, .slice AG G.length cG, .slice AO O.length cO, .slice AB D.length cB, .slice AC C.length cC, .slice AN N.length cN]] wx (RetP wx (Rt I L G O D C (I + L.length + G.length)))) := Lib.hid fun wx hx => Right_any I AL AG AO AB AC AN cL cG cO cB cC cN L G O D C N wx (hA.nx hx) _ rfl lO lD lC lN
  obtain ⟨P, hP⟩ : ∃ P : Prop, P = (Md I L G O D C ∧ I ≤ 40 ∧ L.length ≤ 40 ∧ G.length ≤ 40 ∧ O.length ≤ 40 ∧ D.length ≤ 40 ∧ C.length ≤ 40 ∧ Rt I L G O D C (I + L.length + G.length)) := ⟨_, rfl⟩
  rw [← hP]
  have HP := Lib.hid hP
  have HB := Lib.hid hb
  have HK := Lib.hid hk
  have HS := Lib.hid hs0
  clear hA hP hb hk hs0
  go_enter Tryd.func40, Tryd.ntmps40
  go_wp2_with fail
  refine CS.mono ?_; rintro e u1 ⟨b1, rfl, p1, hu1⟩
  obtain ⟨g0, g1, g2, g3, g4, g5, g6⟩ := HK.out.nx hu1 (by have := HS.out; omega)
  have hU1 := HB.out.trans (hu1.mono HB.out.size)
  have CR1 := CR.out u1 hU1
  have HU1 := Lib.hid hU1
  have HP1 := Lib.hid p1
  clear CS hu1 hU1 p1
  go_wp2_with fail
  refine CR1.mono ?_; rintro e u2 ⟨b2, rfl, p2, hu2⟩
  have HU2 := Lib.hid (bnx HU1.out hu2)
  have HP2 := Lib.hid p2
  clear CR1 hu2 p2 g0 g1 g2 g3 g4 g5 g6
  cases b1
  · go_wp2
    go_ret
    exact ⟨false, rfl, (fun h => by cases h), HU2.out⟩
  · go_wp2
    go_ret
    refine ⟨b2, rfl, fun hb2 => ?_, HU2.out⟩
    rw [HP.out]
    obtain ⟨s1, s2, s3, s4, s5, s6, s7⟩ := HP1.out (by simp)
    obtain ⟨r0, r1, r2, r3, r4, r5⟩ := HP2.out hb2
    refine ⟨⟨r0, by omega, by omega, by omega, by omega, by omega, by omega, fun x hx => ?_, fun x hx => ?_, fun x hx => ?_, fun p hp => ?_, fun i hi => ?_⟩, s1, s2, s3, s4, s5, s6, HP2.out hb2⟩
    · have := r1 x hx; omega
    · have := r2 x hx; omega
    · have := r3 x hx; omega
    · obtain ⟨i, hi, rfl⟩ := List.getElem_of_mem hp
      have := r4 i hi
      simp [List.getD_eq_getElem?_getD, hi] at this
      omega
    · have := r5 i hi
      omega

set_option maxHeartbeats 1000000 in
theorem May9_rt (I : Int) (AL AG AO AB AC AN : Option Addr) (cL cG cO cB cC cN : Nat) (L G : List Pr) (O D C : List Int) (N : List Nm) (w : World) (hA : RA w w.heap.size AL AG AO AB AC AN L G O D C N) (lO : O.length ≤ maxLen) (lD : D.length ≤ maxLen) (lC : C.length ≤ maxLen) (lN : N.length ≤ maxLen) :
    Calls Tryd.prog 21 #[.agg #[.int .i64 I, .slice AL L.length cL, .slice AG G.length cG, .slice AO O.length cO, .slice AB D.length cB, .slice AC C.length cC, .slice AN N.length cN]] w (RetP w (Md I L G O D C ∧ I ≤ 40 ∧ L.length ≤ 40 ∧ G.length ≤ 40 ∧ O.length ≤ 40 ∧ D.length ≤ 40 ∧ C.length ≤ 40 ∧ Rt I L G O D C (I + L.length + G.length))) := by
  have hb := bal (Below.refl w.heap.size w) (.cells #[.int .i64 I, .slice AL L.length cL, .slice AG G.length cG, .slice AO O.length cO, .slice AB D.length cB, .slice AC C.length cC, .slice AN N.length cN] 35)
  have C1 := May_rt I AL AG AO AB AC AN cL cG cO cB cC cN L G O D C N _ (hA.nx hb) lO lD lC lN
  clear hA
  go_enter Tryd.func21, Tryd.ntmps21
  go_wp2_with fail
  refine C1.mono ?_; rintro e u ⟨b, rfl, p, hu⟩
  have HP := Lib.hid p
  have HB := Lib.hid (bnx hb hu)
  clear C1 p hu hb
  go_wp2
  go_ret
  exact ⟨b, rfl, HP.out, HB.out⟩
theorem of3_at (l : List Bool) (j : Nat) (h : j < l.length) : (of3 l).getD j 0 = if l.getD j false then 1 else 0 := by
  unfold of3
  simp [List.getD_eq_getElem?_getD, h]
theorem of3_app (l m : List Bool) : of3 (l ++ m) = of3 l ++ of3 m := by simp [of3]
theorem lt3_of (v : List Bool) (l : Int) (h0 : 0 ≤ l) (h1 : l / 2 < (v.length : Int)) : lt3 (of3 v) l = if lt v l then 1 else 0 := by
  rw [lt3_in _ h0 (by rw [of3_len]; exact h1), lt_in v h0 h1, of3_at v _ (by omega)]
  have h2 : l % 2 = 0 ∨ l % 2 = 1 := by omega
  rcases h2 with e | e <;> rw [e] <;> cases v.getD (l / 2).toNat false <;> rfl
theorem and3_of (a b : Bool) : and3 (if a then 1 else 0) (if b then 1 else 0) = if a && b then 1 else 0 := by cases a <;> cases b <;> rfl
theorem vals3_of (b : List Bool) (G : List Pr) (ht : topo b.length G) : vals3 (of3 b) G = of3 (vals b G) := by
  induction G generalizing b with
  | nil => rfl
  | cons g G ih =>
    have t0 := ht 0 (by simp)
    simp at t0
    have e : and3 (lt3 (of3 b) g.1) (lt3 (of3 b) g.2) = if lt b g.1 && lt b g.2 then 1 else 0 := by
      rw [lt3_of b g.1 (by omega) (by omega), lt3_of b g.2 (by omega) (by omega), and3_of]
    show vals3 (of3 b ++ [and3 (lt3 (of3 b) g.1) (lt3 (of3 b) g.2)]) G = of3 (vals (b ++ [lt b g.1 && lt b g.2]) G)
    have e2 : of3 b ++ [and3 (lt3 (of3 b) g.1) (lt3 (of3 b) g.2)] = of3 (b ++ [lt b g.1 && lt b g.2]) := by rw [of3_app, e]; rfl
    rw [e2]
    apply ih
    intro i hi
    have := ht (i + 1) (by simp; omega)
    simp at this ⊢
    omega
theorem valsOf3_of (st inp : List Bool) (G : List Pr) (ht : topo (1 + inp.length + st.length) G) : valsOf3 (of3 st) (of3 inp) G = of3 (valsOf st inp G) := by
  have hl : (false :: (inp ++ st)).length = 1 + inp.length + st.length := by simp; omega
  have := vals3_of (false :: (inp ++ st)) G (by rw [hl]; exact ht)
  unfold valsOf3 valsOf
  rw [← this]
  unfold of3
  simp
theorem tell3_of {α : Type} (v : List Bool) (l : List α) (f : α → Int) (h : ∀ a ∈ l, 0 ≤ f a ∧ f a / 2 < (v.length : Int)) : l.map (fun a => lt3 (of3 v) (f a)) = of3 (l.map (fun a => lt v (f a))) := by
  unfold of3
  rw [List.map_map]
  apply List.map_congr_left
  intro a ha
  obtain ⟨h0, h1⟩ := h a ha
  exact lt3_of v (f a) h0 h1
theorem isTri_of (l : List Bool) : isTri (of3 l) = true := by
  unfold isTri
  rw [List.all_eq_true]
  intro x hx
  have := (of3_in l x hx).2
  simpa using this
theorem fit3_of (I : Int) (L : List Pr) (st inp : List Bool) : fit3 I L (of3 st) (of3 inp) = fit I L st inp := by
  unfold fit3 fit
  rw [isTri_of, isTri_of, of3_len, of3_len]
  simp
theorem nn_of (l : List Bool) : Nn (of3 l) := fun x hx => (of3_in l x hx).1
/-- What a step, and values, of two values are as three. -/
theorem two_of {I : Int} {L G : List Pr} {O D C : List Int} {st inp : List Bool} (hM : Md I L G O D C) (hR : Rt I L G O D C (I + L.length + G.length)) (hf : fit I L st inp = true) :
    valsOf3 (of3 st) (of3 inp) G = of3 (valsOf st inp G) ∧ nextL3 L G (of3 st) (of3 inp) = of3 (nextL L G st inp) ∧ tellL3 O G (of3 st) (of3 inp) = of3 (tellL O G st inp) ∧ tellL3 D G (of3 st) (of3 inp) = of3 (tellL D G st inp) ∧ tellL3 C G (of3 st) (of3 inp) = of3 (tellL C G st inp) := by
  obtain ⟨h1, h2⟩ := fit_yes hf
  have ht := hM.tp
  rw [show 1 + I.toNat + L.length = 1 + inp.length + st.length by omega] at ht
  have hv := valsOf3_of st inp G ht
  have hl := valsOf_length st inp G
  obtain ⟨r0, rO, rD, rC, rL, rG⟩ := hR
  refine ⟨hv, ?_, ?_, ?_, ?_⟩
  · unfold nextL3 nextL
    rw [hv]
    refine tell3_of _ L (fun p => p.1) fun p hp => ?_
    obtain ⟨i, hi, rfl⟩ := List.getElem_of_mem hp
    have := rL i hi
    simp [List.getD_eq_getElem?_getD, hi] at this
    omega
  · unfold tellL3 tellL
    rw [hv]
    exact tell3_of _ O id fun x hx => by have := rO x hx; simp only [id]; omega
  · unfold tellL3 tellL
    rw [hv]
    exact tell3_of _ D id fun x hx => by have := rD x hx; simp only [id]; omega
  · unfold tellL3 tellL
    rw [hv]
    exact tell3_of _ C id fun x hx => by have := rC x hx; simp only [id]; omega
def RetOf (w0 : World) (l : List Int) (e : Ending) (w' : World) : Prop := RetR w0 l e w'
theorem Of_r (A : Option Addr) (c : Nat) (l : List Bool) (w : World) (h : RB w w.heap.size A l) (hn : l.length ≤ 1000000000) :
    Calls Tryd.prog 29 #[.slice A l.length c] w (RetR w (of3 l)) :=
  (Of_any A c l w h hn).mono fun e w' ⟨v, he, ho, hb⟩ => by
    obtain ⟨A', c', rfl, r, z, n, m⟩ := ho.val
    exact ⟨A', c', he, r, z, n, m, hb⟩
end Go.Proofs.YtekopdfnblfldaaDoor
