/-
  One statement's walk: TernExact.
-/
import Derived.Test.YtekopdfnblfldaaDoorProg
import Derived.WalkKit
import Derived.WalkSpells
import Derived.WalkLawsBesides
import Derived.Lib.Hide
import Derived.BigQuiet
import Derived.Deep.QuietTactic
import Derived.Deep.RegionWith
import Derived.Deep.RegionHeld3
import Derived.Test.YtekopdfnblfldaaDoorQ16
set_option linter.unusedVariables false
namespace Go.Proofs.YtekopdfnblfldaaDoor
open Go.RowKit
theorem OwnT.store {w : World} {base g cap n : Nat} {S : List Int} (hn : S.length = n) (h : OwnT w base (.slice (some ⟨g, 0, none⟩) n cap) S) {j : Nat} (hj : j < n) :
    base ≤ g ∧ g < w.heap.size ∧ w.cell? ⟨g, j, none⟩ = some (.int .u8 (S.getD j 0)) ∧ w.frozen? ⟨g, j, none⟩ = false ∧ ∀ b, OwnT (w.setCell ⟨g, j, none⟩ (.int .u8 b)) base (.slice (some ⟨g, 0, none⟩) n cap) (S.set j b) := by
  subst hn
  refine ⟨(World.ownsRow.lt h g rfl).1, (World.ownsRow.lt h g rfl).2, ?_, World.ownsRow.frozenAt h j, ?_⟩
  · rw [World.ownsRow.cellAt h j (by omega)]
    simp [List.getD_eq_getElem?_getD, hj]
  · intro b
    have := (World.ownsRow.stored h j (.int .u8 b)).1
    unfold OwnT
    simpa [List.map_set] using this
theorem OwnT.form {w : World} {base c : Nat} {A : Option Addr} {S : List Int} (h : OwnT w base (.slice A S.length c) S) (hn : 0 < S.length) : ∃ g, A = some ⟨g, 0, none⟩ := by
  obtain ⟨g, cap, e⟩ := Go.Joins.ownsRow_form h hn
  cases e
  exact ⟨g, rfl⟩
set_option maxHeartbeats 2000000 in
theorem row_any (A : Option Addr) (c k : Nat) (inp : List Bool) (x : Int) (w : World) (h : RB w w.heap.size A inp) (hn : inp.length ≤ 1000000) (hk : k < inp.length) :
    Calls Tryd.prog 32 #[.slice A inp.length c, .int .i64 (k : Int), .int .u8 x] w (RetR w ((of3 inp).set k x)) := by
  have C := Of_any A c inp w h (by omega)
  have hl := of3_len inp
  have hl2 : ((of3 inp).set k x).length = inp.length := by rw [List.length_set, hl]
  generalize of3 inp = S at *
  have hk' : (k : Int) < inp.length := by omega
  clear h
  go_enter Tryd.func32, Tryd.ntmps32
  go_wp2_with fail
  refine C.mono ?_; rintro e w1 ⟨v, rfl, ho, hb⟩
  obtain ⟨A', c', rfl, _⟩ := ho.val
  obtain ⟨g, rfl⟩ := OwnT.form ho (by omega)
  rw [hl] at ho ⊢
  obtain ⟨s1, s2, s3, s4, s5⟩ := OwnT.store hl ho hk
  have HO := Lib.hid (s5 x)
  have HB := Lib.hid (hb.setCell (p := ⟨g, k, none⟩) s1 (.int .u8 x))
  clear C ho s5 hb
  go_wp2
  go_ret
  obtain ⟨A2, c2, e2, r2, z2, n2, m2⟩ := (show OwnT (w1.setCell ⟨g, k, none⟩ (.int .u8 x)) w.heap.size (.slice (some ⟨g, 0, none⟩) ((S.set k x).length) c') (S.set k x) by rw [hl2]; exact HO.out).val
  simp only [Value.slice.injEq] at e2
  obtain ⟨rfl, _, rfl⟩ := e2
  exact ⟨_, _, by rw [hl2]; rfl, r2, z2, n2, m2, HB.out⟩
theorem of3_set (inp : List Bool) (k : Nat) (b : Bool) : (of3 inp).set k (if b then 1 else 0) = of3 (inp.set k b) := by
  unfold of3
  rw [List.map_set]
theorem in3_set {l : List Int} (h : In3 l) (k : Nat) {x : Int} (hx : 0 ≤ x ∧ x ≤ 2) : In3 (l.set k x) := by
  intro y hy
  rcases List.mem_or_eq_of_mem_set hy with h' | rfl
  · exact h y h'
  · exact hx
theorem isTri_of_in {l : List Int} (h : In3 l) : isTri l = true := by
  unfold isTri
  rw [List.all_eq_true]
  intro x hx
  simpa using (h x hx).2
theorem below_set (l : List Int) (k : Nat) (x : Int) : belowT (l.set k x) (l.set k 2) = true := by
  refine (belowT_iff _ _).2 ⟨by simp, fun i hi => ?_⟩
  rw [List.length_set] at hi
  by_cases hik : k = i
  · subst hik
    simp [List.getD_eq_getElem?_getD, hi, bel1]
  · simp [List.getD_eq_getElem?_getD, List.getElem?_set_ne hik, bel1]
theorem exact_facts (st inp : List Bool) (G : List Pr) (k : Nat) (b : Bool) (ht : topo (1 + inp.length + st.length) G) (i : Nat) (hi : i < (valsOf3 (of3 st) ((of3 inp).set k 2) G).length) :
    (valsOf3 (of3 st) ((of3 inp).set k (if b then 1 else 0)) G).getD i 0 ≠ 2 ∧ ((valsOf3 (of3 st) ((of3 inp).set k 2) G).getD i 0 ≠ 2 → (valsOf3 (of3 st) ((of3 inp).set k (if b then 1 else 0)) G).getD i 0 = (valsOf3 (of3 st) ((of3 inp).set k 2) G).getD i 0) := by
  have e1 : valsOf3 (of3 st) ((of3 inp).set k (if b then 1 else 0)) G = of3 (valsOf st (inp.set k b) G) := by
    rw [of3_set]; exact valsOf3_of st (inp.set k b) G (by rw [List.length_set]; exact ht)
  have hb := belowT_valsOf G (belowT_refl (of3 st)) (below_set (of3 inp) k (if b then 1 else 0))
  obtain ⟨h1, h2⟩ := (belowT_iff _ _).1 hb
  have h3 := h2 i (by omega)
  rw [bel1_iff] at h3
  refine ⟨?_, fun h => h3.elim id (fun h3 => absurd h3 h)⟩
  rw [e1, of3_at _ _ (by rw [← of3_len, ← e1]; omega)]
  split <;> omega
set_option maxRecDepth 100000 in
set_option maxHeartbeats 8000000 in
theorem exact_any (I : Int) (AL AG AO AB AC AN : Option Addr) (cL cG cO cB cC cN : Nat) (L G : List Pr) (O D C : List Int) (N : List Nm) (AS AI : Option Addr) (cs ci : Nat) (st inp : List Bool) (l : Int) (w : World) (hT : TB w) (hA : RA w w.heap.size AL AG AO AB AC AN L G O D C N) (lO : O.length ≤ maxLen) (lD : D.length ≤ maxLen) (lC : C.length ≤ maxLen) (lN : N.length ≤ maxLen)
    (hS : RB w w.heap.size AS st) (hI : RB w w.heap.size AI inp) (nS : st.length ≤ cs) (mS : cs ≤ maxLen) (nI : inp.length ≤ ci) (mI : ci ≤ maxLen) (b0 : -9223372036854775808 ≤ l) (b1 : l ≤ 9223372036854775807) :
    Calls Tryd.prog 9 #[.agg #[.int .i64 I, .slice AL L.length cL, .slice AG G.length cG, .slice AO O.length cO, .slice AB D.length cB, .slice AC C.length cC, .slice AN N.length cN, .slice AS st.length cs, .slice AI inp.length ci, .int .i64 l]] w (RetV w (.bool true)) := by
  have hb := bal (bal (Below.refl w.heap.size w) (.cells #[.int .i64 I, .slice AL L.length cL, .slice AG G.length cG, .slice AO O.length cO, .slice AB D.length cB, .slice AC C.length cC, .slice AN N.length cN, .slice AS st.length cs, .slice AI inp.length ci, .int .i64 l] 64)) (.cells #[.int .i64 I, .slice AL L.length cL, .slice AG G.length cG, .slice AO O.length cO, .slice AB D.length cB, .slice AC C.length cC, .slice AN N.length cN] 35)
  have hk : KA ((w.alloc (.cells #[.int .i64 I, .slice AL L.length cL, .slice AG G.length cG, .slice AO O.length cO, .slice AB D.length cB, .slice AC C.length cC, .slice AN N.length cN, .slice AS st.length cs, .slice AI inp.length ci, .int .i64 l] 64)).alloc (.cells #[.int .i64 I, .slice AL L.length cL, .slice AG G.length cG, .slice AO O.length cO, .slice AB D.length cB, .slice AC C.length cC, .slice AN N.length cN] 35)) (w.heap.size + 1) I AL AG AO AB AC AN cL cG cO cB cC cN L G O D C N := by constructor <;> go_simp
  have hs0 : ((w.alloc (.cells #[.int .i64 I, .slice AL L.length cL, .slice AG G.length cG, .slice AO O.length cO, .slice AB D.length cB, .slice AC C.length cC, .slice AN N.length cN, .slice AS st.length cs, .slice AI inp.length ci, .int .i64 l] 64)).alloc (.cells #[.int .i64 I, .slice AL L.length cL, .slice AG G.length cG, .slice AO O.length cO, .slice AB D.length cB, .slice AC C.length cC, .slice AN N.length cN] 35)).heap.size = w.heap.size + 2 := by simp
  have CSH := shown_any ((w.alloc (.cells #[.int .i64 I, .slice AL L.length cL, .slice AG G.length cG, .slice AO O.length cO, .slice AB D.length cB, .slice AC C.length cC, .slice AN N.length cN, .slice AS st.length cs, .slice AI inp.length ci, .int .i64 l] 64)).alloc (.cells #[.int .i64 I, .slice AL L.length cL, .slice AG G.length cG, .slice AO O.length cO, .slice AB D.length cB, .slice AC C.length cC, .slice AN N.length cN] 35)) (hT.nx hb)
  have HTB := Lib.hid (hT.nx hb)
  have HA := Lib.hid (hA.nx hb)
  have RS := Lib.hid (hS.nx hb)
  have RI_ := Lib.hid (hI.nx hb)
  have HS0 := Lib.hid hs0
  have HB := Lib.hid hb
  have HKX0 := Lib.hid hk
  have CM := May9_rt I AL AG AO AB AC AN cL cG cO cB cC cN L G O D C N
  have HCM := Lib.hid (fun wx h => CM wx h lO lD lC lN)
  have ms : st.length ≤ 9223372036854775807 := by unfold maxLen at mS; omega
  have mi : inp.length ≤ 9223372036854775807 := by unfold maxLen at mI; omega
  clear hA hb hk hs0 hS hI CM lO lD lC lN hT nS mS nI mI
  go_enter Tryd.func9, Tryd.ntmps9
  go_wp2_with fail
  refine CSH.mono ?_; rintro e u1 ⟨rfl, hu1⟩
  generalize ((w.alloc (.cells #[.int .i64 I, .slice AL L.length cL, .slice AG G.length cG, .slice AO O.length cO, .slice AB D.length cB, .slice AC C.length cC, .slice AN N.length cN, .slice AS st.length cs, .slice AI inp.length ci, .int .i64 l] 64)).alloc (.cells #[.int .i64 I, .slice AL L.length cL, .slice AG G.length cG, .slice AO O.length cO, .slice AB D.length cB, .slice AC C.length cC, .slice AN N.length cN] 35)) = w0 at *
  have HKX : Hid (∀ wx, Below w0.heap.size w0 wx → KA wx (w.heap.size + 1) I AL AG AO AB AC AN cL cG cO cB cC cN L G O D C N) := Lib.hid fun wx hx => HKX0.out.nx hx (by have := HS0.out; omega)
  have HKC : Hid (∀ wx, Below w0.heap.size w0 wx → wx.cell? ⟨w.heap.size + 1, 0, none⟩ = some (.int .i64 I) ∧ wx.cell? ⟨w.heap.size + 1, 1, none⟩ = some (.slice AL L.length cL) ∧ wx.cell? ⟨w.heap.size + 1, 2, none⟩ = some (.slice AG G.length cG) ∧ wx.cell? ⟨w.heap.size + 1, 3, none⟩ = some (.slice AO O.length cO) ∧ wx.cell? ⟨w.heap.size + 1, 4, none⟩ = some (.slice AB D.length cB) ∧ wx.cell? ⟨w.heap.size + 1, 5, none⟩ = some (.slice AC C.length cC) ∧ wx.cell? ⟨w.heap.size + 1, 6, none⟩ = some (.slice AN N.length cN)) := Lib.hid fun wx hx => ⟨(HKX.out wx hx).k0, (HKX.out wx hx).k1, (HKX.out wx hx).k2, (HKX.out wx hx).k3, (HKX.out wx hx).k4, (HKX.out wx hx).k5, (HKX.out wx hx).k6⟩
  have Hu1 := Lib.hid hu1
  have FIN : Hid (∀ wx, Below w0.heap.size w0 wx → Below w.heap.size w wx) := Lib.hid fun wx hx => HB.out.trans (hx.mono HB.out.size)
  clear CSH hu1 HKX0 HB HS0
  obtain ⟨k0, k1, k2, k3, k4, k5, k6⟩ := HKX.out u1 Hu1.out
  have C1 := HCM.out u1 (HA.out.nx Hu1.out)
  go_wp2_with fail
  refine C1.mono ?_; rintro e u2 ⟨bm, rfl, pm, hu2⟩
  have Hu2 := Lib.hid (bnx Hu1.out hu2)
  have HP := Lib.hid pm
  clear C1 hu2 pm HCM k0 k1 k2 k3 k4 k5 k6
  cases bm
  · go_wp2
    go_ret
    exact ⟨rfl, FIN.out _ Hu2.out⟩
  obtain ⟨k0, k1, k2, k3, k4, k5, k6⟩ := HKX.out u2 Hu2.out
  have hMd := HP.out rfl
  have HMd := Lib.hid hMd.1
  have HX := Lib.hid (show I ≤ 40 ∧ L.length ≤ 40 ∧ G.length ≤ 40 from ⟨hMd.2.1, hMd.2.2.1, hMd.2.2.2.1⟩)
  have xL : L.length ≤ 40 := hMd.2.2.1
  clear HP hMd
  by_cases q0 : ¬ st.length = L.length
  · have d0 : ((st.length : Int) != (L.length : Int)) = true := by simp; omega
    go_wp2
    go_ret
    exact ⟨rfl, FIN.out _ Hu2.out⟩
  replace q0 := Classical.not_not.1 q0
  have d0 : ((st.length : Int) != (L.length : Int)) = false := by simp; omega
  by_cases q1 : ¬ (inp.length : Int) = I
  · have d1 : ((inp.length : Int) != I) = true := by simpa using q1
    clear q0
    go_wp2
    go_ret
    exact ⟨rfl, FIN.out _ Hu2.out⟩
  replace q1 := Classical.not_not.1 q1
  have d1 : ((inp.length : Int) != I) = false := by simp [q1]
  by_cases q2 : l < 0
  · have d2 : decide (l < 0) = true := decide_eq_true q2
    clear q0 q1
    go_wp2
    go_ret
    exact ⟨rfl, FIN.out _ Hu2.out⟩
  have d2 : decide (l < 0) = false := decide_eq_false q2
  by_cases q3 : (inp.length : Int) ≤ l
  · have d3 : decide ((inp.length : Int) ≤ l) = true := decide_eq_true q3
    clear q0 q1
    go_wp2
    go_ret
    exact ⟨rfl, FIN.out _ Hu2.out⟩
  have d3 : decide ((inp.length : Int) ≤ l) = false := decide_eq_false q3
  obtain ⟨k, hk⟩ : ∃ k : Nat, (k : Int) = l := ⟨l.toNat, by omega⟩
  have hki : k < inp.length := by omega
  have FF : Hid (∀ x : Int, 0 ≤ x ∧ x ≤ 2 → fit3 I L (of3 st) ((of3 inp).set k x) = true) := Lib.hid fun x hx => by
    unfold fit3
    rw [isTri_of, isTri_of_in (in3_set (of3_in inp) k hx), List.length_set, of3_len, of3_len]
    simp [q0, q1]
  have ls3 : (of3 st).length ≤ maxLen := by rw [of3_len]; unfold maxLen; omega
  have xI : inp.length ≤ 40 := by have := HX.out; omega
  have li3 : ∀ x, ((of3 inp).set k x).length ≤ maxLen := fun x => by rw [List.length_set, of3_len]; unfold maxLen; omega
  have ht := HMd.out.tp
  rw [show 1 + I.toNat + L.length = 1 + inp.length + st.length by omega] at ht
  have EF0 := Lib.hid (fun i hi => exact_facts st inp G k false ht i hi)
  have EF1 := Lib.hid (fun i hi => exact_facts st inp G k true ht i hi)
  simp only [Bool.false_eq_true, if_false, if_true] at EF0 EF1
  have LE : Hid (∀ x, (valsOf3 (of3 st) ((of3 inp).set k x) G).length = 1 + inp.length + st.length + G.length) := Lib.hid fun x => by rw [valsOf3_length, List.length_set, of3_len, of3_len]
  have VV : Hid (∀ x : Int, 0 ≤ x ∧ x ≤ 2 → ∀ A c A' c' wx, Below w0.heap.size w0 wx → RT wx wx.heap.size A (of3 st) → RT wx wx.heap.size A' ((of3 inp).set k x) → Calls Tryd.prog 22 #[.agg #[.int .i64 I, .slice AL L.length cL, .slice AG G.length cG, .slice AO O.length cO, .slice AB D.length cB, .slice AC C.length cC, .slice AN N.length cN], .slice A (of3 st).length c, .slice A' ((of3 inp).set k x).length c'] wx (RetR0 wx (valsOf3 (of3 st) ((of3 inp).set k x) G) 0)) := Lib.hid fun x hx A c A' c' wx hw r r' => by
    have := Values3_any I AL AG AO AB AC AN cL cG cO cB cC cN L G O D C N A A' c c' (of3 st) ((of3 inp).set k x) wx (HTB.out.nx hw) (HA.out.nx hw) r r' (nn_of st) (fun y hy => (in3_set (of3_in inp) k hx y hy).1) ls3 (li3 x) HMd.out
    rwa [FF.out x hx] at this
  have CW : Hid (∀ x wx, Below w0.heap.size w0 wx → Calls Tryd.prog 32 #[.slice AI inp.length ci, .int .i64 l, .int .u8 x] wx (RetR wx ((of3 inp).set k x))) := Lib.hid fun x wx hx => by
    have := row_any AI ci k inp x wx (RI_.out.nx hx) (by omega) hki
    rwa [hk] at this
  have c := Of_r AS cs st u2 (RS.out.nx Hu2.out) (by omega)
  have HSZ : Hid (1 + inp.length + st.length + G.length ≤ 1000) := Lib.hid (by have := HX.out; omega)
  clear q0 q1 HTB HA RS RI_ HMd HX FF ls3 li3 ht hk hki xL xI
  have V2 := Lib.hid (VV.out 2 (by omega))
  have V0 := Lib.hid (VV.out 0 (by omega))
  have V1 := Lib.hid (VV.out 1 (by omega))
  have W2 := Lib.hid (CW.out 2)
  have W0_ := Lib.hid (CW.out 0)
  have W1 := Lib.hid (CW.out 1)
  have E2 := Lib.hid (LE.out 2)
  have E0 := Lib.hid (LE.out 0)
  have E1 := Lib.hid (LE.out 1)
  clear VV CW LE
  generalize valsOf3 (of3 st) ((of3 inp).set k 2) G = T2 at *
  generalize valsOf3 (of3 st) ((of3 inp).set k 0) G = T0 at *
  generalize valsOf3 (of3 st) ((of3 inp).set k 1) G = T1 at *
  generalize (of3 inp).set k 2 = J2 at *
  generalize (of3 inp).set k 0 = J0 at *
  generalize (of3 inp).set k 1 = J1 at *
  generalize of3 st = S3 at *
  go_wp2_with fail
  refine c.mono ?_; rintro e u3 ⟨As, cs_, rfl, rs, _, _, _, hu3⟩
  have Hu3 := Lib.hid (bnx Hu2.out hu3)
  have RS3 := Lib.hid rs
  clear c hu3 rs k0 k1 k2 k3 k4 k5 k6
  have hU := Hu3.out.drew
  have K0 := HKC.out _ hU
  have R1 := RS3.out.nx (Below.refl u3.heap.size u3).drew
  go_wp2_with fail
  go_region_held3 (fun w' => w'.cell? ⟨w.heap.size + 1, 0, none⟩ = some (.int .i64 I) ∧ w'.cell? ⟨w.heap.size + 1, 1, none⟩ = some (.slice AL L.length cL) ∧ w'.cell? ⟨w.heap.size + 1, 2, none⟩ = some (.slice AG G.length cG) ∧ w'.cell? ⟨w.heap.size + 1, 3, none⟩ = some (.slice AO O.length cO) ∧ w'.cell? ⟨w.heap.size + 1, 4, none⟩ = some (.slice AB D.length cB) ∧ w'.cell? ⟨w.heap.size + 1, 5, none⟩ = some (.slice AC C.length cC) ∧ w'.cell? ⟨w.heap.size + 1, 6, none⟩ = some (.slice AN N.length cN))
    (first | exact K0 | exact K1 | exact K2)
    (first
      | (go_at_call 32; ((with_reducible refine (W2.out _ hU).mono ?_); rintro e p1 ⟨P2, q2, rfl, y1, _, _, _, hp1⟩; have U1 := bnx hU hp1; have K1 := HKC.out _ U1; have R2 := R1.nx hp1))
      | (go_at_call 22; ((with_reducible refine (V2.out As cs_ P2 q2 _ U1 R2 y1).mono ?_); rintro e v2 ⟨AV2, cV2, rfl, rv, _, _, _, hp2⟩; have U2 := bnx U1 hp2; have K2 := HKC.out _ U2)))
  have Hv2 := Lib.hid U2
  have hst := bnx (bnx (Below.refl u3.heap.size u3).drew hp1) hp2
  have RS3 := Lib.hid (RS3.out.nx hst)
  have RV2 := Lib.hid rv
  clear hU K0 K1 K2 U1 U2 hp1 hp2 y1 rv R1 R2 hst
  have hU := Hv2.out.drew
  have K0 := HKC.out _ hU
  have R1 := RS3.out.nx (Below.refl v2.heap.size v2).drew
  go_wp2_with fail
  go_region_held3 (fun w' => w'.cell? ⟨w.heap.size + 1, 0, none⟩ = some (.int .i64 I) ∧ w'.cell? ⟨w.heap.size + 1, 1, none⟩ = some (.slice AL L.length cL) ∧ w'.cell? ⟨w.heap.size + 1, 2, none⟩ = some (.slice AG G.length cG) ∧ w'.cell? ⟨w.heap.size + 1, 3, none⟩ = some (.slice AO O.length cO) ∧ w'.cell? ⟨w.heap.size + 1, 4, none⟩ = some (.slice AB D.length cB) ∧ w'.cell? ⟨w.heap.size + 1, 5, none⟩ = some (.slice AC C.length cC) ∧ w'.cell? ⟨w.heap.size + 1, 6, none⟩ = some (.slice AN N.length cN))
    (first | exact K0 | exact K1 | exact K2)
    (first
      | (go_at_call 32; ((with_reducible refine (W0_.out _ hU).mono ?_); rintro e p1 ⟨P0, q0, rfl, y1, _, _, _, hp1⟩; have U1 := bnx hU hp1; have K1 := HKC.out _ U1; have R2 := R1.nx hp1))
      | (go_at_call 22; ((with_reducible refine (V0.out As cs_ P0 q0 _ U1 R2 y1).mono ?_); rintro e v0 ⟨AV0, cV0, rfl, rv, _, _, _, hp2⟩; have U2 := bnx U1 hp2; have K2 := HKC.out _ U2)))
  have Hv0 := Lib.hid U2
  have hst := bnx (bnx (Below.refl v2.heap.size v2).drew hp1) hp2
  have RS3 := Lib.hid (RS3.out.nx hst)
  have RV2 := Lib.hid (RV2.out.nx hst)
  have RV0 := Lib.hid rv
  clear hU K0 K1 K2 U1 U2 hp1 hp2 y1 rv R1 R2 hst
  have hU := Hv0.out.drew
  have K0 := HKC.out _ hU
  have R1 := RS3.out.nx (Below.refl v0.heap.size v0).drew
  go_wp2_with fail
  go_region_held3 (fun w' => w'.cell? ⟨w.heap.size + 1, 0, none⟩ = some (.int .i64 I) ∧ w'.cell? ⟨w.heap.size + 1, 1, none⟩ = some (.slice AL L.length cL) ∧ w'.cell? ⟨w.heap.size + 1, 2, none⟩ = some (.slice AG G.length cG) ∧ w'.cell? ⟨w.heap.size + 1, 3, none⟩ = some (.slice AO O.length cO) ∧ w'.cell? ⟨w.heap.size + 1, 4, none⟩ = some (.slice AB D.length cB) ∧ w'.cell? ⟨w.heap.size + 1, 5, none⟩ = some (.slice AC C.length cC) ∧ w'.cell? ⟨w.heap.size + 1, 6, none⟩ = some (.slice AN N.length cN))
    (first | exact K0 | exact K1 | exact K2)
    (first
      | (go_at_call 32; ((with_reducible refine (W1.out _ hU).mono ?_); rintro e p1 ⟨P1, q1, rfl, y1, _, _, _, hp1⟩; have U1 := bnx hU hp1; have K1 := HKC.out _ U1; have R2 := R1.nx hp1))
      | (go_at_call 22; ((with_reducible refine (V1.out As cs_ P1 q1 _ U1 R2 y1).mono ?_); rintro e v1 ⟨AV1, cV1, rfl, rv, _, _, _, hp2⟩; have U2 := bnx U1 hp2; have K2 := HKC.out _ U2)))
  have Hv1 := Lib.hid U2
  have hst := bnx (bnx (Below.refl v0.heap.size v0).drew hp1) hp2
  have RS3 := Lib.hid (RS3.out.nx hst)
  have RV2 := Lib.hid (RV2.out.nx hst)
  have RV0 := Lib.hid (RV0.out.nx hst)
  have RV1 := Lib.hid rv
  clear hU K0 K1 K2 U1 U2 hp1 hp2 y1 rv R1 R2 hst
  have z1 : ((T2.length : Int) != (T0.length : Int)) = false := by rw [E2.out, E0.out]; simp
  have z2 : ((T2.length : Int) != (T1.length : Int)) = false := by rw [E2.out, E1.out]; simp
  have hlen : T2.length ≤ 1000 := by rw [E2.out]; exact HSZ.out
  clear HKC HKX V2 V0 V1 W2 W0_ W1
  go_wp2
  go_loopg [15] T2.length (fun g s wr => ∃ j : Nat, j + g = T2.length ∧ s = .int .i64 j ∧ Below v1.heap.size v1 wr)
  case atStart => exact ⟨0, by omega, rfl, Below.refl _ _⟩
  case round =>
    obtain ⟨j, hj, rfl, hbel⟩ := hrel
    cases gk with
    | zero =>
      have q1 : ¬ ((j : Int) < T2.length) := by omega
      have q2 : ¬ (j < T2.length) := by omega
      have HF := Lib.hid (FIN.out _ (bnx Hv1.out hbel))
      clear hbel
      go_wp2
      go_ret
      exact ⟨rfl, HF.out⟩
    | succ g =>
      have hjl : j < T2.length := by omega
      have hjl' : (j : Int) < T2.length := by omega
      have hj0 : j < T0.length := by have := E2.out; have := E0.out; omega
      have hj0' : (j : Int) < T0.length := by omega
      have hj1 : j < T1.length := by have := E2.out; have := E1.out; omega
      have hj1' : (j : Int) < T1.length := by omega
      obtain ⟨a2, rfl, _, h2⟩ := (RV2.out.nx hbel) j hjl
      obtain ⟨a0, rfl, _, h0⟩ := (RV0.out.nx hbel) j hj0
      obtain ⟨a1, rfl, _, h1⟩ := (RV1.out.nx hbel) j hj1
      obtain ⟨n0, m0⟩ := EF0.out j hjl
      obtain ⟨n1, m1⟩ := EF1.out j hjl
      generalize T2.getD j 0 = x2 at *
      generalize T0.getD j 0 = x0 at *
      generalize T1.getD j 0 = x1 at *
      have g0 : (x0 == 2) = false := by simpa using n0
      have g1 : (x1 == 2) = false := by simpa using n1
      have HBEL := Lib.hid hbel
      clear hbel
      by_cases hx : x2 = 2
      · subst hx
        clear m0 m1 n0 n1
        go_wp2
        go_quiet (fail)
        go_wp2
        go_roundg g
        case measure => omega
        case rel => exact ⟨j + 1, by omega, by go_num, bnx HBEL.out (drw _)⟩
      · have m0' := m0 hx
        have m1' := m1 hx
        subst m0' m1'
        have g2 : (x1 != 2) = true := by simpa using hx
        have g3 : (x1 != x1) = false := by simp
        clear m0 m1 n0 n1
        go_wp2
        go_quiet (fail)
        go_wp2
        go_roundg g
        case measure => omega
        case rel => exact ⟨j + 1, by omega, by go_num, bnx HBEL.out (drw _)⟩
end Go.Proofs.YtekopdfnblfldaaDoor
