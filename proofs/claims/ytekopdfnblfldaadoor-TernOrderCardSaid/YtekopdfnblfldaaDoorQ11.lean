/-
  The document's examples.
  One statement's walk: TernOrder.
-/
import Derived.Test.YtekopdfnblfldaaDoorProg
import Derived.WalkKit
import Derived.WalkSpells
import Derived.WalkLawsBesides
import Derived.Lib.Hide
import Derived.BigQuiet
import Derived.Deep.QuietTactic
import Derived.Deep.RegionWith
import Derived.Deep.RegionHeld3
import Derived.Test.YtekopdfnblfldaaDoorQ09
import Derived.Test.YtekopdfnblfldaaDoorQ10
set_option linter.unusedVariables false
/- The document's examples. -/
namespace Go.Proofs.YtekopdfnblfldaaDoor
open Go.RowKit
theorem ex_md : Md 2 [] [(4, 2)] [6, 7] [] [] where
  i0 := by omega
  i1 := by omega
  nl := by simp
  ng := by simp
  no := by simp
  nd := by simp
  nc := by simp
  lo := by intro x hx; simp at hx; omega
  ld := by intro x hx; simp at hx
  lc := by intro x hx; simp at hx
  ll := by intro x hx; simp at hx
  tp := by
    intro i hi
    have : i = 0 := by simp at hi; omega
    subst this
    simp
theorem ex_vals : orNil (fit3 2 [] [] [0, 2]) (valsOf3 [] [0, 2] [(4, 2)]) = [0, 0, 2, 0] := by decide
theorem ex_fit : fit3 2 [] [] [0, 2] = true := by decide
theorem ex_fit2 : fit3 2 [] [] [1, 2] = true := by decide
theorem ex_next : nextL3 [] [(4, 2)] [] [1, 2] = [] := by decide
theorem ex_out : tellL3 [6, 7] [(4, 2)] [] [1, 2] = [2, 2] := by decide
theorem ex_nil : tellL3 [] [(4, 2)] [] [1, 2] = [] := by decide
theorem ex_lit : lt3 [0, 0, 2, 0] 7 = 1 := by decide
theorem two_t (w : World) (x y : Int) : RT (w.alloc (.cells #[.int .u8 x, .int .u8 y] 25)) (w.alloc (.cells #[.int .u8 x, .int .u8 y] 25)).heap.size (some ⟨w.heap.size, 0, none⟩) [x, y] := by
  obtain ⟨h0, h1⟩ := box_cells w (.int .u8 x) (.int .u8 y) 25
  intro i hi
  match i, hi with
  | 0, _ => exact ⟨_, rfl, by simp, by rw [add_loc]; exact h0⟩
  | 1, _ => exact ⟨_, rfl, by simp, by rw [add_loc]; exact h1⟩
theorem one_t (w : World) (x : Int) : RT (w.alloc (.cells #[.int .u8 x] 25)) (w.alloc (.cells #[.int .u8 x] 25)).heap.size (some ⟨w.heap.size, 0, none⟩) [x] := by
  intro i hi
  match i, hi with
  | 0, _ => exact ⟨_, rfl, by simp, by rw [add_loc]; go_simp⟩
theorem three_t (w : World) (x y z : Int) : RT (w.alloc (.cells #[.int .u8 x, .int .u8 y, .int .u8 z] 25)) (w.alloc (.cells #[.int .u8 x, .int .u8 y, .int .u8 z] 25)).heap.size (some ⟨w.heap.size, 0, none⟩) [x, y, z] := by
  intro i hi
  match i, hi with
  | 0, _ => exact ⟨_, rfl, by simp, by rw [add_loc]; go_simp⟩
  | 1, _ => exact ⟨_, rfl, by simp, by rw [add_loc]; go_simp⟩
  | 2, _ => exact ⟨_, rfl, by simp, by rw [add_loc]; go_simp⟩
theorem add0 (a : Addr) : a.add 0 = a := by simp [Addr.add]
theorem addk (a : Addr) (k : Nat) (h : 0 < k) : a.add k = ⟨a.block, a.off + k, none⟩ := by unfold Addr.add; rw [if_neg (by omega)]
theorem RT.pick {w : World} {B : Nat} {A : Option Addr} {s : List Int} (h : RT w B A s) (i : Nat) (hi : i < s.length) : ∃ ad, A = some ad ∧ w.cell? (ad.add i) = some (.int .u8 (s.getD i 0)) := by
  obtain ⟨ad, e, _, hc⟩ := h i hi
  exact ⟨ad, e, hc⟩
theorem ex_ra (w : World) : RA (((w.alloc (.cells #[.int .i64 4, .int .i64 2] 68)).alloc (.cells #[.int .i64 6, .int .i64 7] 3)).alloc (.cells #[.int .i64 2, .slice none 0 0, .slice (some ⟨w.heap.size, 0, none⟩) 1 1, .slice (some ⟨w.heap.size + 1, 0, none⟩) 2 2, .slice none 0 0, .slice none 0 0, .slice none 0 0] 35)) (((w.alloc (.cells #[.int .i64 4, .int .i64 2] 68)).alloc (.cells #[.int .i64 6, .int .i64 7] 3)).alloc (.cells #[.int .i64 2, .slice none 0 0, .slice (some ⟨w.heap.size, 0, none⟩) 1 1, .slice (some ⟨w.heap.size + 1, 0, none⟩) 2 2, .slice none 0 0, .slice none 0 0, .slice none 0 0] 35)).heap.size none (some ⟨w.heap.size, 0, none⟩) (some ⟨w.heap.size + 1, 0, none⟩) none none none [] [(4, 2)] [6, 7] [] [] [] where
  l := RP.nil _ _ _
  g := by
    intro i hi
    match i, hi with
    | 0, _ =>
      refine ⟨_, rfl, by simp; omega, ?_, ?_⟩
      · rw [add_loc]; go_simp
      · rw [add_loc]; go_simp
  o := by
    intro i hi
    match i, hi with
    | 0, _ => exact ⟨_, rfl, by simp, by rw [add_loc]; go_simp⟩
    | 1, _ => exact ⟨_, rfl, by simp, by rw [add_loc]; go_simp⟩
  d := RI.nil _ _ _
  c := RI.nil _ _ _
  n := RN.nil _ _ _
theorem ex_ka (w : World) : KA (((w.alloc (.cells #[.int .i64 4, .int .i64 2] 68)).alloc (.cells #[.int .i64 6, .int .i64 7] 3)).alloc (.cells #[.int .i64 2, .slice none 0 0, .slice (some ⟨w.heap.size, 0, none⟩) 1 1, .slice (some ⟨w.heap.size + 1, 0, none⟩) 2 2, .slice none 0 0, .slice none 0 0, .slice none 0 0] 35)) (w.heap.size + 2) 2 none (some ⟨w.heap.size, 0, none⟩) (some ⟨w.heap.size + 1, 0, none⟩) none none none 0 1 2 0 0 0 [] [(4, 2)] [6, 7] [] [] [] := by
  constructor <;> go_simp
set_option maxRecDepth 100000 in
set_option maxHeartbeats 8000000 in
theorem shown_any (w : World) (hTB : TB w) : Calls Tryd.prog 10 #[] w (RetV w (.bool true)) := by
  have hra := ex_ra w
  have hka := ex_ka w
  have hba : Below w.heap.size w (((w.alloc (.cells #[.int .i64 4, .int .i64 2] 68)).alloc (.cells #[.int .i64 6, .int .i64 7] 3)).alloc (.cells #[.int .i64 2, .slice none 0 0, .slice (some ⟨w.heap.size, 0, none⟩) 1 1, .slice (some ⟨w.heap.size + 1, 0, none⟩) 2 2, .slice none 0 0, .slice none 0 0, .slice none 0 0] 35)) := bal (bal (bal (Below.refl _ _) _) _) _
  have htb := hTB.nx hba
  have hsa : (((w.alloc (.cells #[.int .i64 4, .int .i64 2] 68)).alloc (.cells #[.int .i64 6, .int .i64 7] 3)).alloc (.cells #[.int .i64 2, .slice none 0 0, .slice (some ⟨w.heap.size, 0, none⟩) 1 1, .slice (some ⟨w.heap.size + 1, 0, none⟩) 2 2, .slice none 0 0, .slice none 0 0, .slice none 0 0] 35)).heap.size = w.heap.size + 3 := by simp
  clear hTB
  go_enter Tryd.func10, Tryd.ntmps10
  go_upto_region 2 with fail
  rw [show w.heap.size + 1 + 1 = w.heap.size + 2 by omega]
  generalize (((w.alloc (.cells #[.int .i64 4, .int .i64 2] 68)).alloc (.cells #[.int .i64 6, .int .i64 7] 3)).alloc (.cells #[.int .i64 2, .slice none 0 0, .slice (some ⟨w.heap.size, 0, none⟩) 1 1, .slice (some ⟨w.heap.size + 1, 0, none⟩) 2 2, .slice none 0 0, .slice none 0 0, .slice none 0 0] 35)) = wA at *
  have hwb := bal (Below.refl wA.heap.size wA) (.cells #[.int .u8 0, .int .u8 2] 25)
  have C22 : Calls Tryd.prog 22 #[.agg #[.int .i64 2, .slice none 0 0, .slice (some ⟨w.heap.size, 0, none⟩) 1 1, .slice (some ⟨w.heap.size + 1, 0, none⟩) 2 2, .slice none 0 0, .slice none 0 0, .slice none 0 0], .slice none 0 0, .slice (some ⟨wA.heap.size, 0, none⟩) 2 2] (wA.alloc (.cells #[.int .u8 0, .int .u8 2] 25)) (RetR0 (wA.alloc (.cells #[.int .u8 0, .int .u8 2] 25)) [0, 0, 2, 0] 0) := by
    have := Values3_any 2 none (some ⟨w.heap.size, 0, none⟩) (some ⟨w.heap.size + 1, 0, none⟩) none none none 0 1 2 0 0 0 [] [(4, 2)] [6, 7] [] [] [] none (some ⟨wA.heap.size, 0, none⟩) 0 2 [] [0, 2] _ (htb.nx hwb) (hra.nx hwb) (RT.nil _ _ _) (two_t wA 0 2) (by intro x hx; cases hx) (by intro x hx; simp at hx; omega) (by simp) (by simp [maxLen]) ex_md
    rw [ex_vals, ex_fit] at this
    exact this
  obtain ⟨k0, k1, k2, k3, k4, k5, k6⟩ := hka
  have HKA := Lib.hid (show ∀ wx, Below wA.heap.size wA wx → KA wx (w.heap.size + 2) 2 none (some ⟨w.heap.size, 0, none⟩) (some ⟨w.heap.size + 1, 0, none⟩) none none none 0 1 2 0 0 0 [] [(4, 2)] [6, 7] [] [] [] from fun wx hx => KA.nx ⟨k0, k1, k2, k3, k4, k5, k6⟩ hx (by omega))
  have HRA := Lib.hid hra
  have HBA := Lib.hid hba
  have HWB := Lib.hid hwb
  have HSA := Lib.hid hsa
  have HTB := Lib.hid htb
  clear hra hba hwb hsa htb
  go_wp2_with fail
  (with_reducible refine C22.mono ?_); rintro e w2 ⟨Av, cv, rfl, rv, zv, nv, mv, hb2⟩
  have HV2 := Lib.hid rv
  have hB2 := bnx HWB.out hb2
  have HB2 := Lib.hid hB2
  have hx2 := bal (Below.refl w2.heap.size w2) (.cells #[.int .u8 1, .int .u8 2] 25)
  have C24 : Calls Tryd.prog 24 #[.agg #[.int .i64 2, .slice none 0 0, .slice (some ⟨w.heap.size, 0, none⟩) 1 1, .slice (some ⟨w.heap.size + 1, 0, none⟩) 2 2, .slice none 0 0, .slice none 0 0, .slice none 0 0], .slice none 0 0, .slice (some ⟨w2.heap.size, 0, none⟩) 2 2] (w2.alloc (.cells #[.int .u8 1, .int .u8 2] 25)) (RetS3 (w2.alloc (.cells #[.int .u8 1, .int .u8 2] 25)) [] [2, 2] [] [] 0) := by
    have := Step3_any 2 none (some ⟨w.heap.size, 0, none⟩) (some ⟨w.heap.size + 1, 0, none⟩) none none none 0 1 2 0 0 0 [] [(4, 2)] [6, 7] [] [] [] none (some ⟨w2.heap.size, 0, none⟩) 0 2 [] [1, 2] _ (HTB.out.nx (bnx hB2 hx2)) (HRA.out.nx (bnx hB2 hx2)) (RT.nil _ _ _) (two_t w2 1 2) (by intro x hx; cases hx) (by intro x hx; simp at hx; omega) (by simp) (by simp [maxLen]) ex_md
    rw [ex_fit2] at this
    simp only [orNil, errX, if_true, ex_next, ex_out, ex_nil] at this
    exact this
  have HX2 := Lib.hid hx2
  obtain ⟨j0, j1, j2, j3, j4, j5, j6⟩ := HKA.out w2 hB2
  clear C22 rv zv nv mv hb2 hB2 hx2 k0 k1 k2 k3 k4 k5 k6
  go_wp2_with fail
  (with_reducible refine C24.mono ?_); rintro e w3 ⟨vn, vo, vd, vc, rfl, hn, ho, hd, hc, hb3⟩
  obtain ⟨An, cn, rfl, _⟩ := hn
  obtain ⟨Ao, co, rfl, ro, zo, no, mo⟩ := ho
  obtain ⟨Ad, cd, rfl, _⟩ := hd
  obtain ⟨Ac, cc, rfl, _⟩ := hc
  have hB3 : Below w2.heap.size w2 w3 := bnx HX2.out hb3
  have HO3 := Lib.hid ro
  have HB3 := Lib.hid hB3
  have hy3 := bal (Below.refl w3.heap.size w3) (.cells #[.slice Ao 2 co, .slice Ad 0 cd, .slice Ac 0 cc] 44)
  have ht3 := T3.new w3 (.slice Ao 2 co) (.slice Ad 0 cd) (.slice Ac 0 cc) 44
  have hs3 : (w3.alloc (.cells #[.slice Ao 2 co, .slice Ad 0 cd, .slice Ac 0 cc] 44)).heap.size = w3.heap.size + 1 := by simp
  have HY3 := Lib.hid hy3
  have HT3 := Lib.hid ht3
  have HS3 := Lib.hid hs3
  clear C24 ro zo no mo hb3 hB3 hy3 ht3 hs3 j0 j1 j2 j3 j4 j5 j6
  go_upto_region 4 with fail
  generalize w3.alloc (.cells #[.slice Ao 2 co, .slice Ad 0 cd, .slice Ac 0 cc] 44) = x3 at *
  obtain ⟨g5, hg5⟩ : ∃ g, w3.heap.size = g := ⟨_, rfl⟩
  rw [hg5] at HT3 HS3 ⊢
  have hx3 : Below wA.heap.size wA x3 := bnx HB2.out (bnx HB3.out HY3.out)
  have rv3 := HV2.out.nx (bnx HB3.out HY3.out)
  have ro3 := HO3.out.nx HY3.out
  obtain ⟨av, ev, qv⟩ := rv3.pick 3 (by simp)
  obtain ⟨ao, eo, qo0⟩ := ro3.pick 0 (by simp)
  obtain ⟨ao1, eo1, qo1⟩ := ro3.pick 1 (by simp)
  subst ev eo
  cases eo1
  rw [add0] at qo0
  rw [addk _ _ (by omega)] at qo1 qv
  simp only [List.getD_cons_zero, List.getD_cons_succ] at qv qo0 qo1
  obtain ⟨e0, e1, e2, e3, e4, e5⟩ := HT3.out
  have HX3 := Lib.hid hx3
  have HV3 := Lib.hid rv3
  have CA : Calls Tryd.prog 15 #[.int .u8 0, .int .u8 2] x3 (RetV x3 (.int .u8 0)) := (And_q 0 2 (by omega) (by omega) x3 (HTB.out.nx hx3)).mono fun e w' ⟨he, n, hw⟩ => ⟨he, by rw [hw]; exact drw n⟩
  clear hx3 rv3 ro3 HB3 HX2 HO3 HY3 HT3 HS3 HV2 HKA HRA HB2
  go_wp2_with fail
  (with_reducible refine CA.mono ?_); rintro e w4 ⟨rfl, h4⟩
  have CN := Not_any 0 w4
  rw [show not3 0 = 1 from rfl] at CN
  have H4 := Lib.hid h4
  clear CA h4 qv qo0 qo1 e0 e1 e2 e3 e4 e5
  go_wp2_with fail
  (with_reducible refine CN.mono ?_); rintro e w4' ⟨rfl, rfl⟩
  have CL : Calls Tryd.prog 27 #[.slice (some av) 4 cv, .int .i64 7] w4 (RetV w4 (.int .u8 1)) := by
    have := Lit3_any (some av) cv [0, 0, 2, 0] 7 w4 (HV3.out.nx H4.out) (by simp [maxLen]) (by omega) (by omega)
    rw [ex_lit] at this
    exact this
  clear CN
  go_wp2_with fail
  (with_reducible refine CL.mono ?_); rintro e w5 ⟨rfl, h5⟩
  have H5 := Lib.hid (bnx H4.out h5)
  have hb6 := bal (bal (Below.refl w5.heap.size w5) (.cells #[.int .u8 1] 25)) (.cells #[.int .u8 2] 25)
  have CB : Calls Tryd.prog 17 #[.slice (some ⟨w5.heap.size, 0, none⟩) 1 1, .slice (some ⟨w5.heap.size + 1, 0, none⟩) 1 1] ((w5.alloc (.cells #[.int .u8 1] 25)).alloc (.cells #[.int .u8 2] 25)) (RetS ((w5.alloc (.cells #[.int .u8 1] 25)).alloc (.cells #[.int .u8 2] 25)) (.bool true)) := by
    have h2 := one_t (w5.alloc (.cells #[.int .u8 1] 25)) 2
    rw [show (w5.alloc (.cells #[.int .u8 1] 25)).heap.size = w5.heap.size + 1 by simp] at h2
    have := Below_any (some ⟨w5.heap.size, 0, none⟩) (some ⟨w5.heap.size + 1, 0, none⟩) 1 1 [1] [2] ((w5.alloc (.cells #[.int .u8 1] 25)).alloc (.cells #[.int .u8 2] 25)) ((one_t w5 1).nx (bal (Below.refl _ _) _)) h2 (by simp [maxLen])
    exact this
  have H6 := Lib.hid (bnx H5.out hb6)
  clear CL h5 hb6
  go_wp2_with fail
  (with_reducible refine CB.mono ?_); rintro e w6' ⟨rfl, rfl⟩
  generalize (w5.alloc (.cells #[.int .u8 1] 25)).alloc (.cells #[.int .u8 2] 25) = w6 at *
  have hb7 := bal (Below.refl w6.heap.size w6) (.cells #[.int .u8 0, .int .u8 1, .int .u8 2] 25)
  have CX : Calls Tryd.prog 19 #[.slice (some ⟨w6.heap.size, 0, none⟩) 3 3] (w6.alloc (.cells #[.int .u8 0, .int .u8 1, .int .u8 2] 25)) (RetV (w6.alloc (.cells #[.int .u8 0, .int .u8 1, .int .u8 2] 25)) (.string ⟨#[48, 49, 120]⟩)) :=
    Text_any (some ⟨w6.heap.size, 0, none⟩) 3 [0, 1, 2] _ (three_t w6 0 1 2) (by simp) (by intro x hx; simp at hx; omega)
  have H7 := Lib.hid (bnx H6.out hb7)
  clear CB hb7
  go_wp2_with fail
  (with_reducible refine CX.mono ?_); rintro e w8 ⟨rfl, h8⟩
  have H8 := Lib.hid (bnx H7.out h8)
  have CI : Calls Tryd.prog 11 #[.slice (some av) 4 cv] w8 (RetS w8 (.bool true)) := IsTri_any (some av) cv [0, 0, 2, 0] w8 (HV3.out.nx H8.out) (by simp [maxLen])
  have HFIN := Lib.hid (HBA.out.trans ((bnx HX3.out H8.out).mono HBA.out.size))
  clear CX h8
  go_wp2_with fail
  (with_reducible refine CI.mono ?_); rintro e w9 ⟨rfl, rfl⟩
  clear CI
  go_wp2
  go_ret
  exact ⟨rfl, HFIN.out⟩
end Go.Proofs.YtekopdfnblfldaaDoor
/- One statement's walk: TernOrder. -/
namespace Go.Proofs.YtekopdfnblfldaaDoor
open Go.RowKit
theorem And_any (x y : Int) (hx : 0 ≤ x) (hy : 0 ≤ y) (w : World) (hT : TB w) : Calls Tryd.prog 15 #[.int .u8 x, .int .u8 y] w (RetV w (.int .u8 (and3 x y))) :=
  (And_q x y hx hy w hT).mono fun e w' ⟨he, n, hw⟩ => ⟨he, by rw [hw]; exact drw n⟩
theorem and3_comm (x y : Int) : and3 x y = and3 y x := by
  unfold and3
  repeat' split
  all_goals omega
theorem and3_assoc (x y z : Int) : and3 x (and3 y z) = and3 (and3 x y) z := by
  unfold and3
  repeat' split
  all_goals omega
theorem and3_one (x : Int) (h0 : 0 ≤ x) (h1 : x ≤ 2) : and3 x 1 = x := by
  unfold and3
  repeat' split
  all_goals omega
theorem and3_zero (x : Int) : and3 x 0 = 0 := by unfold and3; rw [if_pos (.inr rfl)]
theorem and3_self (x : Int) (h0 : 0 ≤ x) (h1 : x ≤ 2) : and3 x x = x := by
  unfold and3
  repeat' split
  all_goals omega
theorem not3_not (x : Int) (h0 : 0 ≤ x) (h1 : x ≤ 2) : not3 (not3 x) = x := by
  unfold not3
  repeat' split
  all_goals omega
theorem below_one (x y : Int) (h : x = y ∨ y = 2) : belowT [x] [y] = true := by
  simp [belowT, bel1]
  omega
theorem and3_wide (x y : Int) (h0 : 0 ≤ x) (h1 : x ≤ 2) : and3 x y = and3 x 2 ∨ and3 x 2 = 2 := by
  unfold and3
  repeat' split
  all_goals omega
theorem Below1_any (x y : Int) (h : x = y ∨ y = 2) (w : World) : Calls Tryd.prog 17 #[.slice (some ⟨w.heap.size, 0, none⟩) 1 1, .slice (some ⟨w.heap.size + 1, 0, none⟩) 1 1] ((w.alloc (.cells #[.int .u8 x] 25)).alloc (.cells #[.int .u8 y] 25)) (RetS ((w.alloc (.cells #[.int .u8 x] 25)).alloc (.cells #[.int .u8 y] 25)) (.bool true)) := by
  have h2 := one_t (w.alloc (.cells #[.int .u8 x] 25)) y
  rw [show (w.alloc (.cells #[.int .u8 x] 25)).heap.size = w.heap.size + 1 by simp] at h2
  have := Below_any (some ⟨w.heap.size, 0, none⟩) (some ⟨w.heap.size + 1, 0, none⟩) 1 1 [x] [y] ((w.alloc (.cells #[.int .u8 x] 25)).alloc (.cells #[.int .u8 y] 25)) ((one_t w x).nx (bal (Below.refl _ _) _)) h2 (by simp [maxLen])
  rw [below_one x y h] at this
  exact this
set_option maxRecDepth 100000 in
set_option maxHeartbeats 8000000 in
theorem order_any (x y z : Int) (x0 : 0 ≤ x) (y0 : 0 ≤ y) (z0 : 0 ≤ z) (w : World) (hT : TB w) :
    Calls Tryd.prog 7 #[.int .u8 x, .int .u8 y, .int .u8 z] w (RetV w (.bool true)) := by
  have C0 := shown_any w hT
  have HT := Lib.hid hT
  clear hT
  by_cases hx : 2 < x
  · have d0 : decide (2 < x) = true := decide_eq_true hx
    go_enter Tryd.func7, Tryd.ntmps7
    go_wp2_with fail
    refine C0.mono ?_; rintro e w0 ⟨rfl, h0⟩
    clear C0
    go_wp2
    go_ret
    exact ⟨rfl, h0⟩
  have d0 : decide (2 < x) = false := decide_eq_false hx
  by_cases hy : 2 < y
  · have d1 : decide (2 < y) = true := decide_eq_true hy
    go_enter Tryd.func7, Tryd.ntmps7
    go_wp2_with fail
    refine C0.mono ?_; rintro e w0 ⟨rfl, h0⟩
    clear C0
    go_wp2
    go_ret
    exact ⟨rfl, h0⟩
  have d1 : decide (2 < y) = false := decide_eq_false hy
  by_cases hz : 2 < z
  · have d2 : decide (2 < z) = true := decide_eq_true hz
    go_enter Tryd.func7, Tryd.ntmps7
    go_wp2_with fail
    refine C0.mono ?_; rintro e w0 ⟨rfl, h0⟩
    clear C0
    go_wp2
    go_ret
    exact ⟨rfl, h0⟩
  have d2 : decide (2 < z) = false := decide_eq_false hz
  have rxy := @and3_in x y
  have rx2 := @and3_in x 2
  have ryz := @and3_in y z
  have n1 := @not3_in x
  have K : Hid (∀ wx, Below w.heap.size w wx → Calls Tryd.prog 15 #[.int .u8 x, .int .u8 y] wx (RetV wx (.int .u8 (and3 x y))) ∧ Calls Tryd.prog 15 #[.int .u8 x, .int .u8 2] wx (RetV wx (.int .u8 (and3 x 2))) ∧ Calls Tryd.prog 15 #[.int .u8 y, .int .u8 x] wx (RetV wx (.int .u8 (and3 x y))) ∧ Calls Tryd.prog 15 #[.int .u8 (and3 x y), .int .u8 z] wx (RetV wx (.int .u8 (and3 (and3 x y) z))) ∧ Calls Tryd.prog 15 #[.int .u8 y, .int .u8 z] wx (RetV wx (.int .u8 (and3 y z))) ∧ Calls Tryd.prog 15 #[.int .u8 x, .int .u8 (and3 y z)] wx (RetV wx (.int .u8 (and3 (and3 x y) z))) ∧ Calls Tryd.prog 15 #[.int .u8 x, .int .u8 1] wx (RetV wx (.int .u8 x)) ∧ Calls Tryd.prog 15 #[.int .u8 x, .int .u8 0] wx (RetV wx (.int .u8 0)) ∧ Calls Tryd.prog 15 #[.int .u8 x, .int .u8 x] wx (RetV wx (.int .u8 x))) := Lib.hid fun wx hx' => by
    have ht := HT.out.nx hx'
    refine ⟨And_any x y x0 y0 wx ht, And_any x 2 x0 (by omega) wx ht, ?_, And_any _ z rxy.1 z0 wx ht, And_any y z y0 z0 wx ht, ?_, ?_, ?_, ?_⟩
    · rw [and3_comm]; exact And_any y x y0 x0 wx ht
    · rw [← and3_assoc]; exact And_any x _ x0 ryz.1 wx ht
    · have := And_any x 1 x0 (by omega) wx ht
      rwa [and3_one x x0 (by omega)] at this
    · have := And_any x 0 x0 (by omega) wx ht
      rwa [and3_zero] at this
    · have := And_any x x x0 x0 wx ht
      rwa [and3_self x x0 (by omega)] at this
  have KN : Hid (∀ wx, Calls Tryd.prog 13 #[.int .u8 x] wx (RetS wx (.int .u8 (not3 x))) ∧ Calls Tryd.prog 13 #[.int .u8 (not3 x)] wx (RetS wx (.int .u8 x)) ∧ Calls Tryd.prog 13 #[.int .u8 2] wx (RetS wx (.int .u8 2))) := Lib.hid fun wx => by
    refine ⟨Not_any x wx, ?_, Not_any 2 wx⟩
    have := Not_any (not3 x) wx
    rwa [not3_not x x0 (by omega)] at this
  have HW := Lib.hid (and3_wide x y x0 (by omega))
  generalize and3 (and3 x y) z = r at *
  generalize and3 x y = p at *
  generalize and3 x 2 = q at *
  generalize and3 y z = s at *
  generalize not3 x = n at *
  clear rxy rx2 ryz n1 HT
  have e1 : (p == p) = true := by simp
  have e2 : (r == r) = true := by simp
  have e3 : (x == x) = true := by simp
  go_enter Tryd.func7, Tryd.ntmps7
  go_wp2_with fail
  refine C0.mono ?_; rintro e w0 ⟨rfl, h0⟩
  have H0 := Lib.hid h0
  have c1 := (K.out w0 h0).1
  clear C0 h0
  go_wp2_with fail
  refine c1.mono ?_; rintro e w1 ⟨rfl, h1⟩
  have H1 := Lib.hid (bnx H0.out h1)
  have c2 := (K.out w1 H1.out).2.1
  clear c1 h1
  go_wp2_with fail
  refine c2.mono ?_; rintro e w2 ⟨rfl, h2⟩
  have H2 := Lib.hid (bnx H1.out h2)
  have c3 := Below1_any p q HW.out w2
  have H3 := Lib.hid (bnx H2.out (bal (bal (Below.refl w2.heap.size w2) (.cells #[.int .u8 p] 25)) (.cells #[.int .u8 q] 25)))
  clear c2 h2
  go_wp2_with fail
  refine c3.mono ?_; rintro e w3' ⟨rfl, rfl⟩
  generalize (w2.alloc (.cells #[.int .u8 p] 25)).alloc (.cells #[.int .u8 q] 25) = w3 at *
  have c4 := (KN.out w3).1
  clear c3
  go_wp2_with fail
  refine c4.mono ?_; rintro e w4' ⟨rfl, rfl⟩
  clear c4
  have c5 := (KN.out (w3.alloc (.cells #[.int .u8 n] 25))).2.2
  go_wp2_with fail
  refine c5.mono ?_; rintro e w4' ⟨rfl, rfl⟩
  clear c5
  have c6 := Below1_any n 2 (.inr rfl) w3
  have H6 := Lib.hid (bnx H3.out (bal (bal (Below.refl w3.heap.size w3) (.cells #[.int .u8 n] 25)) (.cells #[.int .u8 2] 25)))
  go_wp2_with fail
  refine c6.mono ?_; rintro e w4' ⟨rfl, rfl⟩
  generalize (w3.alloc (.cells #[.int .u8 n] 25)).alloc (.cells #[.int .u8 2] 25) = w6 at *
  have c7 := (K.out w6 H6.out).2.2.1
  clear c6
  go_wp2_with fail
  refine c7.mono ?_; rintro e w7 ⟨rfl, h7⟩
  have H7 := Lib.hid (bnx H6.out h7)
  have c8 := (K.out w7 H7.out).2.2.2.1
  clear c7 h7
  go_wp2_with fail
  refine c8.mono ?_; rintro e w8 ⟨rfl, h8⟩
  have H8 := Lib.hid (bnx H7.out h8)
  have c9 := (K.out w8 H8.out).2.2.2.2.1
  clear c8 h8
  go_wp2_with fail
  refine c9.mono ?_; rintro e w9 ⟨rfl, h9⟩
  have H9 := Lib.hid (bnx H8.out h9)
  have c10 := (K.out w9 H9.out).2.2.2.2.2.1
  clear c9 h9
  go_wp2_with fail
  refine c10.mono ?_; rintro e w10 ⟨rfl, h10⟩
  have H10 := Lib.hid (bnx H9.out h10)
  have c11 := (K.out w10 H10.out).2.2.2.2.2.2.1
  clear c10 h10
  go_wp2_with fail
  refine c11.mono ?_; rintro e w11 ⟨rfl, h11⟩
  have H11 := Lib.hid (bnx H10.out h11)
  have c12 := (K.out w11 H11.out).2.2.2.2.2.2.2.1
  clear c11 h11
  go_wp2_with fail
  refine c12.mono ?_; rintro e w12 ⟨rfl, h12⟩
  have H12 := Lib.hid (bnx H11.out h12)
  have c13 := (KN.out w12).1
  clear c12 h12
  go_wp2_with fail
  refine c13.mono ?_; rintro e w4' ⟨rfl, rfl⟩
  clear c13
  have c14 := (KN.out w12).2.1
  go_wp2_with fail
  refine c14.mono ?_; rintro e w4' ⟨rfl, rfl⟩
  clear c14
  have c15 := (K.out w12 H12.out).2.2.2.2.2.2.2.2
  go_wp2_with fail
  refine c15.mono ?_; rintro e w13 ⟨rfl, h13⟩
  have H13 := Lib.hid (bnx H12.out h13)
  clear c15 h13
  go_wp2
  go_ret
  exact ⟨rfl, H13.out⟩
end Go.Proofs.YtekopdfnblfldaaDoor
