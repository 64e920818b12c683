/-
  The document's example.
-/
import Derived.Test.YtkdocjcpehmljaaProg
import Derived.WalkKit
import Derived.WalkSpells
import Derived.WalkLawsBesides
import Derived.Lib.Hide
import Derived.BigQuiet
import Derived.Deep.QuietTactic
import Derived.Deep.RegionWith
import Derived.Deep.RegionHeld3
import Derived.Test.YtkdocjcpehmljaaQ09
set_option linter.unusedVariables false
namespace Go.Proofs.Ytkdocjcpehmljaa
open Go.RowKit
theorem ex_md : Md 0 [(3, 0)] [] [2, 3] [] [] where
  i0 := by omega
  i1 := by omega
  nl := by simp
  ng := by simp
  no := by simp
  nd := by simp
  nc := by simp
  lo := by intro x hx; simp at hx; omega
  ld := by intro x hx; simp at hx
  lc := by intro x hx; simp at hx
  ll := by intro p hp; simp at hp; subst hp; simp
  tp := by intro i hi; simp at hi
theorem ex_run : runL [(3, 0)] [] (startL [(3, 0)] [true]) [[], []] = [[false], [true], [false]] := by decide
theorem ex_next : nextL [(3, 0)] [] [true] [] = [false] := by decide
theorem ex_out : tellL [2, 3] [] [true] [] = [true, false] := by decide
theorem ex_vals : valsOf [true] [] [] = [false, true] := by decide
theorem ex_start : startL [(3, 0)] [true] = [false] := by decide
theorem ex_2 : lt [false, true] 2 = true := by decide
theorem ex_3 : lt [false, true] 3 = false := by decide
theorem one_b (w : World) (b : Bool) : RB (w.alloc (.cells #[.bool b] 4)) (w.alloc (.cells #[.bool b] 4)).heap.size (some ⟨w.heap.size, 0, none⟩) [b] := by
  intro i hi
  simp at hi
  subst hi
  refine ⟨_, rfl, by simp, ?_⟩
  rw [add_loc]
  go_simp
theorem RR.pick {w : World} {B : Nat} {A : Option Addr} {T : List (List Bool)} (h : RR w B A T) (i : Nat) (b : Bool) (hi : i < T.length) (hb : T.getD i [] = [b]) : ∃ ad ad' c, A = some ad ∧ w.cell? (ad.add i) = some (.slice (some ad') 1 c) ∧ w.cell? ad' = some (.bool b) := by
  obtain ⟨ad, A', c, e, _, hc, hr, _⟩ := h i hi
  rw [hb] at hc hr
  obtain ⟨ad', e', _, hc'⟩ := hr 0 (by simp)
  subst e'
  refine ⟨ad, ad', c, e, hc, ?_⟩
  have : ad'.add 0 = ad' := by simp [Addr.add]
  rw [this] at hc'
  exact hc'
theorem add0 (a : Addr) : a.add 0 = a := by simp [Addr.add]
theorem addk (a : Addr) (k : Nat) (h : 0 < k) : a.add k = ⟨a.block, a.off + k, none⟩ := by unfold Addr.add; rw [if_neg (by omega)]
theorem RB.pick {w : World} {B : Nat} {A : Option Addr} {s : List Bool} (h : RB w B A s) (i : Nat) (hi : i < s.length) : ∃ ad, A = some ad ∧ w.cell? (ad.add i) = some (.bool (s.getD i false)) := by
  obtain ⟨ad, e, _, hc⟩ := h i hi
  exact ⟨ad, e, hc⟩
theorem ex_ra (w : World) : RA (((w.alloc (.cells #[.int .i64 3, .int .i64 0] 63)).alloc (.cells #[.int .i64 2, .int .i64 3] 3)).alloc (.cells #[.int .i64 0, .slice (some ⟨w.heap.size, 0, none⟩) 1 1, .slice none 0 0, .slice (some ⟨w.heap.size + 1, 0, none⟩) 2 2, .slice none 0 0, .slice none 0 0, .slice none 0 0] 27)) (((w.alloc (.cells #[.int .i64 3, .int .i64 0] 63)).alloc (.cells #[.int .i64 2, .int .i64 3] 3)).alloc (.cells #[.int .i64 0, .slice (some ⟨w.heap.size, 0, none⟩) 1 1, .slice none 0 0, .slice (some ⟨w.heap.size + 1, 0, none⟩) 2 2, .slice none 0 0, .slice none 0 0, .slice none 0 0] 27)).heap.size (some ⟨w.heap.size, 0, none⟩) none (some ⟨w.heap.size + 1, 0, none⟩) none none none [(3, 0)] [] [2, 3] [] [] [] where
  l := by
    intro i hi
    simp at hi
    subst hi
    refine ⟨⟨w.heap.size, 0, none⟩, rfl, by simp; omega, ?_, ?_⟩ <;> rw [add_loc] <;> go_simp
  g := RP.nil _ _ _
  o := by
    intro i hi
    refine ⟨⟨w.heap.size + 1, 0, none⟩, rfl, by simp, ?_⟩
    rw [add_loc]
    match i, hi with
    | 0, _ => go_simp
    | 1, _ => go_simp
  d := RI.nil _ _ _
  c := RI.nil _ _ _
  n := RN.nil _ _ _
theorem ex_ka (w : World) : KA (((w.alloc (.cells #[.int .i64 3, .int .i64 0] 63)).alloc (.cells #[.int .i64 2, .int .i64 3] 3)).alloc (.cells #[.int .i64 0, .slice (some ⟨w.heap.size, 0, none⟩) 1 1, .slice none 0 0, .slice (some ⟨w.heap.size + 1, 0, none⟩) 2 2, .slice none 0 0, .slice none 0 0, .slice none 0 0] 27)) (w.heap.size + 2) 0 (some ⟨w.heap.size, 0, none⟩) none (some ⟨w.heap.size + 1, 0, none⟩) none none none 1 0 2 0 0 0 [(3, 0)] [] [2, 3] [] [] [] := by
  constructor <;> go_simp
theorem ex_rr (w : World) : RR ((((w.alloc (.cells #[.bool true] 4)).alloc (.cells #[] 4)).alloc (.cells #[] 4)).alloc (.cells #[.slice (some ⟨w.heap.size + 1, 0, none⟩) 0 0, .slice (some ⟨w.heap.size + 2, 0, none⟩) 0 0] 28)) ((((w.alloc (.cells #[.bool true] 4)).alloc (.cells #[] 4)).alloc (.cells #[] 4)).alloc (.cells #[.slice (some ⟨w.heap.size + 1, 0, none⟩) 0 0, .slice (some ⟨w.heap.size + 2, 0, none⟩) 0 0] 28)).heap.size (some ⟨w.heap.size + 3, 0, none⟩) [[], []] := by
  intro i hi
  match i, hi with
  | 0, _ => exact ⟨⟨w.heap.size + 3, 0, none⟩, some ⟨w.heap.size + 1, 0, none⟩, 0, rfl, by simp, by rw [add_loc]; go_simp, RB.nil _ _ _, by simp, by simp, fun e => by cases e⟩
  | 1, _ => exact ⟨⟨w.heap.size + 3, 0, none⟩, some ⟨w.heap.size + 2, 0, none⟩, 0, rfl, by simp, by rw [add_loc]; go_simp, RB.nil _ _ _, by simp, by simp, fun e => by cases e⟩
set_option maxRecDepth 100000 in
set_option maxHeartbeats 8000000 in
theorem shown_any (w : World) : Calls Try.prog 10 #[] w (RetV w (.bool true)) := by
  have hra := ex_ra w
  have hka := ex_ka w
  have hba : Below w.heap.size w (((w.alloc (.cells #[.int .i64 3, .int .i64 0] 63)).alloc (.cells #[.int .i64 2, .int .i64 3] 3)).alloc (.cells #[.int .i64 0, .slice (some ⟨w.heap.size, 0, none⟩) 1 1, .slice none 0 0, .slice (some ⟨w.heap.size + 1, 0, none⟩) 2 2, .slice none 0 0, .slice none 0 0, .slice none 0 0] 27)) := bal (bal (bal (Below.refl _ _) _) _) _
  have hsa : (((w.alloc (.cells #[.int .i64 3, .int .i64 0] 63)).alloc (.cells #[.int .i64 2, .int .i64 3] 3)).alloc (.cells #[.int .i64 0, .slice (some ⟨w.heap.size, 0, none⟩) 1 1, .slice none 0 0, .slice (some ⟨w.heap.size + 1, 0, none⟩) 2 2, .slice none 0 0, .slice none 0 0, .slice none 0 0] 27)).heap.size = w.heap.size + 3 := by simp
  go_enter Try.func10, Try.ntmps10
  go_upto_region 2 with fail
  rw [show w.heap.size + 1 + 1 = w.heap.size + 2 by omega]
  generalize (((w.alloc (.cells #[.int .i64 3, .int .i64 0] 63)).alloc (.cells #[.int .i64 2, .int .i64 3] 3)).alloc (.cells #[.int .i64 0, .slice (some ⟨w.heap.size, 0, none⟩) 1 1, .slice none 0 0, .slice (some ⟨w.heap.size + 1, 0, none⟩) 2 2, .slice none 0 0, .slice none 0 0, .slice none 0 0] 27)) = wA at *
  have hwb : Below wA.heap.size wA ((((wA.alloc (.cells #[.bool true] 4)).alloc (.cells #[] 4)).alloc (.cells #[] 4)).alloc (.cells #[.slice (some ⟨wA.heap.size + 1, 0, none⟩) 0 0, .slice (some ⟨wA.heap.size + 2, 0, none⟩) 0 0] 28)) := bal (bal (bal (bal (Below.refl _ _) _) _) _) _
  have C19 : Calls Try.prog 19 #[.agg #[.int .i64 0, .slice (some ⟨w.heap.size, 0, none⟩) 1 1, .slice none 0 0, .slice (some ⟨w.heap.size + 1, 0, none⟩) 2 2, .slice none 0 0, .slice none 0 0, .slice none 0 0], .slice (some ⟨wA.heap.size, 0, none⟩) 1 1, .slice (some ⟨wA.heap.size + 3, 0, none⟩) 2 2] ((((wA.alloc (.cells #[.bool true] 4)).alloc (.cells #[] 4)).alloc (.cells #[] 4)).alloc (.cells #[.slice (some ⟨wA.heap.size + 1, 0, none⟩) 0 0, .slice (some ⟨wA.heap.size + 2, 0, none⟩) 0 0] 28)) (RetRR ((((wA.alloc (.cells #[.bool true] 4)).alloc (.cells #[] 4)).alloc (.cells #[] 4)).alloc (.cells #[.slice (some ⟨wA.heap.size + 1, 0, none⟩) 0 0, .slice (some ⟨wA.heap.size + 2, 0, none⟩) 0 0] 28)) [[false], [true], [false]] 0) := by
    have h1 : RB ((((wA.alloc (.cells #[.bool true] 4)).alloc (.cells #[] 4)).alloc (.cells #[] 4)).alloc (.cells #[.slice (some ⟨wA.heap.size + 1, 0, none⟩) 0 0, .slice (some ⟨wA.heap.size + 2, 0, none⟩) 0 0] 28)) ((((wA.alloc (.cells #[.bool true] 4)).alloc (.cells #[] 4)).alloc (.cells #[] 4)).alloc (.cells #[.slice (some ⟨wA.heap.size + 1, 0, none⟩) 0 0, .slice (some ⟨wA.heap.size + 2, 0, none⟩) 0 0] 28)).heap.size (some ⟨wA.heap.size, 0, none⟩) [true] := (one_b wA true).nx (bal (bal (bal (Below.refl _ _) _) _) _)
    have := Run_yes 0 (some ⟨w.heap.size, 0, none⟩) none (some ⟨w.heap.size + 1, 0, none⟩) none none none 1 0 2 0 0 0 [(3, 0)] [] [2, 3] [] [] [] (some ⟨wA.heap.size, 0, none⟩) (some ⟨wA.heap.size + 3, 0, none⟩) 1 2 [true] [[], []] _ (hra.nx hwb) h1 (ex_rr wA) ex_md (by simp) rfl (by decide)
    rw [ex_run] at this
    exact this
  obtain ⟨k0, k1, k2, k3, k4, k5, k6⟩ := hka
  have HKA := Lib.hid (show ∀ wx, Below wA.heap.size wA wx → KA wx (w.heap.size + 2) 0 (some ⟨w.heap.size, 0, none⟩) none (some ⟨w.heap.size + 1, 0, none⟩) none none none 1 0 2 0 0 0 [(3, 0)] [] [2, 3] [] [] [] from fun wx hx => KA.nx ⟨k0, k1, k2, k3, k4, k5, k6⟩ hx (by omega))
  have HRA := Lib.hid hra
  have HBA := Lib.hid hba
  have HWB := Lib.hid hwb
  have HSA := Lib.hid hsa
  clear hra hba hwb hsa
  go_wp2_with fail
  (with_reducible refine C19.mono ?_); rintro e w2 ⟨Ar, cr, rfl, rr, zr, nr, mr, hb2⟩
  have HR2 := Lib.hid rr
  have hB2 := bnx HWB.out hb2
  have HB2 := Lib.hid hB2
  have hx2 := bal (Below.refl w2.heap.size w2) (.cells #[.bool true] 4)
  have C15 : Calls Try.prog 15 #[.agg #[.int .i64 0, .slice (some ⟨w.heap.size, 0, none⟩) 1 1, .slice none 0 0, .slice (some ⟨w.heap.size + 1, 0, none⟩) 2 2, .slice none 0 0, .slice none 0 0, .slice none 0 0], .slice (some ⟨w2.heap.size, 0, none⟩) 1 1, .slice none 0 0] (w2.alloc (.cells #[.bool true] 4)) (RetT (w2.alloc (.cells #[.bool true] 4)) [false] [true, false] [] [] 0) := by
    have := Step_yes 0 (some ⟨w.heap.size, 0, none⟩) none (some ⟨w.heap.size + 1, 0, none⟩) none none none 1 0 2 0 0 0 [(3, 0)] [] [2, 3] [] [] [] (some ⟨w2.heap.size, 0, none⟩) none 1 0 [true] [] _ (HRA.out.nx (bnx hB2 hx2)) (one_b w2 true) (RB.nil _ _ _) ex_md rfl rfl
    rw [ex_next, ex_out] at this
    exact this
  have HX2 := Lib.hid hx2
  obtain ⟨j0, j1, j2, j3, j4, j5, j6⟩ := HKA.out w2 hB2
  clear C19 rr zr nr mr hb2 hB2 hx2 k0 k1 k2 k3 k4 k5 k6
  go_wp2_with fail
  (with_reducible refine C15.mono ?_); rintro e w3 ⟨vn, vo, vd, vc, rfl, hn, ho, hd, hc, hb3⟩
  obtain ⟨An, cn, rfl, rn, zn, nn, mn⟩ := hn
  obtain ⟨Ao, co, rfl, ro, zo, no, mo⟩ := ho
  obtain ⟨Ad, cd, rfl, _⟩ := hd
  obtain ⟨Ac, cc, rfl, _⟩ := hc
  have hB3 : Below w2.heap.size w2 w3 := bnx HX2.out hb3
  have HN3 := Lib.hid rn
  have HO3 := Lib.hid ro
  have HB3 := Lib.hid hB3
  have hy3 := bal (Below.refl w3.heap.size w3) (.cells #[.slice Ao 2 co, .slice Ad 0 cd, .slice Ac 0 cc] 40)
  have ht3 := T3.new w3 (.slice Ao 2 co) (.slice Ad 0 cd) (.slice Ac 0 cc) 40
  have hs3 : (w3.alloc (.cells #[.slice Ao 2 co, .slice Ad 0 cd, .slice Ac 0 cc] 40)).heap.size = w3.heap.size + 1 := by simp
  have HY3 := Lib.hid hy3
  have HT3 := Lib.hid ht3
  have HS3 := Lib.hid hs3
  obtain ⟨l0, l1, l2, l3, l4, l5, l6⟩ := HKA.out w3 (bnx HB2.out hB3)
  clear C15 rn zn nn mn ro zo no mo hb3 hB3 hy3 ht3 hs3 j0 j1 j2 j3 j4 j5 j6
  go_upto_region 4 with fail
  generalize w3.alloc (.cells #[.slice Ao 2 co, .slice Ad 0 cd, .slice Ac 0 cc] 40) = x3 at *
  obtain ⟨g5, hg5⟩ : ∃ g, w3.heap.size = g := ⟨_, rfl⟩
  rw [hg5] at HT3 HS3 ⊢
  have hx3 : Below wA.heap.size wA x3 := bnx HB2.out (bnx HB3.out HY3.out)
  have HX3 := Lib.hid hx3
  have hz3 := bal (Below.refl x3.heap.size x3) (.cells #[.bool true] 4)
  have HZ3 := Lib.hid hz3
  have C13 : Calls Try.prog 13 #[.agg #[.int .i64 0, .slice (some ⟨w.heap.size, 0, none⟩) 1 1, .slice none 0 0, .slice (some ⟨w.heap.size + 1, 0, none⟩) 2 2, .slice none 0 0, .slice none 0 0, .slice none 0 0], .slice (some ⟨x3.heap.size, 0, none⟩) 1 1, .slice none 0 0] (x3.alloc (.cells #[.bool true] 4)) (RetB0 (x3.alloc (.cells #[.bool true] 4)) [false, true] 0) := by
    have := Values_yes 0 (some ⟨w.heap.size, 0, none⟩) none (some ⟨w.heap.size + 1, 0, none⟩) none none none 1 0 2 0 0 0 [(3, 0)] [] [2, 3] [] [] [] (some ⟨x3.heap.size, 0, none⟩) none 1 0 [true] [] _ (HRA.out.nx (bnx hx3 hz3)) (one_b x3 true) (RB.nil _ _ _) ex_md rfl rfl
    rw [ex_vals] at this
    exact this
  obtain ⟨j0, j1, j2, j3, j4, j5, j6⟩ := HKA.out x3 hx3
  clear l0 l1 l2 l3 l4 l5 l6 hx3 hz3
  go_wp2_with fail
  (with_reducible refine C13.mono ?_); rintro e w4 ⟨Av, cv, rfl, rv, zv, nv, mv, hb4⟩
  have hB4 : Below x3.heap.size x3 w4 := bnx HZ3.out hb4
  have HV4 := Lib.hid rv
  have HB4 := Lib.hid hB4
  have hz4 := bal (Below.refl w4.heap.size w4) (.cells #[.bool true] 4)
  have HZ4 := Lib.hid hz4
  have C17 : Calls Try.prog 17 #[.agg #[.int .i64 0, .slice (some ⟨w.heap.size, 0, none⟩) 1 1, .slice none 0 0, .slice (some ⟨w.heap.size + 1, 0, none⟩) 2 2, .slice none 0 0, .slice none 0 0, .slice none 0 0], .slice (some ⟨w4.heap.size, 0, none⟩) 1 1] (w4.alloc (.cells #[.bool true] 4)) (RetB0 (w4.alloc (.cells #[.bool true] 4)) [false] 0) := by
    have := Start_yes 0 (some ⟨w.heap.size, 0, none⟩) none (some ⟨w.heap.size + 1, 0, none⟩) none none none 1 0 2 0 0 0 [(3, 0)] [] [2, 3] [] [] [] (some ⟨w4.heap.size, 0, none⟩) 1 [true] _ (HRA.out.nx (bnx HX3.out (bnx hB4 hz4))).l (one_b w4 true) (by simp) rfl
    rw [ex_start] at this
    exact this
  obtain ⟨l0, l1, l2, l3, l4, l5, l6⟩ := HKA.out w4 (bnx HX3.out hB4)
  clear C13 rv zv nv mv hb4 hB4 hz4 j0 j1 j2 j3 j4 j5 j6
  go_wp2_with fail
  (with_reducible refine C17.mono ?_); rintro e w5 ⟨Az, cz, rfl, rz, zz, nz, mz, hb5⟩
  have hB5 : Below w4.heap.size w4 w5 := bnx HZ4.out hb5
  have hB45 := bnx HB4.out hB5
  have r5 := HR2.out.nx (bnx HB3.out (bnx HY3.out hB45))
  obtain ⟨ar, a0, d0, ea, p0, q0⟩ := r5.pick 0 false (by simp) rfl
  obtain ⟨ar1, a1, d1, ea1, p1, q1⟩ := r5.pick 1 true (by simp) rfl
  obtain ⟨ar2, a2, d2, ea2, p2, q2⟩ := r5.pick 2 false (by simp) rfl
  subst ea
  cases ea1
  cases ea2
  rw [add0] at p0
  rw [addk _ _ (by omega)] at p1 p2
  obtain ⟨an, en, qn⟩ := (HN3.out.nx (bnx HY3.out hB45)).pick 0 (by simp)
  obtain ⟨ao, eo, qo0⟩ := (HO3.out.nx (bnx HY3.out hB45)).pick 0 (by simp)
  obtain ⟨ao1, eo1, qo1⟩ := (HO3.out.nx (bnx HY3.out hB45)).pick 1 (by simp)
  obtain ⟨az, ez, qz⟩ := rz.pick 0 (by simp)
  subst en eo ez
  cases eo1
  rw [add0] at qn qo0 qz
  rw [addk _ _ (by omega)] at qo1
  simp only [List.getD_cons_zero, List.getD_cons_succ] at qn qo0 qo1 qz
  obtain ⟨e0, e1, e2, e3, e4, e5⟩ := HT3.out.nx hB45 (by have := HS3.out; omega)
  have rv5 := HV4.out.nx hB5
  have cv2 : Calls Try.prog 23 #[.slice Av 2 cv, .int .i64 2] w5 (RetS w5 (.bool true)) := by
    have := Lit_any Av cv [false, true] 2 w5 rv5 (by simp [maxLen]) (by omega) (by omega)
    rw [ex_2] at this
    exact this
  have cv3 : Calls Try.prog 23 #[.slice Av 2 cv, .int .i64 3] w5 (RetS w5 (.bool false)) := by
    have := Lit_any Av cv [false, true] 3 w5 rv5 (by simp [maxLen]) (by omega) (by omega)
    rw [ex_3] at this
    exact this
  have HFIN := Lib.hid (HBA.out.trans ((bnx HX3.out hB45).mono HBA.out.size))
  clear C17 rz zz nz mz hb5 hB5 hB45 r5 rv5 l0 l1 l2 l3 l4 l5 l6 HRA HKA HWB HSA HR2 HX2 HN3 HO3 HY3 HT3 HS3 HV4 HZ4 HZ3 HB2 HB3 HB4 HX3
  go_wp2_with fail
  (with_reducible refine cv2.mono ?_); rintro e w6 ⟨rfl, rfl⟩
  clear cv2
  go_wp2_with fail
  (with_reducible refine cv3.mono ?_); rintro e w6 ⟨rfl, rfl⟩
  clear cv3
  go_wp2
  go_ret
  exact ⟨rfl, HFIN.out⟩
end Go.Proofs.Ytkdocjcpehmljaa
