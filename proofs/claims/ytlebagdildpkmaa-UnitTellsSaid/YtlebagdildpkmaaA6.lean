/-
  enter.
-/
import Derived.Test.YtlebagdildpkmaaProg
import Derived.WalkKit
import Derived.WalkSpells
import Derived.WalkLawsBesides
import Derived.Lib.Hide
import Derived.BigQuiet
import Derived.Deep.QuietTactic
import Derived.Deep.RegionWith
import Derived.Deep.RegionHeld3
import Derived.Test.YtlebagdildpkmaaA5b
import Derived.Test.YtlebagdildpkmaaK2
import Derived.Deep.Cut
import Derived.Deep.LoopGhost
import Derived.WalkMore
set_option linter.unusedVariables false
namespace Go.Proofs.Ytlebagdildpkmaa
open Go.RowKit
/-- The slice at A holds the clauses L, in blocks below B, each with room for what it holds. -/
def RCk (w : World) (B : Nat) (A : Option Addr) (L : List (List Int)) : Prop :=
  ∀ i, i < L.length → ∃ ad A' c', A = some ad ∧ ad.block < B ∧ w.cell? (ad.add i) = some (.slice A' (L.getD i []).length c') ∧ RI w B A' (L.getD i []) ∧ (L.getD i []).length ≤ c' ∧ c' ≤ maxLen
theorem RCk.below {w w' : World} {B : Nat} {A : Option Addr} {L : List (List Int)} (h : RCk w B A L) (hb : Below B w w') : RCk w' B A L := by
  intro i hi
  obtain ⟨ad, A', c', e, hlt, hc, hr, hm⟩ := h i hi
  exact ⟨ad, A', c', e, hlt, (hb.cell (by rw [block_add]; exact hlt)).trans hc, hr.below hb, hm⟩
theorem RCk.mono {w : World} {B B' : Nat} {A : Option Addr} {L : List (List Int)} (h : RCk w B A L) (hB : B ≤ B') : RCk w B' A L := by
  intro i hi
  obtain ⟨ad, A', c', e, hlt, hc, hr, hm⟩ := h i hi
  exact ⟨ad, A', c', e, by omega, hc, hr.mono hB, hm⟩
theorem RCk.nx {w w' : World} {A : Option Addr} {L : List (List Int)} (h : RCk w w.heap.size A L) (hb : Below w.heap.size w w') : RCk w' w'.heap.size A L := (h.below hb).mono hb.size
theorem CS.bel {z : World} {sb hb rb T : Nat} {w : World} {vk : Int → Value} {F : List Int} {R : Int → List Nat} {W : Nat → Wt} {I : List Nat} (h : CS z sb hb rb T w vk F R W I) : Below z.heap.size z w := by
  obtain ⟨t, vF, nR, h⟩ := h
  exact h.bel
theorem CS.c1 {z : World} {sb hb rb T : Nat} {w : World} {vk : Int → Value} {F : List Int} {R : Int → List Nat} {W : Nat → Wt} {I : List Nat} (h : CS z sb hb rb T w vk F R W I) : w.cell? ⟨sb, 1, none⟩ = some (.map (some hb)) := by
  obtain ⟨t, vF, nR, h⟩ := h
  exact h.c1
theorem CS.nq {z : World} {sb hb rb T : Nat} {w : World} {vk : Int → Value} {F : List Int} {R : Int → List Nat} {W : Nat → Wt} {I : List Nat} (h : CS z sb hb rb T w vk F R W I) (n : Nat) : CS z sb hb rb T (w.drewN n) vk F R W I := h.nx (grown_drew n none)
theorem CS.up {z : World} {sb hb rb T T' : Nat} {w : World} {vk : Int → Value} {F : List Int} {R : Int → List Nat} {W : Nat → Wt} {I : List Nat} (h : CS z sb hb rb T w vk F R W I) (hT : T ≤ T') : CS z sb hb rb T' w vk F R W I := by
  obtain ⟨t, vF, nR, h⟩ := h
  exact ⟨t, vF, nR, h.bel, h.ts, h.th, h.tr, h.bs, h.bh, h.br, h.c0, h.c1, h.c2, h.oF, h.tF, h.mh, h.mr, Nat.le_trans h.pot hT, h.oR, h.tR, h.wa, h.rI, h.rl⟩
theorem CS.look {z : World} {sb hb rb T : Nat} {w : World} {vk : Int → Value} {F : List Int} {R : Int → List Nat} {W : Nat → Wt} {I : List Nat} (h : CS z sb hb rb T w vk F R W I) {v : Int} (h0 : 0 ≤ v) (h1 : v ≤ 4611686018427387904) (n : Nat) : (Instr.lookup 59 (.map (some hb)) (.int .u64 v) false).run Try.prog (w.drewN n) = .ok (.int .i64 (heldF F v)) (w.drewN n) := by
  obtain ⟨t, vF, nR, h⟩ := h.nq n
  exact h.look h0 h1
theorem var_q {x : Int} (h0 : -4611686018427387904 ≤ x) (h1 : x ≤ 4611686018427387904) (w : World) : Calls Try.prog 31 #[.int .i64 x] w (fun e w' => e = .returned (.int .u64 (x.natAbs : Int)) ∧ w' = w) :=
  (variable_any x w h0 h1).mono fun e w' h => ⟨h.1, h.2.symm⟩
theorem CS.new {z : World} {sb hb rb T : Nat} {w : World} {vk : Int → Value} {F : List Int} {R : Int → List Nat} {W : Nat → Wt} {I : List Nat} (h : CS z sb hb rb T w vk F R W I) (k : Int) : w.heap.size ∉ R k := by
  obtain ⟨t, vF, nR, h⟩ := h
  intro hm
  have := World.block_lt_of_cell? w _ (h.wa _ (h.rI k _ hm)).2.2.1.1
  simp at this
/-- What entering the clauses tells. -/
def RetEnter (z : World) (sb hb rb T : Nat) (L : List (List Int)) (A F : List Int) (e : Ending) (w' : World) : Prop :=
  (e = .returned (.bool true) ∧ Clash L A ∧ Below z.heap.size z w') ∨
  (e = .returned (.bool false) ∧ ∃ vk F' R W I, CS z sb hb rb (T + tot L) w' vk F' R W I ∧ Inv L L A [] 0 [] F' R W ∧ ∀ x ∈ F, x ∈ F')
/-- How things stand when j clauses are entered. -/
def EnterAt (z : World) (sb hb rb T : Nat) (L : List (List Int)) (A F : List Int) (j : Nat) (w' : World) : Prop :=
  ∃ vk F' R W I, CS z sb hb rb (T + tot (L.take j)) w' vk F' R W I ∧ Inv L (L.take j) A [] 0 [] F' R W ∧ ∀ x ∈ F, x ∈ F'
set_option maxHeartbeats 4000000 in
set_option maxRecDepth 100000 in
theorem enter_any {z : World} {sb hb rb T : Nat} {w : World} {vk : Int → Value} {F : List Int} {R : Int → List Nat} {W : Nat → Wt} {I : List Nat} {L : List (List Int)} {A : List Int}
    (h : CS z sb hb rb T w vk F R W I) (hi : Inv L [] A [] 0 [] F R W) (LA : Option Addr) (c : Nat) (hL : RCk z z.heap.size LA L) (hX : ∀ c ∈ L, Lits c) (hA : Lits A) (hT : T + tot L ≤ 10000000) (hl : L.length ≤ 1000000) (hlc : ∀ c ∈ L, c.length ≤ 1000000) :
    Calls Try.prog 35 #[.pointer (some ⟨sb, 0, none⟩), .slice LA L.length c] w (RetEnter z sb hb rb T L A F) := by
  have F0 : Hid (EnterAt z sb hb rb T L A F 0 w) := Lib.hid ⟨vk, F, R, W, I, by simpa [tot] using h, hi, fun _ h => h⟩
  have HL := Lib.hid hL
  have HX := Lib.hid hX
  have HA := Lib.hid hA
  have HLC := Lib.hid hlc
  clear h hi hL hX hA hlc vk R W I
  go_enter Try.func35, Try.ntmps35
  go_wp2
  go_step3
  go_wp2
  go_step3
  go_wp2
  go_loopg [12] L.length (fun g i wr => ∃ j : Nat, j + g = L.length ∧ i = .int .i64 j ∧ EnterAt z sb hb rb T L A F j wr)
  case atStart => exact ⟨0, by omega, rfl, F0.out⟩
  case round =>
    obtain ⟨j, hj, rfl, vk, F', R, W, I, hS, hI, hFF⟩ := hrel
    clear F0
    cases gk with
    | zero =>
      have hjl : ¬ ((j : Int) < L.length) := by omega
      have hjn : ¬ (j < L.length) := by omega
      have HI := Lib.hid hI
      have HS := Lib.hid hS
      have HFF := Lib.hid hFF
      clear hI hS hFF
      go_wp2
      try rw [Exit.noGoto_ret]
      go_ret
      refine .inr ⟨rfl, vk, F', R, W, I, ?_, ?_, HFF.out⟩
      · have := HS.out; rwa [List.take_of_length_le (by omega)] at this
      · have := HI.out; rwa [List.take_of_length_le (by omega)] at this
    | succ g =>
      have hlt : j < L.length := by omega
      obtain ⟨a1, A1, k1, rfl, hab, hcz, r1, m1, m2⟩ := HL.out j hlt
      have hc1 := (hS.bel.cell (p := a1.add j) (by rw [block_add]; exact hab)).trans hcz
      clear hcz
      have hu := getD_memC L j hlt
      have htk := take_snocC L j hlt
      have htt := tot_take L (j + 1)
      have hts := tot_snoc (L.take j) (L.getD j [])
      rw [htk] at htt
      have hul := HLC.out _ hu
      generalize L.getD j [] = u at *
      have HTK := Lib.hid htk
      have HU := Lib.hid hu
      have HUX := Lib.hid (HX.out u hu)
      have HI := Lib.hid hI
      have HS := Lib.hid hS
      have HFF := Lib.hid hFF
      have HR1 := Lib.hid r1
      have HTS := Lib.hid hts
      have hFl := hI.len HX.out HA.out
      have hbl := hS.bel.size
      have hjl : (j : Int) < L.length := by omega
      have htt2 : tot (L.take j) + (u.length + 2) ≤ tot L := by omega
      clear hI hS hFF htk hu r1 htt hts
      generalize wr = wz at *
      go_wp2
      clear hc1
      go_loopg [7, 18] u.length (fun g2 s7 s18 wy => ∃ (k : Nat) (one : Int), k + g2 = u.length ∧ s18 = .int .i64 k ∧ s7 = .int .i64 one ∧ Seen F' u k one ∧ CS z sb hb rb (T + tot (L.take j)) wy vk F' R W I)
      case atStart => exact ⟨0, 0, by omega, rfl, rfl, Seen.first _ _, HS.out⟩
      case round =>
        obtain ⟨k, one, hk, rfl, rfl, hSe, hS⟩ := hrel
        have HSe := Lib.hid hSe
        have HS2 := Lib.hid hS
        clear hSe
        have hkl0 := hk
        cases gk with
        | zero =>
          obtain rfl : k = u.length := by omega
          have n1 : ¬ ((u.length : Int) < u.length) := by omega
          have n2 : ¬ (u.length < u.length) := by omega
          by_cases ho : one = 0
          · subst ho
            clear hS
            go_wp2
            try rw [Exit.noGoto_ret]
            go_ret
            exact .inl ⟨rfl, HI.out.clashes HU.out (HSe.out.none HUX.out), HS2.out.bel⟩
          · have d1 : (one == 0) = false := by rw [beq_eq_false_iff_ne]; exact ho
            obtain ⟨o1, o2, o3⟩ := HSe.out.2.resolve_left ho
            have hx0 := HUX.out _ o1
            have C := force_new hS one ho hx0.2.1 hx0.2.2 (by omega) o2 o3
            have HO1 := Lib.hid o1
            have HN := Lib.hid (And.intro o2 o3)
            clear hS o1 o2 o3
            go_wp2_with fail
            refine C.mono ?_; rintro e w2 ⟨rfl, hS2⟩
            have H2 := Lib.hid hS2
            clear hS2 C
            go_wp2
            go_roundg g
            case measure => omega
            case rel =>
              refine ⟨j + 1, by omega, by go_num, vk, F' ++ [one], R, W, I, ?_, ?_, fun x hx => by simp [HFF.out x hx]⟩
              · rw [HTK.out, HTS.out]; exact H2.out.up (by omega)
              · rw [HTK.out]
                have hf : Forced L A one := HI.out.unit HU.out HO1.out (fun y hy => HSe.out.1 y (by rw [List.take_length]; exact hy))
                exact (HI.out.force hf ho HN.out.1 HN.out.2).enter HU.out HO1.out (by simp)
        | succ g2 =>
          have hkl : k < u.length := by omega
          obtain ⟨x0, x1, x2⟩ := HUX.out _ (getD_mem u k hkl)
          obtain ⟨a2, rfl, hb2, hcz⟩ := HR1.out k hkl
          have hc2 := (hS.bel.cell (p := a2.add k) (by rw [block_add]; exact hb2)).trans hcz
          have c1 := hS.c1
          have hS1 := hS.bel.size
          have HXU := Lib.hid (getD_mem u k hkl)
          have HSN := Lib.hid (fun h => HSe.out.next (k := k) hkl h)
          have hss : one = 0 → u.getD k 0 ∉ F' → -(u.getD k 0) ∉ F' → Seen F' u (k + 1) (u.getD k 0) := by
            intro h1 h2 h3; have h4 := HSe.out; rw [h1] at h4; exact h4.set HUX.out hkl h2 h3
          have HSS := Lib.hid hss
          have HCV := Lib.hid (HSe.out.cov hkl)
          clear hcz hss
          generalize u.getD k 0 = x at *
          have V := Lib.hid (var_q (x := x) (by omega) (by omega))
          have hl := hS.look (v := (x.natAbs : Int)) (by omega) (by omega)
          have hkl' : (k : Int) < u.length := by omega
          by_cases hxF : x ∈ F'
          · have e1 : heldF F' x.natAbs = x := heldF_in hxF (HI.out.cons x hxF) (by omega)
            have d1 : (x == x) = true := by simp
            rw [e1] at hl
            have HXF := Lib.hid hxF
            clear hxF e1 hS
            go_wp2_with fail
            go_quiet ((go_at_call 31; exact Calls.quiet_of_same (V.out _)))
            go_wp2
            go_roundg g
            case measure => omega
            case rel =>
              refine ⟨j + 1, by omega, by go_num, vk, F', R, W, I, ?_, ?_, HFF.out⟩
              · rw [HTK.out, HTS.out]; exact (HS2.out.nq _).up (by omega)
              · rw [HTK.out]; exact HI.out.enter HU.out HXU.out HXF.out
          · by_cases hnF : -x ∈ F'
            · have e1 : heldF F' x.natAbs = -x := (heldF_neg x0 (fun hm => by have := HI.out.cons _ hm; rwa [Int.neg_neg] at this)).2 hnF
              have d1 : (-x == x) = false := by rw [beq_eq_false_iff_ne]; omega
              have d2 : (-x == -x) = true := by simp
              rw [e1] at hl
              have HNF := Lib.hid hnF
              clear hnF hxF e1 hS
              go_wp2_with fail
              go_quiet ((go_at_call 31; exact Calls.quiet_of_same (V.out _)))
              go_wp2
              go_roundg g2
              case measure => omega
              case rel => exact ⟨k + 1, one, by omega, by go_num, rfl, HSN.out (.inr HNF.out), HS2.out.nq _⟩
            · have e1 : heldF F' x.natAbs = 0 := heldF_out hxF hnF
              have d1 : (0 == x) = false := by rw [beq_eq_false_iff_ne]; omega
              have d2 : (0 == -x) = false := by rw [beq_eq_false_iff_ne]; omega
              rw [e1] at hl
              have HN := Lib.hid (And.intro hxF hnF)
              clear hnF hxF e1 hS
              by_cases ho : one = 0
              · subst ho
                go_wp2_with fail
                go_quiet ((go_at_call 31; exact Calls.quiet_of_same (V.out _)))
                go_wp2
                go_roundg g2
                case measure => omega
                case rel => exact ⟨k + 1, x, by omega, by go_num, rfl, HSS.out (by simp) HN.out.1 HN.out.2, HS2.out.nq _⟩
              · have d3 : (one == 0) = false := by rw [beq_eq_false_iff_ne]; exact ho
                by_cases hxo : x = one
                · have d4 : (x != one) = false := by simp [hxo]
                  have HXO := Lib.hid hxo
                  clear hxo
                  go_wp2_with fail
                  go_quiet ((go_at_call 31; exact Calls.quiet_of_same (V.out _)))
                  go_wp2
                  go_roundg g2
                  case measure => omega
                  case rel => exact ⟨k + 1, one, by omega, by go_num, rfl, HSN.out (.inl HXO.out), HS2.out.nq _⟩
                · have d4 : (x != one) = true := by simp [hxo]
                  have hs : ∀ wx, (Instr.slice 23 (.slice (some a2) u.length k1) (some (.int .i64 ((k : Int) + 1))) none none).run Try.prog wx = .ok (.slice (cutA (some a2) k1 (k + 1)) (u.length - (k + 1)) (k1 - (k + 1))) wx := by
                    intro wx
                    have := slice_l (some a2) u.length k1 (k + 1) (by omega) wx
                    rwa [Int.natCast_add] at this
                  obtain ⟨o1, o2, o3⟩ := HSe.out.2.resolve_left ho
                  obtain ⟨y0, y1, y2⟩ := HUX.out _ o1
                  have HO := Lib.hid o1
                  have HXO := Lib.hid hxo
                  have hcut : ∀ n, RI (wr.drewN n) z.heap.size (cutA (some a2) k1 (k + 1)) (u.drop (k + 1)) := fun n => (HR1.out.below (HS2.out.nq n).bel).cut m1
                  have C := fun n => wait_any (HS2.out.nq n) one x y1 y2 x1 x2 (u.drop (k + 1)) (cutA (some a2) k1 (k + 1)) (k1 - (k + 1)) (hcut n) (by simp; omega) (by omega) (by omega)
                  have hdl : (u.drop (k + 1)).length = u.length - (k + 1) := by simp
                  rw [hdl] at C
                  generalize cutA (some a2) k1 (k + 1) = Z at *
                  have HC := Lib.hid C
                  have HDL := Lib.hid hdl
                  have hsub : ∀ y ∈ u.drop (k + 1), y ∈ u := fun y hy => List.mem_of_mem_drop hy
                  have HSB := Lib.hid hsub
                  clear o1 o2 o3 hxo C hcut hdl hsub
                  go_wp2_with fail
                  go_quiet ((go_at_call 31; exact Calls.quiet_of_same (V.out _)))
                  go_wp2_with fail
                  refine (HC.out _).mono ?_; rintro e w2 ⟨rfl, vk', hS2⟩
                  have H2 := Lib.hid hS2
                  clear hS2 hs hl
                  go_wp2
                  go_roundg g
                  case measure => omega
                  case rel =>
                    have hcs := H2.out.up (T' := T + tot (L.take (j + 1))) (by rw [HTK.out, HTS.out]; omega)
                    refine ⟨j + 1, by omega, by go_num, vk', F', _, _, _, hcs, ?_, HFF.out⟩
                    · rw [HTK.out]; exact HI.out.wait HU.out (fun h0 => (HUX.out 0 h0).1 rfl) HO.out HXU.out (fun e => HXO.out e.symm) HSB.out HCV.out (fun q => (HS2.out.nq _).new q)
end Go.Proofs.Ytlebagdildpkmaa
