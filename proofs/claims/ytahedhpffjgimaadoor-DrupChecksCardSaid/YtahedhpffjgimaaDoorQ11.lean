/-
  enter.
  Steps of proofs as they are read; which are few.
  The frame of every statement of this seat: the tables in a first world, what the row's list gives, and how arguments are opened. Nothing is assumed.
-/
import Derived.Test.YtahedhpffjgimaaDoorProg
import Derived.WalkKit
import Derived.WalkSpells
import Derived.WalkLawsBesides
import Derived.Lib.Hide
import Derived.BigQuiet
import Derived.Deep.QuietTactic
import Derived.Deep.RegionWith
import Derived.Deep.RegionHeld3
import Derived.Test.YtahedhpffjgimaaDoorQ10
import Derived.Deep.Cut
import Derived.Deep.LoopGhost
import Derived.WalkMore
import Derived.Test.YtahedhpffjgimaaDoorQ05
import Derived.Test.YtahedhpffjgimaaDoorQ07
import Derived.Test.YtahedhpffjgimaaDoorCards
import Derived.Test.YtahedhpffjgimaaDoorTie
import Derived.Test.YtahedhpffjgimaaDoorQ08
import Derived.Deep.SlicePairs
import Derived.ProofKit
import Derived.OpenShut
import Derived.PinnedBridge
import Derived.Lib.LaidIn
import Derived.Lib.LaidTab
import Derived.Lib.LaidU8
import Derived.Lib.SmallJoins
import Derived.Deep.Slices
import Derived.Deep.DeepHandedRow
import Derived.Deep.DeepWitnessRowRef
import Derived.SizedLaws
set_option linter.unusedVariables false
/- enter. -/
namespace Go.Proofs.YtahedhpffjgimaaDoor
open Go.RowKit
/-- The slice at A holds the clauses L, in blocks below B, each with room for what it holds. -/
def RCk (w : World) (B : Nat) (A : Option Addr) (L : List (List Int)) : Prop :=
  ∀ i, i < L.length → ∃ ad A' c', A = some ad ∧ ad.block < B ∧ w.cell? (ad.add i) = some (.slice A' (L.getD i []).length c') ∧ RI w B A' (L.getD i []) ∧ (L.getD i []).length ≤ c' ∧ c' ≤ maxLen
theorem RCk.below {w w' : World} {B : Nat} {A : Option Addr} {L : List (List Int)} (h : RCk w B A L) (hb : Below B w w') : RCk w' B A L := by
  intro i hi
  obtain ⟨ad, A', c', e, hlt, hc, hr, hm⟩ := h i hi
  exact ⟨ad, A', c', e, hlt, (hb.cell (by rw [block_add]; exact hlt)).trans hc, hr.below hb, hm⟩
theorem RCk.mono {w : World} {B B' : Nat} {A : Option Addr} {L : List (List Int)} (h : RCk w B A L) (hB : B ≤ B') : RCk w B' A L := by
  intro i hi
  obtain ⟨ad, A', c', e, hlt, hc, hr, hm⟩ := h i hi
  exact ⟨ad, A', c', e, by omega, hc, hr.mono hB, hm⟩
theorem RCk.nx {w w' : World} {A : Option Addr} {L : List (List Int)} (h : RCk w w.heap.size A L) (hb : Below w.heap.size w w') : RCk w' w'.heap.size A L := (h.below hb).mono hb.size
theorem CS.bel {z : World} {sb hb rb T : Nat} {w : World} {vk : Int → Value} {F : List Int} {R : Int → List Nat} {W : Nat → Wt} {I : List Nat} (h : CS z sb hb rb T w vk F R W I) : Below z.heap.size z w := by
  obtain ⟨t, vF, nR, h⟩ := h
  exact h.bel
theorem CS.c1 {z : World} {sb hb rb T : Nat} {w : World} {vk : Int → Value} {F : List Int} {R : Int → List Nat} {W : Nat → Wt} {I : List Nat} (h : CS z sb hb rb T w vk F R W I) : w.cell? ⟨sb, 1, none⟩ = some (.map (some hb)) := by
  obtain ⟨t, vF, nR, h⟩ := h
  exact h.c1
theorem CS.nq {z : World} {sb hb rb T : Nat} {w : World} {vk : Int → Value} {F : List Int} {R : Int → List Nat} {W : Nat → Wt} {I : List Nat} (h : CS z sb hb rb T w vk F R W I) (n : Nat) : CS z sb hb rb T (w.drewN n) vk F R W I := h.nx (grown_drew n none)
theorem CS.up {z : World} {sb hb rb T T' : Nat} {w : World} {vk : Int → Value} {F : List Int} {R : Int → List Nat} {W : Nat → Wt} {I : List Nat} (h : CS z sb hb rb T w vk F R W I) (hT : T ≤ T') : CS z sb hb rb T' w vk F R W I := by
  obtain ⟨t, vF, nR, h⟩ := h
  exact ⟨t, vF, nR, h.bel, h.ts, h.th, h.tr, h.bs, h.bh, h.br, h.c0, h.c1, h.c2, h.oF, h.tF, h.mh, h.mr, Nat.le_trans h.pot hT, h.oR, h.tR, h.wa, h.rI, h.rl⟩
theorem CS.look {z : World} {sb hb rb T : Nat} {w : World} {vk : Int → Value} {F : List Int} {R : Int → List Nat} {W : Nat → Wt} {I : List Nat} (h : CS z sb hb rb T w vk F R W I) {v : Int} (h0 : 0 ≤ v) (h1 : v ≤ 4611686018427387904) (n : Nat) : (Instr.lookup 187 (.map (some hb)) (.int .u64 v) false).run Tryd.prog (w.drewN n) = .ok (.int .i64 (heldF F v)) (w.drewN n) := by
  obtain ⟨t, vF, nR, h⟩ := h.nq n
  exact h.look h0 h1
theorem var_q {x : Int} (h0 : -4611686018427387904 ≤ x) (h1 : x ≤ 4611686018427387904) (w : World) : Calls Tryd.prog 76 #[.int .i64 x] w (fun e w' => e = .returned (.int .u64 (x.natAbs : Int)) ∧ w' = w) :=
  (variable_any x w h0 h1).mono fun e w' h => ⟨h.1, h.2.symm⟩
theorem CS.new {z : World} {sb hb rb T : Nat} {w : World} {vk : Int → Value} {F : List Int} {R : Int → List Nat} {W : Nat → Wt} {I : List Nat} (h : CS z sb hb rb T w vk F R W I) (k : Int) : w.heap.size ∉ R k := by
  obtain ⟨t, vF, nR, h⟩ := h
  intro hm
  have := World.block_lt_of_cell? w _ (h.wa _ (h.rI k _ hm)).2.2.1.1
  simp at this
/-- What entering the clauses tells. -/
def RetEnter (z : World) (sb hb rb T : Nat) (L : List (List Int)) (A F : List Int) (e : Ending) (w' : World) : Prop :=
  (e = .returned (.bool true) ∧ Clash L A ∧ Below z.heap.size z w') ∨
  (e = .returned (.bool false) ∧ ∃ vk F' R W I, CS z sb hb rb (T + tot L) w' vk F' R W I ∧ Inv L L A [] 0 [] F' R W ∧ ∀ x ∈ F, x ∈ F')
/-- How things stand when j clauses are entered. -/
def EnterAt (z : World) (sb hb rb T : Nat) (L : List (List Int)) (A F : List Int) (j : Nat) (w' : World) : Prop :=
  ∃ vk F' R W I, CS z sb hb rb (T + tot (L.take j)) w' vk F' R W I ∧ Inv L (L.take j) A [] 0 [] F' R W ∧ ∀ x ∈ F, x ∈ F'
set_option maxHeartbeats 4000000 in
set_option maxRecDepth 100000 in
theorem enter_any {z : World} {sb hb rb T : Nat} {w : World} {vk : Int → Value} {F : List Int} {R : Int → List Nat} {W : Nat → Wt} {I : List Nat} {L : List (List Int)} {A : List Int}
    (h : CS z sb hb rb T w vk F R W I) (hi : Inv L [] A [] 0 [] F R W) (LA : Option Addr) (c : Nat) (hL : RCk z z.heap.size LA L) (hX : ∀ c ∈ L, Lits c) (hA : Lits A) (hT : T + tot L ≤ 10000000) (hl : L.length ≤ 1000000) (hlc : ∀ c ∈ L, c.length ≤ 1000000) :
    Calls Tryd.prog 142 #[.pointer (some ⟨sb, 0, none⟩), .slice LA L.length c] w (RetEnter z sb hb rb T L A F) := by
  have F0 : Hid (EnterAt z sb hb rb T L A F 0 w) := Lib.hid ⟨vk, F, R, W, I, by simpa [tot] using h, hi, fun _ h => h⟩
  have HL := Lib.hid hL
  have HX := Lib.hid hX
  have HA := Lib.hid hA
  have HLC := Lib.hid hlc
  clear h hi hL hX hA hlc vk R W I
  go_enter Tryd.func142, Tryd.ntmps142
  go_wp2
  go_step3
  go_wp2
  go_step3
  go_wp2
  go_loopg [12] L.length (fun g i wr => ∃ j : Nat, j + g = L.length ∧ i = .int .i64 j ∧ EnterAt z sb hb rb T L A F j wr)
  case atStart => exact ⟨0, by omega, rfl, F0.out⟩
  case round =>
    obtain ⟨j, hj, rfl, vk, F', R, W, I, hS, hI, hFF⟩ := hrel
    clear F0
    cases gk with
    | zero =>
      have hjl : ¬ ((j : Int) < L.length) := by omega
      have hjn : ¬ (j < L.length) := by omega
      have HI := Lib.hid hI
      have HS := Lib.hid hS
      have HFF := Lib.hid hFF
      clear hI hS hFF
      go_wp2
      try rw [Exit.noGoto_ret]
      go_ret
      refine .inr ⟨rfl, vk, F', R, W, I, ?_, ?_, HFF.out⟩
      · have := HS.out; rwa [List.take_of_length_le (by omega)] at this
      · have := HI.out; rwa [List.take_of_length_le (by omega)] at this
    | succ g =>
      have hlt : j < L.length := by omega
      obtain ⟨a1, A1, k1, rfl, hab, hcz, r1, m1, m2⟩ := HL.out j hlt
      have hc1 := (hS.bel.cell (p := a1.add j) (by rw [block_add]; exact hab)).trans hcz
      clear hcz
      have hu := getD_memC L j hlt
      have htk := take_snocC L j hlt
      have htt := tot_take L (j + 1)
      have hts := tot_snoc (L.take j) (L.getD j [])
      rw [htk] at htt
      have hul := HLC.out _ hu
      generalize L.getD j [] = u at *
      have HTK := Lib.hid htk
      have HU := Lib.hid hu
      have HUX := Lib.hid (HX.out u hu)
      have HI := Lib.hid hI
      have HS := Lib.hid hS
      have HFF := Lib.hid hFF
      have HR1 := Lib.hid r1
      have HTS := Lib.hid hts
      have hFl := hI.len HX.out HA.out
      have hbl := hS.bel.size
      have hjl : (j : Int) < L.length := by omega
      have htt2 : tot (L.take j) + (u.length + 2) ≤ tot L := by omega
      clear hI hS hFF htk hu r1 htt hts
      generalize wr = wz at *
      go_wp2
      clear hc1
      go_loopg [7, 18] u.length (fun g2 s7 s18 wy => ∃ (k : Nat) (one : Int), k + g2 = u.length ∧ s18 = .int .i64 k ∧ s7 = .int .i64 one ∧ Seen F' u k one ∧ CS z sb hb rb (T + tot (L.take j)) wy vk F' R W I)
      case atStart => exact ⟨0, 0, by omega, rfl, rfl, Seen.first _ _, HS.out⟩
      case round =>
        obtain ⟨k, one, hk, rfl, rfl, hSe, hS⟩ := hrel
        have HSe := Lib.hid hSe
        have HS2 := Lib.hid hS
        clear hSe
        have hkl0 := hk
        cases gk with
        | zero =>
          obtain rfl : k = u.length := by omega
          have n1 : ¬ ((u.length : Int) < u.length) := by omega
          have n2 : ¬ (u.length < u.length) := by omega
          by_cases ho : one = 0
          · subst ho
            clear hS
            go_wp2
            try rw [Exit.noGoto_ret]
            go_ret
            exact .inl ⟨rfl, HI.out.clashes HU.out (HSe.out.none HUX.out), HS2.out.bel⟩
          · have d1 : (one == 0) = false := by rw [beq_eq_false_iff_ne]; exact ho
            obtain ⟨o1, o2, o3⟩ := HSe.out.2.resolve_left ho
            have hx0 := HUX.out _ o1
            have C := force_new hS one ho hx0.2.1 hx0.2.2 (by omega) o2 o3
            have HO1 := Lib.hid o1
            have HN := Lib.hid (And.intro o2 o3)
            clear hS o1 o2 o3
            go_wp2_with fail
            refine C.mono ?_; rintro e w2 ⟨rfl, hS2⟩
            have H2 := Lib.hid hS2
            clear hS2 C
            go_wp2
            go_roundg g
            case measure => omega
            case rel =>
              refine ⟨j + 1, by omega, by go_num, vk, F' ++ [one], R, W, I, ?_, ?_, fun x hx => by simp [HFF.out x hx]⟩
              · rw [HTK.out, HTS.out]; exact H2.out.up (by omega)
              · rw [HTK.out]
                have hf : Forced L A one := HI.out.unit HU.out HO1.out (fun y hy => HSe.out.1 y (by rw [List.take_length]; exact hy))
                exact (HI.out.force hf ho HN.out.1 HN.out.2).enter HU.out HO1.out (by simp)
        | succ g2 =>
          have hkl : k < u.length := by omega
          obtain ⟨x0, x1, x2⟩ := HUX.out _ (getD_mem u k hkl)
          obtain ⟨a2, rfl, hb2, hcz⟩ := HR1.out k hkl
          have hc2 := (hS.bel.cell (p := a2.add k) (by rw [block_add]; exact hb2)).trans hcz
          have c1 := hS.c1
          have hS1 := hS.bel.size
          have HXU := Lib.hid (getD_mem u k hkl)
          have HSN := Lib.hid (fun h => HSe.out.next (k := k) hkl h)
          have hss : one = 0 → u.getD k 0 ∉ F' → -(u.getD k 0) ∉ F' → Seen F' u (k + 1) (u.getD k 0) := by
            intro h1 h2 h3; have h4 := HSe.out; rw [h1] at h4; exact h4.set HUX.out hkl h2 h3
          have HSS := Lib.hid hss
          have HCV := Lib.hid (HSe.out.cov hkl)
          clear hcz hss
          generalize u.getD k 0 = x at *
          have V := Lib.hid (var_q (x := x) (by omega) (by omega))
          have hl := hS.look (v := (x.natAbs : Int)) (by omega) (by omega)
          have hkl' : (k : Int) < u.length := by omega
          by_cases hxF : x ∈ F'
          · have e1 : heldF F' x.natAbs = x := heldF_in hxF (HI.out.cons x hxF) (by omega)
            have d1 : (x == x) = true := by simp
            rw [e1] at hl
            have HXF := Lib.hid hxF
            clear hxF e1 hS
            go_wp2_with fail
            go_quiet ((go_at_call 76; exact Calls.quiet_of_same (V.out _)))
            go_wp2
            go_roundg g
            case measure => omega
            case rel =>
              refine ⟨j + 1, by omega, by go_num, vk, F', R, W, I, ?_, ?_, HFF.out⟩
              · rw [HTK.out, HTS.out]; exact (HS2.out.nq _).up (by omega)
              · rw [HTK.out]; exact HI.out.enter HU.out HXU.out HXF.out
          · by_cases hnF : -x ∈ F'
            · have e1 : heldF F' x.natAbs = -x := (heldF_neg x0 (fun hm => by have := HI.out.cons _ hm; rwa [Int.neg_neg] at this)).2 hnF
              have d1 : (-x == x) = false := by rw [beq_eq_false_iff_ne]; omega
              have d2 : (-x == -x) = true := by simp
              rw [e1] at hl
              have HNF := Lib.hid hnF
              clear hnF hxF e1 hS
              go_wp2_with fail
              go_quiet ((go_at_call 76; exact Calls.quiet_of_same (V.out _)))
              go_wp2
              go_roundg g2
              case measure => omega
              case rel => exact ⟨k + 1, one, by omega, by go_num, rfl, HSN.out (.inr HNF.out), HS2.out.nq _⟩
            · have e1 : heldF F' x.natAbs = 0 := heldF_out hxF hnF
              have d1 : (0 == x) = false := by rw [beq_eq_false_iff_ne]; omega
              have d2 : (0 == -x) = false := by rw [beq_eq_false_iff_ne]; omega
              rw [e1] at hl
              have HN := Lib.hid (And.intro hxF hnF)
              clear hnF hxF e1 hS
              by_cases ho : one = 0
              · subst ho
                go_wp2_with fail
                go_quiet ((go_at_call 76; exact Calls.quiet_of_same (V.out _)))
                go_wp2
                go_roundg g2
                case measure => omega
                case rel => exact ⟨k + 1, x, by omega, by go_num, rfl, HSS.out (by simp) HN.out.1 HN.out.2, HS2.out.nq _⟩
              · have d3 : (one == 0) = false := by rw [beq_eq_false_iff_ne]; exact ho
                by_cases hxo : x = one
                · have d4 : (x != one) = false := by simp [hxo]
                  have HXO := Lib.hid hxo
                  clear hxo
                  go_wp2_with fail
                  go_quiet ((go_at_call 76; exact Calls.quiet_of_same (V.out _)))
                  go_wp2
                  go_roundg g2
                  case measure => omega
                  case rel => exact ⟨k + 1, one, by omega, by go_num, rfl, HSN.out (.inl HXO.out), HS2.out.nq _⟩
                · have d4 : (x != one) = true := by simp [hxo]
                  have hs : ∀ wx, (Instr.slice 26 (.slice (some a2) u.length k1) (some (.int .i64 ((k : Int) + 1))) none none).run Tryd.prog wx = .ok (.slice (cutU (some a2) k1 (k + 1)) (u.length - (k + 1)) (k1 - (k + 1))) wx := by
                    intro wx
                    have := sliceU_l (some a2) u.length k1 (k + 1) (by omega) wx
                    rwa [Int.natCast_add] at this
                  obtain ⟨o1, o2, o3⟩ := HSe.out.2.resolve_left ho
                  obtain ⟨y0, y1, y2⟩ := HUX.out _ o1
                  have HO := Lib.hid o1
                  have HXO := Lib.hid hxo
                  have hcut : ∀ n, RI (wr.drewN n) z.heap.size (cutU (some a2) k1 (k + 1)) (u.drop (k + 1)) := fun n => (HR1.out.below (HS2.out.nq n).bel).cut m1
                  have C := fun n => wait_any (HS2.out.nq n) one x y1 y2 x1 x2 (u.drop (k + 1)) (cutU (some a2) k1 (k + 1)) (k1 - (k + 1)) (hcut n) (by simp; omega) (by omega) (by omega)
                  have hdl : (u.drop (k + 1)).length = u.length - (k + 1) := by simp
                  rw [hdl] at C
                  generalize cutU (some a2) k1 (k + 1) = Z at *
                  have HC := Lib.hid C
                  have HDL := Lib.hid hdl
                  have hsub : ∀ y ∈ u.drop (k + 1), y ∈ u := fun y hy => List.mem_of_mem_drop hy
                  have HSB := Lib.hid hsub
                  clear o1 o2 o3 hxo C hcut hdl hsub
                  go_wp2_with fail
                  go_quiet ((go_at_call 76; exact Calls.quiet_of_same (V.out _)))
                  go_wp2_with fail
                  refine (HC.out _).mono ?_; rintro e w2 ⟨rfl, vk', hS2⟩
                  have H2 := Lib.hid hS2
                  clear hS2 hs hl
                  go_wp2
                  go_roundg g
                  case measure => omega
                  case rel =>
                    have hcs := H2.out.up (T' := T + tot (L.take (j + 1))) (by rw [HTK.out, HTS.out]; omega)
                    refine ⟨j + 1, by omega, by go_num, vk', F', _, _, _, hcs, ?_, HFF.out⟩
                    · rw [HTK.out]; exact HI.out.wait HU.out (fun h0 => (HUX.out 0 h0).1 rfl) HO.out HXU.out (fun e => HXO.out e.symm) HSB.out HCV.out (fun q => (HS2.out.nq _).new q)
end Go.Proofs.YtahedhpffjgimaaDoor
/- Steps of proofs as they are read; which are few. -/
namespace Go.Proofs.YtahedhpffjgimaaDoor
open Go.RowKit
abbrev Stp := Bool × List Int
/-- The slice at A holds the steps P, all in blocks below B. -/
def RS (w : World) (B : Nat) (A : Option Addr) (P : List Stp) : Prop :=
  ∀ i, i < P.length → ∃ ad A' c', A = some ad ∧ ad.block < B ∧ w.cell? (ad.add (i * 2)) = some (.bool (P.getD i (true, [])).1) ∧ w.cell? ⟨(ad.add (i * 2)).block, (ad.add (i * 2)).off + 1, none⟩ = some (.slice A' (P.getD i (true, [])).2.length c') ∧ RI w B A' (P.getD i (true, [])).2 ∧ (P.getD i (true, [])).2.length ≤ c' ∧ c' ≤ maxLen
theorem RS.below {w w' : World} {B : Nat} {A : Option Addr} {P : List Stp} (h : RS w B A P) (hb : Below B w w') : RS w' B A P := by
  intro i hi
  obtain ⟨ad, A', c', e, hlt, h0, h1, hr, hm⟩ := h i hi
  exact ⟨ad, A', c', e, hlt, (hb.cell (by rw [block_add]; exact hlt)).trans h0, (hb.cell (by show (ad.add (i * 2)).block < B; rw [block_add]; exact hlt)).trans h1, hr.below hb, hm⟩
theorem RS.mono {w : World} {B B' : Nat} {A : Option Addr} {P : List Stp} (h : RS w B A P) (hB : B ≤ B') : RS w B' A P := by
  intro i hi
  obtain ⟨ad, A', c', e, hlt, h0, h1, hr, hm⟩ := h i hi
  exact ⟨ad, A', c', e, by omega, h0, h1, hr.mono hB, hm⟩
theorem RS.nx {w w' : World} {A : Option Addr} {P : List Stp} (h : RS w w.heap.size A P) (hb : Below w.heap.size w w') : RS w' w'.heap.size A P := (h.below hb).mono hb.size
theorem dropS (l : List Stp) (k : Nat) (h : k < l.length) : l.drop k = l.getD k (true, []) :: l.drop (k + 1) := by
  rw [List.drop_eq_getElem_cons h]; simp [List.getD, h]
/-- Are there few steps, of few literals? -/
def smallS (m : Int) (s : Stp) : Bool := decide ((s.2.length : Int) ≤ m)
def smallP (m : Int) (P : List Stp) : Bool := decide ((P.length : Int) ≤ m) && P.all (smallS m)
theorem smallP_parts {m : Int} {P : List Stp} (h : smallP m P = true) : (P.length : Int) ≤ m ∧ ∀ s ∈ P, (s.2.length : Int) ≤ m := by
  simp only [smallP, smallS, Bool.and_eq_true, decide_eq_true_eq, List.all_eq_true] at h
  exact h
set_option maxHeartbeats 800000 in
theorem refSmall_any (A : Option Addr) (c : Nat) (m : Int) (P : List Stp) (w : World) (h : RS w w.heap.size A P) (hn : P.length ≤ maxLen) :
    Calls Tryd.prog 16 #[.slice A P.length c, .int .i64 m] w (RetS w (.bool (smallP m P))) := by
  unfold maxLen at hn
  unfold smallP
  have hr := Lib.hid h
  clear h
  by_cases hm : (P.length : Int) ≤ m
  · have d1 : decide (m < (P.length : Int)) = false := decide_eq_false (by omega)
    rw [decide_eq_true hm, Bool.true_and]
    obtain ⟨T, hT⟩ : ∃ T, P.all (smallS m) = T := ⟨_, rfl⟩
    rw [hT]
    have HT : Hid (P.all (smallS m) = T) := hT
    clear hT hm
    go_enter Tryd.func16, Tryd.ntmps16
    go_wp2
    go_loop [5] (fun i => ∃ j : Nat, j ≤ P.length ∧ i = .int .i64 j ∧ Hid ((P.drop j).all (smallS m) = T)) (fun i => P.length - (intOf i).toNat)
    case atStart => exact ⟨0, Nat.zero_le _, rfl, HT⟩
    case round =>
      obtain ⟨j, hj, rfl, HJ⟩ := hrel
      by_cases hlt : j < P.length
      · obtain ⟨a1, A1, c1, rfl, _, hc0, hc1, r1, m1, m2⟩ := hr.out j hlt
        have e := HJ.out
        rw [dropS P j hlt, List.all_cons] at e
        unfold maxLen at m2
        generalize P.getD j (true, []) = u at *
        obtain ⟨d, u⟩ := u
        simp only at hc0 hc1 r1 m1
        clear HJ HT r1 hr
        have hlt' : (j : Int) < P.length := by omega
        by_cases hu : (u.length : Int) ≤ m
        · have d4 : decide (m < (u.length : Int)) = false := decide_eq_false (by omega)
          have HE : Hid ((P.drop (j + 1)).all (smallS m) = T) := by show _ = _; rw [← e]; simp [smallS, hu]
          clear e
          go_wp2
          go_round
          case rel => exact ⟨j + 1, by omega, by go_num, HE⟩
          case measure => simp [intOf]; omega
        · have d4 : decide (m < (u.length : Int)) = true := decide_eq_true (by omega)
          have HE : Hid (false = T) := by show _ = _; rw [← e]; simp [smallS]; intro h; omega
          clear e
          go_wp2
          go_ret
          exact ⟨by rw [← HE.out]; rfl, rfl⟩
      · have e := HJ.out
        rw [List.drop_of_length_le (by omega)] at e
        have HE : Hid (true = T) := by show _ = _; simpa using e
        clear e HJ HT hr
        go_wp2
        go_ret
        exact ⟨by rw [← HE.out]; rfl, rfl⟩
  · have d1 : decide (m < (P.length : Int)) = true := decide_eq_true (by omega)
    rw [decide_eq_false hm, Bool.false_and]
    clear hr hm
    go_enter Tryd.func16, Tryd.ntmps16
    go_wp2
    go_ret
    exact ⟨rfl, rfl⟩
end Go.Proofs.YtahedhpffjgimaaDoor
/- The frame of every statement of this seat: the tables in a first world, what the row's list gives, and how arguments are opened. Nothing is assumed. -/
namespace Go.Proofs.YtahedhpffjgimaaDoor
open Go.Shelf Go.ChangeShapes Go.WideShapes Go.ChangeAt Go.RowKit Go.Lib Go.Joins
theorem own : ownKnob Tryd.prog.godebug = none := by kernel_rfl
theorem laidOut : laidOutB Tryd.prog = true := by kernel_rfl
/-- What every row of this seat lists. -/
def listed : List (String × DataW Unit) := Rows.drupTellsRow.laid
theorem pow_eq : (Rows.laid_internal_strconv_uint64pow10 : DataW Unit) = Lib.tabData .u64 Lib.pow10Tab := by kernel_rfl
theorem pow_of_laid {W : World} (hL : laidMetH Tryd.prog listed W) : Pow W.heap.size W := by
  have h3 := Lib.laidMet.reads hL (List.Mem.tail _ (List.Mem.tail _ (List.Mem.head _)))
  rw [pow_eq] at h3
  obtain ⟨g, t, cs, fuel, p, h1, h2, h4, h5⟩ := h3
  have hg : Tryd.prog.globalNamed "internal/strconv.uint64pow10" = some 0 := by kernel_rfl
  obtain rfl : 0 = g := Option.some.inj (hg.symm.trans h1)
  have ht : (Tryd.prog.globals[0]?).map (·.type) = some 167 := by kernel_rfl
  obtain rfl : 167 = t := Option.some.inj (ht.symm.trans h2)
  have hcs := Lib.cells_of_tab Tryd.underlying167 Tryd.underlying154 (by kernel_rfl) (by kernel_rfl) h5
  refine ⟨?_, 0, hg, ?_⟩
  · unfold Lib.TabIs; rw [h4, ← hcs]
  · rcases Nat.eq_zero_or_pos W.heap.size with h0 | h0
    · unfold World.var? at h4
      simp only [hg, Option.bind_some] at h4
      rw [Array.getElem?_eq_none (by omega)] at h4
      simp at h4
    · exact h0
/-- The cells of a table, off its datum. -/
def cellsD : DataW Unit → Array Value
  | .agg l => (l.map fun | .lit (.int k z) => Value.int k z | _ => Value.nilIface).toArray
  | _ => #[]
/-- A first world for the witness: the three tables hold what their text lays. -/
noncomputable def laidWorld (os : Os) : World :=
  let w0 := World.holding Tryd.prog os ⟨#[], #[], []⟩
  let put (h : Array Obj) (g : Nat) (cs : Array Value) : Array Obj := h.modify g fun
    | .cells _ t frozen => .cells cs t frozen
    | o => o
  let h0 := put w0.heap 0 (cellsD Rows.laid_internal_strconv_uint64pow10)
  let h1 := put h0 1 (cellsD Rows.laid_math_bits_deBruijn32tab)
  let h2 := put h1 2 (cellsD Rows.laid_math_bits_deBruijn64tab)
  { w0 with heap := h2 }
theorem laid_met (os : Os) (args : Array Value) : laidMet Tryd.prog listed ((laidWorld os).forCall (fun _ _ => 0) ⟨#[], args, []⟩).memory :=
  (LaidIn.of_run (l := listed) [1, 2, 0] 8 (by kernel_rfl) (by kernel_rfl) (by kernel_rfl) (by kernel_rfl)).met
theorem cells3 : Tryd.prog.cellsOf 3 = 1 := by kernel_rfl
theorem cells4 : Tryd.prog.cellsOf 4 = 1 := by kernel_rfl
theorem cells5 : Tryd.prog.cellsOf 5 = 1 := by kernel_rfl
theorem cells26 : Tryd.prog.cellsOf 26 = 1 := by kernel_rfl
theorem cells54 : Tryd.prog.cellsOf 54 = 2 := by kernel_rfl
theorem block_lt {w : World} {a : Addr} {v : Value} (h : w.cell? a = some v) : a.block < w.heap.size := by
  rcases Nat.lt_or_ge a.block w.heap.size with h' | h'
  · exact h'
  · simp [World.cell?, Array.getElem?_eq_none h'] at h
/-- A slice of bytes that came in. -/
theorem opened35 {H : Type} {enc : TypeId × Value → H} {W : World} {fuel : Nat} {v : Value} {y : DataW H × List MemPlace} (h : DataW.trod enc Tryd.prog W 0 (fun _ => true) true fuel 35 [v] = some y) :
    ∃ (A : Option Addr) (c : Nat) (l : List UInt8), v = .slice A l.length c ∧ Rd W W.heap.size A l ∧ l.length ≤ c ∧ c ≤ maxLen ∧ (A = none → c = 0) := by
  rcases open_ints Tryd.underlying35 Tryd.underlying5 cells5 h with ⟨hcs, _⟩ | ⟨a, len, cap, zs, hcs, _, hl, hm, hz, _, hcell, hwz⟩
  · simp at hcs
    subst hcs
    exact ⟨none, 0, [], rfl, Rd.nil _ _ _, by simp, by unfold maxLen; omega, fun _ => rfl⟩
  · simp at hcs hz
    subst hcs
    have hlen : ((zs.take len).map fun z => UInt8.ofNat z.toNat).length = len := by simp; omega
    refine ⟨some a, cap, (zs.take len).map fun z => UInt8.ofNat z.toNat, by rw [hlen], fun i hi => ?_, by rw [hlen]; exact hl, hm, fun e => by cases e⟩
    rw [hlen] at hi
    have hc := hcell i (by omega)
    refine ⟨a, rfl, by have := block_lt hc; rwa [block_add] at this, ?_⟩
    rw [hc]
    have hi2 : i < zs.length := by omega
    have hw := hwz zs[i] (List.getElem_mem hi2)
    have hb := bounds_u8 hw
    have e1 : zs.getD i 0 = zs[i] := by simp [List.getD_eq_getElem?_getD, hi2]
    have e2 : ((zs.take len).map fun z => UInt8.ofNat z.toNat).getD i 0 = UInt8.ofNat zs[i].toNat := by
      simp [List.getD_eq_getElem?_getD, hi, hi2]
    rw [e1, e2]
    have e3 : (UInt8.ofNat zs[i].toNat).toNat = zs[i].toNat := by rw [UInt8.toNat_ofNat']; omega
    rw [e3]
    congr 2
    omega
/-- A slice of numbers that came in. -/
theorem opened26 {H : Type} {enc : TypeId × Value → H} {W : World} {fuel : Nat} {v : Value} {y : DataW H × List MemPlace} (h : DataW.trod enc Tryd.prog W 0 (fun _ => true) true fuel 26 [v] = some y) :
    ∃ (A : Option Addr) (c : Nat) (l : List Int), v = .slice A l.length c ∧ RI W W.heap.size A l ∧ l.length ≤ c ∧ c ≤ maxLen ∧ (A = none → c = 0) := by
  rcases open_ints Tryd.underlying26 Tryd.underlying3 cells3 h with ⟨hcs, _⟩ | ⟨a, len, cap, zs, hcs, _, hl, hm, hz, _, hcell, hwz⟩
  · simp at hcs
    subst hcs
    exact ⟨none, 0, [], rfl, RI.nil _ _ _, by simp, by unfold maxLen; omega, fun _ => rfl⟩
  · simp at hcs hz
    subst hcs
    have hlen : (zs.take len).length = len := by simp; omega
    refine ⟨some a, cap, zs.take len, by rw [hlen], fun i hi => ?_, by rw [hlen]; exact hl, hm, fun e => by cases e⟩
    rw [hlen] at hi
    have hc := hcell i (by omega)
    refine ⟨a, rfl, by have := block_lt hc; rwa [block_add] at this, ?_⟩
    rw [hc]
    have e2 : (zs.take len).getD i 0 = zs.getD i 0 := by
      simp only [List.getD_eq_getElem?_getD, List.getElem?_take]; rw [if_pos hi]
    rw [e2]
/-- A slice of flags that came in. -/
theorem opened25 {H : Type} {enc : TypeId × Value → H} {W : World} {fuel : Nat} {v : Value} {y : DataW H × List MemPlace} (h : DataW.trod enc Tryd.prog W 0 (fun _ => true) true fuel 25 [v] = some y) :
    ∃ (A : Option Addr) (c : Nat) (l : List Bool), v = .slice A l.length c ∧ RB W W.heap.size A l ∧ l.length ≤ c ∧ c ≤ maxLen ∧ (A = none → c = 0) := by
  rcases Go.Deep.open_slice1 Tryd.underlying25 cells4 h with ⟨hcs, _⟩ | ⟨a, len, cap, m, n, V, D, Pl, hcs, _, hl, hm, hmm, _, hx⟩
  · simp at hcs
    subst hcs
    exact ⟨none, 0, [], rfl, fun i hi => absurd hi (by simp), by simp, by unfold maxLen; omega, fun _ => rfl⟩
  · simp at hcs
    subst hcs
    have hle : len ≤ m := by rw [hmm]; split <;> omega
    have hV : ∀ i, i < len → ∃ b, V i = .bool b := by
      intro i hi
      obtain ⟨_, h2⟩ := hx i (by omega)
      obtain ⟨b, hb, _⟩ := DataW.trod_bool Tryd.underlying4 h2
      exact ⟨b, by simpa using hb⟩
    have hlen : ((List.range len).map fun i => match V i with | .bool b => b | _ => false).length = len := by simp
    refine ⟨some a, cap, (List.range len).map fun i => match V i with | .bool b => b | _ => false, by rw [hlen], fun i hi => ?_, by rw [hlen]; exact hl, hm, fun e => by cases e⟩
    rw [hlen] at hi
    obtain ⟨hc, _⟩ := hx i (by omega)
    obtain ⟨b, hb⟩ := hV i hi
    refine ⟨a, rfl, by have := block_lt hc; rwa [block_add] at this, ?_⟩
    rw [hc, hb]
    simp [List.getD_eq_getElem?_getD, hi, hb]
/-- A slice of clauses that came in. -/
theorem opened22 {H : Type} {enc : TypeId × Value → H} {W : World} {fuel : Nat} {v : Value} {y : DataW H × List MemPlace} (h : DataW.trod enc Tryd.prog W 0 (fun _ => true) true fuel 22 [v] = some y) :
    ∃ (A : Option Addr) (c : Nat) (L : List (List Int)), v = .slice A L.length c ∧ RCk W W.heap.size A L ∧ L.length ≤ c ∧ c ≤ maxLen ∧ (A = none → c = 0) := by
  rcases Go.Deep.open_slice1 Tryd.underlying22 cells26 h with ⟨hcs, _⟩ | ⟨a, len, cap, m, n, V, D, Pl, hcs, _, hl, hm, hmm, _, hx⟩
  · simp at hcs
    subst hcs
    exact ⟨none, 0, [], rfl, fun i hi => absurd hi (by simp), by simp, by unfold maxLen; omega, fun _ => rfl⟩
  · simp at hcs
    subst hcs
    have hle : len ≤ m := by rw [hmm]; split <;> omega
    have hV : ∀ i, i < len → ∃ (A : Option Addr) (c : Nat) (l : List Int), V i = .slice A l.length c ∧ RI W W.heap.size A l ∧ l.length ≤ c ∧ c ≤ maxLen := by
      intro i hi
      obtain ⟨_, h2⟩ := hx i (by omega)
      obtain ⟨A, c, l, h3, h4, h5, h6, _⟩ := opened26 h2
      exact ⟨A, c, l, h3, h4, h5, h6⟩
    obtain ⟨F, hF⟩ : ∃ F : Nat → List Int, ∀ i, i < len → ∃ (A : Option Addr) (c : Nat), V i = .slice A (F i).length c ∧ RI W W.heap.size A (F i) ∧ (F i).length ≤ c ∧ c ≤ maxLen := by
      refine ⟨fun i => if h : i < len then Classical.choose (Classical.choose_spec (Classical.choose_spec (hV i h))) else [], fun i hi => ?_⟩
      simp only [dif_pos hi]
      exact ⟨_, _, Classical.choose_spec (Classical.choose_spec (Classical.choose_spec (hV i hi)))⟩
    have hlen : ((List.range len).map F).length = len := by simp
    refine ⟨some a, cap, (List.range len).map F, by rw [hlen], fun i hi => ?_, by rw [hlen]; exact hl, hm, fun e => by cases e⟩
    rw [hlen] at hi
    obtain ⟨hc, _⟩ := hx i (by omega)
    obtain ⟨A', c', h1, h2, h3⟩ := hF i hi
    have e : ((List.range len).map F).getD i [] = F i := by simp [List.getD_eq_getElem?_getD, hi]
    rw [e]
    exact ⟨a, A', c', rfl, by have := block_lt hc; rwa [block_add] at this, by rw [hc, h1], h2, h3⟩
/-- A slice of steps that came in. -/
theorem add_one (a : Addr) (i : Nat) : a.add (i * 2 + 1) = ⟨(a.add (i * 2)).block, (a.add (i * 2)).off + 1, none⟩ := by
  by_cases hi : i = 0
  · subst hi; simp [Addr.add]
  · have h1 : i * 2 ≠ 0 := by omega
    unfold Addr.add
    rw [if_neg h1, if_neg (by omega)]
    simp; omega
set_option maxRecDepth 100000 in
theorem opened34 {H : Type} {enc : TypeId × Value → H} {W : World} {fuel : Nat} {v : Value} {y : DataW H × List MemPlace} (h : DataW.trod enc Tryd.prog W 0 (fun _ => true) true fuel 34 [v] = some y) :
    ∃ (A : Option Addr) (c : Nat) (P : List Stp), v = .slice A P.length c ∧ RS W W.heap.size A P ∧ P.length ≤ c ∧ c ≤ maxLen ∧ (A = none → c = 0) := by
  rcases Go.Deep.open_slice_pairs Tryd.underlying34 Tryd.underlying54 cells54 (by kernel_rfl) (by kernel_rfl) (by kernel_rfl) (by kernel_rfl) h with ⟨hcs, _⟩ | ⟨a, len, cap, m, n, V0, V1, D0, D1, P0, P1, hcs, _, hl, hm, hmm, _, hx⟩
  · simp at hcs
    subst hcs
    exact ⟨none, 0, [], rfl, fun i hi => absurd hi (by simp), by simp, by unfold maxLen; omega, fun _ => rfl⟩
  · simp at hcs
    subst hcs
    have hle : len ≤ m := by rw [hmm]; split <;> omega
    have hV : ∀ i, i < len → ∃ s : Stp, V0 i = .bool s.1 ∧ ∃ (A : Option Addr) (c : Nat), V1 i = .slice A s.2.length c ∧ RI W W.heap.size A s.2 ∧ s.2.length ≤ c ∧ c ≤ maxLen := by
      intro i hi
      obtain ⟨_, _, h2, h3⟩ := hx i (by omega)
      obtain ⟨b, hb, _⟩ := DataW.trod_bool Tryd.underlying4 h2
      obtain ⟨A, c, l, q3, q4, q5, q6, _⟩ := opened26 h3
      exact ⟨(b, l), by simpa using hb, A, c, q3, q4, q5, q6⟩
    obtain ⟨F, hF⟩ : ∃ F : Nat → Stp, ∀ i, i < len → V0 i = .bool (F i).1 ∧ ∃ (A : Option Addr) (c : Nat), V1 i = .slice A (F i).2.length c ∧ RI W W.heap.size A (F i).2 ∧ (F i).2.length ≤ c ∧ c ≤ maxLen := by
      refine ⟨fun i => if h : i < len then Classical.choose (hV i h) else (true, []), fun i hi => ?_⟩
      simp only [dif_pos hi]
      exact Classical.choose_spec (hV i hi)
    have hlen : ((List.range len).map F).length = len := by simp
    refine ⟨some a, cap, (List.range len).map F, by rw [hlen], fun i hi => ?_, by rw [hlen]; exact hl, hm, fun e => by cases e⟩
    rw [hlen] at hi
    obtain ⟨hc, hc1, _⟩ := hx i (by omega)
    obtain ⟨h0, A', c', h1, h2, h3⟩ := hF i hi
    have e : ((List.range len).map F).getD i (true, []) = F i := by simp [List.getD_eq_getElem?_getD, hi]
    rw [e]
    exact ⟨a, A', c', rfl, by have := block_lt hc; rwa [block_add] at this, by rw [hc, h0], by rw [← add_one, hc1, h1], h2, h3⟩
set_option maxRecDepth 100000 in
/-- A formula that came in. -/
theorem opened24 {H : Type} {enc : TypeId × Value → H} {W : World} {r : Reach} {b0 : Nat} {v : Value} {d : DataW H} {p : List MemPlace} (hv : Value.okWide Tryd.prog W r b0 24 v) (h : DataW.Trod enc Tryd.prog W 0 (fun _ => true) true 24 v d p) :
    ∃ (N : Int) (A : Option Addr) (c : Nat) (L : List (List Int)), v = .agg #[.int .i64 N, .slice A L.length c] ∧ RCk W W.heap.size A L ∧ L.length ≤ c ∧ c ≤ maxLen ∧ (A = none → c = 0) := by
  obtain ⟨v0, v1, y0, y1, n, rfl, hd, hp, h0, h1⟩ := open_agg2 Tryd.underlying24 (by kernel_rfl) (by kernel_rfl) hv h
  obtain ⟨k, e1, _, wk⟩ := DataW.trod_int Tryd.underlying3 h0
  obtain ⟨A, c, l, rfl, hrd, hn, hc, hA⟩ := opened22 h1
  simp at e1
  subst e1
  exact ⟨k, A, c, l, rfl, hrd, hn, hc, hA⟩
end Go.Proofs.YtahedhpffjgimaaDoor
