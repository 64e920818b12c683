/-
  closeUp.
-/
import Derived.Test.YtlebagdildpkmaaProg
import Derived.WalkKit
import Derived.WalkSpells
import Derived.WalkLawsBesides
import Derived.Lib.Hide
import Derived.BigQuiet
import Derived.Deep.QuietTactic
import Derived.Deep.RegionWith
import Derived.Deep.RegionHeld3
import Derived.Test.YtlebagdildpkmaaA8
import Derived.Deep.Cut
import Derived.Deep.DeepCutAuto
import Derived.Deep.LoopGhost
set_option linter.unusedVariables false
namespace Go.Proofs.Ytlebagdildpkmaa
open Go.RowKit
/-- What closing clauses tells. -/
def RetClosed (z : World) (L : List (List Int)) (A : List Int) (e : Ending) (w' : World) : Prop :=
  (e = .returned (.tuple #[.slice none 0 0, .bool true]) ∧ Clash L A ∧ Below z.heap.size z w') ∨
  (∃ vF F, e = .returned (.tuple #[vF, .bool false]) ∧ OwnI w' z.heap.size vF F ∧ Closed L A F ∧ F.Nodup ∧ Below z.heap.size z w')
theorem CS.first (w : World) (W : Nat → Wt) : CS w (w.heap.size + 1 + 1) w.heap.size (w.heap.size + 1) 0 (((w.alloc (.map #[] 0)).alloc (.map #[] 0)).alloc (.cells #[.slice none 0 0, .map (some w.heap.size), .map (some (w.heap.size + 1))] 62)) (fun _ => .slice none 0 0) [] (fun _ => []) W [] := by
  have e1 : (w.alloc (.map #[] 0)).heap.size = w.heap.size + 1 := by simp
  have e2 : ((w.alloc (.map #[] 0)).alloc (.map #[] 0)).heap.size = w.heap.size + 2 := by simp
  have g2 := World.grownBy_alloc (w.alloc (.map #[] 0)) (.map #[] 0) none
  have g3 := World.grownBy_alloc ((w.alloc (.map #[] 0)).alloc (.map #[] 0)) (.cells #[.slice none 0 0, .map (some w.heap.size), .map (some (w.heap.size + 1))] 62) none
  have m1 := ((MapF.made w 56 .u64 (.int .i64 0)).kept g2 (by simp)).kept g3 (by simp)
  have m2 := (MapF.made (w.alloc (.map #[] 0)) 3 .i64 (.slice none 0 0)).kept g3 (by simp)
  rw [e1] at m2
  refine ⟨fun i => if i = w.heap.size then .held else if i = w.heap.size + 1 then .rows else .recd, .slice none 0 0, 0, ?_, ?_, ?_, ?_, by omega, by omega, by omega, ⟨?_, ?_⟩, ?_, ?_, OwnI.nil _ _, ?_, ?_, m2, by simp, ?_, ?_, by simp, by simp, by simp⟩
  · exact (((Below.refl _ _).alloc (Nat.le_refl _) _).alloc (by simp) _).alloc (by simp; omega) _
  · show (if w.heap.size + 1 + 1 = w.heap.size then Tag.held else if w.heap.size + 1 + 1 = w.heap.size + 1 then .rows else .recd) = .recd
    rw [if_neg (by omega), if_neg (by omega)]
  · simp
  · simp
  · go_simp
  · go_simp
  · go_simp
  · go_simp
  · intro g hg; cases hg
  · exact m1.congr (fun x _ => by simp [heldF])
  · intro k; exact World.ownsRow_nil _ _ _ _
  · intro k g hg; cases hg
theorem CS.forced {z : World} {sb hb rb T : Nat} {w : World} {vk : Int → Value} {F : List Int} {R : Int → List Nat} {W : Nat → Wt} {I : List Nat} (h : CS z sb hb rb T w vk F R W I) : ∃ A c, w.cell? ⟨sb, 0, none⟩ = some (.slice A F.length c) ∧ OwnI w z.heap.size (.slice A F.length c) F ∧ RI w w.heap.size A F := by
  obtain ⟨t, vF, nR, h⟩ := h
  obtain ⟨A, c, rfl, hr, _⟩ := h.oF.val
  exact ⟨A, c, h.c0.1, h.oF, hr⟩
/-- How things stand when the first k literals are assumed. -/
def AssumeAt (z : World) (sb hb rb : Nat) (L : List (List Int)) (A : List Int) (k : Nat) (w' : World) : Prop :=
  ∃ vk F R W I, CS z sb hb rb 0 w' vk F R W I ∧ Inv L [] A [] 0 [] F R W ∧ ∀ y ∈ A.take k, y ∈ F
/-- How things stand when k of those that are forced are dropped. -/
def CloseAt (z : World) (sb hb rb T : Nat) (L : List (List Int)) (A : List Int) (k : Nat) (w' : World) : Prop :=
  ∃ vk F R W I, k ≤ F.length ∧ CS z sb hb rb T w' vk F R W I ∧ Inv L L A ((F.take k).map (- ·)) 0 [] F R W ∧ ∀ y ∈ A, y ∈ F
theorem CloseAt.next {z : World} {sb hb rb T : Nat} {L : List (List Int)} {A : List Int} {k : Nat} {w' : World} {vk : Int → Value} {F G : List Int} {R : Int → List Nat} {W : Nat → Wt} {I : List Nat} (hk : k < F.length) (h1 : CS z sb hb rb T w' vk (F ++ G) R W I) (h2 : Inv L L A ((F.take k).map (- ·) ++ [-(F.getD k 0)]) 0 [] (F ++ G) R W) (h3 : ∀ y ∈ A, y ∈ F) : CloseAt z sb hb rb T L A (k + 1) w' := by
  refine ⟨vk, F ++ G, R, W, I, by simp; omega, h1, ?_, fun y hy => by simp [h3 y hy]⟩
  have e : ((F ++ G).take (k + 1)).map (- ·) = (F.take k).map (- ·) ++ [-(F.getD k 0)] := by
    rw [List.take_append_of_le_length (by omega), take_snocI F k hk]; simp
  rw [e]; exact h2
theorem not_dropped {F : List Int} (hn : F.Nodup) {k : Nat} (hk : k < F.length) : -(F.getD k 0) ∉ (F.take k).map (- ·) := by
  intro hm
  obtain ⟨y, hy, e⟩ := List.mem_map.1 hm
  have e2 : y = F.getD k 0 := by omega
  have hd : (F.take (k + 1)).Nodup := hn.sublist (List.take_sublist _ _)
  rw [take_snocI F k hk, List.nodup_append] at hd
  exact hd.2.2 y hy _ (by simp) e2
set_option maxHeartbeats 8000000 in
set_option maxRecDepth 100000 in
theorem closeUp_any (LA AA : Option Addr) (c c' : Nat) (L : List (List Int)) (A : List Int) (w : World) (hL : RCk w w.heap.size LA L) (hR : RI w w.heap.size AA A) (hX : ∀ c ∈ L, Lits c) (hA : Lits A) (hT : tot L ≤ 10000000) (hl : L.length ≤ 1000000) (hlc : ∀ c ∈ L, c.length ≤ 1000000) (hal : A.length ≤ 1000000) :
    Calls Try.prog 24 #[.slice LA L.length c, .slice AA A.length c'] w (RetClosed w L A) := by
  have F0 : Hid (AssumeAt w (w.heap.size + 1 + 1) w.heap.size (w.heap.size + 1) L A 0 _) := Lib.hid ⟨_, _, _, _, _, CS.first w (fun _ => ⟨0, 0, []⟩), Inv.first L A _, by simp⟩
  have HL := Lib.hid hL
  have HR := Lib.hid hR
  have HX := Lib.hid hX
  have HA := Lib.hid hA
  have HLC := Lib.hid hlc
  clear hL hR hX hA hlc
  have mk : ∀ (t : TypeId) (wx : World), (Instr.makeMap t none).run Try.prog wx = .ok (.map (some wx.heap.size)) (wx.alloc (.map #[] 0)) := fun _ _ => rfl
  go_enter Try.func24, Try.ntmps24
  go_wp2
  clear mk
  generalize ((w.alloc (.map #[] 0)).alloc (.map #[] 0)).alloc (.cells #[.slice none 0 0, .map (some w.heap.size), .map (some (w.heap.size + 1))] 62) = w0 at *
  generalize w.heap.size + 1 + 1 = sb at *
  generalize w.heap.size + 1 = rb at *
  generalize hhb : w.heap.size = hb at *
  have HHB := Lib.hid hhb
  clear hhb
  go_loopg [15] A.length (fun g s15 wr => ∃ k : Nat, k + g = A.length ∧ s15 = .int .i64 k ∧ AssumeAt w sb hb rb L A k wr)
  case atStart => exact ⟨0, by omega, rfl, F0.out⟩
  case round =>
    obtain ⟨k, hk, rfl, vk, F, R, W, I, hS, hI, hFA⟩ := hrel
    clear F0
    have hFl := hI.len HX.out HA.out
    have HFA := Lib.hid hFA
    have HI := Lib.hid hI
    have HS := Lib.hid hS
    clear hI hFA
    cases gk with
    | zero =>
      obtain rfl : k = A.length := by omega
      have n1 : ¬ ((A.length : Int) < A.length) := by omega
      have n2 : ¬ (A.length < A.length) := by omega
      have C := enter_any hS HI.out LA c (by have h5 := HL.out; rw [← HHB.out] at h5; exact h5) HX.out HA.out (by omega) hl HLC.out
      clear hS
      go_wp2_with fail
      refine C.mono ?_
      clear C
      rintro e w1 hq
      rcases hq with ⟨rfl, hcl, hb1⟩ | ⟨rfl, vk, F1, R, W, I, hS, hI, hF1⟩
      · have HCL := Lib.hid hcl
        have HB1 := Lib.hid hb1
        clear hcl hb1
        go_wp2
        go_ret2
        exact .inl ⟨rfl, HCL.out, HB1.out⟩
      · have F1 : Hid (CloseAt w sb hb rb (0 + tot L) L A 0 w1) := Lib.hid ⟨vk, F1, R, W, I, by omega, hS, by simpa using hI, fun y hy => hF1 y (HFA.out y (by rw [List.take_length]; exact hy))⟩
        clear hS hI hF1 HFA HI HS hFl
        go_wp2
        go_loopg [9] 200001 (fun g s9 wr => ∃ k : Nat, k + g = 200001 ∧ s9 = .int .i64 k ∧ CloseAt w sb hb rb (0 + tot L) L A k wr)
        case atStart => exact ⟨0, by omega, rfl, F1.out⟩
        case round =>
          obtain ⟨k, hk, rfl, vk, F, R, W, I, hkF, hS, hI, hFA⟩ := hrel
          clear F1
          obtain ⟨AF, cF, hc0, hown, hrF⟩ := hS.forced
          have hFl := hI.len HX.out HA.out
          have HFA := Lib.hid hFA
          have HI := Lib.hid hI
          have HS := Lib.hid hS
          have HOW := Lib.hid hown
          by_cases hlt : k < F.length
          · cases gk with
            | zero => omega
            | succ g =>
              obtain ⟨ad, rfl, hab, hcc⟩ := hrF k hlt
              have hm := getD_mem F k hlt
              have hnd := not_dropped hI.fnod hlt
              have hbd := (hI.sound _ hm).lit HX.out HA.out
              have C := drop_any (x := -(F.getD k 0)) hS hI (by simpa using hm) hnd HX.out HA.out (by omega)
              have HNX := Lib.hid (fun w' vk G R W I => @CloseAt.next w sb hb rb (0 + tot L) L A k w' vk F G R W I hlt)
              clear hS hI hFA hown hrF hm hnd
              generalize F.getD k 0 = x at *
              have hlt' : (k : Int) < F.length := by omega
              go_wp2_with fail
              refine C.mono ?_
              clear C
              rintro e w2 hq
              rcases hq with ⟨rfl, hcl, hb1⟩ | ⟨rfl, vk, G, R, W, I, hS, hI⟩
              · have HCL := Lib.hid hcl
                have HB1 := Lib.hid hb1
                clear hcl hb1 hc0
                go_wp2
                go_ret2
                exact .inl ⟨rfl, HCL.out, HB1.out⟩
              · have HN := Lib.hid (HNX.out w2 vk G R W I hS hI HFA.out)
                clear hS hI hc0
                go_wp2
                go_roundg g
                case measure => omega
                case rel => exact ⟨k + 1, by omega, by go_num, HN.out⟩
          · obtain rfl : k = F.length := by omega
            have n1 : ¬ ((F.length : Int) < F.length) := by omega
            have n2 : ¬ (F.length < F.length) := by omega
            clear hS hI hFA hown hrF
            go_wp2
            go_ret2
            refine .inr ⟨_, F, rfl, HOW.out, ?_, HI.out.fnod, HS.out.bel⟩
            have h1 := HI.out
            rw [List.take_length] at h1
            exact h1.closed HFA.out (fun z hz => by simp; exact hz)
    | succ g =>
      have hkl : k < A.length := by omega
      have hm := getD_mem A k hkl
      obtain ⟨x0, x1, x2⟩ := HA.out _ hm
      obtain ⟨ad, rfl, hab, hcz⟩ := HR.out k hkl
      have hcc := (hS.bel.cell (p := ad.add k) (by rw [block_add, HHB.out]; exact hab)).trans hcz
      have htk := take_snocI A k hkl
      have hgv : Forced L A (A.getD k 0) := .given _ hm
      have HTK := Lib.hid htk
      have HGV := Lib.hid hgv
      clear hcz hm htk hgv
      generalize A.getD k 0 = x at *
      have hkl' : (k : Int) < A.length := by omega
      by_cases hxF : x ∈ F
      · have C := force_in hS x x0 x1 x2 (fun y hy => HI.out.cons y hy) hxF
        have HXF := Lib.hid hxF
        clear hS hxF
        go_wp2_with fail
        refine C.mono ?_; rintro e w1 ⟨rfl, rfl⟩
        clear C
        go_wp2
        go_roundg g
        case measure => omega
        case rel =>
          refine ⟨k + 1, by omega, by go_num, vk, F, R, W, I, HS.out, HI.out, ?_⟩
          rw [HTK.out]; intro y hy
          rcases List.mem_append.1 hy with h' | h'
          · exact HFA.out y h'
          · rw [List.mem_singleton.1 h']; exact HXF.out
      · by_cases hnF : -x ∈ F
        · have C := force_neg hS x x0 x1 x2 (fun y hy => HI.out.cons y hy) hnF
          have HXF := Lib.hid hnF
          clear hS hxF hnF
          go_wp2_with fail
          refine C.mono ?_; rintro e w1 ⟨rfl, rfl⟩
          clear C
          go_wp2
          go_ret2
          exact .inl ⟨rfl, HI.out.both HGV.out HXF.out, HS.out.bel⟩
        · have C := force_new hS x x0 x1 x2 (by omega) hxF hnF
          have HXF := Lib.hid (And.intro hxF hnF)
          clear hS hxF hnF
          go_wp2_with fail
          refine C.mono ?_; rintro e w1 ⟨rfl, hS2⟩
          have HS2 := Lib.hid hS2
          clear C hS2 hcc
          go_wp2
          go_roundg g
          case measure => omega
          case rel =>
            refine ⟨k + 1, by omega, by go_num, vk, F ++ [x], R, W, I, HS2.out, HI.out.force HGV.out x0 HXF.out.1 HXF.out.2, ?_⟩
            rw [HTK.out]; intro y hy
            rcases List.mem_append.1 hy with h' | h'
            · simp [HFA.out y h']
            · rw [List.mem_singleton.1 h']; simp
end Go.Proofs.Ytlebagdildpkmaa
