/-
  Sort, walked.
-/
import Derived.Test.YtlebagdildpkmaaProg
import Derived.WalkKit
import Derived.WalkSpells
import Derived.WalkLawsBesides
import Derived.Lib.Hide
import Derived.BigQuiet
import Derived.Deep.QuietTactic
import Derived.Deep.RegionWith
import Derived.Deep.RegionHeld3
import Derived.Test.YtlebagdildpkmaaB3
set_option linter.unusedVariables false
namespace Go.Proofs.Ytlebagdildpkmaa
open Go.RowKit
open Go.Sort Go.Lib Go.Shelf
theorem cmpLays (blk off size : Nat) (w : World) : CmpLays1 Try.prog 28 #[] (Value.int .i64) cfL blk off size w := by
  intro m os dk _ x y
  refine (closure_any x y _).mono ?_
  rintro e w' ⟨rfl, rfl⟩
  refine ⟨rfl, 0, #[.cells #[.int .i64 (cmpI (varF x) (varF y)), .int .i64 (cmpI x y)] 3], ?_⟩
  generalize sortWorld (Value.int .i64) w blk off m dk os = W
  show W.alloc _ = grow W _
  unfold grow
  rw [← World.alloc_eq]
  simp only [Array.append_singleton]
theorem own_put {w : World} {base : Nat} {g cap n : Nat} {os : Array Obj} {l ts : List Int} (hl : ts.length = l.length) (h : w.ownsRow base 3 1 (.slice (some ⟨g, 0, none⟩) l.length cap) l.length (l.map (Value.int .i64))) :
    (grow (putRow (Value.int .i64) (Sort.ahead w n) g 0 ts.toArray) os).ownsRow base 3 1 (.slice (some ⟨g, 0, none⟩) l.length cap) l.length (ts.map (Value.int .i64)) := by
  rcases h.2 with ⟨h0, _⟩ | ⟨g', cap', cur, hv, hbase, hb, h1, h2, h3, h4⟩
  · cases h0
  · cases hv
    exact ownsRow_sortedI hl hbase hb h1 h2 h3
set_option maxHeartbeats 2000000 in
theorem sort_any (A : Option Addr) (c : Nat) (l : List Int) (w : World) (h : RI w w.heap.size A l) (hl : l.length ≤ 1000000) : Calls Try.prog 17 #[.slice A l.length c] w (RetI w (sortF l)) := by
  have C1 := clone_any A c l w h hl
  clear h
  by_cases h0 : l = []
  · subst h0
    rw [sortF_nil]
    have C2 := fun p cap w1 => Try.slices_SortFunc_none (α := Int) p cap (.func (.func 28) #[] #[]) w1
    have C3 := fun p cap w1 => Try.slices_Compact_int_empty p cap w1
    have HC2 := Lib.hid C2
    have HC3 := Lib.hid C3
    clear C2 C3
    go_enter Try.func17, Try.ntmps17
    go_wp2_with fail
    refine C1.mono ?_; rintro e w1 ⟨v, rfl, hown, hb⟩
    obtain ⟨A1, c1, rfl, _⟩ := hown.val
    have HO := Lib.hid hown
    have HB := Lib.hid hb
    clear hown hb C1
    go_wp2_with fail
    refine (HC2.out _ _ _).mono ?_; rintro e w2 ⟨rfl, rfl⟩
    go_wp2_with fail
    refine (HC3.out _ _ _).mono ?_; rintro e w3 ⟨rfl, rfl⟩
    go_wp2
    go_ret
    exact ⟨_, rfl, HO.out, HB.out⟩
  · have eg : ∀ args w, (callFunc 28 args).run Try.prog w = .ok (.enter 28 args) w := enters_of Try.func28 (by kernel_rfl) rfl
    have hpos : 0 < l.length := by cases l with | nil => exact absurd rfl h0 | cons x l => simp
    have C2 : ∀ g cap w1, Holds (Value.int .i64) w1 g 0 l.toArray → g < w1.heap.size → Calls Try.prog 27 #[.slice (some ⟨g, 0, none⟩) l.length cap, .func (.func 28) #[] #[]] w1 fun e w' => e = .returned (.tuple #[]) ∧ ∃ n os, w' = grow (putRow (Value.int .i64) (Sort.ahead w1 n) g 0 (l.mergeSort leB).toArray) os := by
      intro g cap w1 hH hg
      have := Try.slices_SortFunc_total (Value.int .i64) (fun _ => rfl) cfL swoL 28 #[] g 0 cap l.toArray w1 eg (cmpLays g 0 _ w1) hH hg (by simp; omega) totL
      change Calls Try.prog 27 _ w1 fun e w' => e = _ ∧ ∃ n os, w' = grow (putRow (Value.int .i64) (Sort.ahead w1 n) g 0 (l.mergeSort fun x y => !ltOf cfL y x).toArray) os
      simpa [sortWorld] using this
    have C3 : ∀ g cap w1, Holds (Value.int .i64) w1 g 0 (l.mergeSort leB).toArray → l.length ≤ cap → Calls Try.prog 33 #[.slice (some ⟨g, 0, none⟩) l.length cap] w1 fun e w' => e = .returned (.slice (some ⟨g, 0, none⟩) (sortF l).length cap) ∧ ∃ q, w' = putRow (Value.int .i64) (Sort.ahead w1 q) g 0 (sortF l ++ List.replicate (l.length - (sortF l).length) 0).toArray := by
      intro g cap w1 hH hcap
      have := Try.slices_Compact_int g 0 cap (l.mergeSort leB) w1 hH (by rw [List.length_mergeSort]; omega) (by rw [List.length_mergeSort]; exact hcap)
      rw [List.length_mergeSort] at this
      exact this
    have HC2 := Lib.hid C2
    have HC3 := Lib.hid C3
    clear C2 C3 eg
    go_enter Try.func17, Try.ntmps17
    go_wp2_with fail
    refine C1.mono ?_; rintro e w1 ⟨v, rfl, hown, hb⟩
    have hnn : v ≠ .slice none 0 0 := by
      intro e
      obtain ⟨A1, c1, e1, _⟩ := hown.val
      rw [e] at e1
      injection e1 with _ e2 _
      omega
    obtain ⟨g, cap, rfl, hbg, hgl, hncap, hcm, hlen, hH⟩ := Lib.holds_of_ownsRow hown hnn
    have HO := Lib.hid hown
    have HB := Lib.hid hb
    have HH := Lib.hid hH
    clear hown hb C1 hH hnn
    go_wp2_with fail
    refine (HC2.out g cap w1 HH.out hgl).mono ?_; rintro e w2 ⟨rfl, n, os, hw2⟩
    have h2 := own_put (n := n) (os := os) (ts := l.mergeSort leB) (by simp) HO.out
    rw [← hw2] at h2
    have hb2 : Below w.heap.size w w2 := by rw [hw2]; exact HB.out.grown (grownBy_sortedI _) HB.out.size (fun j hj => by cases hj; exact hbg)
    obtain ⟨g', cap', e', _, hgl2, _, _, _, hH2⟩ := Lib.holds_of_ownsRow h2 (by simp)
    cases e'
    have HO2 := Lib.hid h2
    have HB2 := Lib.hid hb2
    have HH2 := Lib.hid hH2
    clear h2 hb2 hw2 HC2 HO HB HH hH2
    go_wp2_with fail
    refine (HC3.out g cap w2 HH2.out hncap).mono ?_; rintro e w3 ⟨rfl, q, hw3⟩
    have h3 := Lib.ownsRow_putRow (enc := Value.int .i64) (q := q) (k := (sortF l).length) (ys := sortF l ++ List.replicate (l.length - (sortF l).length) 0) HO2.out (by have := sortF_len l; simp; omega) (sortF_len l)
    rw [List.take_left, ← hw3] at h3
    have hb3 : Below w.heap.size w w3 := by rw [hw3]; exact Lib.below_putRow HB2.out hbg
    have HO3 := Lib.hid h3
    have HB3 := Lib.hid hb3
    clear h3 hb3 hw3
    go_wp2
    go_ret
    exact ⟨_, rfl, HO3.out, HB3.out⟩
end Go.Proofs.Ytlebagdildpkmaa
