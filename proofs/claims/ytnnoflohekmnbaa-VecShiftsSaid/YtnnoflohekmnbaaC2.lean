/-
  vec.Un and vec.Bin over the translated program, where they tell errors. Nothing is assumed.
-/
import Derived.Test.YtnnoflohekmnbaaProg
import Derived.WalkKit
import Derived.WalkSpells
import Derived.WalkLawsBesides
import Derived.LoopN
import Derived.IntWalk
import Derived.Lib.Hide
import Derived.Test.YtnnoflohekmnbaaC1
import Derived.Laws.BitsAllLaws
import Derived.Laws.Externs
import Derived.BigQuiet
import Derived.BigRegion
import Derived.Deep.QuietTactic
import Derived.Deep.RegionWith
import Derived.Deep.RegionHeld3
import Derived.StillTailTactics
import Derived.RegionTactic
import Derived.ChangeAlike
set_option linter.unusedVariables false
namespace Go.Proofs.Ytnnoflohekmnbaa
open Go.RowKit
theorem not_concat (s : ByteArray) (h : s ≠ ⟨#[99, 111, 110, 99, 97, 116]⟩) : (s.toList == [99, 111, 110, 99, 97, 116]) = false := by
  rw [beq_eq_false_iff_ne]
  intro e
  apply h
  rw [ByteArray.toList_eq] at e
  apply ByteArray.ext
  apply Array.toList_inj.1
  exact e
theorem find_kept (s : ByteArray) : ∀ (l : List (ByteArray × Value)), (∃ k ∈ l.map (·.1), (s == k) = true) → ∃ q, l.find? (fun p => s == p.1) = some q
  | [], ⟨k, hk, _⟩ => by simp at hk
  | p :: l, ⟨k, hk, h⟩ => by
    rw [List.find?_cons]
    cases hp : (s == p.1) with
    | true => exact ⟨p, rfl⟩
    | false =>
      simp only [List.map_cons, List.mem_cons] at hk
      rcases hk with rfl | hk
      · rw [h] at hp; cases hp
      · exact find_kept s l ⟨k, hk, h⟩
theorem kept_of {w : World} {r : Nat} {l : List (ByteArray × Value)} (hM : MapIs w r l) (s : ByteArray) (hs : ∃ k ∈ l.map (·.1), (s == k) = true) : ∃ q, l.find? (fun p => s == p.1) = some q := find_kept s l hs
theorem find_lost (s : ByteArray) : ∀ (l : List (ByteArray × Value)), (∀ k ∈ l.map (·.1), (s == k) = false) → l.find? (fun p => s == p.1) = none
  | [], _ => rfl
  | p :: l, h => by
    rw [List.find?_cons, h p.1 (by simp)]
    exact find_lost s l (fun k hk => h k (by simp only [List.map_cons, List.mem_cons]; exact Or.inr hk))
def unKeys : List ByteArray := [⟨#[110, 111, 116]⟩, ⟨#[105, 110, 99]⟩, ⟨#[100, 101, 99]⟩, ⟨#[110, 101, 103]⟩, ⟨#[114, 101, 100, 97, 110, 100]⟩, ⟨#[114, 101, 100, 111, 114]⟩, ⟨#[114, 101, 100, 120, 111, 114]⟩]
def binKeys : List ByteArray := [⟨#[97, 110, 100]⟩, ⟨#[111, 114]⟩, ⟨#[120, 111, 114]⟩, ⟨#[97, 100, 100]⟩, ⟨#[115, 117, 98]⟩, ⟨#[109, 117, 108]⟩, ⟨#[117, 100, 105, 118]⟩, ⟨#[117, 114, 101, 109]⟩, ⟨#[115, 108, 108]⟩, ⟨#[115, 114, 108]⟩, ⟨#[115, 114, 97]⟩, ⟨#[101, 113]⟩, ⟨#[117, 108, 116]⟩, ⟨#[115, 108, 116]⟩, ⟨#[99, 111, 110, 99, 97, 116]⟩]
set_option maxHeartbeats 1000000 in
theorem Un_other (s : ByteArray) (hs : ∀ k ∈ unKeys, (s == k) = false) {w : World} {ad : Addr} {c W N : Nat} (h : Vc w w.heap.size ad c W N) :
    Calls Try.prog 22 #[.string s, .agg #[.int .i64 W, .slice (some ad) (lm W) c]] w (RetErr w 1) := by
  have hF0 := Lib.hid (Fr2.first w (.int .i64 W) (.slice (some ad) (lm W) c) (.int .i64 0) (.slice none 0 0) 24 24)
  have HS := Lib.hid hs
  generalize lm W = k at *
  clear h hs
  go_enter Try.func22, Try.ntmps22
  go_wp2_with fail
  refine (unary_any _).mono ?_
  rintro e w1 ⟨r, v0, v1, v2, v3, rfl, hM, hE, hr, hb1⟩
  have hF1 := hF0.out.nx hb1
  have hlk := run_lost 75 73 Try.underlying75 zero73 hM s (find_lost s _ HS.out)
  obtain ⟨⟨p1, p2⟩, ⟨p3, p4, p5, p6⟩, hz⟩ := hF1.parts
  clear hb1 hM hE hr
  go_wp2
  refine bodyPost_ret (v := .tuple #[.agg #[.int .i64 0, .slice none 0 0], .int .i64 1]) (by simp [results, Try.results22, go_sem, *]) rfl ⟨rfl, ?_⟩
  exact (hF1.bel.setCell (by simp) _).setCell (by simp) _
set_option maxRecDepth 100000 in
set_option maxHeartbeats 1000000 in
theorem Bin_wother {w : World} {ad ad' : Addr} {c c' W V N K Y : Nat} (h : Vc w w.heap.size ad c W N) (h' : Vc w w.heap.size ad' c' V K) (s : ByteArray) (hs : ∀ k ∈ binKeys, (s == k) = false) :
    Calls Try.prog 24 #[.string s, .agg #[.int .i64 W, .slice (some ad) (lm W) c], .agg #[.int .i64 V, .slice (some ad') (lm V) c']] w (RetErr w 1) := by
  have h1 := h.w1
  have h2 := h.w2
  have i1 := h'.w1
  have i2 := h'.w2
  have hF0 := Lib.hid (Fr3.first w (.int .i64 W) (.slice (some ad) (lm W) c) (.int .i64 V) (.slice (some ad') (lm V) c') (.int .i64 0) (.slice none 0 0) 24 24 24)
  have hV0 := Lib.hid (h.nx (Fr3.first w (.int .i64 W) (.slice (some ad) (lm W) c) (.int .i64 V) (.slice (some ad') (lm V) c') (.int .i64 0) (.slice none 0 0) 24 24 24).bel)
  have hU0 := Lib.hid (h'.nx (Fr3.first w (.int .i64 W) (.slice (some ad) (lm W) c) (.int .i64 V) (.slice (some ad') (lm V) c') (.int .i64 0) (.slice none 0 0) 24 24 24).bel)
  have HS := Lib.hid hs
  clear hs
  generalize hk : lm W = k at *
  generalize hk' : lm V = k' at *
  have HK := Lib.hid hk
  have HK' := Lib.hid hk'
  clear h h' hk hk'
  go_enter Try.func24, Try.ntmps24
  go_wp2_with fail
  refine (binary_any _).mono ?_
  rintro e w1 ⟨r, v0, v1, v2, v3, v4, v5, v6, v7, v8, v9, rfl, hM, hE, hr, hb1⟩
  have hF1 := hF0.out.nx hb1
  have hV1 := hV0.out.nx hb1
  have hU1 := hU0.out.nx hb1
  have hlk := run_lost 86 84 Try.underlying86 zero84 hM s (find_lost s _ HS.out)
  obtain ⟨⟨p1, p2⟩, ⟨p3, p4⟩, ⟨p5, p6, p7, p8⟩, pz⟩ := hF1.parts
  clear hb1 hM hE hr
  go_wp2
  refine bodyPost_ret (v := .tuple #[.agg #[.int .i64 0, .slice none 0 0], .int .i64 1]) (by simp [results, Try.results24, go_sem, *]) rfl ⟨rfl, ?_⟩
  exact (hF1.bel.setCell (by simp; omega) _).setCell (by simp; omega) _
set_option maxRecDepth 100000 in
set_option maxHeartbeats 1000000 in
theorem Bin_wwide {w : World} {ad ad' : Addr} {c c' W V N K Y : Nat} (h : Vc w w.heap.size ad c W N) (h' : Vc w w.heap.size ad' c' V K) (s : ByteArray) (hs : ∃ k ∈ binKeys, (s == k) = true) (hcc : s ≠ ⟨#[99, 111, 110, 99, 97, 116]⟩) (hWV : W ≠ V) :
    Calls Try.prog 24 #[.string s, .agg #[.int .i64 W, .slice (some ad) (lm W) c], .agg #[.int .i64 V, .slice (some ad') (lm V) c']] w (RetErr w 5) := by
  have h1 := h.w1
  have h2 := h.w2
  have i1 := h'.w1
  have i2 := h'.w2
  have hF0 := Lib.hid (Fr3.first w (.int .i64 W) (.slice (some ad) (lm W) c) (.int .i64 V) (.slice (some ad') (lm V) c') (.int .i64 0) (.slice none 0 0) 24 24 24)
  have hV0 := Lib.hid (h.nx (Fr3.first w (.int .i64 W) (.slice (some ad) (lm W) c) (.int .i64 V) (.slice (some ad') (lm V) c') (.int .i64 0) (.slice none 0 0) 24 24 24).bel)
  have hU0 := Lib.hid (h'.nx (Fr3.first w (.int .i64 W) (.slice (some ad) (lm W) c) (.int .i64 V) (.slice (some ad') (lm V) c') (.int .i64 0) (.slice none 0 0) 24 24 24).bel)
  have HS := Lib.hid hs
  clear hs
  have d1 : ((W : Int) == (V : Int)) = false := by rw [beq_eq_false_iff_ne]; omega
  have d2 : (W == V) = false := by rw [beq_eq_false_iff_ne]; omega
  have d3 : (s.toList == [99, 111, 110, 99, 97, 116]) = false := not_concat s hcc
  clear hcc hWV
  generalize hk : lm W = k at *
  generalize hk' : lm V = k' at *
  have HK := Lib.hid hk
  have HK' := Lib.hid hk'
  clear h h' hk hk'
  go_enter Try.func24, Try.ntmps24
  go_wp2_with fail
  refine (binary_any _).mono ?_
  rintro e w1 ⟨r, v0, v1, v2, v3, v4, v5, v6, v7, v8, v9, rfl, hM, hE, hr, hb1⟩
  have hF1 := hF0.out.nx hb1
  have hV1 := hV0.out.nx hb1
  have hU1 := hU0.out.nx hb1
  obtain ⟨q, hq⟩ := kept_of hM s HS.out
  have hlk := run_get 86 84 Try.underlying86 hM s q hq
  obtain ⟨⟨p1, p2⟩, ⟨p3, p4⟩, ⟨p5, p6, p7, p8⟩, pz⟩ := hF1.parts
  clear hb1 hM hE hr hq
  go_wp2
  refine bodyPost_ret (v := .tuple #[.agg #[.int .i64 0, .slice none 0 0], .int .i64 5]) (by simp [results, Try.results24, go_sem, *]) rfl ⟨rfl, ?_⟩
  exact (hF1.bel.setCell (by simp; omega) _).setCell (by simp; omega) _
set_option maxRecDepth 100000 in
set_option maxHeartbeats 1000000 in
theorem Bin_wconcat {w : World} {ad ad' : Addr} {c c' W V N K Y : Nat} (h : Vc w w.heap.size ad c W N) (h' : Vc w w.heap.size ad' c' V K) (hsum : 128 < W + V) :
    Calls Try.prog 24 #[.string ⟨#[99, 111, 110, 99, 97, 116]⟩, .agg #[.int .i64 W, .slice (some ad) (lm W) c], .agg #[.int .i64 V, .slice (some ad') (lm V) c']] w (RetErr w 5) := by
  have h1 := h.w1
  have h2 := h.w2
  have i1 := h'.w1
  have i2 := h'.w2
  have hF0 := Lib.hid (Fr3.first w (.int .i64 W) (.slice (some ad) (lm W) c) (.int .i64 V) (.slice (some ad') (lm V) c') (.int .i64 0) (.slice none 0 0) 24 24 24)
  have hV0 := Lib.hid (h.nx (Fr3.first w (.int .i64 W) (.slice (some ad) (lm W) c) (.int .i64 V) (.slice (some ad') (lm V) c') (.int .i64 0) (.slice none 0 0) 24 24 24).bel)
  have hU0 := Lib.hid (h'.nx (Fr3.first w (.int .i64 W) (.slice (some ad) (lm W) c) (.int .i64 V) (.slice (some ad') (lm V) c') (.int .i64 0) (.slice none 0 0) 24 24 24).bel)
  have HS : Hid (∀ wx, Calls Try.prog 48 #[.int .i64 W, .int .i64 V] wx fun e w' => e = .returned (.bool false) ∧ wx = w') := fun wx => (sumFits_any W V wx (by omega) (by omega)).mono fun e w' ⟨he, hw⟩ => ⟨by rw [he]; congr 2; exact decide_eq_false (by omega), hw⟩
  generalize hk : lm W = k at *
  generalize hk' : lm V = k' at *
  have HK := Lib.hid hk
  have HK' := Lib.hid hk'
  clear h h' hk hk'
  go_enter Try.func24, Try.ntmps24
  go_wp2_with fail
  refine (binary_any _).mono ?_
  rintro e w1 ⟨r, v0, v1, v2, v3, v4, v5, v6, v7, v8, v9, rfl, hM, hE, hr, hb1⟩
  have hF1 := hF0.out.nx hb1
  have hV1 := hV0.out.nx hb1
  have hU1 := hU0.out.nx hb1
  have hlk := run_get 86 84 Try.underlying86 hM ⟨#[99, 111, 110, 99, 97, 116]⟩ _ rfl
  obtain ⟨⟨p1, p2⟩, ⟨p3, p4⟩, ⟨p5, p6, p7, p8⟩, pz⟩ := hF1.parts
  clear hb1 hM hE hr
  go_wp2_with fail
  refine (HS.out _).mono ?_
  rintro e w2 ⟨rfl, rfl⟩
  go_wp2
  refine bodyPost_ret (v := .tuple #[.agg #[.int .i64 0, .slice none 0 0], .int .i64 5]) (by simp [results, Try.results24, go_sem, *]) rfl ⟨rfl, ?_⟩
  exact (hF1.bel.setCell (by simp; omega) _).setCell (by simp; omega) _
end Go.Proofs.Ytnnoflohekmnbaa
