/-
  The statements' common head ('shown', the document's examples) over the translated program: it returns true, under the two tables of unicode/utf8 as its text lays them, and nothing that was there is changed.
-/
import Derived.Test.YtfimacfpgcdekaaDoorW7
import Derived.Lib.SlBytesConst
set_option linter.unusedVariables false
namespace Go.Proofs.YtfimacfpgcdekaaDoor
open Go.RowKit

/-- A row that was just laid, read as bytes. -/
theorem litRd (w : World) (l : List UInt8) (cs : Array Value) (m : Nat × Nat) (hcs : cs = (l.map bv).toArray) : Rd (w.alloc (.cells cs 5 m)) (w.heap.size + 1) (some ⟨w.heap.size, 0, none⟩) l := by
  subst hcs
  intro i hi
  refine ⟨_, rfl, by simp, ?_⟩
  have e : (⟨w.heap.size, 0, none⟩ : Addr).add i = ⟨w.heap.size, i, none⟩ := by unfold Addr.add; split <;> simp_all
  rw [e]
  have hb : (w.alloc (.cells (l.map bv).toArray 5 m)).heap[w.heap.size]? = some (.cells (l.map bv).toArray 5 m) := by
    show (w.heap.push _)[w.heap.size]? = _
    simp
  simp only [World.cell?, hb]
  simp [bv, hi]
theorem Number_ex (g : Nat) (w : World) (B : Nat) (h : Rd w B (some ⟨g, 0, none⟩) [52, 50, 57]) :
    Calls Tryd.prog 22 #[.slice (some ⟨g, 0, none⟩) 3 3, .int .i64 0, .int .i64 1000] w fun e w' => e = .returned (.tuple #[.int .i64 429, .int .i64 3, .int .i64 0]) ∧ w = w' :=
  (Number_any (some ⟨g, 0, none⟩) 3 0 1000 [52, 50, 57] B w h (by simp) (by simp) (by unfold maxLen; omega)).mono fun e w' ⟨he, hw⟩ => ⟨he.trans (congrArg (fun r => Ending.returned (res3 0 r)) (by decide : numberS [52, 50, 57] 1000 = (429, 3, 0))), hw⟩
theorem Signed_ex (g : Nat) (w : World) (B : Nat) (h : Rd w B (some ⟨g, 0, none⟩) [120, 45, 55, 32]) :
    Calls Tryd.prog 19 #[.slice (some ⟨g, 0, none⟩) 4 4, .int .i64 1, .int .i64 9] w fun e w' => e = .returned (.tuple #[.int .i64 (-7), .int .i64 3, .int .i64 0]) ∧ w = w' :=
  (Signed_any (some ⟨g, 0, none⟩) 4 1 9 [120, 45, 55, 32] B w h (by simp) (by simp) (by unfold maxLen; omega)).mono fun e w' ⟨he, hw⟩ => ⟨he.trans (congrArg (fun r => Ending.returned (res3 1 r)) (by decide : signedS [45, 55, 32] 9 = (-7, 2, 0))), hw⟩
theorem Ones_ex (g : Nat) (w : World) (B : Nat) (h : Rd w B (some ⟨g, 0, none⟩) [48, 49, 49, 50]) :
    Calls Tryd.prog 20 #[.slice (some ⟨g, 0, none⟩) 4 4, .int .i64 0, .int .i64 9] w fun e w' => e = .returned (.tuple #[.string ⟨#[48, 49, 49]⟩, .int .i64 3, .int .i64 0]) ∧ w = w' :=
  (Ones_any (some ⟨g, 0, none⟩) 4 0 9 [48, 49, 49, 50] B w h (by simp) (by simp) (by unfold maxLen; omega)).mono fun e w' ⟨he, hw⟩ => ⟨he.trans (congrArg (fun r => Ending.returned (resS 0 r)) (by decide : onesS [48, 49, 49, 50] 9 = ([48, 49, 49], 3, 0))), hw⟩
theorem put300 : putL 300 = [172, 2] := by rw [putL_more 300 (by omega), putL_last _ (by omega)]; rfl
theorem Take_ex (A : Option Addr) (c : Nat) (w : World) (B : Nat) (h : Rd w B A [172, 2]) (hc : 2 ≤ c) (hm : c ≤ maxLen) :
    Calls Tryd.prog 12 #[.slice A 2 c, .int .i64 0] w fun e w' => e = .returned (.tuple #[.int .i64 300, .int .i64 2, .int .i64 0]) ∧ w = w' :=
  (Take_any A c 0 [172, 2] B w h (by simp) hc hm (by simp)).mono fun e w' ⟨he, hw⟩ => ⟨he.trans (congrArg (fun r => Ending.returned (res3 0 r)) (by decide : takeS [172, 2] = (300, 2, 0))), hw⟩
theorem Name_ex (g : Nat) (w : World) (B : Nat) (h : Rd w B (some ⟨g, 0, none⟩) [97, 32, 98, 10]) (hT : Tabs w) :
    Calls Tryd.prog 10 #[.slice (some ⟨g, 0, none⟩) 4 4, .int .i64 0] w fun e w' => e = .returned (.tuple #[.string ⟨#[97, 32, 98]⟩, .int .i64 3, .int .i64 0]) ∧ Below w.heap.size w w' :=
  (Name_any (some ⟨g, 0, none⟩) 4 0 [97, 32, 98, 10] B w h (by simp) (by simp) (by unfold maxLen; omega) (fun h => by cases h) hT).mono fun e w' ⟨he, hw⟩ => ⟨he.trans (congrArg (fun r => Ending.returned (resS 0 r)) (by decide +kernel : nameS [97, 32, 98, 10] = ([97, 32, 98], 3, 0))), hw⟩
theorem Is_ex (g : Nat) (w : World) (B : Nat) (h : Rd w B (some ⟨g, 0, none⟩) [97, 97, 103, 32, 49]) :
    Calls Tryd.prog 23 #[.slice (some ⟨g, 0, none⟩) 5 5, .int .i64 0, .string ⟨#[97, 97, 103, 32]⟩] w fun e w' => e = .returned (.tuple #[.int .i64 4, .bool true]) ∧ w = w' :=
  Is_yes (some ⟨g, 0, none⟩) 5 0 [97, 97, 103, 32, 49] ⟨#[97, 97, 103, 32]⟩ B w h (by simp) (by simp) (by unfold maxLen; omega) (by decide)
theorem IsName_ex (w : World) (hT : Tabs w) :
    Calls Tryd.prog 14 #[.string ⟨#[97]⟩] w fun e w' => e = .returned (.bool true) ∧ Below w.heap.size w w' :=
  (IsName_any ⟨#[97]⟩ w (by show 1 ≤ maxLen; unfold maxLen; omega) hT).mono fun e w' ⟨he, hw⟩ => ⟨he.trans (congrArg (fun r => Ending.returned (.bool r)) (by decide +kernel : isNm [97] = true)), hw⟩

/-- What a row of the call's own reads as. -/
theorem Own.form {w : World} {base : Nat} {v : Value} {l : List UInt8} (h : Own w base v l) :
    ∃ A c, v = .slice A l.length c ∧ Rd w w.heap.size A l ∧ l.length ≤ c ∧ c ≤ maxLen ∧ (A = none → c = 0) := by
  unfold Own at h
  rcases h.2 with ⟨rfl, h0⟩ | ⟨g, cap, cur, rfl, hg, hh, h1, h2, h3, h4⟩
  · have : l = [] := List.eq_nil_of_length_eq_zero h0
    subst this
    exact ⟨none, 0, rfl, Rd.nil _ _ _, by simp, by unfold maxLen; omega, fun _ => rfl⟩
  · refine ⟨_, cap, rfl, fun i hi => ⟨_, rfl, ?_, ?_⟩, h1, h2, fun e => by cases e⟩
    · exact (h.lt g rfl).2
    · exact h.cells (g := g) rfl i _ (by simp [bv, hi])
set_option maxRecDepth 100000 in
set_option maxHeartbeats 1600000 in
theorem shown_any (w : World) (hT : Tabs w) : Calls Tryd.prog 9 #[] w fun e w' => e = .returned (.bool true) ∧ Below w.heap.size w w' := by
  have kc := fun (w : World) (C : Array Value) (n c : Nat) => Lib.run_convert_bytes_const (P := Tryd.prog) w 22 5 C n c Tryd.underlying22 Tryd.underlying5
  have b1 : Below w.heap.size w w := Below.refl _ _
  have HT : Hid (Tabs w) := hT
  clear hT
  go_enter Tryd.func9, Tryd.ntmps9
  go_wp2_with fail
  refine (Number_ex _ _ _ (litRd w [52, 50, 57] _ _ rfl)).mono ?_; rintro e w1 ⟨rfl, hw⟩
  have b2 : Below w.heap.size w w1 := hw ▸ b1.alloc b1.size _
  clear hw b1
  go_wp2_with fail
  refine (Signed_ex _ _ _ (litRd w1 [120, 45, 55, 32] _ _ rfl)).mono ?_; rintro e w2 ⟨rfl, hw⟩
  have b3 : Below w.heap.size w w2 := hw ▸ b2.alloc b2.size _
  clear hw b2
  go_wp2_with fail
  refine (Ones_ex _ _ _ (litRd w2 [48, 49, 49, 50] _ _ rfl)).mono ?_; rintro e w3 ⟨rfl, hw⟩
  have b4 : Below w.heap.size w w3 := hw ▸ b3.alloc b3.size _
  clear hw b3
  go_wp2_with fail
  refine (Put_any 300 _ (by omega)).mono ?_; rintro e w4 ⟨v, rfl, hown, hb⟩
  have b5 : Below w.heap.size w w4 := b4.trans (hb.mono b4.size)
  rw [put300] at hown
  obtain ⟨A, c, hv, hrd, hc1, hc2, hc3⟩ := hown.form
  rw [hv]
  clear hv hown hb b4
  go_wp2_with fail
  refine (Take_ex A c _ _ hrd hc1 hc2).mono ?_; rintro e w5 ⟨rfl, hw⟩
  subst hw
  clear hrd hc1 hc2 hc3
  go_wp2_with fail
  refine (Name_ex _ _ _ (litRd w4 [97, 32, 98, 10] _ _ rfl) (HT.out.below (b5.alloc b5.size _))).mono ?_; rintro e w6 ⟨rfl, hb⟩
  have b6 : Below w.heap.size w w6 := (b5.alloc b5.size _).trans (hb.mono (by simp; have := b5.size; omega))
  clear hb b5
  go_wp2_with fail
  refine (Is_ex _ _ _ (litRd w6 [97, 97, 103, 32, 49] _ _ rfl)).mono ?_; rintro e w7 ⟨rfl, hw⟩
  have b7 : Below w.heap.size w w7 := hw ▸ b6.alloc b6.size _
  clear hw b6
  go_wp2_with fail
  refine (IsName_ex _ (HT.out.below b7)).mono ?_; rintro e w8 ⟨rfl, hb⟩
  have b8 : Below w.heap.size w w8 := b7.trans (hb.mono b7.size)
  clear hb b7
  go_wp2
  go_ret
  exact ⟨rfl, b8⟩
end Go.Proofs.YtfimacfpgcdekaaDoor
