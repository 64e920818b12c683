/-
  Close, and Refutes.
-/
import Derived.Test.YtlebagdildpkmaaProg
import Derived.WalkKit
import Derived.WalkSpells
import Derived.WalkLawsBesides
import Derived.Lib.Hide
import Derived.BigQuiet
import Derived.Deep.QuietTactic
import Derived.Deep.RegionWith
import Derived.Deep.RegionHeld3
import Derived.Test.YtlebagdildpkmaaB4
import Derived.Test.YtlebagdildpkmaaA9
set_option linter.unusedVariables false
namespace Go.Proofs.Ytlebagdildpkmaa
open Go.RowKit
/-- Do they clash? -/
noncomputable def clashB (L : List (List Int)) (A : List Int) : Bool := @decide (Clash L A) (Classical.propDecidable _)
theorem clashB_iff (L : List (List Int)) (A : List Int) : clashB L A = true ↔ Clash L A := by unfold clashB; exact @decide_eq_true_iff _ (Classical.propDecidable _)
/-- What is forced, sorted; nothing where they clash. -/
noncomputable def closeL (L : List (List Int)) (A : List Int) : List Int :=
  if clashB L A then [] else sortF ((A ++ L.flatten).filter (fun z => @decide (Forced L A z) (Classical.propDecidable _)))
theorem closeL_clash {L : List (List Int)} {A : List Int} (h : clashB L A = true) : closeL L A = [] := by unfold closeL; rw [if_pos h]
theorem closeL_mem {L : List (List Int)} {A : List Int} (h : clashB L A = false) (z : Int) : z ∈ closeL L A ↔ Forced L A z := by
  unfold closeL
  rw [if_neg (by simp [h]), sortF_mem, List.mem_filter, @decide_eq_true_iff _ (Classical.propDecidable _)]
  refine ⟨fun h => h.2, fun h => ⟨?_, h⟩⟩
  cases h with
  | given _ h => simp [h]
  | unit c _ hc hz _ => exact List.mem_append.2 (.inr (List.mem_flatten.2 ⟨c, hc, hz⟩))
theorem closeL_lt (L : List (List Int)) (A : List Int) : (closeL L A).Pairwise ltP := by
  unfold closeL; split
  · simp
  · exact sortF_lt _
theorem Closed.no {L : List (List Int)} {A F : List Int} (h : Closed L A F) : clashB L A = false := by
  rw [Bool.eq_false_iff]; intro hc; exact h.clash ((clashB_iff L A).1 hc)
theorem Closed.eq {L : List (List Int)} {A F : List Int} (h : Closed L A F) : closeL L A = sortF F :=
  sorted_uniq _ _ (closeL_lt L A) (sortF_lt F) (fun z => by rw [closeL_mem h.no, sortF_mem, h.mem])
/-- A call that tells a row of numbers of its own, and a flag. -/
def RetIB (w0 : World) (l : List Int) (b : Bool) (e : Ending) (w' : World) : Prop := ∃ v, e = .returned (.tuple #[v, .bool b]) ∧ OwnI w' w0.heap.size v l ∧ Below w0.heap.size w0 w'
/-- What may be asked about. -/
structure May (L : List (List Int)) (A : List Int) : Prop where
  lits : ∀ c ∈ L, Lits c
  alit : Lits A
  tot : tot L ≤ 10000000
  len : L.length ≤ 1000000
  lens : ∀ c ∈ L, c.length ≤ 1000000
  alen : A.length ≤ 1000000
theorem closed_len {L : List (List Int)} {A F : List Int} (h : Closed L A F) (hm : May L A) (hn : F.Nodup) : F.length ≤ 200001 :=
  nodup_le 200001 F (-100000) hn (fun z hz => by have := (h.sound z hz).lit hm.lits hm.alit; omega)
set_option maxHeartbeats 2000000 in
theorem Close_any (LA AA : Option Addr) (c c' : Nat) (n : Int) (L : List (List Int)) (A : List Int) (w : World) (hL : RCk w w.heap.size LA L) (hR : RI w w.heap.size AA A) (hm : May L A) :
    Calls Try.prog 12 #[.int .i64 n, .slice LA L.length c, .slice AA A.length c'] w (RetIB w (closeL L A) (clashB L A)) := by
  have C := closeUp_any LA AA c c' L A w hL hR hm.lits hm.alit hm.tot hm.len hm.lens hm.alen
  have HM := Lib.hid hm
  clear hL hR hm
  go_enter Try.func12, Try.ntmps12
  go_wp2_with fail
  refine C.mono ?_
  clear C
  rintro e w1 hq
  rcases hq with ⟨rfl, hcl, hb1⟩ | ⟨vF, F, rfl, hown, hcl, hnd, hb1⟩
  · have hb := (clashB_iff L A).2 hcl
    have HCL := Lib.hid (closeL_clash hb)
    have HCB := Lib.hid hb
    have C2 := sort_any none 0 [] w1 (RI.nil _ _ _) (by simp)
    have HB := Lib.hid hb1
    have hsz := hb1.size
    clear hcl hb1 hb
    go_wp2_with fail
    refine C2.mono ?_; rintro e w2 ⟨v, rfl, ho2, hb2⟩
    rw [sortF_nil] at ho2
    have HO := Lib.hid (ho2.base hsz)
    have HB2 := Lib.hid (bnx HB.out hb2)
    clear C2 ho2 hb2
    go_wp2
    go_ret2
    exact ⟨_, by rw [HCB.out]; rfl, by rw [HCL.out]; exact HO.out, HB2.out⟩
  · have HCL := Lib.hid hcl.eq
    have HCB := Lib.hid hcl.no
    obtain ⟨A1, c1, rfl, hri, _⟩ := hown.val
    have C2 := sort_any A1 c1 F w1 hri (by have := closed_len hcl HM.out hnd; omega)
    have HB := Lib.hid hb1
    have hsz := hb1.size
    clear hcl hb1 hown hri hnd
    go_wp2_with fail
    refine C2.mono ?_; rintro e w2 ⟨v, rfl, ho2, hb2⟩
    have HO := Lib.hid (ho2.base hsz)
    have HB2 := Lib.hid (bnx HB.out hb2)
    clear C2 ho2 hb2
    go_wp2
    go_ret2
    exact ⟨_, by rw [HCB.out]; rfl, by rw [HCL.out]; exact HO.out, HB2.out⟩
end Go.Proofs.Ytlebagdildpkmaa
