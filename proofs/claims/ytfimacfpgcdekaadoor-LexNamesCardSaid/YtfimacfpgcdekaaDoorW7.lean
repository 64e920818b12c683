/-
  lex.Name over the translated program: what it returns at every slice of at most 1048576 bytes and every place, as a plain function of the bytes behind the place.
-/
import Derived.Test.YtfimacfpgcdekaaDoorW6
set_option linter.unusedVariables false
namespace Go.Proofs.YtfimacfpgcdekaaDoor
open Go.RowKit

/-- How many bytes stand ahead of the first line's end. -/
def nlen (t : List UInt8) : Nat := (t.takeWhile (fun c => c != 10)).length
theorem nlen_le (t : List UInt8) : nlen t ≤ t.length := (List.takeWhile_sublist _).length_le
theorem index_nlen : ∀ t : List UInt8, Lib.indexByte t 10 = if nlen t = t.length then -1 else (nlen t : Int)
  | [] => rfl
  | c :: t => by
    have ih := index_nlen t
    unfold Lib.indexByte
    by_cases hc : c = 10
    · subst hc; simp [nlen]
    · have e : nlen (c :: t) = nlen t + 1 := by unfold nlen; rw [List.takeWhile_cons_of_pos (p := fun c => c != 10) (by simp [hc])]; rfl
      have hb : (c == 10) = false := by simp [hc]
      rw [e, ih, hb]
      have := nlen_le t
      by_cases h : nlen t = t.length
      · simp [h]
      · have h2 : ¬ nlen t + 1 = (c :: t).length := by simp only [List.length_cons]; omega
        have h3 : ((nlen t : Int) == -1) = false := by rw [beq_eq_false_iff_ne]; omega
        simp only [if_neg h, if_neg h2, h3]
        simp
theorem Index_any (A : Option Addr) (c : Nat) (l : List UInt8) (B : Nat) (w : World) (h : Rd w B A l) (hA : A = none → c = 0) :
    Calls Tryd.prog 25 #[.slice A l.length c, .int .u8 10] w fun e w' => e = .returned (.int .i64 (Lib.indexByte l 10)) ∧ w = w' := by
  rcases A with _ | a
  · have hc := hA rfl
    subst hc
    have hl : l = [] := by
      rcases l with _ | ⟨x, l⟩
      · rfl
      · obtain ⟨ad, e, _⟩ := h 0 (by simp); cases e
    subst hl
    exact (Any.bytes_IndexByte_nil Tryd.laysIdx 10 w).mono fun e w' ⟨he, hw⟩ => ⟨he, hw.symm⟩
  · have e2 : Lib.bytesOf (l.map fun b => (b.toNat : Int)) = l := by
      unfold Lib.bytesOf
      rw [List.map_map]
      conv => rhs; rw [← List.map_id l]
      apply List.map_congr_left
      intro b _
      simp
    have := Any.bytes_IndexByte_at Tryd.laysIdx a l.length c (l.map fun b => (b.toNat : Int)) 10 w (by simp) (fun i hi => by
      obtain ⟨ad, e, _, hc⟩ := h i hi
      injection e with e; subst e
      rw [hc]
      simp [List.getD_eq_getElem?_getD, List.getElem?_map, List.getElem?_eq_getElem hi])
    rw [e2] at this
    exact this.mono fun e w' ⟨he, hw⟩ => ⟨he, hw.symm⟩
theorem cutA_none {A : Option Addr} {c k : Nat} (hA : A = none → c = 0) : cutA A c k = none → c - k = 0 := by
  intro h
  unfold cutA at h
  split at h
  · omega
  · rcases A with _ | a
    · have := hA rfl; omega
    · cases h
def nameS (t : List UInt8) : List UInt8 × Nat × Int := if isNm (t.take (nlen t)) then (t.take (nlen t), nlen t, 0) else ([], 0, 2)

set_option maxHeartbeats 400000 in
theorem Name_out (A : Option Addr) (n c : Nat) (k : Int) (w : World) (hk : k < 0 ∨ (n : Int) < k) :
    Calls Tryd.prog 10 #[.slice A n c, .int .i64 k] w fun e w' => e = .returned (.tuple #[.string ⟨#[]⟩, .int .i64 0, .int .i64 2]) ∧ w = w' := by
  have HK : Hid (k < 0 ∨ (n : Int) < k) := hk
  clear hk
  go_enter Tryd.func10, Tryd.ntmps10
  go_wp2_with (go_at_call 24; refine (isPlace_no _ _ _ _ _ HK.out).mono ?_; rintro e w' ⟨rfl, rfl⟩)
  go_ret3
  exact ⟨rfl, rfl⟩
set_option maxRecDepth 100000 in
set_option maxHeartbeats 800000 in
theorem Name_any (A : Option Addr) (c k : Nat) (l : List UInt8) (B : Nat) (w : World) (h : Rd w B A l) (hk : k ≤ l.length) (hn : l.length ≤ c) (hc : c ≤ maxLen) (hA : A = none → c = 0) (hT : Tabs w) :
    Calls Tryd.prog 10 #[.slice A l.length c, .int .i64 k] w fun e w' => e = .returned (resS k (nameS (l.drop k))) ∧ Below w.heap.size w w' := by
  have hc' := hc
  unfold maxLen at hc'
  have cI := Index_any (cutA A c k) (c - k) (l.drop k) B w (h.piece hn) (cutA_none hA)
  rw [List.length_drop, index_nlen] at cI
  have hnl := nlen_le (l.drop k)
  simp only [List.length_drop] at hnl cI
  have hsl1 := fun wx => slice_l A l.length c k hk wx
  have hcv := conv_str (cutA A c k) (nlen (l.drop k)) (c - k) ((l.drop k).take (nlen (l.drop k))) B w (h.cut hn) (by simp only [List.length_take, List.length_drop]; omega)
  have cN := IsName_any ⟨((l.drop k).take (nlen (l.drop k))).toArray⟩ w (by show ((l.drop k).take (nlen (l.drop k))).toArray.size ≤ _; simp only [List.size_toArray, List.length_take, List.length_drop]; unfold maxLen; omega) hT
  simp only at cN
  unfold nameS
  by_cases hall : nlen (l.drop k) = l.length - k
  · rw [if_pos hall] at cI
    have hsl2 := fun wx => slice_lh A l.length c k (nlen (l.drop k)) (l.length : Int) (by omega) (by omega) wx
    have HL : Hid (k + nlen (l.drop k) = l.length) := by show _ = _; omega
    generalize (l.drop k).take (nlen (l.drop k)) = t at *
    generalize nlen (l.drop k) = N at *
    generalize cutA A c k = A' at *
    generalize c - k = c' at *
    cases hnm : isNm t with
    | true =>
      rw [hnm] at cN
      simp only [if_true]
      unfold resS
      simp only
      rw [HL.out]
      clear hnm hT h hall HL
      go_enter Tryd.func10, Tryd.ntmps10
      go_wp2_with (first | (go_at_call 24; refine (isPlace_yes _ _ _ _ _ (by omega) (by omega)).mono ?_; rintro e w' ⟨rfl, rfl⟩) | (go_at_call 25; refine cI.mono ?_; rintro e w' ⟨rfl, rfl⟩) | (go_at_call 14; refine cN.mono ?_; rintro e w' ⟨rfl, hb⟩))
      go_ret3
      exact ⟨rfl, hb⟩
    | false =>
      rw [hnm] at cN
      clear hnm hT h hall HL
      go_enter Tryd.func10, Tryd.ntmps10
      go_wp2_with (first | (go_at_call 24; refine (isPlace_yes _ _ _ _ _ (by omega) (by omega)).mono ?_; rintro e w' ⟨rfl, rfl⟩) | (go_at_call 25; refine cI.mono ?_; rintro e w' ⟨rfl, rfl⟩) | (go_at_call 14; refine cN.mono ?_; rintro e w' ⟨rfl, hb⟩))
      go_ret3
      exact ⟨rfl, hb⟩
  · rw [if_neg hall] at cI
    have hsl2 := fun wx => slice_lh A l.length c k (nlen (l.drop k)) ((k : Int) + nlen (l.drop k)) rfl (by omega) wx
    have hcast : ((k + nlen (l.drop k) : Nat) : Int) = (k : Int) + nlen (l.drop k) := by omega
    generalize (l.drop k).take (nlen (l.drop k)) = t at *
    generalize nlen (l.drop k) = N at *
    generalize cutA A c k = A' at *
    generalize c - k = c' at *
    cases hnm : isNm t with
    | true =>
      rw [hnm] at cN
      simp only [if_true]
      unfold resS
      simp only
      rw [hcast]
      clear hnm hT h hall hcast
      go_enter Tryd.func10, Tryd.ntmps10
      go_wp2_with (first | (go_at_call 24; refine (isPlace_yes _ _ _ _ _ (by omega) (by omega)).mono ?_; rintro e w' ⟨rfl, rfl⟩) | (go_at_call 25; refine cI.mono ?_; rintro e w' ⟨rfl, rfl⟩) | (go_at_call 14; refine cN.mono ?_; rintro e w' ⟨rfl, hb⟩))
      go_ret3
      exact ⟨rfl, hb⟩
    | false =>
      rw [hnm] at cN
      clear hnm hT h hall hcast
      go_enter Tryd.func10, Tryd.ntmps10
      go_wp2_with (first | (go_at_call 24; refine (isPlace_yes _ _ _ _ _ (by omega) (by omega)).mono ?_; rintro e w' ⟨rfl, rfl⟩) | (go_at_call 25; refine cI.mono ?_; rintro e w' ⟨rfl, rfl⟩) | (go_at_call 14; refine cN.mono ?_; rintro e w' ⟨rfl, hb⟩))
      go_ret3
      exact ⟨rfl, hb⟩
end Go.Proofs.YtfimacfpgcdekaaDoor
