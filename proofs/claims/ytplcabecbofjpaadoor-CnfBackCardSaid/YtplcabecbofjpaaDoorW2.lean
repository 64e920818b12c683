/-
  lex.Number, lex.Signed, lex.Ones, lex.Take over the translated program: what each returns at every slice of bytes, every place and every bound, as plain functions of the bytes behind the place. Nothing is assumed.
-/
import Derived.Test.YtplcabecbofjpaaDoorW1
set_option linter.unusedVariables false
namespace Go.Proofs.YtplcabecbofjpaaDoor
open Go.RowKit

/-- Number at the head of t: the number, how many bytes, the error. -/
def numB (t : List UInt8) : Bool := tw 57 t == 0 || t.getD 0 0 == 48 && decide (1 < tw 57 t)
def numV (t : List UInt8) : Int := vf 0 (t.take (tw 57 t))
def numberS (t : List UInt8) (most : Int) : Int × Nat × Int :=
  if numB t then (0, 0, 2) else if most < numV t ∨ 2147483647 < numV t then (0, 0, 3) else (numV t, tw 57 t, 0)

theorem tw_digits (last : UInt8) (l : List UInt8) (i : Nat) (h : i < tw last l) : 48 ≤ (l.getD i 0).toNat ∧ (l.getD i 0).toNat ≤ last.toNat := by
  induction l generalizing i with
  | nil => simp [tw] at h
  | cons c l ih =>
    unfold tw at h
    by_cases hc : (48 ≤ c && c ≤ last) = true
    · rw [List.takeWhile_cons_of_pos (p := fun c => 48 ≤ c && c ≤ last) hc] at h
      simp only [Bool.and_eq_true, decide_eq_true_eq, UInt8.le_iff_toNat_le] at hc
      have e : (48 : UInt8).toNat = 48 := rfl
      rcases i with _ | i
      · simp only [List.getD_cons_zero]; omega
      · rw [List.getD_cons_succ]
        exact ih i (by simp only [List.length_cons] at h; unfold tw; omega)
    · rw [List.takeWhile_cons_of_neg (p := fun c => 48 ≤ c && c ≤ last) hc] at h
      simp at h

theorem Rd.piece {w : World} {B : Nat} {A : Option Addr} {l : List UInt8} (h : Rd w B A l) {k c : Nat} (hc : l.length ≤ c) : Rd w B (cutA A c k) (l.drop k) := by
  have := h.cut (k := k) (m := l.length) hc
  rwa [List.take_of_length_le (by simp)] at this

set_option maxHeartbeats 400000 in
theorem Number_out (A : Option Addr) (n c : Nat) (k most : Int) (w : World) (hk : k < 0 ∨ (n : Int) < k) :
    Calls Tryd.prog 79 #[.slice A n c, .int .i64 k, .int .i64 most] w fun e w' => e = .returned (.tuple #[.int .i64 0, .int .i64 0, .int .i64 2]) ∧ w = w' := by
  have HK : Hid (k < 0 ∨ (n : Int) < k) := hk
  clear hk
  go_enter Tryd.func79, Tryd.ntmps79
  go_wp2_with (go_at_call 85; refine (isPlace_no _ _ _ _ _ HK.out).mono ?_; rintro e w' ⟨rfl, rfl⟩)
  go_ret3
  exact ⟨rfl, rfl⟩

set_option maxHeartbeats 800000 in
theorem Number_none (A : Option Addr) (c k : Nat) (most : Int) (l : List UInt8) (B : Nat) (w : World) (h : Rd w B A l) (hk : k ≤ l.length) (hn : l.length ≤ c) (hc : c ≤ maxLen) (hb : numB (l.drop k) = true) :
    Calls Tryd.prog 79 #[.slice A l.length c, .int .i64 k, .int .i64 most] w fun e w' => e = .returned (.tuple #[.int .i64 0, .int .i64 k, .int .i64 2]) ∧ w = w' := by
  unfold maxLen at hc
  have cR := behindRow_any A c k 57 l B w h hk (by unfold maxLen; omega)
  have htl := tw_le 57 (l.drop k)
  simp only [List.length_drop] at htl
  unfold numB at hb
  by_cases h0 : tw 57 (l.drop k) = 0
  · rw [h0] at cR
    have h1 : ((k : Int) == (k : Int)) = true := by simp
    clear hb h0 htl
    go_enter Tryd.func79, Tryd.ntmps79
    go_wp2_with (first | (go_at_call 85; refine (isPlace_yes _ _ _ _ _ (by omega) (by omega)).mono ?_; rintro e w' ⟨rfl, rfl⟩) | (go_at_call 98; refine cR.mono ?_; rintro e w' ⟨rfl, rfl⟩))
    go_ret3
    exact ⟨rfl, rfl⟩
  · have hb' : (l.drop k).getD 0 0 = 48 ∧ 1 < tw 57 (l.drop k) := by simpa [h0] using hb
    obtain ⟨h48, h1⟩ := hb'
    have hkl : k < l.length := by omega
    obtain ⟨ad, rfl, hblk, hcell⟩ := h k hkl
    have e48 : l.getD k 0 = 48 := by rw [← h48]; simp [List.getD_eq_getElem?_getD]
    rw [e48] at hcell
    have hcell' : w.cell? (ad.add k) = some (.int .u8 48) := hcell
    clear hcell
    obtain ⟨E, hE⟩ : ∃ E, k + tw 57 (l.drop k) = E := ⟨_, rfl⟩
    rw [hE] at cR
    have hne : ((E : Int) == (k : Int)) = false := beq_eq_false_iff_ne.2 (by omega)
    have hgt : (k : Int) + 1 < (E : Int) := by omega
    clear hb h0 htl h48 e48 h hE h1
    go_enter Tryd.func79, Tryd.ntmps79
    go_wp2_with (first | (go_at_call 85; refine (isPlace_yes _ _ _ _ _ (by omega) (by omega)).mono ?_; rintro e w' ⟨rfl, rfl⟩) | (go_at_call 98; refine cR.mono ?_; rintro e w' ⟨rfl, rfl⟩))
    go_ret3
    exact ⟨rfl, rfl⟩

theorem numV_rd {l : List UInt8} {k : Nat} : (l.drop k).take (tw 57 (l.drop k)) = (l.drop k).take (tw 57 (l.drop k)) := rfl
set_option maxHeartbeats 800000 in
theorem Number_some (A : Option Addr) (c k : Nat) (most : Int) (l : List UInt8) (B : Nat) (w : World) (h : Rd w B A l) (hk : k ≤ l.length) (hn : l.length ≤ c) (hc : c ≤ maxLen) (hb : numB (l.drop k) = false) :
    Calls Tryd.prog 79 #[.slice A l.length c, .int .i64 k, .int .i64 most] w fun e w' =>
      e = .returned (if most < numV (l.drop k) ∨ 2147483647 < numV (l.drop k) then .tuple #[.int .i64 0, .int .i64 k, .int .i64 3] else .tuple #[.int .i64 (numV (l.drop k)), .int .i64 ((k + tw 57 (l.drop k) : Nat) : Int), .int .i64 0]) ∧ w = w' := by
  unfold maxLen at hc
  have cR := behindRow_any A c k 57 l B w h hk (by unfold maxLen; omega)
  have htl := tw_le 57 (l.drop k)
  simp only [List.length_drop] at htl
  unfold numB at hb
  have h0 : tw 57 (l.drop k) ≠ 0 := by intro e; simp [e] at hb
  have hkl : k < l.length := by omega
  have cV := valueOf_any (cutA A c k) (c - k) ((l.drop k).take (tw 57 (l.drop k))) B w (h.cut hn) (by simp only [List.length_take, List.length_drop, maxLen]; omega) (fun i hi => by
    simp only [List.length_take, List.length_drop] at hi
    have := tw_digits 57 (l.drop k) i (by omega)
    have e : ((l.drop k).take (tw 57 (l.drop k))).getD i 0 = (l.drop k).getD i 0 := by
      simp only [List.getD_eq_getElem?_getD, List.getElem?_take]; rw [if_pos (by omega)]
    rw [e]; exact this)
  have hlen : ((l.drop k).take (tw 57 (l.drop k))).length = tw 57 (l.drop k) := by simp only [List.length_take, List.length_drop]; omega
  rw [hlen] at cV
  obtain ⟨V, hV⟩ : ∃ V, numV (l.drop k) = V := ⟨_, rfl⟩
  have hV' : vf 0 ((l.drop k).take (tw 57 (l.drop k))) = V := hV
  rw [hV'] at cV
  rw [hV]
  obtain ⟨E, hE⟩ : ∃ E, k + tw 57 (l.drop k) = E := ⟨_, rfl⟩
  rw [hE] at cR ⊢
  have hsl := fun wx => slice_lh A l.length c k (tw 57 (l.drop k)) E (by omega) (by omega) wx
  have hne : ((E : Int) == (k : Int)) = false := beq_eq_false_iff_ne.2 (by omega)
  obtain ⟨ad, hA, hblk, hcell⟩ := h k hkl
  subst hA
  have hbool : (((l.getD k 0).toNat : Int) == 48) = true → decide ((k : Int) + 1 < (E : Int)) = false := by
    intro e
    have e' : (l.drop k).getD 0 0 = 48 := by
      have : (l.getD k 0) = 48 := UInt8.toNat_inj.1 (by have := beq_iff_eq.1 e; show _ = 48; omega)
      rw [← this]; simp [List.getD_eq_getElem?_getD]
    rw [e'] at hb
    have : ¬ 1 < tw 57 (l.drop k) := by intro hh; simp [hh] at hb
    exact decide_eq_false (by omega)
  generalize l.getD k 0 = v at *
  generalize cutA (some ad) c k = A' at *
  generalize c - k = c' at *
  generalize tw 57 (l.drop k) = T at *
  clear hb hV hV' hlen h0 h htl hE
  have key : (((v.toNat : Int) == 48) = true ∧ decide ((k : Int) + 1 < (E : Int)) = false) ∨ ((v.toNat : Int) == 48) = false := by
    cases hb : ((v.toNat : Int) == 48) with
    | true => exact .inl ⟨rfl, hbool hb⟩
    | false => exact .inr rfl
  clear hbool
  have cases3 : (most < V ∧ (most < V ∨ 2147483647 < V)) ∨ (¬ most < V ∧ 2147483647 < V ∧ (most < V ∨ 2147483647 < V)) ∨ (¬ most < V ∧ ¬ 2147483647 < V ∧ ¬ (most < V ∨ 2147483647 < V)) := by omega
  rcases key with ⟨h48, hgt⟩ | h48 <;> rcases cases3 with ⟨hm, hc3⟩ | ⟨hm, hm2, hc3⟩ | ⟨hm, hm2, hc3⟩
  all_goals
    first | rw [if_pos hc3] | rw [if_neg hc3]
    clear hc3
    go_enter Tryd.func79, Tryd.ntmps79
    go_wp2_with (first | (go_at_call 85; refine (isPlace_yes _ _ _ _ _ (by omega) (by omega)).mono ?_; rintro e w' ⟨rfl, rfl⟩) | (go_at_call 98; refine cR.mono ?_; rintro e w' ⟨rfl, rfl⟩) | (go_at_call 99; refine cV.mono ?_; rintro e w' ⟨rfl, rfl⟩))
    go_ret3
    exact ⟨rfl, rfl⟩
/-- A call's three results, out of what stands at the head of what is left. -/
def res3 (k : Nat) (r : Int × Nat × Int) : Value := .tuple #[.int .i64 r.1, .int .i64 ((k + r.2.1 : Nat) : Int), .int .i64 r.2.2]
theorem Number_any (A : Option Addr) (c k : Nat) (most : Int) (l : List UInt8) (B : Nat) (w : World) (h : Rd w B A l) (hk : k ≤ l.length) (hn : l.length ≤ c) (hc : c ≤ maxLen) :
    Calls Tryd.prog 79 #[.slice A l.length c, .int .i64 k, .int .i64 most] w fun e w' => e = .returned (res3 k (numberS (l.drop k) most)) ∧ w = w' := by
  unfold numberS
  cases hb : numB (l.drop k) with
  | true => exact Number_none A c k most l B w h hk hn hc hb
  | false =>
    refine (Number_some A c k most l B w h hk hn hc hb).mono fun e w' ⟨he, hw⟩ => ⟨?_, hw⟩
    rw [he]
    by_cases h3 : most < numV (l.drop k) ∨ 2147483647 < numV (l.drop k)
    · rw [if_pos h3]; simp [h3, res3]
    · rw [if_neg h3]; simp [h3, res3]
theorem numberS_len (t : List UInt8) (most : Int) : (numberS t most).2.1 ≤ t.length := by
  unfold numberS
  split
  · simp
  · split
    · simp
    · exact tw_le 57 t
end Go.Proofs.YtplcabecbofjpaaDoor
