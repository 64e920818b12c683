/-
  Small functions of package lex over the translated program: what each call returns, for every slice of bytes, every place and every word. Nothing is assumed.
-/
import Derived.Test.YtplcabecbofjpaaDoorProg
import Derived.WalkKit
import Derived.WalkSpells
import Derived.WalkLawsBesides
import Derived.Laws.BytesArg
set_option linter.unusedVariables false
namespace Go.Proofs.YtplcabecbofjpaaDoor
open Go.RowKit
/-- The slice at A holds the bytes l, in a block below B. -/
def Rd (w : World) (B : Nat) (A : Option Addr) (l : List UInt8) : Prop :=
  ∀ i, i < l.length → ∃ ad, A = some ad ∧ ad.block < B ∧ w.cell? (ad.add i) = some (.int .u8 ((l.getD i 0).toNat : Int))

/-- How many bytes from place k on lie between 48 and last. -/
def tw (last : UInt8) (l : List UInt8) : Nat := (l.takeWhile (fun c => 48 ≤ c && c ≤ last)).length
theorem tw_le (last : UInt8) (l : List UInt8) : tw last l ≤ l.length := (List.takeWhile_sublist _).length_le
theorem tw_nil (last : UInt8) : tw last [] = 0 := rfl
theorem drop_at (l : List UInt8) (k : Nat) (h : k < l.length) : l.drop k = l.getD k 0 :: l.drop (k + 1) := by
  rw [List.drop_eq_getElem_cons h]; simp [List.getD, h]
theorem tw_yes (last : UInt8) (l : List UInt8) (k : Nat) (h : k < l.length) (h1 : (48 : Int) ≤ (l.getD k 0).toNat) (h2 : ((l.getD k 0).toNat : Int) ≤ last.toNat) : tw last (l.drop k) = tw last (l.drop (k + 1)) + 1 := by
  rw [drop_at l k h]
  unfold tw
  rw [List.takeWhile_cons_of_pos]
  · rfl
  · have a : (48 : UInt8) ≤ l.getD k 0 := by rw [UInt8.le_iff_toNat_le]; have : (48 : UInt8).toNat = 48 := rfl; omega
    have b : l.getD k 0 ≤ last := by rw [UInt8.le_iff_toNat_le]; omega
    simp only [a, b, decide_true, Bool.and_self]
theorem tw_no (last : UInt8) (l : List UInt8) (k : Nat) (h : k < l.length → ¬ ((48 : Int) ≤ (l.getD k 0).toNat ∧ ((l.getD k 0).toNat : Int) ≤ last.toNat)) : tw last (l.drop k) = 0 := by
  by_cases hk : k < l.length
  · have h := h hk
    rw [drop_at l k hk]
    unfold tw
    rw [List.takeWhile_cons_of_neg]
    · rfl
    · simp only [Bool.and_eq_true, decide_eq_true_eq, UInt8.le_iff_toNat_le]
      have : (48 : UInt8).toNat = 48 := rfl
      omega
  · rw [List.drop_of_length_le (by omega)]; rfl

set_option maxHeartbeats 400000 in
theorem isPlace_yes (A : Option Addr) (n c : Nat) (at_ : Int) (w : World) (h0 : 0 ≤ at_) (h1 : at_ ≤ n) :
    Calls Tryd.prog 85 #[.slice A n c, .int .i64 at_] w fun e w' => e = .returned (.bool true) ∧ w = w' := by
  go_enter Tryd.func85, Tryd.ntmps85
  go_wp2
  go_ret
  exact ⟨rfl, rfl⟩
set_option maxHeartbeats 400000 in
theorem isPlace_no (A : Option Addr) (n c : Nat) (at_ : Int) (w : World) (h : at_ < 0 ∨ (n : Int) < at_) :
    Calls Tryd.prog 85 #[.slice A n c, .int .i64 at_] w fun e w' => e = .returned (.bool false) ∧ w = w' := by
  by_cases h0 : 0 ≤ at_
  · have h2 : decide (at_ ≤ (n : Int)) = false := decide_eq_false (by omega)
    go_enter Tryd.func85, Tryd.ntmps85
    go_wp2
    go_ret
    exact ⟨rfl, rfl⟩
  · have h0' : at_ < 0 := by omega
    clear h
    go_enter Tryd.func85, Tryd.ntmps85
    go_wp2
    go_ret
    exact ⟨rfl, rfl⟩
set_option maxHeartbeats 400000 in
theorem behindRow_any (A : Option Addr) (c : Nat) (k : Nat) (last : UInt8) (l : List UInt8) (B : Nat) (w : World) (h : Rd w B A l) (hk : k ≤ l.length) (hn : l.length ≤ maxLen) :
    Calls Tryd.prog 98 #[.slice A l.length c, .int .i64 k, .int .u8 (last.toNat : Int)] w fun e w' => e = .returned (.int .i64 ((k + tw last (l.drop k) : Nat) : Int)) ∧ w = w' := by
  unfold maxLen at hn
  obtain ⟨T, hT⟩ : ∃ T, k + tw last (l.drop k) = T := ⟨_, rfl⟩
  rw [hT]
  go_enter Tryd.func98, Tryd.ntmps98
  have HT : Hid (k + tw last (l.drop k) = T) := hT
  clear hT
  go_wp2
  go_loop [1] (fun i => ∃ j : Nat, j ≤ l.length ∧ i = .int .i64 j ∧ Hid (j + tw last (l.drop j) = T)) (fun i => l.length - (intOf i).toNat)
  case atStart => exact ⟨k, hk, rfl, HT⟩
  case round =>
    obtain ⟨j, hj, rfl, HJ⟩ := hrel
    by_cases hlt : j < l.length
    · obtain ⟨ad, rfl, hb, hc⟩ := h j hlt
      by_cases h1 : (48 : Int) ≤ (l.getD j 0).toNat ∧ ((l.getD j 0).toNat : Int) ≤ last.toNat
      · obtain ⟨h1, h2⟩ := h1
        have HY : Hid (j + 1 + tw last (l.drop (j + 1)) = T) := by have e := HJ.out; rw [tw_yes last l j hlt h1 h2] at e; show _ = _; omega
        generalize l.getD j 0 = v at *
        clear HJ HT h
        go_wp2
        go_round
        case rel => exact ⟨j + 1, by omega, by go_num, HY⟩
        case measure => simp [intOf]; omega
      · have HZ : Hid (j = T) := by have e := HJ.out; rw [tw_no last l j (fun _ => h1)] at e; exact e
        by_cases h3 : (48 : Int) ≤ (l.getD j 0).toNat
        · have h4 : decide ((l.getD j 0).toNat ≤ last.toNat) = false := decide_eq_false (by omega)
          generalize l.getD j 0 = v at *
          clear HJ HT h h1
          go_wp2
          go_ret
          exact ⟨by rw [HZ.out]; rfl, rfl⟩
        · have h4 : decide ((48 : Int) ≤ (l.getD j 0).toNat) = false := decide_eq_false (by omega)
          generalize l.getD j 0 = v at *
          clear HJ HT h h1
          go_wp2
          go_ret
          exact ⟨by rw [HZ.out]; rfl, rfl⟩
    · have HZ : Hid (j = T) := by have e := HJ.out; rw [tw_no last l j (fun h => absurd h hlt)] at e; exact e
      clear HJ HT h
      go_wp2
      go_ret
      exact ⟨by rw [HZ.out]; rfl, rfl⟩
/-- What figures tell, up to the first sum above MaxNum. -/
def vf : Int → List UInt8 → Int
  | n, [] => n
  | n, c :: t => if 2147483647 < n * 10 + ((c.toNat : Int) - 48) then n * 10 + ((c.toNat : Int) - 48) else vf (n * 10 + ((c.toNat : Int) - 48)) t

set_option maxHeartbeats 400000 in
theorem valueOf_any (A : Option Addr) (c : Nat) (l : List UInt8) (B : Nat) (w : World) (h : Rd w B A l) (hn : l.length ≤ maxLen)
    (hd : ∀ i, i < l.length → 48 ≤ (l.getD i 0).toNat ∧ (l.getD i 0).toNat ≤ 57) :
    Calls Tryd.prog 99 #[.slice A l.length c] w fun e w' => e = .returned (.int .i64 (vf 0 l)) ∧ w = w' := by
  unfold maxLen at hn
  obtain ⟨T, hT⟩ : ∃ T, vf 0 l = T := ⟨_, rfl⟩
  rw [hT]
  have HT : Hid (vf 0 l = T) := hT
  clear hT
  have HD : Hid (∀ i, i < l.length → 48 ≤ (l.getD i 0).toNat ∧ (l.getD i 0).toNat ≤ 57) := hd
  clear hd
  go_enter Tryd.func99, Tryd.ntmps99
  go_wp2
  go_loop [3, 8] (fun n i => ∃ (j : Nat) (m : Int), j ≤ l.length ∧ 0 ≤ m ∧ m ≤ 2147483647 ∧ i = .int .i64 j ∧ n = .int .i64 m ∧ Hid (vf m (l.drop j) = T)) (fun _ i => l.length - (intOf i).toNat)
  case atStart => exact ⟨0, 0, Nat.zero_le _, by omega, by omega, rfl, rfl, HT⟩
  case round =>
    obtain ⟨j, m, hj, hm0, hm1, rfl, rfl, HJ⟩ := hrel
    by_cases hlt : j < l.length
    · obtain ⟨ad, rfl, hb, hc⟩ := h j hlt
      obtain ⟨d1, d2⟩ := HD.out j hlt
      have e := HJ.out
      rw [drop_at l j hlt, vf] at e
      have d3 : (48 : Int) ≤ (l.getD j 0).toNat := by omega
      have d4 : ((l.getD j 0).toNat : Int) ≤ 57 := by omega
      generalize l.getD j 0 = v at *
      by_cases hbig : 2147483647 < m * 10 + ((v.toNat : Int) - 48)
      · rw [if_pos hbig] at e
        have HE : Hid (m * 10 + ((v.toNat : Int) - 48) = T) := e
        clear e HJ HT HD h
        go_wp2
        go_ret
        exact ⟨by rw [← HE.out]; rfl, rfl⟩
      · rw [if_neg hbig] at e
        have HE : Hid (vf (m * 10 + ((v.toNat : Int) - 48)) (l.drop (j + 1)) = T) := e
        clear e HJ HT HD h
        go_wp2
        go_round
        case rel => exact ⟨j + 1, m * 10 + ((v.toNat : Int) - 48), by omega, by omega, by omega, by go_num, by go_num, HE⟩
        case measure => simp [intOf]; omega
    · have e := HJ.out
      rw [List.drop_of_length_le (by omega), vf] at e
      have HE : Hid (m = T) := e
      clear e HJ HT HD h
      go_wp2
      go_ret
      exact ⟨by rw [HE.out]; rfl, rfl⟩
/-- Where a piece from k on begins. -/
def cutA (A : Option Addr) (c k : Nat) : Option Addr := if c = k then A else A.map (·.add k)
theorem block_add (a : Addr) (n : Nat) : (a.add n).block = a.block := by unfold Addr.add; split <;> rfl
theorem add_add_ (a : Addr) (i j : Nat) : (a.add i).add j = a.add (i + j) := by
  unfold Addr.add
  by_cases hi : i = 0 <;> by_cases hj : j = 0 <;> simp [hi, hj, Nat.add_assoc]
theorem Rd.cut {w : World} {B : Nat} {A : Option Addr} {l : List UInt8} (h : Rd w B A l) {k c m : Nat} (hc : l.length ≤ c) : Rd w B (cutA A c k) ((l.drop k).take m) := by
  intro i hi
  simp only [List.length_take, List.length_drop] at hi
  obtain ⟨ad, rfl, hb, hcell⟩ := h (k + i) (by omega)
  refine ⟨ad.add k, by simp [cutA]; omega, by rw [block_add]; exact hb, ?_⟩
  rw [add_add_, hcell]
  have e : ((l.drop k).take m).getD i 0 = l.getD (k + i) 0 := by
    simp only [List.getD_eq_getElem?_getD, List.getElem?_take, List.getElem?_drop]
    rw [if_pos (by omega)]
  rw [e]
theorem Rd.below {w w' : World} {B : Nat} {A : Option Addr} {l : List UInt8} (h : Rd w B A l) (hb : Below B w w') : Rd w' B A l := by
  intro i hi
  obtain ⟨ad, e, hlt, hc⟩ := h i hi
  exact ⟨ad, e, hlt, (hb.cell (by rw [block_add]; exact hlt)).trans hc⟩
theorem Rd.mono {w : World} {B B' : Nat} {A : Option Addr} {l : List UInt8} (h : Rd w B A l) (hB : B ≤ B') : Rd w B' A l := by
  intro i hi
  obtain ⟨ad, e, hlt, hc⟩ := h i hi
  exact ⟨ad, e, by omega, hc⟩
theorem Rd.nil (w : World) (B : Nat) (A : Option Addr) : Rd w B A [] := fun i hi => absurd hi (by simp)
theorem size5 : (Tryd.prog.info? 5).map (·.size) = some 1 := by kernel_rfl
theorem run_size5 (w : World) : (sizeOf (Tryd.prog.elem 25)).run Tryd.prog w = .ok 1 w := by
  have e : Tryd.prog.elem 25 = 5 := by kernel_rfl
  rw [e]
  have h := size5
  obtain ⟨i, hi, hs⟩ := Option.map_eq_some_iff.1 h
  simp [sizeOf, typeInfo, hi, hs]
theorem u22 : Tryd.prog.underlying 25 = some (.slice (Tryd.prog.elem 25)) := by kernel_rfl
theorem slice_lh (A : Option Addr) (n c k m : Nat) (hi : Int) (h0 : hi = (k : Int) + m) (h1 : k + m ≤ c) (w : World) :
    (Instr.slice 25 (.slice A n c) (some (.int .i64 k)) (some (.int .i64 hi)) none).run Tryd.prog w = .ok (.slice (cutA A c k) m (c - k)) w := by
  subst h0
  rw [run_slice_lh w 25 A n c u22 .i64 .i64 k (k + m) (by omega) (by omega) (by omega), run_size5]
  have e1 : ((k : Int) + m).toNat = k + m := by omega
  simp [Result.andThen, sliced, cutA, e1]
theorem slice_l (A : Option Addr) (n c k : Nat) (h0 : k ≤ n) (w : World) :
    (Instr.slice 25 (.slice A n c) (some (.int .i64 k)) none none).run Tryd.prog w = .ok (.slice (cutA A c k) (n - k) (c - k)) w := by
  rw [run_slice_l w 25 A n c u22 .i64 k (by omega) (by omega), run_size5]
  simp [Result.andThen, sliced, cutA]
theorem slice_h (A : Option Addr) (n c k : Nat) (h0 : k ≤ c) (w : World) :
    (Instr.slice 25 (.slice A n c) none (some (.int .i64 k)) none).run Tryd.prog w = .ok (.slice (cutA A c 0) k c) w := by
  rw [run_slice_h w 25 A n c u22 .i64 k (by omega) (by omega), run_size5]
  simp [Result.andThen, sliced, cutA]
theorem conv_str (A : Option Addr) (n c : Nat) (l : List UInt8) (B : Nat) (w : World) (h : Rd w B A l) (hn : n = l.length) :
    (convert 25 9 (.slice A n c)).run Tryd.prog w = .ok (.string ⟨l.toArray⟩) w := by
  subst hn
  have hu : Tryd.prog.underlying 5 = some (.int .u8) := Tryd.underlying5
  have h22 : Tryd.prog.underlying 25 = some (.slice 5) := Tryd.underlying25
  rw [run_convert_bytes_string w 25 9 5 A l.length c h22 hu Tryd.underlying9]
  rcases A with _ | a
  · have : l = [] := by
      rcases l with _ | ⟨x, l⟩
      · rfl
      · obtain ⟨ad, e, _⟩ := h 0 (by simp); cases e
    subst this
    simp [Conv.bytesToString]
    rfl
  · have hl : (loadCells a l.length).run Tryd.prog w = .ok ((l.map fun b => (b.toNat : Int)).map (Value.int .u8)).toArray w := by
      have := run_loadCells_list (P := Tryd.prog) w a ((l.map fun b => (b.toNat : Int)).map (Value.int .u8)) (fun j v hj => by
        simp only [List.map_map, List.getElem?_map, Option.map_eq_some_iff] at hj
        obtain ⟨b, hb, rfl⟩ := hj
        obtain ⟨hjl, hb'⟩ := List.getElem?_eq_some_iff.1 hb
        obtain ⟨ad, e, _, hc⟩ := h j hjl
        obtain rfl : a = ad := Option.some.inj e
        rw [hc]
        simp [List.getD_eq_getElem?_getD, hb])
      simpa using this
    rw [run_bytesToString w a l.length c _ hl, foldl_push_bytes]
    have e : (l.map fun b => (b.toNat : Int)).map (fun n => UInt8.ofNat n.toNat) = l := by
      rw [List.map_map]
      conv => rhs; rw [← List.map_id l]
      apply List.map_congr_left
      intro b _
      simp
    rw [e]
    simp [ByteArray.empty, ByteArray.emptyWithCapacity]
    rfl
/-- Does s stand at k? -/
def isB (l : List UInt8) (k : Nat) (s : ByteArray) : Bool := (l.drop k).take s.size == s.data.toList
theorem isB_len {l : List UInt8} {k : Nat} {s : ByteArray} (h : isB l k s = true) : s.size ≤ l.length - k := by
  have e := congrArg List.length (beq_iff_eq.1 h)
  simp only [List.length_take, List.length_drop, Array.length_toList] at e
  have : s.data.size = s.size := rfl
  omega
theorem toList_data (s : ByteArray) : s.toList = s.data.toList := ByteArray.toList_eq s
set_option maxHeartbeats 400000 in
theorem Is_yes (A : Option Addr) (c k : Nat) (l : List UInt8) (s : ByteArray) (B : Nat) (w : World) (h : Rd w B A l) (hk : k ≤ l.length) (hn : l.length ≤ c) (hc : c ≤ maxLen) (heq : isB l k s = true) :
    Calls Tryd.prog 71 #[.slice A l.length c, .int .i64 k, .string s] w fun e w' => e = .returned (.tuple #[.int .i64 ((k : Int) + s.size), .bool true]) ∧ w = w' := by
  unfold maxLen at hc
  have hss := isB_len heq
  have hss' : (s.size : Int) ≤ (l.length : Int) - k := by omega
  have hss2 : decide ((l.length : Int) - k < s.size) = false := decide_eq_false (by omega)
  have hsl := fun wx => slice_lh A l.length c k s.size (k + s.size) rfl (by omega) wx
  have hcv := conv_str (cutA A c k) s.size (c - k) ((l.drop k).take s.size) B w (h.cut hn) (by simp; omega)
  have HQ : ((l.drop k).take s.size == s.toList) = true := by rw [toList_data]; exact heq
  clear heq
  generalize (l.drop k).take s.size = t at *
  generalize cutA A c k = A' at *
  generalize c - k = c' at *
  go_enter Tryd.func71, Tryd.ntmps71
  go_wp2_with (go_at_call 85; refine (isPlace_yes _ _ _ _ _ (by omega) (by omega)).mono ?_; rintro e w' ⟨rfl, rfl⟩)
  go_ret2
  exact ⟨rfl, rfl⟩
set_option maxHeartbeats 400000 in
theorem Is_no (A : Option Addr) (c k : Nat) (l : List UInt8) (s : ByteArray) (B : Nat) (w : World) (h : Rd w B A l) (hk : k ≤ l.length) (hn : l.length ≤ c) (hc : c ≤ maxLen) (hs : s.size ≤ maxLen) (heq : isB l k s = false) :
    Calls Tryd.prog 71 #[.slice A l.length c, .int .i64 k, .string s] w fun e w' => e = .returned (.tuple #[.int .i64 k, .bool false]) ∧ w = w' := by
  unfold maxLen at hc hs
  by_cases hss : s.size ≤ l.length - k
  · have hss' : (s.size : Int) ≤ (l.length : Int) - k := by omega
    have hss2 : decide ((l.length : Int) - k < s.size) = false := decide_eq_false (by omega)
    have hsl := fun wx => slice_lh A l.length c k s.size (k + s.size) rfl (by omega) wx
    have hcv := conv_str (cutA A c k) s.size (c - k) ((l.drop k).take s.size) B w (h.cut hn) (by simp; omega)
    have HQ : ((l.drop k).take s.size == s.toList) = false := by rw [toList_data]; exact heq
    clear heq
    generalize (l.drop k).take s.size = t at *
    generalize cutA A c k = A' at *
    generalize c - k = c' at *
    go_enter Tryd.func71, Tryd.ntmps71
    go_wp2_with (go_at_call 85; refine (isPlace_yes _ _ _ _ _ (by omega) (by omega)).mono ?_; rintro e w' ⟨rfl, rfl⟩)
    go_ret2
    exact ⟨rfl, rfl⟩
  · have hss2 : decide ((l.length : Int) - k < s.size) = true := decide_eq_true (by omega)
    have hss' : (l.length : Int) - k < s.size := by omega
    clear heq
    go_enter Tryd.func71, Tryd.ntmps71
    go_wp2_with (go_at_call 85; refine (isPlace_yes _ _ _ _ _ (by omega) (by omega)).mono ?_; rintro e w' ⟨rfl, rfl⟩)
    go_ret2
    exact ⟨rfl, rfl⟩
set_option maxHeartbeats 400000 in
theorem Is_out (A : Option Addr) (n c : Nat) (k : Int) (s : ByteArray) (w : World) (hk : k < 0 ∨ (n : Int) < k) :
    Calls Tryd.prog 71 #[.slice A n c, .int .i64 k, .string s] w fun e w' => e = .returned (.tuple #[.int .i64 0, .bool false]) ∧ w = w' := by
  have HK : Hid (k < 0 ∨ (n : Int) < k) := hk
  clear hk
  go_enter Tryd.func71, Tryd.ntmps71
  go_wp2_with (go_at_call 85; refine (isPlace_no _ _ _ _ _ HK.out).mono ?_; rintro e w' ⟨rfl, rfl⟩)
  go_ret2
  exact ⟨rfl, rfl⟩
def isN (l : List UInt8) (k : Nat) (s : ByteArray) : Int := if isB l k s then (k : Int) + s.size else k
theorem Is_any (A : Option Addr) (c k : Nat) (l : List UInt8) (s : ByteArray) (B : Nat) (w : World) (h : Rd w B A l) (hk : k ≤ l.length) (hn : l.length ≤ c) (hc : c ≤ maxLen) (hs : s.size ≤ maxLen) :
    Calls Tryd.prog 71 #[.slice A l.length c, .int .i64 k, .string s] w fun e w' => e = .returned (.tuple #[.int .i64 (isN l k s), .bool (isB l k s)]) ∧ w = w' := by
  unfold isN
  cases hb : isB l k s with
  | true => simpa using Is_yes A c k l s B w h hk hn hc hb
  | false => simpa using Is_no A c k l s B w h hk hn hc hs hb
end Go.Proofs.YtplcabecbofjpaaDoor
