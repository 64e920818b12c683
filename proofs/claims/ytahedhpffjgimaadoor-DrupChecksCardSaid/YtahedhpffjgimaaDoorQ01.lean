/-
  Small functions of package lex over the translated program: what each call returns, for every slice of bytes, every place and every word. Nothing is assumed.
  lex.Number, lex.Signed, lex.Ones, lex.Take over the translated program: what each returns at every slice of bytes, every place and every bound, as plain functions of the bytes behind the place. Nothing is assumed.
  lex.Signed over the translated program: what it returns at every slice of bytes, every place and every bound, as a plain function of the bytes behind the place. Nothing is assumed.
-/
import Derived.Test.YtahedhpffjgimaaDoorProg
import Derived.WalkKit
import Derived.WalkSpells
import Derived.WalkLawsBesides
import Derived.Laws.BytesArg
set_option linter.unusedVariables false
/- Small functions of package lex over the translated program: what each call returns, for every slice of bytes, every place and every word. Nothing is assumed. -/
namespace Go.Proofs.YtahedhpffjgimaaDoor
open Go.RowKit
/-- The slice at A holds the bytes l, in a block below B. -/
def Rd (w : World) (B : Nat) (A : Option Addr) (l : List UInt8) : Prop :=
  ∀ i, i < l.length → ∃ ad, A = some ad ∧ ad.block < B ∧ w.cell? (ad.add i) = some (.int .u8 ((l.getD i 0).toNat : Int))

/-- How many bytes from place k on lie between 48 and last. -/
def tw (last : UInt8) (l : List UInt8) : Nat := (l.takeWhile (fun c => 48 ≤ c && c ≤ last)).length
theorem tw_le (last : UInt8) (l : List UInt8) : tw last l ≤ l.length := (List.takeWhile_sublist _).length_le
theorem tw_nil (last : UInt8) : tw last [] = 0 := rfl
theorem drop_at (l : List UInt8) (k : Nat) (h : k < l.length) : l.drop k = l.getD k 0 :: l.drop (k + 1) := by
  rw [List.drop_eq_getElem_cons h]; simp [List.getD, h]
theorem tw_yes (last : UInt8) (l : List UInt8) (k : Nat) (h : k < l.length) (h1 : (48 : Int) ≤ (l.getD k 0).toNat) (h2 : ((l.getD k 0).toNat : Int) ≤ last.toNat) : tw last (l.drop k) = tw last (l.drop (k + 1)) + 1 := by
  rw [drop_at l k h]
  unfold tw
  rw [List.takeWhile_cons_of_pos]
  · rfl
  · have a : (48 : UInt8) ≤ l.getD k 0 := by rw [UInt8.le_iff_toNat_le]; have : (48 : UInt8).toNat = 48 := rfl; omega
    have b : l.getD k 0 ≤ last := by rw [UInt8.le_iff_toNat_le]; omega
    simp only [a, b, decide_true, Bool.and_self]
theorem tw_no (last : UInt8) (l : List UInt8) (k : Nat) (h : k < l.length → ¬ ((48 : Int) ≤ (l.getD k 0).toNat ∧ ((l.getD k 0).toNat : Int) ≤ last.toNat)) : tw last (l.drop k) = 0 := by
  by_cases hk : k < l.length
  · have h := h hk
    rw [drop_at l k hk]
    unfold tw
    rw [List.takeWhile_cons_of_neg]
    · rfl
    · simp only [Bool.and_eq_true, decide_eq_true_eq, UInt8.le_iff_toNat_le]
      have : (48 : UInt8).toNat = 48 := rfl
      omega
  · rw [List.drop_of_length_le (by omega)]; rfl

set_option maxHeartbeats 400000 in
theorem isPlace_yes (A : Option Addr) (n c : Nat) (at_ : Int) (w : World) (h0 : 0 ≤ at_) (h1 : at_ ≤ n) :
    Calls Tryd.prog 66 #[.slice A n c, .int .i64 at_] w fun e w' => e = .returned (.bool true) ∧ w = w' := by
  go_enter Tryd.func66, Tryd.ntmps66
  go_wp2
  go_ret
  exact ⟨rfl, rfl⟩
set_option maxHeartbeats 400000 in
theorem isPlace_no (A : Option Addr) (n c : Nat) (at_ : Int) (w : World) (h : at_ < 0 ∨ (n : Int) < at_) :
    Calls Tryd.prog 66 #[.slice A n c, .int .i64 at_] w fun e w' => e = .returned (.bool false) ∧ w = w' := by
  by_cases h0 : 0 ≤ at_
  · have h2 : decide (at_ ≤ (n : Int)) = false := decide_eq_false (by omega)
    go_enter Tryd.func66, Tryd.ntmps66
    go_wp2
    go_ret
    exact ⟨rfl, rfl⟩
  · have h0' : at_ < 0 := by omega
    clear h
    go_enter Tryd.func66, Tryd.ntmps66
    go_wp2
    go_ret
    exact ⟨rfl, rfl⟩
set_option maxHeartbeats 400000 in
theorem behindRow_any (A : Option Addr) (c : Nat) (k : Nat) (last : UInt8) (l : List UInt8) (B : Nat) (w : World) (h : Rd w B A l) (hk : k ≤ l.length) (hn : l.length ≤ maxLen) :
    Calls Tryd.prog 92 #[.slice A l.length c, .int .i64 k, .int .u8 (last.toNat : Int)] w fun e w' => e = .returned (.int .i64 ((k + tw last (l.drop k) : Nat) : Int)) ∧ w = w' := by
  unfold maxLen at hn
  obtain ⟨T, hT⟩ : ∃ T, k + tw last (l.drop k) = T := ⟨_, rfl⟩
  rw [hT]
  go_enter Tryd.func92, Tryd.ntmps92
  have HT : Hid (k + tw last (l.drop k) = T) := hT
  clear hT
  go_wp2
  go_loop [1] (fun i => ∃ j : Nat, j ≤ l.length ∧ i = .int .i64 j ∧ Hid (j + tw last (l.drop j) = T)) (fun i => l.length - (intOf i).toNat)
  case atStart => exact ⟨k, hk, rfl, HT⟩
  case round =>
    obtain ⟨j, hj, rfl, HJ⟩ := hrel
    by_cases hlt : j < l.length
    · obtain ⟨ad, rfl, hb, hc⟩ := h j hlt
      by_cases h1 : (48 : Int) ≤ (l.getD j 0).toNat ∧ ((l.getD j 0).toNat : Int) ≤ last.toNat
      · obtain ⟨h1, h2⟩ := h1
        have HY : Hid (j + 1 + tw last (l.drop (j + 1)) = T) := by have e := HJ.out; rw [tw_yes last l j hlt h1 h2] at e; show _ = _; omega
        generalize l.getD j 0 = v at *
        clear HJ HT h
        go_wp2
        go_round
        case rel => exact ⟨j + 1, by omega, by go_num, HY⟩
        case measure => simp [intOf]; omega
      · have HZ : Hid (j = T) := by have e := HJ.out; rw [tw_no last l j (fun _ => h1)] at e; exact e
        by_cases h3 : (48 : Int) ≤ (l.getD j 0).toNat
        · have h4 : decide ((l.getD j 0).toNat ≤ last.toNat) = false := decide_eq_false (by omega)
          generalize l.getD j 0 = v at *
          clear HJ HT h h1
          go_wp2
          go_ret
          exact ⟨by rw [HZ.out]; rfl, rfl⟩
        · have h4 : decide ((48 : Int) ≤ (l.getD j 0).toNat) = false := decide_eq_false (by omega)
          generalize l.getD j 0 = v at *
          clear HJ HT h h1
          go_wp2
          go_ret
          exact ⟨by rw [HZ.out]; rfl, rfl⟩
    · have HZ : Hid (j = T) := by have e := HJ.out; rw [tw_no last l j (fun h => absurd h hlt)] at e; exact e
      clear HJ HT h
      go_wp2
      go_ret
      exact ⟨by rw [HZ.out]; rfl, rfl⟩
/-- What figures tell, up to the first sum above MaxNum. -/
def vf : Int → List UInt8 → Int
  | n, [] => n
  | n, c :: t => if 2147483647 < n * 10 + ((c.toNat : Int) - 48) then n * 10 + ((c.toNat : Int) - 48) else vf (n * 10 + ((c.toNat : Int) - 48)) t

set_option maxHeartbeats 400000 in
theorem valueOf_any (A : Option Addr) (c : Nat) (l : List UInt8) (B : Nat) (w : World) (h : Rd w B A l) (hn : l.length ≤ maxLen)
    (hd : ∀ i, i < l.length → 48 ≤ (l.getD i 0).toNat ∧ (l.getD i 0).toNat ≤ 57) :
    Calls Tryd.prog 93 #[.slice A l.length c] w fun e w' => e = .returned (.int .i64 (vf 0 l)) ∧ w = w' := by
  unfold maxLen at hn
  obtain ⟨T, hT⟩ : ∃ T, vf 0 l = T := ⟨_, rfl⟩
  rw [hT]
  have HT : Hid (vf 0 l = T) := hT
  clear hT
  have HD : Hid (∀ i, i < l.length → 48 ≤ (l.getD i 0).toNat ∧ (l.getD i 0).toNat ≤ 57) := hd
  clear hd
  go_enter Tryd.func93, Tryd.ntmps93
  go_wp2
  go_loop [3, 8] (fun n i => ∃ (j : Nat) (m : Int), j ≤ l.length ∧ 0 ≤ m ∧ m ≤ 2147483647 ∧ i = .int .i64 j ∧ n = .int .i64 m ∧ Hid (vf m (l.drop j) = T)) (fun _ i => l.length - (intOf i).toNat)
  case atStart => exact ⟨0, 0, Nat.zero_le _, by omega, by omega, rfl, rfl, HT⟩
  case round =>
    obtain ⟨j, m, hj, hm0, hm1, rfl, rfl, HJ⟩ := hrel
    by_cases hlt : j < l.length
    · obtain ⟨ad, rfl, hb, hc⟩ := h j hlt
      obtain ⟨d1, d2⟩ := HD.out j hlt
      have e := HJ.out
      rw [drop_at l j hlt, vf] at e
      have d3 : (48 : Int) ≤ (l.getD j 0).toNat := by omega
      have d4 : ((l.getD j 0).toNat : Int) ≤ 57 := by omega
      generalize l.getD j 0 = v at *
      by_cases hbig : 2147483647 < m * 10 + ((v.toNat : Int) - 48)
      · rw [if_pos hbig] at e
        have HE : Hid (m * 10 + ((v.toNat : Int) - 48) = T) := e
        clear e HJ HT HD h
        go_wp2
        go_ret
        exact ⟨by rw [← HE.out]; rfl, rfl⟩
      · rw [if_neg hbig] at e
        have HE : Hid (vf (m * 10 + ((v.toNat : Int) - 48)) (l.drop (j + 1)) = T) := e
        clear e HJ HT HD h
        go_wp2
        go_round
        case rel => exact ⟨j + 1, m * 10 + ((v.toNat : Int) - 48), by omega, by omega, by omega, by go_num, by go_num, HE⟩
        case measure => simp [intOf]; omega
    · have e := HJ.out
      rw [List.drop_of_length_le (by omega), vf] at e
      have HE : Hid (m = T) := e
      clear e HJ HT HD h
      go_wp2
      go_ret
      exact ⟨by rw [HE.out]; rfl, rfl⟩
/-- Where a piece from k on begins. -/
def cutA (A : Option Addr) (c k : Nat) : Option Addr := if c = k then A else A.map (·.add k)
theorem block_add (a : Addr) (n : Nat) : (a.add n).block = a.block := by unfold Addr.add; split <;> rfl
theorem add_add_ (a : Addr) (i j : Nat) : (a.add i).add j = a.add (i + j) := by
  unfold Addr.add
  by_cases hi : i = 0 <;> by_cases hj : j = 0 <;> simp [hi, hj, Nat.add_assoc]
theorem Rd.cut {w : World} {B : Nat} {A : Option Addr} {l : List UInt8} (h : Rd w B A l) {k c m : Nat} (hc : l.length ≤ c) : Rd w B (cutA A c k) ((l.drop k).take m) := by
  intro i hi
  simp only [List.length_take, List.length_drop] at hi
  obtain ⟨ad, rfl, hb, hcell⟩ := h (k + i) (by omega)
  refine ⟨ad.add k, by simp [cutA]; omega, by rw [block_add]; exact hb, ?_⟩
  rw [add_add_, hcell]
  have e : ((l.drop k).take m).getD i 0 = l.getD (k + i) 0 := by
    simp only [List.getD_eq_getElem?_getD, List.getElem?_take, List.getElem?_drop]
    rw [if_pos (by omega)]
  rw [e]
theorem Rd.below {w w' : World} {B : Nat} {A : Option Addr} {l : List UInt8} (h : Rd w B A l) (hb : Below B w w') : Rd w' B A l := by
  intro i hi
  obtain ⟨ad, e, hlt, hc⟩ := h i hi
  exact ⟨ad, e, hlt, (hb.cell (by rw [block_add]; exact hlt)).trans hc⟩
theorem Rd.mono {w : World} {B B' : Nat} {A : Option Addr} {l : List UInt8} (h : Rd w B A l) (hB : B ≤ B') : Rd w B' A l := by
  intro i hi
  obtain ⟨ad, e, hlt, hc⟩ := h i hi
  exact ⟨ad, e, by omega, hc⟩
theorem Rd.nil (w : World) (B : Nat) (A : Option Addr) : Rd w B A [] := fun i hi => absurd hi (by simp)
theorem size5 : (Tryd.prog.info? 5).map (·.size) = some 1 := by kernel_rfl
theorem run_size5 (w : World) : (sizeOf (Tryd.prog.elem 35)).run Tryd.prog w = .ok 1 w := by
  have e : Tryd.prog.elem 35 = 5 := by kernel_rfl
  rw [e]
  have h := size5
  obtain ⟨i, hi, hs⟩ := Option.map_eq_some_iff.1 h
  simp [sizeOf, typeInfo, hi, hs]
theorem u22 : Tryd.prog.underlying 35 = some (.slice (Tryd.prog.elem 35)) := by kernel_rfl
theorem slice_lh (A : Option Addr) (n c k m : Nat) (hi : Int) (h0 : hi = (k : Int) + m) (h1 : k + m ≤ c) (w : World) :
    (Instr.slice 35 (.slice A n c) (some (.int .i64 k)) (some (.int .i64 hi)) none).run Tryd.prog w = .ok (.slice (cutA A c k) m (c - k)) w := by
  subst h0
  rw [run_slice_lh w 35 A n c u22 .i64 .i64 k (k + m) (by omega) (by omega) (by omega), run_size5]
  have e1 : ((k : Int) + m).toNat = k + m := by omega
  simp [Result.andThen, sliced, cutA, e1]
theorem slice_l (A : Option Addr) (n c k : Nat) (h0 : k ≤ n) (w : World) :
    (Instr.slice 35 (.slice A n c) (some (.int .i64 k)) none none).run Tryd.prog w = .ok (.slice (cutA A c k) (n - k) (c - k)) w := by
  rw [run_slice_l w 35 A n c u22 .i64 k (by omega) (by omega), run_size5]
  simp [Result.andThen, sliced, cutA]
theorem slice_h (A : Option Addr) (n c k : Nat) (h0 : k ≤ c) (w : World) :
    (Instr.slice 35 (.slice A n c) none (some (.int .i64 k)) none).run Tryd.prog w = .ok (.slice (cutA A c 0) k c) w := by
  rw [run_slice_h w 35 A n c u22 .i64 k (by omega) (by omega), run_size5]
  simp [Result.andThen, sliced, cutA]
theorem conv_str (A : Option Addr) (n c : Nat) (l : List UInt8) (B : Nat) (w : World) (h : Rd w B A l) (hn : n = l.length) :
    (convert 35 9 (.slice A n c)).run Tryd.prog w = .ok (.string ⟨l.toArray⟩) w := by
  subst hn
  have hu : Tryd.prog.underlying 5 = some (.int .u8) := Tryd.underlying5
  have h22 : Tryd.prog.underlying 35 = some (.slice 5) := Tryd.underlying35
  rw [run_convert_bytes_string w 35 9 5 A l.length c h22 hu Tryd.underlying9]
  rcases A with _ | a
  · have : l = [] := by
      rcases l with _ | ⟨x, l⟩
      · rfl
      · obtain ⟨ad, e, _⟩ := h 0 (by simp); cases e
    subst this
    simp [Conv.bytesToString]
    rfl
  · have hl : (loadCells a l.length).run Tryd.prog w = .ok ((l.map fun b => (b.toNat : Int)).map (Value.int .u8)).toArray w := by
      have := run_loadCells_list (P := Tryd.prog) w a ((l.map fun b => (b.toNat : Int)).map (Value.int .u8)) (fun j v hj => by
        simp only [List.map_map, List.getElem?_map, Option.map_eq_some_iff] at hj
        obtain ⟨b, hb, rfl⟩ := hj
        obtain ⟨hjl, hb'⟩ := List.getElem?_eq_some_iff.1 hb
        obtain ⟨ad, e, _, hc⟩ := h j hjl
        obtain rfl : a = ad := Option.some.inj e
        rw [hc]
        simp [List.getD_eq_getElem?_getD, hb])
      simpa using this
    rw [run_bytesToString w a l.length c _ hl, foldl_push_bytes]
    have e : (l.map fun b => (b.toNat : Int)).map (fun n => UInt8.ofNat n.toNat) = l := by
      rw [List.map_map]
      conv => rhs; rw [← List.map_id l]
      apply List.map_congr_left
      intro b _
      simp
    rw [e]
    simp [ByteArray.empty, ByteArray.emptyWithCapacity]
    rfl
/-- Does s stand at k? -/
def isB (l : List UInt8) (k : Nat) (s : ByteArray) : Bool := (l.drop k).take s.size == s.data.toList
theorem isB_len {l : List UInt8} {k : Nat} {s : ByteArray} (h : isB l k s = true) : s.size ≤ l.length - k := by
  have e := congrArg List.length (beq_iff_eq.1 h)
  simp only [List.length_take, List.length_drop, Array.length_toList] at e
  have : s.data.size = s.size := rfl
  omega
theorem toList_data (s : ByteArray) : s.toList = s.data.toList := ByteArray.toList_eq s
set_option maxHeartbeats 400000 in
theorem Is_yes (A : Option Addr) (c k : Nat) (l : List UInt8) (s : ByteArray) (B : Nat) (w : World) (h : Rd w B A l) (hk : k ≤ l.length) (hn : l.length ≤ c) (hc : c ≤ maxLen) (heq : isB l k s = true) :
    Calls Tryd.prog 44 #[.slice A l.length c, .int .i64 k, .string s] w fun e w' => e = .returned (.tuple #[.int .i64 ((k : Int) + s.size), .bool true]) ∧ w = w' := by
  unfold maxLen at hc
  have hss := isB_len heq
  have hss' : (s.size : Int) ≤ (l.length : Int) - k := by omega
  have hss2 : decide ((l.length : Int) - k < s.size) = false := decide_eq_false (by omega)
  have hsl := fun wx => slice_lh A l.length c k s.size (k + s.size) rfl (by omega) wx
  have hcv := conv_str (cutA A c k) s.size (c - k) ((l.drop k).take s.size) B w (h.cut hn) (by simp; omega)
  have HQ : ((l.drop k).take s.size == s.toList) = true := by rw [toList_data]; exact heq
  clear heq
  generalize (l.drop k).take s.size = t at *
  generalize cutA A c k = A' at *
  generalize c - k = c' at *
  go_enter Tryd.func44, Tryd.ntmps44
  go_wp2_with (go_at_call 66; refine (isPlace_yes _ _ _ _ _ (by omega) (by omega)).mono ?_; rintro e w' ⟨rfl, rfl⟩)
  go_ret2
  exact ⟨rfl, rfl⟩
set_option maxHeartbeats 400000 in
theorem Is_no (A : Option Addr) (c k : Nat) (l : List UInt8) (s : ByteArray) (B : Nat) (w : World) (h : Rd w B A l) (hk : k ≤ l.length) (hn : l.length ≤ c) (hc : c ≤ maxLen) (hs : s.size ≤ maxLen) (heq : isB l k s = false) :
    Calls Tryd.prog 44 #[.slice A l.length c, .int .i64 k, .string s] w fun e w' => e = .returned (.tuple #[.int .i64 k, .bool false]) ∧ w = w' := by
  unfold maxLen at hc hs
  by_cases hss : s.size ≤ l.length - k
  · have hss' : (s.size : Int) ≤ (l.length : Int) - k := by omega
    have hss2 : decide ((l.length : Int) - k < s.size) = false := decide_eq_false (by omega)
    have hsl := fun wx => slice_lh A l.length c k s.size (k + s.size) rfl (by omega) wx
    have hcv := conv_str (cutA A c k) s.size (c - k) ((l.drop k).take s.size) B w (h.cut hn) (by simp; omega)
    have HQ : ((l.drop k).take s.size == s.toList) = false := by rw [toList_data]; exact heq
    clear heq
    generalize (l.drop k).take s.size = t at *
    generalize cutA A c k = A' at *
    generalize c - k = c' at *
    go_enter Tryd.func44, Tryd.ntmps44
    go_wp2_with (go_at_call 66; refine (isPlace_yes _ _ _ _ _ (by omega) (by omega)).mono ?_; rintro e w' ⟨rfl, rfl⟩)
    go_ret2
    exact ⟨rfl, rfl⟩
  · have hss2 : decide ((l.length : Int) - k < s.size) = true := decide_eq_true (by omega)
    have hss' : (l.length : Int) - k < s.size := by omega
    clear heq
    go_enter Tryd.func44, Tryd.ntmps44
    go_wp2_with (go_at_call 66; refine (isPlace_yes _ _ _ _ _ (by omega) (by omega)).mono ?_; rintro e w' ⟨rfl, rfl⟩)
    go_ret2
    exact ⟨rfl, rfl⟩
set_option maxHeartbeats 400000 in
theorem Is_out (A : Option Addr) (n c : Nat) (k : Int) (s : ByteArray) (w : World) (hk : k < 0 ∨ (n : Int) < k) :
    Calls Tryd.prog 44 #[.slice A n c, .int .i64 k, .string s] w fun e w' => e = .returned (.tuple #[.int .i64 0, .bool false]) ∧ w = w' := by
  have HK : Hid (k < 0 ∨ (n : Int) < k) := hk
  clear hk
  go_enter Tryd.func44, Tryd.ntmps44
  go_wp2_with (go_at_call 66; refine (isPlace_no _ _ _ _ _ HK.out).mono ?_; rintro e w' ⟨rfl, rfl⟩)
  go_ret2
  exact ⟨rfl, rfl⟩
def isN (l : List UInt8) (k : Nat) (s : ByteArray) : Int := if isB l k s then (k : Int) + s.size else k
theorem Is_any (A : Option Addr) (c k : Nat) (l : List UInt8) (s : ByteArray) (B : Nat) (w : World) (h : Rd w B A l) (hk : k ≤ l.length) (hn : l.length ≤ c) (hc : c ≤ maxLen) (hs : s.size ≤ maxLen) :
    Calls Tryd.prog 44 #[.slice A l.length c, .int .i64 k, .string s] w fun e w' => e = .returned (.tuple #[.int .i64 (isN l k s), .bool (isB l k s)]) ∧ w = w' := by
  unfold isN
  cases hb : isB l k s with
  | true => simpa using Is_yes A c k l s B w h hk hn hc hb
  | false => simpa using Is_no A c k l s B w h hk hn hc hs hb
end Go.Proofs.YtahedhpffjgimaaDoor
/- lex.Number, lex.Signed, lex.Ones, lex.Take over the translated program: what each returns at every slice of bytes, every place and every bound, as plain functions of the bytes behind the place. Nothing is assumed. -/
namespace Go.Proofs.YtahedhpffjgimaaDoor
open Go.RowKit

/-- Number at the head of t: the number, how many bytes, the error. -/
def numB (t : List UInt8) : Bool := tw 57 t == 0 || t.getD 0 0 == 48 && decide (1 < tw 57 t)
def numV (t : List UInt8) : Int := vf 0 (t.take (tw 57 t))
def numberS (t : List UInt8) (most : Int) : Int × Nat × Int :=
  if numB t then (0, 0, 2) else if most < numV t ∨ 2147483647 < numV t then (0, 0, 3) else (numV t, tw 57 t, 0)

theorem tw_digits (last : UInt8) (l : List UInt8) (i : Nat) (h : i < tw last l) : 48 ≤ (l.getD i 0).toNat ∧ (l.getD i 0).toNat ≤ last.toNat := by
  induction l generalizing i with
  | nil => simp [tw] at h
  | cons c l ih =>
    unfold tw at h
    by_cases hc : (48 ≤ c && c ≤ last) = true
    · rw [List.takeWhile_cons_of_pos (p := fun c => 48 ≤ c && c ≤ last) hc] at h
      simp only [Bool.and_eq_true, decide_eq_true_eq, UInt8.le_iff_toNat_le] at hc
      have e : (48 : UInt8).toNat = 48 := rfl
      rcases i with _ | i
      · simp only [List.getD_cons_zero]; omega
      · rw [List.getD_cons_succ]
        exact ih i (by simp only [List.length_cons] at h; unfold tw; omega)
    · rw [List.takeWhile_cons_of_neg (p := fun c => 48 ≤ c && c ≤ last) hc] at h
      simp at h

theorem Rd.piece {w : World} {B : Nat} {A : Option Addr} {l : List UInt8} (h : Rd w B A l) {k c : Nat} (hc : l.length ≤ c) : Rd w B (cutA A c k) (l.drop k) := by
  have := h.cut (k := k) (m := l.length) hc
  rwa [List.take_of_length_le (by simp)] at this

set_option maxHeartbeats 400000 in
theorem Number_out (A : Option Addr) (n c : Nat) (k most : Int) (w : World) (hk : k < 0 ∨ (n : Int) < k) :
    Calls Tryd.prog 82 #[.slice A n c, .int .i64 k, .int .i64 most] w fun e w' => e = .returned (.tuple #[.int .i64 0, .int .i64 0, .int .i64 2]) ∧ w = w' := by
  have HK : Hid (k < 0 ∨ (n : Int) < k) := hk
  clear hk
  go_enter Tryd.func82, Tryd.ntmps82
  go_wp2_with (go_at_call 66; refine (isPlace_no _ _ _ _ _ HK.out).mono ?_; rintro e w' ⟨rfl, rfl⟩)
  go_ret3
  exact ⟨rfl, rfl⟩

set_option maxHeartbeats 800000 in
theorem Number_none (A : Option Addr) (c k : Nat) (most : Int) (l : List UInt8) (B : Nat) (w : World) (h : Rd w B A l) (hk : k ≤ l.length) (hn : l.length ≤ c) (hc : c ≤ maxLen) (hb : numB (l.drop k) = true) :
    Calls Tryd.prog 82 #[.slice A l.length c, .int .i64 k, .int .i64 most] w fun e w' => e = .returned (.tuple #[.int .i64 0, .int .i64 k, .int .i64 2]) ∧ w = w' := by
  unfold maxLen at hc
  have cR := behindRow_any A c k 57 l B w h hk (by unfold maxLen; omega)
  have htl := tw_le 57 (l.drop k)
  simp only [List.length_drop] at htl
  unfold numB at hb
  by_cases h0 : tw 57 (l.drop k) = 0
  · rw [h0] at cR
    have h1 : ((k : Int) == (k : Int)) = true := by simp
    clear hb h0 htl
    go_enter Tryd.func82, Tryd.ntmps82
    go_wp2_with (first | (go_at_call 66; refine (isPlace_yes _ _ _ _ _ (by omega) (by omega)).mono ?_; rintro e w' ⟨rfl, rfl⟩) | (go_at_call 92; refine cR.mono ?_; rintro e w' ⟨rfl, rfl⟩))
    go_ret3
    exact ⟨rfl, rfl⟩
  · have hb' : (l.drop k).getD 0 0 = 48 ∧ 1 < tw 57 (l.drop k) := by simpa [h0] using hb
    obtain ⟨h48, h1⟩ := hb'
    have hkl : k < l.length := by omega
    obtain ⟨ad, rfl, hblk, hcell⟩ := h k hkl
    have e48 : l.getD k 0 = 48 := by rw [← h48]; simp [List.getD_eq_getElem?_getD]
    rw [e48] at hcell
    have hcell' : w.cell? (ad.add k) = some (.int .u8 48) := hcell
    clear hcell
    obtain ⟨E, hE⟩ : ∃ E, k + tw 57 (l.drop k) = E := ⟨_, rfl⟩
    rw [hE] at cR
    have hne : ((E : Int) == (k : Int)) = false := beq_eq_false_iff_ne.2 (by omega)
    have hgt : (k : Int) + 1 < (E : Int) := by omega
    clear hb h0 htl h48 e48 h hE h1
    go_enter Tryd.func82, Tryd.ntmps82
    go_wp2_with (first | (go_at_call 66; refine (isPlace_yes _ _ _ _ _ (by omega) (by omega)).mono ?_; rintro e w' ⟨rfl, rfl⟩) | (go_at_call 92; refine cR.mono ?_; rintro e w' ⟨rfl, rfl⟩))
    go_ret3
    exact ⟨rfl, rfl⟩

theorem numV_rd {l : List UInt8} {k : Nat} : (l.drop k).take (tw 57 (l.drop k)) = (l.drop k).take (tw 57 (l.drop k)) := rfl
set_option maxHeartbeats 800000 in
theorem Number_some (A : Option Addr) (c k : Nat) (most : Int) (l : List UInt8) (B : Nat) (w : World) (h : Rd w B A l) (hk : k ≤ l.length) (hn : l.length ≤ c) (hc : c ≤ maxLen) (hb : numB (l.drop k) = false) :
    Calls Tryd.prog 82 #[.slice A l.length c, .int .i64 k, .int .i64 most] w fun e w' =>
      e = .returned (if most < numV (l.drop k) ∨ 2147483647 < numV (l.drop k) then .tuple #[.int .i64 0, .int .i64 k, .int .i64 3] else .tuple #[.int .i64 (numV (l.drop k)), .int .i64 ((k + tw 57 (l.drop k) : Nat) : Int), .int .i64 0]) ∧ w = w' := by
  unfold maxLen at hc
  have cR := behindRow_any A c k 57 l B w h hk (by unfold maxLen; omega)
  have htl := tw_le 57 (l.drop k)
  simp only [List.length_drop] at htl
  unfold numB at hb
  have h0 : tw 57 (l.drop k) ≠ 0 := by intro e; simp [e] at hb
  have hkl : k < l.length := by omega
  have cV := valueOf_any (cutA A c k) (c - k) ((l.drop k).take (tw 57 (l.drop k))) B w (h.cut hn) (by simp only [List.length_take, List.length_drop, maxLen]; omega) (fun i hi => by
    simp only [List.length_take, List.length_drop] at hi
    have := tw_digits 57 (l.drop k) i (by omega)
    have e : ((l.drop k).take (tw 57 (l.drop k))).getD i 0 = (l.drop k).getD i 0 := by
      simp only [List.getD_eq_getElem?_getD, List.getElem?_take]; rw [if_pos (by omega)]
    rw [e]; exact this)
  have hlen : ((l.drop k).take (tw 57 (l.drop k))).length = tw 57 (l.drop k) := by simp only [List.length_take, List.length_drop]; omega
  rw [hlen] at cV
  obtain ⟨V, hV⟩ : ∃ V, numV (l.drop k) = V := ⟨_, rfl⟩
  have hV' : vf 0 ((l.drop k).take (tw 57 (l.drop k))) = V := hV
  rw [hV'] at cV
  rw [hV]
  obtain ⟨E, hE⟩ : ∃ E, k + tw 57 (l.drop k) = E := ⟨_, rfl⟩
  rw [hE] at cR ⊢
  have hsl := fun wx => slice_lh A l.length c k (tw 57 (l.drop k)) E (by omega) (by omega) wx
  have hne : ((E : Int) == (k : Int)) = false := beq_eq_false_iff_ne.2 (by omega)
  obtain ⟨ad, hA, hblk, hcell⟩ := h k hkl
  subst hA
  have hbool : (((l.getD k 0).toNat : Int) == 48) = true → decide ((k : Int) + 1 < (E : Int)) = false := by
    intro e
    have e' : (l.drop k).getD 0 0 = 48 := by
      have : (l.getD k 0) = 48 := UInt8.toNat_inj.1 (by have := beq_iff_eq.1 e; show _ = 48; omega)
      rw [← this]; simp [List.getD_eq_getElem?_getD]
    rw [e'] at hb
    have : ¬ 1 < tw 57 (l.drop k) := by intro hh; simp [hh] at hb
    exact decide_eq_false (by omega)
  generalize l.getD k 0 = v at *
  generalize cutA (some ad) c k = A' at *
  generalize c - k = c' at *
  generalize tw 57 (l.drop k) = T at *
  clear hb hV hV' hlen h0 h htl hE
  have key : (((v.toNat : Int) == 48) = true ∧ decide ((k : Int) + 1 < (E : Int)) = false) ∨ ((v.toNat : Int) == 48) = false := by
    cases hb : ((v.toNat : Int) == 48) with
    | true => exact .inl ⟨rfl, hbool hb⟩
    | false => exact .inr rfl
  clear hbool
  have cases3 : (most < V ∧ (most < V ∨ 2147483647 < V)) ∨ (¬ most < V ∧ 2147483647 < V ∧ (most < V ∨ 2147483647 < V)) ∨ (¬ most < V ∧ ¬ 2147483647 < V ∧ ¬ (most < V ∨ 2147483647 < V)) := by omega
  rcases key with ⟨h48, hgt⟩ | h48 <;> rcases cases3 with ⟨hm, hc3⟩ | ⟨hm, hm2, hc3⟩ | ⟨hm, hm2, hc3⟩
  all_goals
    first | rw [if_pos hc3] | rw [if_neg hc3]
    clear hc3
    go_enter Tryd.func82, Tryd.ntmps82
    go_wp2_with (first | (go_at_call 66; refine (isPlace_yes _ _ _ _ _ (by omega) (by omega)).mono ?_; rintro e w' ⟨rfl, rfl⟩) | (go_at_call 92; refine cR.mono ?_; rintro e w' ⟨rfl, rfl⟩) | (go_at_call 93; refine cV.mono ?_; rintro e w' ⟨rfl, rfl⟩))
    go_ret3
    exact ⟨rfl, rfl⟩
/-- A call's three results, out of what stands at the head of what is left. -/
def res3 (k : Nat) (r : Int × Nat × Int) : Value := .tuple #[.int .i64 r.1, .int .i64 ((k + r.2.1 : Nat) : Int), .int .i64 r.2.2]
theorem Number_any (A : Option Addr) (c k : Nat) (most : Int) (l : List UInt8) (B : Nat) (w : World) (h : Rd w B A l) (hk : k ≤ l.length) (hn : l.length ≤ c) (hc : c ≤ maxLen) :
    Calls Tryd.prog 82 #[.slice A l.length c, .int .i64 k, .int .i64 most] w fun e w' => e = .returned (res3 k (numberS (l.drop k) most)) ∧ w = w' := by
  unfold numberS
  cases hb : numB (l.drop k) with
  | true => exact Number_none A c k most l B w h hk hn hc hb
  | false =>
    refine (Number_some A c k most l B w h hk hn hc hb).mono fun e w' ⟨he, hw⟩ => ⟨?_, hw⟩
    rw [he]
    by_cases h3 : most < numV (l.drop k) ∨ 2147483647 < numV (l.drop k)
    · rw [if_pos h3]; simp [h3, res3]
    · rw [if_neg h3]; simp [h3, res3]
theorem numberS_len (t : List UInt8) (most : Int) : (numberS t most).2.1 ≤ t.length := by
  unfold numberS
  split
  · simp
  · split
    · simp
    · exact tw_le 57 t
end Go.Proofs.YtahedhpffjgimaaDoor
/- lex.Signed over the translated program: what it returns at every slice of bytes, every place and every bound, as a plain function of the bytes behind the place. Nothing is assumed. -/
namespace Go.Proofs.YtahedhpffjgimaaDoor
open Go.RowKit

theorem vf_nonneg : ∀ (l : List UInt8) (n : Int), 0 ≤ n → (∀ i, i < l.length → 48 ≤ (l.getD i 0).toNat) → 0 ≤ vf n l
  | [], n, h, _ => h
  | c :: t, n, h, hd => by
    have h0 := hd 0 (by simp)
    simp only [List.getD_cons_zero] at h0
    unfold vf
    split
    · omega
    · exact vf_nonneg t _ (by omega) (fun i hi => by have := hd (i + 1) (by simpa using hi); simpa using this)
theorem numV_nonneg (t : List UInt8) : 0 ≤ numV t := by
  unfold numV
  refine vf_nonneg _ 0 (by omega) (fun i hi => ?_)
  have hl := tw_le 57 t
  simp only [List.length_take] at hi
  have e : (t.take (tw 57 t)).getD i 0 = t.getD i 0 := by
    simp only [List.getD_eq_getElem?_getD, List.getElem?_take]; rw [if_pos (by omega)]
  rw [e]; exact (tw_digits 57 t i (by omega)).1
theorem numberS_bd (t : List UInt8) (most : Int) : 0 ≤ (numberS t most).1 ∧ (numberS t most).1 ≤ 2147483647 ∧ 0 ≤ (numberS t most).2.2 ∧ (numberS t most).2.2 ≤ 3 := by
  have := numV_nonneg t
  unfold numberS
  split
  · simp
  · split
    · simp
    · simp only; omega

def signedS (t : List UInt8) (most : Int) : Int × Nat × Int :=
  if t.take 1 == [45] then
    if (t.drop 1).take 1 == [48] then (0, 0, 2)
    else if (numberS (t.drop 1) most).2.2 = 0 then (-(numberS (t.drop 1) most).1, (numberS (t.drop 1) most).2.1 + 1, 0) else (0, 0, (numberS (t.drop 1) most).2.2)
  else numberS t most

theorem isB_one (l : List UInt8) (k : Nat) (c : UInt8) : isB l k ⟨#[c]⟩ = ((l.drop k).take 1 == [c]) := rfl

set_option maxHeartbeats 400000 in
theorem Signed_out (A : Option Addr) (n c : Nat) (k most : Int) (w : World) (hk : k < 0 ∨ (n : Int) < k) :
    Calls Tryd.prog 65 #[.slice A n c, .int .i64 k, .int .i64 most] w fun e w' => e = .returned (.tuple #[.int .i64 0, .int .i64 0, .int .i64 2]) ∧ w = w' := by
  have HK : Hid (k < 0 ∨ (n : Int) < k) := hk
  clear hk
  go_enter Tryd.func65, Tryd.ntmps65
  go_wp2_with (first | (go_at_call 44; refine (Is_out _ _ _ _ _ _ HK.out).mono ?_; rintro e w' ⟨rfl, rfl⟩) | (go_at_call 82; refine (Number_out _ _ _ _ _ _ HK.out).mono ?_; rintro e w' ⟨rfl, rfl⟩))
  go_ret3
  exact ⟨rfl, rfl⟩

set_option maxHeartbeats 800000 in
theorem Signed_any (A : Option Addr) (c k : Nat) (most : Int) (l : List UInt8) (B : Nat) (w : World) (h : Rd w B A l) (hk : k ≤ l.length) (hn : l.length ≤ c) (hc : c ≤ maxLen) :
    Calls Tryd.prog 65 #[.slice A l.length c, .int .i64 k, .int .i64 most] w fun e w' => e = .returned (res3 k (signedS (l.drop k) most)) ∧ w = w' := by
  unfold signedS
  cases h1 : ((l.drop k).take 1 == [(45 : UInt8)]) with
  | false =>
    rw [if_neg (by simp)]
    have c1 := Is_no A c k l ⟨#[45]⟩ B w h hk hn hc (by decide) (by rw [isB_one]; exact h1)
    have c2 := Number_any A c k most l B w h hk hn hc
    obtain ⟨⟨n, m, e⟩, hr⟩ : ∃ r, numberS (l.drop k) most = r := ⟨_, rfl⟩
    rw [hr] at c2 ⊢
    have C1 := c1; have C2 := c2
    unfold res3 at C2 ⊢
    obtain ⟨E, hE⟩ : ∃ E, k + m = E := ⟨_, rfl⟩
    rw [hE] at C2 ⊢
    clear c1 c2 hr h1 hE
    go_enter Tryd.func65, Tryd.ntmps65
    go_wp2_with (first | (go_at_call 44; refine C1.mono ?_; rintro e w' ⟨rfl, rfl⟩) | (go_at_call 82; refine C2.mono ?_; rintro e w' ⟨rfl, rfl⟩))
    go_ret3
    exact ⟨rfl, rfl⟩
  | true =>
    rw [if_pos rfl]
    have hb1 : isB l k ⟨#[45]⟩ = true := by rw [isB_one]; exact h1
    have hkl := isB_len hb1
    have hkl' : k + 1 ≤ l.length := by have : (⟨#[45]⟩ : ByteArray).size = 1 := rfl; omega
    have c1 := Is_yes A c k l ⟨#[45]⟩ B w h hk hn hc hb1
    have e1 : (k : Int) + ((⟨#[45]⟩ : ByteArray).size : Int) = ((k + 1 : Nat) : Int) := by have : (⟨#[45]⟩ : ByteArray).size = 1 := rfl; omega
    rw [e1] at c1
    have ed : (l.drop k).drop 1 = l.drop (k + 1) := by rw [List.drop_drop]
    rw [ed]
    obtain ⟨K1, hK1⟩ : ∃ K1, k + 1 = K1 := ⟨_, rfl⟩
    rw [hK1] at c1 hkl' ⊢
    cases h2 : ((l.drop K1).take 1 == [(48 : UInt8)]) with
    | true =>
      rw [if_pos rfl]
      have c2 := Is_yes A c K1 l ⟨#[48]⟩ B w h hkl' hn hc (by rw [isB_one]; exact h2)
      have C1 := c1; have C2 := c2
      clear c1 c2 h1 h2 hb1 hkl e1 hK1 ed
      go_enter Tryd.func65, Tryd.ntmps65
      go_wp2_with fail
      refine C1.mono ?_; rintro e w' ⟨rfl, rfl⟩
      go_wp2_with fail
      refine C2.mono ?_; rintro e w' ⟨rfl, rfl⟩
      go_wp2
      go_ret3
      exact ⟨rfl, rfl⟩
    | false =>
      rw [if_neg (by simp)]
      have c2 := Is_no A c K1 l ⟨#[48]⟩ B w h hkl' hn hc (by decide) (by rw [isB_one]; exact h2)
      have c3 := Number_any A c K1 most l B w h hkl' hn hc
      have hbd := numberS_bd (l.drop K1) most
      have e2 : ∀ m : Nat, K1 + m = k + (m + 1) := by omega
      obtain ⟨⟨n, m, e⟩, hr⟩ : ∃ r, numberS (l.drop K1) most = r := ⟨_, rfl⟩
      rw [hr] at c3 hbd ⊢
      simp only at hbd ⊢
      obtain ⟨b1, b2, b3, b4⟩ := hbd
      have C1 := c1; have C2 := c2; have C3 := c3
      unfold res3 at C3
      simp only at C3
      rw [e2] at C3
      by_cases he : e = 0
      · rw [if_pos he]
        unfold res3
        simp only
        obtain ⟨E, hE⟩ : ∃ E, k + (m + 1) = E := ⟨_, rfl⟩
        rw [hE] at C3 ⊢
        have heb : (e != 0) = false := by simp [he]
        have HE : Hid (e = 0) := he
        clear c1 c2 c3 h1 h2 hb1 hkl e1 hK1 ed hr he e2 hE
        go_enter Tryd.func65, Tryd.ntmps65
        go_wp2_with fail
        refine C1.mono ?_; rintro e w' ⟨rfl, rfl⟩
        go_wp2_with fail
        refine C2.mono ?_; rintro e w' ⟨rfl, rfl⟩
        go_wp2_with fail
        refine C3.mono ?_; rintro e w' ⟨rfl, rfl⟩
        go_wp2
        go_ret3
        exact ⟨rfl, rfl⟩
      · rw [if_neg he]
        unfold res3
        simp only [Nat.add_zero]
        have heb : (e != 0) = true := by simp [he]
        generalize k + (m + 1) = E at *
        clear c1 c2 c3 h1 h2 hb1 hkl e1 hK1 ed hr he e2
        go_enter Tryd.func65, Tryd.ntmps65
        go_wp2_with fail
        refine C1.mono ?_; rintro e w' ⟨rfl, rfl⟩
        go_wp2_with fail
        refine C2.mono ?_; rintro e w' ⟨rfl, rfl⟩
        go_wp2_with fail
        refine C3.mono ?_; rintro e w' ⟨rfl, rfl⟩
        go_wp2
        go_ret3
        exact ⟨rfl, rfl⟩

end Go.Proofs.YtahedhpffjgimaaDoor
