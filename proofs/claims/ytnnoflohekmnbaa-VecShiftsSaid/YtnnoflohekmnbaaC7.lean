/-
  vec.Text over the translated program. Nothing is assumed.
-/
import Derived.Test.YtnnoflohekmnbaaProg
import Derived.WalkKit
import Derived.WalkSpells
import Derived.WalkLawsBesides
import Derived.LoopN
import Derived.IntWalk
import Derived.Lib.Hide
import Derived.Test.YtnnoflohekmnbaaC6
import Derived.Laws.BytesArg
import Derived.Laws.OwnMore
import Derived.Laws.BitsAllLaws
import Derived.Laws.Externs
import Derived.BigQuiet
import Derived.BigRegion
import Derived.Deep.QuietTactic
import Derived.Deep.RegionWith
import Derived.Deep.RegionHeld3
import Derived.StillTailTactics
import Derived.RegionTactic
import Derived.ChangeAlike
set_option linter.unusedVariables false
namespace Go.Proofs.Ytnnoflohekmnbaa
open Go.RowKit
theorem info5 : (Try.prog.info? 5).map (fun i => (i.zero, i.size, i.bytes)) = some (some (.int .u8 0), 1, 1) := by kernel_rfl
theorem mkb (W : Nat) (hW : W ≤ 128) (w : World) : (Instr.makeSlice 70 (.int .i64 (W : Int)) (.int .i64 (W : Int))).run Try.prog w = .ok (.slice (some ⟨w.heap.size, 0, none⟩) W W) (w.alloc (.cells (madeCells #[.int .u8 0] W) 5)) := by
  obtain ⟨i0, hi0, hz0, hz1, hz2⟩ := info_parts info5
  rw [run_make w 70 5 i0 _ Try.underlying70 hi0 hz0 .i64 .i64 W W (by omega) (by omega) (by rw [hz2]; omega) (by omega), hz1]
  simp [Value.cells]
/-- Block g holds the bytes l, from its beginning on. -/
def Byt (w : World) (g : Nat) (l : List UInt8) : Prop := ∀ i, i < l.length → w.cell? ⟨g, i, none⟩ = some (.int .u8 ((l.getD i 0).toNat : Int)) ∧ w.frozen? ⟨g, i, none⟩ = false
theorem Byt.below {w w' : World} {B g : Nat} {l : List UInt8} (h : Byt w g l) (hb : Below B w w') (hg : g < B) : Byt w' g l := fun i hi =>
  ⟨(hb.cell (p := ⟨g, i, none⟩) hg).trans (h i hi).1, (hb.frozen (p := ⟨g, i, none⟩) hg).trans (h i hi).2⟩
theorem Byt.store {w : World} {g : Nat} {l : List UInt8} (h : Byt w g l) (m : Nat) (hm : m < l.length) (b : UInt8) : Byt (w.setCell ⟨g, m, none⟩ (.int .u8 (b.toNat : Int))) g (l.set m b) := by
  intro i hi
  rw [List.length_set] at hi
  refine ⟨?_, by simp [(h i hi).2]⟩
  by_cases he : m = i
  · subst he
    have e : (l.set m b).getD m 0 = b := by simp [List.getD_eq_getElem?_getD, hm]
    rw [e]
    exact World.cell?_setCell_same _ _ _ (h m hm).1
  · have e : (l.set m b).getD i 0 = l.getD i 0 := by simp [List.getD_eq_getElem?_getD, he]
    rw [e, World.cell?_setCell_other _ _ _ _ (fun e => he (congrArg Addr.off e))]
    exact (h i hi).1
theorem byt_made (w : World) (W : Nat) : Byt (w.alloc (.cells (madeCells #[.int .u8 0] W) 5)) w.heap.size (List.replicate W 0) := by
  intro i hi
  simp only [List.length_replicate] at hi
  have hb := (MapKept.heap_alloc w (.cells (madeCells #[.int .u8 0] W) 5)).1
  constructor
  · have hl := toList_madeCells_one (.int .u8 0) W
    simp only [World.cell?, hb]
    have e1 : (madeCells #[Value.int .u8 0] W)[i]? = some (.int .u8 0) := by
      rw [← Array.getElem?_toList, hl]; simp [hi]
    have e2 : (List.replicate W (0 : UInt8)).getD i 0 = 0 := by simp [List.getD_eq_getElem?_getD, hi]
    rw [e2]
    simpa using e1
  · go_simp
/-- The bytes of a text, of which j are written. -/
def txL (N W j : Nat) : List UInt8 := (List.range W).map (fun p => if W ≤ p + j then (if N.testBit (W - 1 - p) then 49 else 48) else 0)
theorem txL_len (N W j : Nat) : (txL N W j).length = W := by simp [txL]
theorem txL_zero (N W : Nat) : txL N W 0 = List.replicate W 0 := by
  apply List.ext_getElem (by simp [txL])
  intro i h1 h2
  simp only [txL, List.length_map, List.length_range] at h1
  simp [txL]; omega
theorem txL_next (N W j : Nat) (hj : j < W) : txL N W (j + 1) = (txL N W j).set (W - 1 - j) (if N.testBit j then 49 else 48) := by
  apply List.ext_getElem (by simp [txL])
  intro i h1 h2
  simp only [txL, List.length_map, List.length_range] at h1
  rw [List.getElem_set]
  simp only [txL, List.getElem_map, List.getElem_range]
  by_cases he : W - 1 - j = i
  · rw [if_pos he, if_pos (by omega)]
    have : W - 1 - i = j := by omega
    rw [this]
  · rw [if_neg he]
    by_cases hc : W ≤ i + j
    · rw [if_pos (by omega), if_pos hc]
    · rw [if_neg (by omega), if_neg hc]
/-- A vector's text. -/
def txt (W N : Nat) : ByteArray := ⟨(txL N W W).toArray⟩
theorem conv_byt (w : World) (g : Nat) (l : List UInt8) (n c : Nat) (h : Byt w g l) (hn : n = l.length) : (convert 70 9 (.slice (some ⟨g, 0, none⟩) n c)).run Try.prog w = .ok (.string ⟨l.toArray⟩) w := by
  subst hn
  rw [run_convert_bytes_string w 70 9 5 (some ⟨g, 0, none⟩) l.length c Try.underlying70 Try.underlying5 Try.underlying9]
  have hl : (loadCells ⟨g, 0, none⟩ l.length).run Try.prog w = .ok ((l.map fun b => (b.toNat : Int)).map (Value.int .u8)).toArray w := by
    have := run_loadCells_list (P := Try.prog) w ⟨g, 0, none⟩ ((l.map fun b => (b.toNat : Int)).map (Value.int .u8)) (fun j v hj => by
      simp only [List.map_map, List.getElem?_map, Option.map_eq_some_iff] at hj
      obtain ⟨b, hb, rfl⟩ := hj
      obtain ⟨hjl, hb'⟩ := List.getElem?_eq_some_iff.1 hb
      have e : (⟨g, 0, none⟩ : Addr).add j = ⟨g, j, none⟩ := by unfold Addr.add; split <;> simp_all
      rw [e, (h j hjl).1]
      simp [List.getD_eq_getElem?_getD, hb])
    simpa using this
  rw [run_bytesToString w _ l.length c _ hl, foldl_push_bytes]
  have e : (l.map fun b => (b.toNat : Int)).map (fun n => UInt8.ofNat n.toNat) = l := by
    rw [List.map_map]
    conv => rhs; rw [← List.map_id l]
    apply List.map_congr_left
    intro b _
    simp
  rw [e]
  simp [ByteArray.empty, ByteArray.emptyWithCapacity]
  rfl
/-- The world of vec.Text. -/
structure TxW (w wr : World) (ad : Addr) (c k W N g : Nat) (l : List UInt8) : Prop where
  bel : Below w.heap.size w wr
  fa : Duo wr w.heap.size (.int .i64 W) (.slice (some ad) k c)
  va : Vc wr wr.heap.size ad c W N
  by_ : Byt wr g l
  lo : w.heap.size < g
  hi : g < wr.heap.size
theorem TxW.nx {w wr w1 : World} {ad : Addr} {c k W N g : Nat} {l : List UInt8} (h : TxW w wr ad c k W N g l) (hb : Below wr.heap.size wr w1) : TxW w w1 ad c k W N g l := by
  have h1 := h.lo
  have h2 := h.hi
  exact ⟨h.bel.trans (hb.mono (by omega)), h.fa.below hb (by omega), h.va.nx hb, h.by_.below hb (by omega), h1, by have := hb.size; omega⟩
theorem TxW.store {w wr : World} {ad : Addr} {c k W N g : Nat} {l : List UInt8} (h : TxW w wr ad c k W N g l) (ha : ad.block < w.heap.size) (m : Nat) (hm : m < l.length) (b : UInt8) : TxW w (wr.setCell ⟨g, m, none⟩ (.int .u8 (b.toNat : Int))) ad c k W N g (l.set m b) := by
  have h1 := h.lo
  have ot : ∀ p : Addr, p.block ≠ g → (wr.setCell ⟨g, m, none⟩ (.int .u8 (b.toNat : Int))).cell? p = wr.cell? p := fun p hp => World.cell?_setCell_other _ _ _ _ (fun e => hp (by rw [← e]))
  refine ⟨h.bel.setCell (by simp; omega) _, ⟨(ot _ (by simp; omega)).trans h.fa.1, (ot _ (by simp; omega)).trans h.fa.2.1, by simp [h.fa.2.2.1], by simp [h.fa.2.2.2]⟩, ?_, h.by_.store m hm b, h1, by simpa using h.hi⟩
  exact h.va.size (by simp) (fun p hp => ot p (by omega))
theorem TxW.parts {w wr : World} {ad : Addr} {c k W N g : Nat} {l : List UInt8} (h : TxW w wr ad c k W N g l) (m : Nat) (hm : m < l.length) : (wr.cell? ⟨w.heap.size, 0, none⟩ = some (.int .i64 W) ∧ wr.cell? ⟨w.heap.size, 1, none⟩ = some (.slice (some ad) k c)) ∧ wr.cell? ⟨g, m, none⟩ = some (.int .u8 ((l.getD m 0).toNat : Int)) ∧ wr.frozen? ⟨g, m, none⟩ = false ∧ w.heap.size < wr.heap.size := by
  have h1 := h.lo
  have h2 := h.hi
  exact ⟨⟨h.fa.1, h.fa.2.1⟩, (h.by_ m hm).1, (h.by_ m hm).2, by omega⟩
theorem Bit_k {w : World} {ad : Addr} {c W N k : Nat} (hk : lm W = k) (h : Vc w w.heap.size ad c W N) (i : Nat) {b : Bool} (hb : N.testBit i = b) : Calls Try.prog 17 #[.agg #[.int .i64 W, .slice (some ad) k c], .int .i64 (i : Int)] w (RetV w (.bool b)) := by
  subst hk
  have e : tb N (i : Int) = b := by unfold tb; rw [if_neg (by omega)]; simpa using hb
  rw [← e]
  exact Bit_any h i
set_option maxRecDepth 100000 in
set_option maxHeartbeats 2000000 in
theorem Text_any {w : World} {ad : Addr} {c W N : Nat} (h : Vc w w.heap.size ad c W N) : Calls Try.prog 19 #[.agg #[.int .i64 W, .slice (some ad) (lm W) c]] w (RetV w (.string (txt W N))) := by
  have h1 := h.w1
  have h2 := h.w2
  have ha : ad.block < w.heap.size := by obtain ⟨x, _, _, hh, _⟩ := h.limb 0 (by unfold lm; omega); exact hh
  have hmk := mkb W h2
  have hb0 : Below w.heap.size w (w.alloc (.cells #[.int .i64 W, .slice (some ad) (lm W) c] 24)) := bal (Below.refl _ _) _
  have hV0 := Lib.hid (h.nx hb0)
  have hD0 : Duo (w.alloc (.cells #[.int .i64 W, .slice (some ad) (lm W) c] 24)) w.heap.size (.int .i64 W) (.slice (some ad) (lm W) c) := by refine ⟨?_, ?_, ?_, ?_⟩ <;> go_simp
  obtain ⟨T, hT⟩ : ∃ T, txt W N = T := ⟨_, rfl⟩
  rw [hT]
  have HT := Lib.hid hT
  generalize hk : lm W = k at *
  have HK := Lib.hid hk
  clear h hk hT
  go_enter Try.func19, Try.ntmps19
  go_wp2_with fail
  refine (Right_k HK.out hV0.out).mono ?_
  rintro e w1 ⟨rfl, hb1⟩
  have hV1 := hV0.out.nx hb1
  have hD1 := hD0.below hb1 (by simp)
  have hB1 := hb0.trans (hb1.mono (by simp))
  have hz1 : w.heap.size < w1.heap.size := by have := hb1.size; simp at this; omega
  have hW0 : TxW w (w1.alloc (.cells (madeCells #[.int .u8 0] W) 5)) ad c k W N w1.heap.size (txL N W 0) :=
    ⟨bal hB1 _, hD1.below (bal (Below.refl _ _) _) hz1, hV1.nx (bal (Below.refl _ _) _), by rw [txL_zero]; exact byt_made w1 W, hz1, by simp⟩
  obtain ⟨d1, d2, d3, d4⟩ := hD1
  generalize hg : w1.heap.size = g at hW0
  have HG := Lib.hid hg
  clear hb1 hB1 hV1 hV0 hg
  go_wp2
  rw [HG.out]
  clear HG hz1 d1 d2 d3 d4
  go_loopw [13] (fun t wr => ∃ j : Nat, j ≤ W ∧ t = .int .i64 j ∧ TxW w wr ad c k W N g (txL N W j)) (fun t _ => W - (intOf t).toNat)
  case atStart => exact ⟨0, by omega, rfl, hW0⟩
  case round =>
    clear hW0
    obtain ⟨j, hj, rfl, hW⟩ := hrel
    have hlo := hW.lo
    have hhi := hW.hi
    have gn1 : ¬ (g = w.heap.size) := by omega
    have gn2 : ¬ (w.heap.size = g) := by omega
    by_cases hlt : j < W
    · obtain ⟨m, hm⟩ : ∃ m : Nat, W - 1 - j = m := ⟨_, rfl⟩
      have hmi : (W : Int) - 1 - (j : Int) = (m : Int) := by omega
      have hml : m < (txL N W j).length := by rw [txL_len]; omega
      have hmW : (m : Int) < (W : Int) := by omega
      obtain ⟨⟨p1, p2⟩, p3, p4, p5⟩ := hW.parts m hml
      have HM := Lib.hid hm
      have HML := Lib.hid hml
      clear hm hml
      generalize (txL N W j).getD m 0 = v0 at *
      go_wp2_with fail
      have hW1 := hW.store ha m HML.out 48
      have e48 : ((48 : UInt8).toNat : Int) = 48 := rfl
      rw [e48] at hW1
      generalize wr.setCell ⟨g, m, none⟩ (.int .u8 48) = w2 at hW1 ⊢
      cases hbit : N.testBit j with
      | true =>
        refine (Bit_k HK.out hW1.va j hbit).mono ?_
        rintro e w3 ⟨rfl, hb3⟩
        have hW3 := hW1.nx hb3
        have hml3 : m < ((txL N W j).set m 48).length := by rw [List.length_set]; exact HML.out
        obtain ⟨⟨q1, q2⟩, q3, q4, q5⟩ := hW3.parts m hml3
        generalize ((txL N W j).set m 48).getD m 0 = v1 at *
        clear p1 p2 p3 p4 p5 hb3
        go_wp2
        go_roundw
        case rel =>
          refine ⟨j + 1, by omega, by go_num, ?_⟩
          have hW4 := hW3.store ha m hml3 49
          have e49 : ((49 : UInt8).toNat : Int) = 49 := rfl
          rw [e49, List.set_set] at hW4
          rw [txL_next N W j hlt, hbit, HM.out]
          exact hW4
        case measure => simp [intOf]; omega
      | false =>
        refine (Bit_k HK.out hW1.va j hbit).mono ?_
        rintro e w3 ⟨rfl, hb3⟩
        have hW3 := hW1.nx hb3
        clear p1 p2 p3 p4 p5 hb3
        go_wp2
        go_roundw
        case rel =>
          refine ⟨j + 1, by omega, by go_num, ?_⟩
          rw [txL_next N W j hlt, hbit, HM.out]
          exact hW3
        case measure => simp [intOf]; omega
    · obtain rfl : j = W := by omega
      have hcv := conv_byt wr g (txL N j j) j j hW.by_ (by rw [txL_len])
      have HT2 : Hid ((⟨(txL N j j).toArray⟩ : ByteArray) = T) := HT.out
      rw [HT2.out] at hcv
      have hB := hW.bel
      clear hW HT HT2
      go_wp2
      go_ret
      exact ⟨rfl, hB⟩
end Go.Proofs.Ytnnoflohekmnbaa
