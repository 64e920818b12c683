/-
  A text with bytes behind.
-/
import Derived.Test.YtplcabecbofjpaaDoorProg
import Derived.WalkKit
import Derived.WalkSpells
import Derived.WalkLawsBesides
import Derived.Lib.Hide
import Derived.BigQuiet
import Derived.Deep.QuietTactic
import Derived.Deep.RegionWith
import Derived.Deep.RegionHeld3
import Derived.Test.YtplcabecbofjpaaDoorV1
import Derived.Deep.AppendSrc
set_option linter.unusedVariables false
namespace Go.Proofs.YtplcabecbofjpaaDoor
open Go.RowKit
theorem bel_setCells {B b : Nat} {a : World} (hb : B ≤ b) : ∀ (vs : List Value) (o : Nat) (w : World), Below B a w → Below B a (w.setCells b o vs)
  | [], _, _, h => h
  | v :: vs, o, w, h => bel_setCells hb vs (o + 1) _ (h.setCell (p := ⟨b, o, none⟩) hb v)
def u8s (l : List UInt8) : List Value := l.map fun b => Value.int .u8 (b.toNat : Int)
theorem u8s_at (l : List UInt8) (i : Nat) (h : i < l.length) : (u8s l)[i]? = some (.int .u8 ((l.getD i 0).toNat : Int)) := by
  simp [u8s, List.getD_eq_getElem?_getD, h]
theorem u8s_len (l : List UInt8) : (u8s l).length = l.length := by simp [u8s]
theorem src_of {w : World} {B : Nat} {a : Addr} {c : Nat} {l : List UInt8} (h : Rd w B (some a) l) : Src Tryd.prog 1 25 (.slice (some a) l.length c) l.length (u8s l) w := by
  refine Src.ofSlice w Tryd.underlying25 a l.length c (u8s l) (by rw [u8s_len]; omega) ?_ ?_
  · intro j u hu
    have hj : j < l.length := by have := (List.getElem?_eq_some_iff.1 hu).1; rwa [u8s_len] at this
    obtain ⟨a', e, _, hc⟩ := h j hj
    injection e with e
    subst e
    rw [hc]
    rw [u8s_at l j hj] at hu
    exact hu
  · intro u hu
    obtain ⟨b, _, rfl⟩ := List.mem_map.1 hu
    rfl
/-- Bytes behind a text's bytes. -/
theorem bytes_more (w : World) (S : ByteArray) (A : Option Addr) (c : Nat) (l : List UInt8) (ty : TypeId) (h : Rd w w.heap.size A l) (hl : l ≠ []) (hk : l.length ≤ 100) (hS : S.size ≤ 100000) :
    ∃ A' c' w', (Builtin.append_ #[25, 25] ty #[.slice (some ⟨w.heap.size, 0, none⟩) S.size (grownCap w S.size 0 5), .slice A l.length c]).run Tryd.prog (Lib.bytesWorld w 5 S) = .ok (.slice A' (S.size + l.length) c') w' ∧
      Rd w' w'.heap.size A' (S.data.toList ++ l) ∧ Below w.heap.size w w' ∧ S.size + l.length ≤ c' ∧ c' ≤ maxLen := by
  obtain ⟨i0, hi0, hz0, hz1, hz2⟩ := info_parts u8_info
  have hpos : 0 < l.length := List.length_pos_iff.2 hl
  obtain ⟨a, rfl, hab, _⟩ := h 0 hpos
  obtain ⟨b1, b2, b3⟩ := bytes_read w S
  have hsz : S.data.toList.length = S.size := by simp
  have hr : Rd (Lib.bytesWorld w 5 S) (Lib.bytesWorld w 5 S).heap.size (some a) l := (h.below b2).mono b2.size
  have hsrc := src_of (c := c) hr
  have hg0 := grownCap_ge w S.size 0 5
  have hgm : grownCap w S.size 0 5 ≤ maxLen := grownCap_le_maxLen _ _ _ _ (by unfold maxLen; omega)
  have hnew := Lib.bytesWorld_at_new w 5 S
  have hcs : (Lib.bytesCells w 5 S).size = grownCap w S.size 0 5 := by simp [Lib.bytesCells]; omega
  by_cases hroom : S.size + l.length ≤ grownCap w S.size 0 5
  · have hc : ∀ j, j < (u8s l).length → ((Lib.bytesWorld w 5 S).cell? ⟨w.heap.size, 0 + S.size * i0.size + j, none⟩).isSome = true := by
      intro j hj
      rw [u8s_len] at hj
      have : 0 + S.size * i0.size + j < (Lib.bytesCells w 5 S).size := by rw [hz1, hcs]; omega
      simp [World.cell?, hnew]
      omega
    have hf : ∀ j, j < (u8s l).length → (Lib.bytesWorld w 5 S).frozen? ⟨w.heap.size, 0 + S.size * i0.size + j, none⟩ = false := by
      intro j hj
      rw [u8s_len] at hj
      have : 0 + S.size * i0.size + j < (Lib.bytesCells w 5 S).size := by rw [hz1, hcs]; omega
      simp only [World.frozen?, hnew, Bool.and_eq_false_iff, decide_eq_false_iff_not]
      left
      omega
    have hrun := run_append_room_src (P := Tryd.prog) (w := Lib.bytesWorld w 5 S) 25 25 ty 5 i0 Tryd.underlying25 hi0 w.heap.size 0 S.size (grownCap w S.size 0 5) _ l.length (u8s l) (by rw [hz1]; exact hsrc) hroom hc hf
    have hb : Below w.heap.size w ((Lib.bytesWorld w 5 S).setCells w.heap.size (0 + S.size * i0.size) (u8s l)) := bel_setCells (Nat.le_refl _) _ _ _ b2
    have hbs : Below w.heap.size (Lib.bytesWorld w 5 S) ((Lib.bytesWorld w 5 S).setCells w.heap.size (0 + S.size * i0.size) (u8s l)) := bel_setCells (Nat.le_refl _) _ _ _ (Below.refl _ _)
    refine ⟨_, _, _, hrun, ?_, hb, hroom, hgm⟩
    have hin := World.cell?_setCells_in w.heap.size (u8s l) (0 + S.size * i0.size) (Lib.bytesWorld w 5 S) hc
    have hout := World.cell?_setCells_out w.heap.size (u8s l) (0 + S.size * i0.size) (Lib.bytesWorld w 5 S)
    rw [hz1] at hin hout hbs ⊢
    intro i hi
    refine ⟨_, rfl, by have := hbs.size; simp only; omega, ?_⟩
    rw [add_loc]
    rw [List.length_append, hsz] at hi
    by_cases h1 : i < S.size
    · rw [hout ⟨w.heap.size, i, none⟩ (fun _ _ => .inl (by simp only; omega)), Lib.bytesWorld_cell w 5 S i h1]
      have eg : (S.data.toList ++ l).getD i 0 = S.data.toList.getD i 0 := by simp [List.getD_eq_getElem?_getD, List.getElem?_append, h1]
      rw [eg]
    · have h2 : i - S.size < l.length := by omega
      have := hin (i - S.size) (by rw [u8s_len]; exact h2)
      rw [show 0 + S.size * 1 + (i - S.size) = i by omega] at this
      rw [this]
      have e2 := u8s_at l (i - S.size) h2
      rw [List.getElem?_eq_getElem (by rw [u8s_len]; exact h2)] at e2
      rw [e2]
      have eg : (S.data.toList ++ l).getD i 0 = l.getD (i - S.size) 0 := by simp [List.getD_eq_getElem?_getD, List.getElem?_append, h1]
      rw [eg]
  · have hold : (Builtin.firstCells i0.size S.size (.slice (some ⟨w.heap.size, 0, none⟩) S.size (grownCap w S.size 0 5))).run Tryd.prog (Lib.bytesWorld w 5 S).drew = .ok (u8s S.data.toList).toArray (Lib.bytesWorld w 5 S).drew := by
      refine run_firstCells_some _ _ _ _ _ _ _ (by rw [u8s_len, hz1]; simp) ?_
      intro j u hu
      have hj : j < S.data.toList.length := by have := (List.getElem?_eq_some_iff.1 hu).1; rwa [u8s_len] at this
      rw [u8s_at _ j hj] at hu
      rw [add_loc]
      have := Lib.bytesWorld_cell w 5 S j (by rwa [hsz] at hj)
      rw [← hu]
      simpa using this
    have hrun := run_append_grow_src (P := Tryd.prog) (w := Lib.bytesWorld w 5 S) 25 25 ty 5 i0 _ Tryd.underlying25 hi0 hz0 (some ⟨w.heap.size, 0, none⟩) S.size (grownCap w S.size 0 5) _ hold _ l.length (u8s l) (by rw [hz1]; exact hsrc) (by omega) (by omega) (by rw [hz2]; exact growslice_fits (by omega) (by omega))
    refine ⟨_, _, _, hrun, ?_, bal b2.drew _, grownCap_ge _ _ _ _, grownCap_le_maxLen _ _ _ _ (by unfold maxLen; omega)⟩
    intro i hi
    refine ⟨_, rfl, by simp, ?_⟩
    rw [add_loc]
    have e0 : u8s S.data.toList ++ u8s l = u8s (S.data.toList ++ l) := by simp [u8s]
    have e1 := heap_alloc_new (Lib.bytesWorld w 5 S).drew (.cells ((u8s S.data.toList ++ u8s l).toArray ++ Builtin.zeroCells (Value.int .u8 0).cells (grownCap (Lib.bytesWorld w 5 S) (S.size + l.length) (grownCap w S.size 0 5) 5 - (S.size + l.length))) 5)
    have e2 : (Lib.bytesWorld w 5 S).drew.heap.size = (Lib.bytesWorld w 5 S).heap.size := rfl
    rw [e2] at e1
    simp only [World.cell?, e1]
    rw [e0, Array.getElem?_append_left (by rw [List.size_toArray, u8s_len]; exact hi)]
    rw [List.getElem?_toArray, u8s_at _ i hi]
    rfl
/-- 'append' whose run is known. -/
theorem wp_app {ops : Array Oper} {rest : List Oper} {o : Oper} {a : Act} {w : World} {Q : Exit → Act → World → Prop} (hg : o.guard = none) (s x : Operand) (t : TypeId) (hop : o.op = .call { callee := .builtin .append, args := #[s, x], argTypes := #[t, t] })
    (v u : Value) (hs : a.eval s = v) (hx : a.eval x = u) {v' : Value} {w' : World} (hrun : (Builtin.append_ #[t, t] o.type #[v, u]).run Tryd.prog w = .ok v' w') (hK : wpList Tryd.prog ops Q rest (a.put o.dst v') w') : wpList Tryd.prog ops Q (o :: rest) a w := by
  refine wpList_plain hg fun K hK' => ?_
  unfold Oper.wp
  simp [execOp, hop, resolve, invoke, builtin, hs, hx, hrun, Result.andThen]
  exact hK' _ _ hK
end Go.Proofs.YtplcabecbofjpaaDoor
