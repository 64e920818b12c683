/-
  The map of closures that vec.unary makes, over the translated program. Nothing is assumed.
-/
import Derived.Test.YtnnoflohekmnbaaProg
import Derived.WalkKit
import Derived.WalkSpells
import Derived.WalkLawsBesides
import Derived.LoopN
import Derived.IntWalk
import Derived.Lib.Hide
import Derived.Test.YtnnoflohekmnbaaB13
import Derived.Maps.Own
import Derived.Laws.BitsAllLaws
import Derived.Laws.Externs
import Derived.BigQuiet
import Derived.BigRegion
import Derived.Deep.QuietTactic
import Derived.Deep.RegionWith
import Derived.Deep.RegionHeld3
import Derived.StillTailTactics
import Derived.RegionTactic
import Derived.ChangeAlike
set_option linter.unusedVariables false
namespace Go.Proofs.Ytnnoflohekmnbaa
open Go.RowKit
/-- The map at block r has just these keys and values, in the order in which they came. -/
def MapIs (w : World) (r : Nat) (l : List (ByteArray × Value)) : Prop :=
  ∃ es clock, w.heap[r]? = some (.map es clock) ∧ es.toList.map (fun e => (e.key, e.val)) = l.map (fun p => (Value.string p.1, p.2))
theorem MapIs.made (w : World) : MapIs (w.alloc (.map #[] 0)) w.heap.size [] := ⟨#[], 0, (MapKept.heap_alloc w _).1, rfl⟩
theorem MapIs.lt {w : World} {r : Nat} {l : List (ByteArray × Value)} (h : MapIs w r l) : r < w.heap.size := by
  obtain ⟨es, clock, hb, _⟩ := h
  exact (Array.getElem?_eq_some_iff.1 hb).1
theorem MapIs.below {w w' : World} {B r : Nat} {l : List (ByteArray × Value)} (h : MapIs w r l) (hb : Below B w w') (hr : r < B) : MapIs w' r l := by
  obtain ⟨es, clock, h1, h2⟩ := h
  exact ⟨es, clock, (hb.block r hr).trans h1, h2⟩
theorem MapIs.nx {w w' : World} {r : Nat} {l : List (ByteArray × Value)} (h : MapIs w r l) (hb : Below w.heap.size w w') : MapIs w' r l := h.below hb h.lt
theorem find_none {k : ByteArray} : ∀ (es : List MapEntry) (l : List (ByteArray × Value)) (i : Nat), es.map (fun e => (e.key, e.val)) = l.map (fun p => (Value.string p.1, p.2)) → l.find? (fun p => k == p.1) = none → Instr.findNow .string (.string k) es i = some none
  | [], _, _, _, _ => rfl
  | e :: es, [], _, h, _ => by simp at h
  | e :: es, p :: l, i, h, hf => by
    simp only [List.map_cons, List.cons.injEq, Prod.mk.injEq] at h
    obtain ⟨⟨h1, h2⟩, h3⟩ := h
    rw [List.find?_cons] at hf
    have hk : (k == p.1) = false := by cases hh : (k == p.1) with | true => rw [hh] at hf; simp at hf | false => rfl
    rw [hk] at hf
    unfold Instr.findNow
    rw [h1]
    simp only [Instr.sameNow, hk]
    exact find_none es l (i + 1) h3 hf
theorem find_some {k : ByteArray} {q : ByteArray × Value} : ∀ (es : List MapEntry) (l : List (ByteArray × Value)) (i : Nat), es.map (fun e => (e.key, e.val)) = l.map (fun p => (Value.string p.1, p.2)) → l.find? (fun p => k == p.1) = some q → ∃ j, Instr.findNow .string (.string k) es i = some (some (j, q.2))
  | [], [], _, _, hf => by simp at hf
  | [], _ :: _, _, h, _ => by simp at h
  | e :: es, [], _, h, _ => by simp at h
  | e :: es, p :: l, i, h, hf => by
    simp only [List.map_cons, List.cons.injEq, Prod.mk.injEq] at h
    obtain ⟨⟨h1, h2⟩, h3⟩ := h
    rw [List.find?_cons] at hf
    unfold Instr.findNow
    rw [h1]
    cases hk : (k == p.1) with
    | true =>
      rw [hk] at hf
      simp only [Option.some.injEq] at hf
      subst hf
      simp only [Instr.sameNow, hk]
      exact ⟨i, by rw [h2]⟩
    | false =>
      rw [hk] at hf
      simp only [Instr.sameNow, hk]
      exact find_some es l (i + 1) h3 hf
theorem isKey_string (k : ByteArray) : MapKept.IsKey .string (.string k) := by simp [MapKept.IsKey]
theorem run_put {w : World} {r : Nat} {l : List (ByteArray × Value)} (t e : TypeId) (ht : Try.prog.underlying t = some (.map 9 e)) (h : MapIs w r l) (k : ByteArray) (v : Value) (hk : l.find? (fun p => k == p.1) = none) :
    ∃ w', (Instr.mapUpdate t (.map (some r)) (.string k) v).run Try.prog w = .ok () w' ∧ MapIs w' r (l ++ [(k, v)]) ∧ w.grownBy w' (some r) := by
  obtain ⟨es, clock, hb, he⟩ := h
  have hs := MapKept.heap_set (o' := Obj.map (es.push { key := .string k, val := v, born := clock }) (clock + 1)) hb
  refine ⟨{ w with heap := w.heap.setIfInBounds r (.map (es.push { key := .string k, val := v, born := clock }) (clock + 1)) }, ?_, ⟨_, _, hs.1, ?_⟩, ⟨rfl, rfl, rfl, by simp, fun i _ hi => hs.2 i (fun e => hi (by rw [e]))⟩⟩
  · simp [Instr.mapUpdate, run_underlying ht, MapKept.run_getObj_map hb, MapKept.run_checkKey (P := Try.prog) Try.underlying9 (isKey_string k) false 9999, MapKept.run_findKey (P := Try.prog) Try.underlying9 (find_none es.toList l 0 he hk), MapKept.run_setObj_map _ hb, Result.andThen]
  · simp only [Array.toList_push, List.map_append, he, List.map_cons, List.map_nil]
theorem run_get {w : World} {r : Nat} {l : List (ByteArray × Value)} (t e : TypeId) (ht : Try.prog.underlying t = some (.map 9 e)) (h : MapIs w r l) (k : ByteArray) (q : ByteArray × Value) (hk : l.find? (fun p => k == p.1) = some q) :
    (Instr.lookup t (.map (some r)) (.string k) true).run Try.prog w = .ok (.tuple #[q.2, .bool true]) w := by
  obtain ⟨es, clock, hb, he⟩ := h
  obtain ⟨j, hj⟩ := find_some es.toList l 0 he hk
  simp [Instr.lookup, run_underlying ht, MapKept.run_getObj_map hb, MapKept.run_checkKey (P := Try.prog) Try.underlying9 (isKey_string k) _ 9999, MapKept.run_findKey (P := Try.prog) Try.underlying9 hj, Result.andThen]
theorem run_lost {w : World} {r : Nat} {l : List (ByteArray × Value)} (t e : TypeId) (ht : Try.prog.underlying t = some (.map 9 e)) (hz : ∀ wx, (zeroValue e).run Try.prog wx = .ok .nilFunc wx) (h : MapIs w r l) (k : ByteArray) (hk : l.find? (fun p => k == p.1) = none) :
    (Instr.lookup t (.map (some r)) (.string k) true).run Try.prog w = .ok (.tuple #[.nilFunc, .bool false]) w := by
  obtain ⟨es, clock, hb, he⟩ := h
  simp [Instr.lookup, run_underlying ht, MapKept.run_getObj_map hb, MapKept.run_checkKey (P := Try.prog) Try.underlying9 (isKey_string k) _ 9999, MapKept.run_findKey (P := Try.prog) Try.underlying9 (find_none es.toList l 0 he hk), Result.andThen, hz]
/-- A key of a map's literal. -/
theorem wpList_put {w : World} {ops : Array Oper} {rest : List Oper} {o : Oper} {a : Act} {Q : Exit → Act → World → Prop}
    (hg : o.guard = none) (m x v : Operand) (t e : TypeId) (hop : o.op = Op.insert t m x v) (ht : Try.prog.underlying t = some (.map 9 e)) (r : Nat) (l : List (ByteArray × Value)) (h : MapIs w r l) (k : ByteArray) (val : Value)
    (hm : a.eval m = .map (some r)) (hx : a.eval x = .string k) (hv : a.eval v = val) (hk : l.find? (fun p => k == p.1) = none)
    (hK : ∀ w', MapIs w' r (l ++ [(k, val)]) → w.grownBy w' (some r) → wpList Try.prog ops Q rest (a.put o.dst undef) w') : wpList Try.prog ops Q (o :: rest) a w := by
  refine wpList_plain hg fun K' hK' => ?_
  obtain ⟨w', hrun, r1, r2⟩ := run_put t e ht h k val hk
  unfold Oper.wp
  simp [execOp, hop, hm, hx, hv, hrun, Result.andThen]
  exact hK' _ _ (hK w' r1 r2)
set_option maxHeartbeats 400000 in
theorem ofOne_made (f : Nat) (w : World) : Calls Try.prog 57 #[.func (.func f) #[] #[]] w fun e w' => e = .returned (.func (.func 88) #[] #[.pointer (some ⟨w.heap.size, 0, none⟩)]) ∧ w' = w.alloc (.cells #[.func (.func f) #[] #[]] 95) := by
  have hmf : ∀ (fn : Fn) (first cap : Array Value) (wx : World), (Instr.makeFunc fn first cap).run Try.prog wx = .ok (.func fn first cap) wx := fun _ _ _ _ => rfl
  go_enter Try.func57, Try.ntmps57
  go_wp2
  go_ret
  exact ⟨rfl, rfl⟩
set_option maxHeartbeats 400000 in
theorem ofTwo_made (f : Nat) (w : World) : Calls Try.prog 68 #[.func (.func f) #[] #[]] w fun e w' => e = .returned (.func (.func 92) #[] #[.pointer (some ⟨w.heap.size, 0, none⟩)]) ∧ w' = w.alloc (.cells #[.func (.func f) #[] #[]] 94) := by
  have hmf : ∀ (fn : Fn) (first cap : Array Value) (wx : World), (Instr.makeFunc fn first cap).run Try.prog wx = .ok (.func fn first cap) wx := fun _ _ _ _ => rfl
  go_enter Try.func68, Try.ntmps68
  go_wp2
  go_ret
  exact ⟨rfl, rfl⟩
set_option maxHeartbeats 400000 in
theorem shifted_made (f : Nat) (w : World) : Calls Try.prog 74 #[.func (.func f) #[] #[]] w fun e w' => e = .returned (.func (.func 95) #[] #[.pointer (some ⟨w.heap.size, 0, none⟩)]) ∧ w' = w.alloc (.cells #[.func (.func f) #[] #[]] 92) := by
  have hmf : ∀ (fn : Fn) (first cap : Array Value) (wx : World), (Instr.makeFunc fn first cap).run Try.prog wx = .ok (.func fn first cap) wx := fun _ _ _ _ => rfl
  go_enter Try.func74, Try.ntmps74
  go_wp2
  go_ret
  exact ⟨rfl, rfl⟩
/-- A closure of function c, over a variable that holds function f. -/
def Ent (w : World) (v : Value) (c f : Nat) : Prop := ∃ g, v = .func (.func c) #[] #[.pointer (some ⟨g, 0, none⟩)] ∧ w.cell? ⟨g, 0, none⟩ = some (.func (.func f) #[] #[])
def Ents (w : World) (L : List (Value × Nat × Nat)) : Prop := ∀ x ∈ L, Ent w x.1 x.2.1 x.2.2
theorem Ent.nx {w w' : World} {v : Value} {c f : Nat} (h : Ent w v c f) (hb : Below w.heap.size w w') : Ent w' v c f := by
  obtain ⟨g, e, hc⟩ := h
  exact ⟨g, e, (hb.cell (World.block_lt_of_cell? w _ hc)).trans hc⟩
theorem Ents.nx {w w' : World} {L : List (Value × Nat × Nat)} (h : Ents w L) (hb : Below w.heap.size w w') : Ents w' L := fun x hx => (h x hx).nx hb
theorem Ents.put {w w' : World} {r : Nat} {l : List (ByteArray × Value)} {L : List (Value × Nat × Nat)} (h : Ents w L) (hM : MapIs w r l) (hg : w.grownBy w' (some r)) : Ents w' L := by
  intro x hx
  obtain ⟨g, e, hc⟩ := h x hx
  refine ⟨g, e, hg.cell hc ?_⟩
  obtain ⟨es, clock, hb, _⟩ := hM
  intro hh
  simp only [Option.some.injEq] at hh
  subst hh
  simp [World.cell?, hb] at hc
theorem Ents.made {w : World} {L : List (Value × Nat × Nat)} (h : Ents w L) (c f : Nat) (t : TypeId) : Ents (w.alloc (.cells #[.func (.func f) #[] #[]] t)) ((.func (.func c) #[] #[.pointer (some ⟨w.heap.size, 0, none⟩)], c, f) :: L) := by
  intro x hx
  rcases List.mem_cons.1 hx with rfl | hx
  · exact ⟨w.heap.size, rfl, by go_simp⟩
  · exact (h x hx).nx (bal (Below.refl _ _) _)
/-- What vec.unary makes. -/
def RetUn (w0 : World) (e : Ending) (w' : World) : Prop := ∃ r v0 v1 v2 v3, e = .returned (.map (some r)) ∧ MapIs w' r [(⟨#[110, 111, 116]⟩, v0), (⟨#[105, 110, 99]⟩, v1), (⟨#[100, 101, 99]⟩, v2), (⟨#[110, 101, 103]⟩, v3), (⟨#[114, 101, 100, 97, 110, 100]⟩, .func (.func 63) #[] #[]), (⟨#[114, 101, 100, 111, 114]⟩, .func (.func 65) #[] #[]), (⟨#[114, 101, 100, 120, 111, 114]⟩, .func (.func 66) #[] #[])] ∧ Ents w' [(v3, 88, 62), (v2, 88, 60), (v1, 88, 58), (v0, 88, 55)] ∧ w0.heap.size ≤ r ∧ Below w0.heap.size w0 w'
set_option maxRecDepth 100000 in
set_option maxHeartbeats 2000000 in
theorem unary_any (w : World) : Calls Try.prog 40 #[] w (RetUn w) := by
  have hmm := @run_makeMap Try.prog
  have hM : MapIs (w.alloc (.map #[] 0)) w.heap.size [] := MapIs.made w
  have hE : Ents (w.alloc (.map #[] 0)) [] := fun x hx => by cases hx
  have hB : Below w.heap.size w (w.alloc (.map #[] 0)) := bal (Below.refl _ _) _
  go_enter Try.func40, Try.ntmps40
  go_wp2_with fail
  refine (ofOne_made 55 _).mono ?_
  rintro e w0a ⟨rfl, rfl⟩
  replace hM := hM.nx (bal (Below.refl _ _) (.cells #[.func (.func 55) #[] #[]] 95))
  replace hE := hE.made 88 55 95
  replace hB := bal hB (.cells #[.func (.func 55) #[] #[]] 95)
  rw [show (w.alloc (Obj.map #[] 0)).heap.size = w.heap.size + 1 by simp] at hE
  go_wp2_with (refine wpList_put rfl _ _ _ 75 73 rfl Try.underlying75 w.heap.size _ hM _ _ rfl rfl rfl (by rfl) ?_)
  intro w0 hM0 hg
  replace hE := hE.put hM hg
  replace hB := hB.grown hg hB.size (fun k hk => by cases hk; exact Nat.le_refl _)
  clear hg hM
  have hM := hM0
  clear hM0
  go_wp2_with fail
  refine (ofOne_made 58 _).mono ?_
  rintro e w1a ⟨rfl, rfl⟩
  replace hM := hM.nx (bal (Below.refl _ _) (.cells #[.func (.func 58) #[] #[]] 95))
  replace hE := hE.made 88 58 95
  replace hB := bal hB (.cells #[.func (.func 58) #[] #[]] 95)
  go_wp2_with (refine wpList_put rfl _ _ _ 75 73 rfl Try.underlying75 w.heap.size _ hM _ _ rfl rfl rfl (by rfl) ?_)
  intro w1 hM1 hg
  replace hE := hE.put hM hg
  replace hB := hB.grown hg hB.size (fun k hk => by cases hk; exact Nat.le_refl _)
  clear hg hM
  have hM := hM1
  clear hM1
  go_wp2_with fail
  refine (ofOne_made 60 _).mono ?_
  rintro e w2a ⟨rfl, rfl⟩
  replace hM := hM.nx (bal (Below.refl _ _) (.cells #[.func (.func 60) #[] #[]] 95))
  replace hE := hE.made 88 60 95
  replace hB := bal hB (.cells #[.func (.func 60) #[] #[]] 95)
  go_wp2_with (refine wpList_put rfl _ _ _ 75 73 rfl Try.underlying75 w.heap.size _ hM _ _ rfl rfl rfl (by rfl) ?_)
  intro w2 hM2 hg
  replace hE := hE.put hM hg
  replace hB := hB.grown hg hB.size (fun k hk => by cases hk; exact Nat.le_refl _)
  clear hg hM
  have hM := hM2
  clear hM2
  go_wp2_with fail
  refine (ofOne_made 62 _).mono ?_
  rintro e w3a ⟨rfl, rfl⟩
  replace hM := hM.nx (bal (Below.refl _ _) (.cells #[.func (.func 62) #[] #[]] 95))
  replace hE := hE.made 88 62 95
  replace hB := bal hB (.cells #[.func (.func 62) #[] #[]] 95)
  go_wp2_with (refine wpList_put rfl _ _ _ 75 73 rfl Try.underlying75 w.heap.size _ hM _ _ rfl rfl rfl (by rfl) ?_)
  intro w3 hM3 hg
  replace hE := hE.put hM hg
  replace hB := hB.grown hg hB.size (fun k hk => by cases hk; exact Nat.le_refl _)
  clear hg hM
  have hM := hM3
  clear hM3
  go_wp2_with (refine wpList_put rfl _ _ _ 75 73 rfl Try.underlying75 w.heap.size _ hM _ _ rfl rfl rfl (by rfl) ?_)
  intro w4 hM4 hg
  replace hE := hE.put hM hg
  replace hB := hB.grown hg hB.size (fun k hk => by cases hk; exact Nat.le_refl _)
  clear hg hM
  have hM := hM4
  clear hM4
  go_wp2_with (refine wpList_put rfl _ _ _ 75 73 rfl Try.underlying75 w.heap.size _ hM _ _ rfl rfl rfl (by rfl) ?_)
  intro w5 hM5 hg
  replace hE := hE.put hM hg
  replace hB := hB.grown hg hB.size (fun k hk => by cases hk; exact Nat.le_refl _)
  clear hg hM
  have hM := hM5
  clear hM5
  go_wp2_with (refine wpList_put rfl _ _ _ 75 73 rfl Try.underlying75 w.heap.size _ hM _ _ rfl rfl rfl (by rfl) ?_)
  intro w6 hM6 hg
  replace hE := hE.put hM hg
  replace hB := hB.grown hg hB.size (fun k hk => by cases hk; exact Nat.le_refl _)
  clear hg hM
  have hM := hM6
  clear hM6
  go_wp2
  go_ret
  exact ⟨w.heap.size, _, _, _, _, rfl, hM, hE, Nat.le_refl _, hB⟩
end Go.Proofs.Ytnnoflohekmnbaa
