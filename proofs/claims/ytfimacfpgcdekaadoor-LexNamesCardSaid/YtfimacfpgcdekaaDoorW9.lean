/-
  Rows of bytes that a call makes for itself: append onto them from whatever slice, and the bytes of a string. Nothing is assumed.
-/
import Derived.Test.YtfimacfpgcdekaaDoorW8
import Derived.Laws.AppendOwnNone
import Derived.Lib.ConvBytes
set_option linter.unusedVariables false
namespace Go.Proofs.YtfimacfpgcdekaaDoor
open Go.RowKit

theorem Rd.nil_of_none {w : World} {B : Nat} {l : List UInt8} (h : Rd w B none l) : l = [] := by
  rcases l with _ | ⟨x, l⟩
  · rfl
  · obtain ⟨ad, e, _⟩ := h 0 (by simp); cases e
theorem wpList_app {w : World} {ops : Array Oper} {rest : List Oper} {o : Oper} {a : Act} {Q : Exit → Act → World → Prop} (hgd : o.guard = none) (s x : Operand)
    (ho : o.op = .call { callee := .builtin .append, args := #[s, x], argTypes := #[22, 22] })
    (base : Nat) (v : Value) (l : List UInt8) (hs : a.eval s = v) (hown : Own w base v l) (B : Nat) (A : Option Addr) (m c : Nat) (r : List UInt8) (hx : a.eval x = .slice A m c) (hm : m = r.length) (hr : Rd w B A r) (hA : A = none → c = 0)
    (hsz : l.length + r.length ≤ 1048576) (hbase : base ≤ w.heap.size)
    (h : ∀ v' w', Own w' base v' (l ++ r) → w.grownBy w' v.ownBlock → wpList Tryd.prog ops Q rest (a.put o.dst v') w') : wpList Tryd.prog ops Q (o :: rest) a w := by
  subst hm
  obtain ⟨i0, hi0, hz0, hz1, hz2⟩ := info_parts u8_info
  rcases A with _ | ad
  · have := hr.nil_of_none
    subst this
    have := hA rfl
    subst this
    refine wpList_append_own_none hgd s x 22 ho base 5 i0 1 Tryd.underlying22 hi0 v l.length (l.map bv) hs hown hx ?_
    exact h v w (by rw [List.append_nil]; exact hown) (World.grownBy.refl w _)
  · refine wpList_append_own w hgd s x 22 ho base 5 i0 (.int .u8 0) 1 1 Tryd.underlying22 hi0 hz0 hz1 hz2 rfl (by omega) v l.length (l.map bv) hs hown ad r.length c (r.map bv) hx (by simp) ?_ ?_ (by unfold maxLen; omega) (by omega) hbase ?_
    · intro j u hj
      simp only [List.getElem?_map, Option.map_eq_some_iff] at hj
      obtain ⟨b, hb, rfl⟩ := hj
      obtain ⟨hjl, hb'⟩ := List.getElem?_eq_some_iff.1 hb
      obtain ⟨ad', e, _, hc⟩ := hr j hjl
      injection e with e; subst e
      rw [hc]
      simp [bv, List.getD_eq_getElem?_getD, hb]
    · intro u hu
      simp only [List.mem_map] at hu
      obtain ⟨b, _, rfl⟩ := hu
      rfl
    · intro v' w' hown' hg _
      refine h v' w' ?_ hg
      unfold Own
      simpa using hown'
/-- The empty row of a literal. -/
theorem Own.lit0 (w : World) (base : Nat) (hb : base ≤ w.heap.size) : Own (w.alloc (.cells #[] 5)) base (.slice (some ⟨w.heap.size, 0, none⟩) 0 0) [] := by
  have := World.ownsRow_lit (base := base) (e := 5) (size := 1) w #[] 0 hb (by unfold maxLen; omega) rfl
  exact this
theorem Own.old {w w' : World} {base : Nat} {v : Value} {l : List UInt8} (h : Own w base v l) (hg : w.grownBy w' none) : Own w' base v l := by
  refine World.ownsRow.kept h hg ?_
  cases hv : v.ownBlock with
  | none => exact .inl rfl
  | some k => exact .inr (by simp)
/-- '[]byte(s)'. -/
theorem bytes_run (w : World) (s : ByteArray) : ∃ c w', (convert 9 22 (.string s)).run Tryd.prog w = .ok (.slice (some ⟨w.heap.size, 0, none⟩) s.size c) w' ∧ Rd w' (w.heap.size + 1) (some ⟨w.heap.size, 0, none⟩) s.data.toList ∧ w.grownBy w' none ∧ w'.heap.size = w.heap.size + 1 := by
  refine ⟨_, _, Lib.run_convert_string_bytes (P := Tryd.prog) w 9 22 5 s Tryd.underlying9 Tryd.underlying22 Tryd.underlying5, ?_, ?_, Lib.bytesWorld_size w 5 s⟩
  · intro i hi
    refine ⟨_, rfl, by simp, ?_⟩
    have e : (⟨w.heap.size, 0, none⟩ : Addr).add i = ⟨w.heap.size, i, none⟩ := by unfold Addr.add; split <;> simp_all
    rw [e]
    exact Lib.bytesWorld_cell w 5 s i hi
  · refine ⟨rfl, rfl, rfl, by rw [Lib.bytesWorld_size]; omega, fun k hk _ => Lib.bytesWorld_at_old w 5 s k hk⟩
end Go.Proofs.YtfimacfpgcdekaaDoor
