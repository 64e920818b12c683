/-
  The readers of package cnf over the translated program.
  line.Clause over the translated program.
-/
import Derived.Test.YtahedhpffjgimaaDoorProg
import Derived.WalkKit
import Derived.WalkSpells
import Derived.WalkLawsBesides
import Derived.Lib.Hide
import Derived.BigQuiet
import Derived.Deep.QuietTactic
import Derived.Deep.RegionWith
import Derived.Deep.RegionHeld3
import Derived.Test.YtahedhpffjgimaaDoorQ03
import Derived.Laws.AppendOwnNone
set_option linter.unusedVariables false
/- The readers of package cnf over the translated program. -/
namespace Go.Proofs.YtahedhpffjgimaaDoor
open Go.RowKit
/-- Behind a word: the place and the error. -/
def behS (l : List UInt8) (k : Nat) (s : ByteArray) : Nat := if isB l k s then k + s.size else k
def behE (l : List UInt8) (k : Nat) (s : ByteArray) : Int := if isB l k s then 0 else 2
theorem behS_le {l : List UInt8} {k : Nat} {s : ByteArray} (h : k ≤ l.length) : behS l k s ≤ l.length := by
  unfold behS; split
  · rename_i hb; have := isB_len hb; omega
  · exact h
set_option maxHeartbeats 400000 in
theorem behind_yes (A : Option Addr) (c k : Nat) (l : List UInt8) (s : ByteArray) (B : Nat) (w : World) (h : Rd w B A l) (hk : k ≤ l.length) (hn : l.length ≤ c) (hc : c ≤ maxLen) (hb : isB l k s = true) :
    Calls Tryd.prog 60 #[.slice A l.length c, .int .i64 k, .string s] w (RetS w (.tuple #[.int .i64 ((k + s.size : Nat) : Int), .int .i64 0])) := by
  have C := Is_yes A c k l s B w h hk hn hc hb
  rw [← Int.natCast_add] at C
  generalize k + s.size = K at *
  clear h hb
  go_enter Tryd.func60, Tryd.ntmps60
  go_wp2_with fail
  refine C.mono ?_; rintro e w' ⟨rfl, rfl⟩
  go_wp2
  go_ret2
  exact ⟨rfl, rfl⟩
set_option maxHeartbeats 400000 in
theorem behind_no (A : Option Addr) (c k : Nat) (l : List UInt8) (s : ByteArray) (B : Nat) (w : World) (h : Rd w B A l) (hk : k ≤ l.length) (hn : l.length ≤ c) (hc : c ≤ maxLen) (hs : s.size ≤ maxLen) (hb : isB l k s = false) :
    Calls Tryd.prog 60 #[.slice A l.length c, .int .i64 k, .string s] w (RetS w (.tuple #[.int .i64 (k : Int), .int .i64 2])) := by
  have C := Is_no A c k l s B w h hk hn hc hs hb
  clear h hb
  go_enter Tryd.func60, Tryd.ntmps60
  go_wp2_with fail
  refine C.mono ?_; rintro e w' ⟨rfl, rfl⟩
  go_wp2
  go_ret2
  exact ⟨rfl, rfl⟩
theorem behind_any (A : Option Addr) (c k : Nat) (l : List UInt8) (s : ByteArray) (B : Nat) (w : World) (h : Rd w B A l) (hk : k ≤ l.length) (hn : l.length ≤ c) (hc : c ≤ maxLen) (hs : s.size ≤ maxLen) :
    Calls Tryd.prog 60 #[.slice A l.length c, .int .i64 k, .string s] w (RetS w (.tuple #[.int .i64 ((behS l k s : Nat) : Int), .int .i64 (behE l k s)])) := by
  unfold behS behE
  cases hb : isB l k s
  · exact behind_no A c k l s B w h hk hn hc hs hb
  · exact behind_yes A c k l s B w h hk hn hc hb
/-- Does a word stand at the head of t? -/
def bS (t s : List UInt8) : Bool := t.take s.length == s
theorem isB_bS (l : List UInt8) (k : Nat) (s : ByteArray) : isB l k s = bS (l.drop k) s.data.toList := by
  unfold isB bS; rw [Array.length_toList]; rfl
theorem bS_len {t s : List UInt8} (h : bS t s = true) : s.length ≤ t.length := by
  have e := congrArg List.length (beq_iff_eq.1 h)
  simp only [List.length_take] at e; omega
/-- The first line of a text: variables, clauses, how far, what is wrong. -/
def headW : List UInt8 := [112, 32, 99, 110, 102, 32]
def rdHead (t : List UInt8) : Int × Int × Nat × Int :=
  if bS t headW = false then (0, 0, 0, 2)
  else if (numberS (t.drop 6) 100000).2.2 ≠ 0 then (0, 0, 6, (numberS (t.drop 6) 100000).2.2)
  else if bS (t.drop (6 + (numberS (t.drop 6) 100000).2.1)) [32] = false then ((numberS (t.drop 6) 100000).1, 0, 6 + (numberS (t.drop 6) 100000).2.1, 2)
  else if (numberS (t.drop (6 + (numberS (t.drop 6) 100000).2.1 + 1)) 20000).2.2 ≠ 0 then ((numberS (t.drop 6) 100000).1, 0, 6 + (numberS (t.drop 6) 100000).2.1 + 1, (numberS (t.drop (6 + (numberS (t.drop 6) 100000).2.1 + 1)) 20000).2.2)
  else if bS (t.drop (6 + (numberS (t.drop 6) 100000).2.1 + 1 + (numberS (t.drop (6 + (numberS (t.drop 6) 100000).2.1 + 1)) 20000).2.1)) [10] = false then ((numberS (t.drop 6) 100000).1, (numberS (t.drop (6 + (numberS (t.drop 6) 100000).2.1 + 1)) 20000).1, 6 + (numberS (t.drop 6) 100000).2.1 + 1 + (numberS (t.drop (6 + (numberS (t.drop 6) 100000).2.1 + 1)) 20000).2.1, 2)
  else ((numberS (t.drop 6) 100000).1, (numberS (t.drop (6 + (numberS (t.drop 6) 100000).2.1 + 1)) 20000).1, 6 + (numberS (t.drop 6) 100000).2.1 + 1 + (numberS (t.drop (6 + (numberS (t.drop 6) 100000).2.1 + 1)) 20000).2.1 + 1, 0)
theorem numberS_err {t : List UInt8} {most : Int} (h : (numberS t most).2.2 ≠ 0) : (numberS t most).1 = 0 ∧ (numberS t most).2.1 = 0 := by
  unfold numberS at *
  split
  · exact ⟨rfl, rfl⟩
  · split
    · exact ⟨rfl, rfl⟩
    · rename_i h1 h2; simp [h1, h2] at h
/-- What a call tells that reads a first line. -/
def resH (r : Int × Int × Nat × Int) : Value := .tuple #[.int .i64 r.1, .int .i64 r.2.1, .int .i64 ((r.2.2.1 : Nat) : Int), .int .i64 r.2.2.2]
theorem retH {w : World} {a b d : Int} {k : Nat} : RetS w (resH (a, b, k, d)) (.returned (.tuple #[.int .i64 a, .int .i64 b, .int .i64 ((k : Nat) : Int), .int .i64 d])) w := ⟨rfl, rfl⟩
set_option maxHeartbeats 2000000 in
theorem readHead_any (A : Option Addr) (c : Nat) (l : List UInt8) (B : Nat) (w : World) (h : Rd w B A l) (hn : l.length ≤ c) (hc : c ≤ maxLen) :
    Calls Tryd.prog 58 #[.slice A l.length c] w (RetS w (resH (rdHead l))) := by
  have hc' := hc
  unfold maxLen at hc'
  have c1y := behind_yes A c 0 l ⟨#[112, 32, 99, 110, 102, 32]⟩ B w h (by omega) hn hc
  have c1n := behind_no A c 0 l ⟨#[112, 32, 99, 110, 102, 32]⟩ B w h (by omega) hn hc (by decide)
  rw [isB_bS, List.drop_zero] at c1y c1n
  unfold rdHead
  cases h1 : bS l headW
  · have C1 := c1n h1
    rw [if_pos rfl]
    clear c1y c1n h h1
    go_enter Tryd.func58, Tryd.ntmps58
    go_wp2_with fail
    refine C1.mono ?_; rintro e w' ⟨rfl, rfl⟩
    go_wp2
    exact bodyPost_ret (by simp [results, Tryd.results58, go_sem]) rfl retH
  · have C1 : Calls Tryd.prog 60 #[.slice A l.length c, .int .i64 0, .string ⟨#[112, 32, 99, 110, 102, 32]⟩] w (RetS w (.tuple #[.int .i64 6, .int .i64 0])) := c1y h1
    have hl6 : 6 ≤ l.length := bS_len h1
    rw [if_neg (by simp)]
    clear c1y c1n h1
    have c2 := Number_any A c 6 100000 l B w h hl6 hn hc
    have herr := @numberS_err (l.drop 6) 100000
    have hbd := numberS_bd (l.drop 6) 100000
    have hlen := numberS_len (l.drop 6) 100000
    rw [List.length_drop] at hlen
    obtain ⟨⟨n, m, e⟩, hr⟩ : ∃ r, numberS (l.drop 6) 100000 = r := ⟨_, rfl⟩
    rw [hr] at c2 herr hbd hlen ⊢
    clear hr
    simp only at herr hbd hlen ⊢
    obtain ⟨n0, n1, _, _⟩ := hbd
    unfold res3 at c2
    simp only at c2
    by_cases he : e = 0
    · subst he
      rw [if_neg (by simp)]
      obtain ⟨K1, hK1⟩ : ∃ K, 6 + m = K := ⟨_, rfl⟩
      rw [hK1] at c2 ⊢
      have hk1 : K1 ≤ l.length := by omega
      have c3y := behind_yes A c K1 l ⟨#[32]⟩ B w h hk1 hn hc
      have c3n := behind_no A c K1 l ⟨#[32]⟩ B w h hk1 hn hc (by decide)
      rw [isB_bS] at c3y c3n
      clear hK1 herr hlen
      cases h3 : bS (l.drop K1) [32]
      · have C3 := c3n h3
        rw [if_pos rfl]
        clear c3y c3n h h3
        go_enter Tryd.func58, Tryd.ntmps58
        go_wp2_with fail
        refine C1.mono ?_; rintro e w' ⟨rfl, rfl⟩
        go_wp2_with fail
        refine c2.mono ?_; rintro e w' ⟨rfl, rfl⟩
        go_wp2_with fail
        refine C3.mono ?_; rintro e w' ⟨rfl, rfl⟩
        go_wp2
        exact bodyPost_ret (by simp [results, Tryd.results58, go_sem]) rfl retH
      · have C3 := c3y h3
        rw [if_neg (by simp)]
        have hk1' : K1 + 1 ≤ l.length := by have := bS_len h3; simp at this; omega
        have ez : K1 + (⟨#[32]⟩ : ByteArray).size = K1 + 1 := rfl
        rw [ez] at C3
        obtain ⟨K2, hK2⟩ : ∃ K, K1 + 1 = K := ⟨_, rfl⟩
        rw [hK2] at C3 hk1' ⊢
        clear c3y c3n h3 hK2 ez
        have c4 := Number_any A c K2 20000 l B w h hk1' hn hc
        have herr := @numberS_err (l.drop K2) 20000
        have hbd := numberS_bd (l.drop K2) 20000
        have hlen := numberS_len (l.drop K2) 20000
        rw [List.length_drop] at hlen
        obtain ⟨⟨n', m', e'⟩, hr⟩ : ∃ r, numberS (l.drop K2) 20000 = r := ⟨_, rfl⟩
        rw [hr] at c4 herr hbd hlen ⊢
        clear hr
        simp only at herr hbd hlen ⊢
        obtain ⟨n0', n1', _, _⟩ := hbd
        unfold res3 at c4
        simp only at c4
        by_cases he' : e' = 0
        · subst he'
          rw [if_neg (by simp)]
          obtain ⟨K3, hK3⟩ : ∃ K, K2 + m' = K := ⟨_, rfl⟩
          rw [hK3] at c4 ⊢
          have hk3 : K3 ≤ l.length := by omega
          have c5y := behind_yes A c K3 l ⟨#[10]⟩ B w h hk3 hn hc
          have c5n := behind_no A c K3 l ⟨#[10]⟩ B w h hk3 hn hc (by decide)
          rw [isB_bS] at c5y c5n
          have ez : K3 + (⟨#[10]⟩ : ByteArray).size = K3 + 1 := rfl
          rw [ez] at c5y
          clear hK3 herr hlen ez
          cases h5 : bS (l.drop K3) [10]
          · have C5 := c5n h5
            rw [if_pos rfl]
            clear c5y c5n h h5
            go_enter Tryd.func58, Tryd.ntmps58
            go_wp2_with fail
            refine C1.mono ?_; rintro e w' ⟨rfl, rfl⟩
            go_wp2_with fail
            refine c2.mono ?_; rintro e w' ⟨rfl, rfl⟩
            go_wp2_with fail
            refine C3.mono ?_; rintro e w' ⟨rfl, rfl⟩
            go_wp2_with fail
            refine c4.mono ?_; rintro e w' ⟨rfl, rfl⟩
            go_wp2_with fail
            refine C5.mono ?_; rintro e w' ⟨rfl, rfl⟩
            go_wp2
            exact bodyPost_ret (by simp [results, Tryd.results58, go_sem]) rfl retH
          · have C5 := c5y h5
            rw [if_neg (by simp)]
            obtain ⟨K4, hK4⟩ : ∃ K, K3 + 1 = K := ⟨_, rfl⟩
            rw [hK4] at C5 ⊢
            clear c5y c5n h h5 hK4
            go_enter Tryd.func58, Tryd.ntmps58
            go_wp2_with fail
            refine C1.mono ?_; rintro e w' ⟨rfl, rfl⟩
            go_wp2_with fail
            refine c2.mono ?_; rintro e w' ⟨rfl, rfl⟩
            go_wp2_with fail
            refine C3.mono ?_; rintro e w' ⟨rfl, rfl⟩
            go_wp2_with fail
            refine c4.mono ?_; rintro e w' ⟨rfl, rfl⟩
            go_wp2_with fail
            refine C5.mono ?_; rintro e w' ⟨rfl, rfl⟩
            go_wp2
            exact bodyPost_ret (by simp [results, Tryd.results58, go_sem]) rfl retH
        · obtain ⟨rfl, rfl⟩ := herr he'
          rw [if_pos (by simpa using he'), Nat.add_zero] at *
          have heb : (e' == 0) = false := by simp [he']
          clear h he' herr hlen
          go_enter Tryd.func58, Tryd.ntmps58
          go_wp2_with fail
          refine C1.mono ?_; rintro e w' ⟨rfl, rfl⟩
          go_wp2_with fail
          refine c2.mono ?_; rintro e w' ⟨rfl, rfl⟩
          go_wp2_with fail
          refine C3.mono ?_; rintro e w' ⟨rfl, rfl⟩
          go_wp2_with fail
          refine c4.mono ?_; rintro e w' ⟨rfl, rfl⟩
          go_wp2
          exact bodyPost_ret (by simp [results, Tryd.results58, go_sem]) rfl retH
    · obtain ⟨rfl, rfl⟩ := herr he
      rw [if_pos (by simpa using he)]
      rw [Nat.add_zero] at c2
      have heb : (e == 0) = false := by simp [he]
      clear h he herr hlen
      go_enter Tryd.func58, Tryd.ntmps58
      go_wp2_with fail
      refine C1.mono ?_; rintro e w' ⟨rfl, rfl⟩
      go_wp2_with fail
      refine c2.mono ?_; rintro e w' ⟨rfl, rfl⟩
      go_wp2
      exact bodyPost_ret (by simp [results, Tryd.results58, go_sem]) rfl retH
end Go.Proofs.YtahedhpffjgimaaDoor
/- line.Clause over the translated program. -/
namespace Go.Proofs.YtahedhpffjgimaaDoor
open Go.RowKit
theorem int_info : (Tryd.prog.info? 3).map (fun i => (i.zero, i.size, i.bytes)) = some (some (.int .i64 0), 1, 8) := by kernel_rfl
/-- A row of numbers that a call made for itself. -/
def OwnI (w : World) (base : Nat) (v : Value) (l : List Int) : Prop := w.ownsRow base 3 1 v l.length (l.map (Value.int .i64))
theorem OwnI.nil (w : World) (base : Nat) : OwnI w base (.slice none 0 0) [] := World.ownsRow_nil _ _ _ _
theorem add_loc (g i : Nat) : (⟨g, 0, none⟩ : Addr).add i = ⟨g, i, none⟩ := by unfold Addr.add; split <;> simp_all
theorem OwnI.val {w : World} {base : Nat} {v : Value} {l : List Int} (h : OwnI w base v l) : ∃ (A : Option Addr) (c : Nat), v = .slice A l.length c ∧ RI w w.heap.size A l ∧ (A = none → c = 0) ∧ l.length ≤ c ∧ c ≤ maxLen := by
  rcases h.2 with ⟨rfl, h0⟩ | ⟨g, cap, cur, rfl, hg, hh, h1, h2, h3, h4⟩
  · have : l = [] := List.eq_nil_of_length_eq_zero h0
    subst this
    exact ⟨none, 0, rfl, RI.nil _ _ _, fun _ => rfl, by simp, by unfold maxLen; omega⟩
  · refine ⟨_, cap, rfl, fun i hi => ⟨_, rfl, (World.ownsRow.lt h g rfl).2, ?_⟩, (fun e => by cases e), h1, h2⟩
    rw [add_loc, World.ownsRow.cellAt h i (by omega)]
    simp [List.getD_eq_getElem?_getD, hi]
theorem OwnI.old {w w' : World} {base : Nat} {v : Value} {l : List Int} (h : OwnI w base v l) (hb : Below w.heap.size w w') : OwnI w' base v l := by
  refine World.ownsRow.kept h (row := none) ?_ ?_
  · exact ⟨hb.os, hb.tape, hb.output, hb.size, fun k hk _ => hb.block k hk⟩
  · cases hv : v.ownBlock with
    | none => exact .inl rfl
    | some k => exact .inr (by simp)
theorem OwnI.base {w : World} {B B' : Nat} {v : Value} {l : List Int} (h : OwnI w B v l) (hB : B' ≤ B) : OwnI w B' v l := by
  unfold OwnI at *
  refine ⟨h.1, ?_⟩
  rcases h.2 with h' | ⟨g, cap, cur, hv, hg, r⟩
  · exact .inl h'
  · exact .inr ⟨g, cap, cur, hv, Nat.le_trans hB hg, r⟩
/-- 'append(s, x)'. -/
theorem wpI1 {z w : World} {ops : Array Oper} {rest : List Oper} {o : Oper} {a : Act} {Q : Exit → Act → World → Prop} (hgd : o.guard = none) (s x : Operand)
    (ho : o.op = .call { callee := .builtin .append, args := #[s, x], argTypes := #[26, 26] })
    (v : Value) (l : List Int) (hs : a.eval s = v) (hown : OwnI w z.heap.size v l) (y : Int) (hx : a.eval x = .slice (some ⟨w.heap.size, 0, none⟩) 1 1) (hb : Below z.heap.size z w)
    (hsz : l.length ≤ 100000)
    (h : ∀ v' w', OwnI w' z.heap.size v' (l ++ [y]) → Below z.heap.size z w' → wpList Tryd.prog ops Q rest (a.put o.dst v') w') : wpList Tryd.prog ops Q (o :: rest) a (w.alloc (.cells #[.int .i64 y] 3)) := by
  obtain ⟨i0, hi0, hz0, hz1, hz2⟩ := info_parts int_info
  have hbs := hb.size
  refine wpList_append_own _ hgd s x 26 ho z.heap.size 3 i0 (.int .i64 0) 1 8 Tryd.underlying26 hi0 hz0 hz1 hz2 rfl (by omega) v l.length (l.map (Value.int .i64)) hs (World.ownsRow.alloc hown _) ⟨w.heap.size, 0, none⟩ 1 1 [.int .i64 y] hx rfl (cell_one_new _ _ _) ?_ (by unfold maxLen; omega) (by omega) (by simp; omega) ?_
  · intro u hu; simp at hu; subst hu; rfl
  · intro v' w' hown' hg _
    refine h v' w' ?_ ((hb.alloc hbs _).grown hg (by simp; omega) (fun k hk => ((World.ownsRow.lt hown) k hk).1))
    unfold OwnI
    simpa using hown'
theorem signedS_len (t : List UInt8) (most : Int) : (signedS t most).2.1 ≤ t.length := by
  unfold signedS
  split
  · rename_i h1
    have hl : 1 ≤ t.length := by rcases t with _ | ⟨a, t⟩ <;> simp at h1 ⊢
    have := numberS_len (t.drop 1) most
    rw [List.length_drop] at this
    split
    · simp
    · split
      · simp only; omega
      · simp
  · exact numberS_len t most
theorem signedS_bd (t : List UInt8) (most : Int) : -2147483647 ≤ (signedS t most).1 ∧ (signedS t most).1 ≤ 2147483647 ∧ 0 ≤ (signedS t most).2.2 ∧ (signedS t most).2.2 ≤ 3 := by
  unfold signedS
  have h1 := numberS_bd t most
  have h2 := numberS_bd (t.drop 1) most
  split
  · split
    · simp
    · split
      · simp only; omega
      · simp only; omega
  · omega
/-- A clause's line at the head of t: its literals behind c, how far, what is wrong. -/
def rdCl (n : Int) (t : List UInt8) (c : List Int) : List Int × Nat × Int :=
  if (signedS t n).2.2 ≠ 0 then ([], 0, (signedS t n).2.2)
  else if (signedS t n).1 = 0 then (if bS (t.drop (signedS t n).2.1) [10] then (c, (signedS t n).2.1 + 1, 0) else (c, (signedS t n).2.1, 2))
  else if c.length = 1000 then ([], 0, 3)
  else if h : bS (t.drop (signedS t n).2.1) [32] = true then ((rdCl n (t.drop ((signedS t n).2.1 + 1)) (c ++ [(signedS t n).1])).1, (signedS t n).2.1 + 1 + (rdCl n (t.drop ((signedS t n).2.1 + 1)) (c ++ [(signedS t n).1])).2.1, (rdCl n (t.drop ((signedS t n).2.1 + 1)) (c ++ [(signedS t n).1])).2.2)
  else ([], (signedS t n).2.1, 2)
termination_by t.length
decreasing_by all_goals (have := bS_len h; simp only [List.length_drop, List.length_cons, List.length_nil] at *; omega)
set_option maxHeartbeats 800000 in
theorem ended_yes (Ac : Option Addr) (no cc : Nat) (A : Option Addr) (c J : Nat) (l : List UInt8) (B : Nat) (w : World) (h : Rd w B A l) (hk : J ≤ l.length) (hn : l.length ≤ c) (hc : c ≤ 9223372036854775807) (hb : bS (l.drop J) [10] = true) (J2 : Nat) (hJ : J + 1 = J2) :
    Calls Tryd.prog 67 #[.slice Ac no cc, .slice A l.length c, .int .i64 J] w (RetS w (.tuple #[.slice Ac no cc, .int .i64 (J2 : Int), .int .i64 0])) := by
  have c2y := behind_yes A c J l ⟨#[10]⟩ B w h hk hn hc
  rw [isB_bS] at c2y
  have C2 := c2y hb
  have ez : J + (⟨#[10]⟩ : ByteArray).size = J + 1 := rfl
  rw [ez, hJ] at C2
  clear c2y ez hJ hb
  go_enter Tryd.func67, Tryd.ntmps67
  go_wp2_with fail
  refine C2.mono ?_; rintro e w' ⟨rfl, rfl⟩
  go_wp2
  go_ret3
  exact ⟨rfl, rfl⟩
set_option maxHeartbeats 800000 in
theorem ended_no (Ac : Option Addr) (no cc : Nat) (A : Option Addr) (c J : Nat) (l : List UInt8) (B : Nat) (w : World) (h : Rd w B A l) (hk : J ≤ l.length) (hn : l.length ≤ c) (hc : c ≤ 9223372036854775807) (hb : bS (l.drop J) [10] = false) :
    Calls Tryd.prog 67 #[.slice Ac no cc, .slice A l.length c, .int .i64 J] w (RetS w (.tuple #[.slice none 0 0, .int .i64 (J : Int), .int .i64 2])) := by
  have c2n := behind_no A c J l ⟨#[10]⟩ B w h hk hn hc (by decide)
  rw [isB_bS] at c2n
  have C2 := c2n hb
  clear c2n hb
  go_enter Tryd.func67, Tryd.ntmps67
  go_wp2_with fail
  refine C2.mono ?_; rintro e w' ⟨rfl, rfl⟩
  go_wp2
  go_ret3
  exact ⟨rfl, rfl⟩
/-- What a call tells that reads a clause. -/
def RetC (w0 : World) (R : List Int) (K : Nat) (E : Int) (e : Ending) (w' : World) : Prop := ∃ v, e = .returned (.tuple #[v, .int .i64 ((K : Nat) : Int), .int .i64 E]) ∧ OwnI w' w0.heap.size v R ∧ Below w0.heap.size w0 w'
set_option maxHeartbeats 2000000 in
set_option maxRecDepth 100000 in
theorem readClause_any (A : Option Addr) (c k : Nat) (l : List UInt8) (n : Int) (w : World) (h : Rd w w.heap.size A l) (hk : k ≤ l.length) (hn : l.length ≤ c) (hc : c ≤ maxLen) :
    Calls Tryd.prog 45 #[.slice A l.length c, .int .i64 k, .int .i64 n] w (RetC w (if (rdCl n (l.drop k) []).2.2 = 0 then (rdCl n (l.drop k) []).1 else []) (k + (rdCl n (l.drop k) []).2.1) (rdCl n (l.drop k) []).2.2) := by
  obtain ⟨R, K, E, hR⟩ : ∃ R K E, rdCl n (l.drop k) [] = (R, K - k, E) ∧ k ≤ K := ⟨(rdCl n (l.drop k) []).1, k + (rdCl n (l.drop k) []).2.1, (rdCl n (l.drop k) []).2.2, by simp, by omega⟩
  have e1 : (rdCl n (l.drop k) []).1 = R := by rw [hR.1]
  have e2 : k + (rdCl n (l.drop k) []).2.1 = K := by rw [hR.1]; have := hR.2; simp only; omega
  have e3 : (rdCl n (l.drop k) []).2.2 = E := by rw [hR.1]
  rw [e1, e2, e3]
  obtain ⟨V, hV⟩ : ∃ V, (if E = 0 then R else []) = V := ⟨_, rfl⟩
  rw [hV]
  have HV : Hid ((E = 0 → R = V) ∧ (E ≠ 0 → V = [])) := ⟨fun h => by rw [if_pos h] at hV; exact hV, fun h => by rw [if_neg h] at hV; exact hV.symm⟩
  clear hV
  have HR : Hid (∃ m, rdCl n (l.drop k) [] = (R, m, E) ∧ k + m = K) := ⟨K - k, hR.1, by have := hR.2; omega⟩
  have HH := Lib.hid h
  have HC := Lib.hid hc
  unfold maxLen at hc
  clear hR e1 e2 e3 h
  go_enter Tryd.func45, Tryd.ntmps45
  go_wp2
  go_loopw [1, 9] (fun p v wr => ∃ (j : Nat) (o : List Int), j ≤ l.length ∧ o.length ≤ 1000 ∧ p = .int .i64 j ∧ OwnI wr w.heap.size v o ∧ Below w.heap.size w wr ∧ Hid (∃ m, rdCl n (l.drop j) o = (R, m, E) ∧ j + m = K)) (fun p _ _ => l.length - (intOf p).toNat)
  case atStart => exact ⟨k, [], hk, by simp, rfl, OwnI.nil _ _, Below.refl _ _, HR⟩
  case round =>
    obtain ⟨j, o, hj, ho, rfl, hown, hB, HJ⟩ := hrel
    have hrd := HH.out.below hB
    have c1 := Signed_any A c j n l w.heap.size wr hrd hj hn HC.out
    have hbd := signedS_bd (l.drop j) n
    have hlen := signedS_len (l.drop j) n
    rw [List.length_drop] at hlen
    have hm := HJ.out
    rw [rdCl] at hm
    simp only [List.drop_drop] at hm
    obtain ⟨⟨x, m, e⟩, hr⟩ : ∃ r, signedS (l.drop j) n = r := ⟨_, rfl⟩
    rw [hr] at c1 hbd hlen hm
    clear hr HJ HR
    unfold res3 at c1
    simp only at c1 hbd hlen hm
    obtain ⟨b1, b2, b3, b4⟩ := hbd
    obtain ⟨Ao, co, rfl, hro, _, _, _⟩ := hown.val
    clear hro
    have HB := Lib.hid hB
    have HO := Lib.hid hown
    clear hB hown HC
    by_cases he : e = 0
    · subst he
      rw [if_neg (by simp)] at hm
      obtain ⟨J, hJ⟩ : ∃ J, j + m = J := ⟨_, rfl⟩
      have hJl : J ≤ l.length := by omega
      by_cases hx : x = 0
      · subst hx
        rw [if_pos rfl] at hm
        rw [hJ] at c1
        rw [show l.drop (j + m) = l.drop J by rw [hJ]] at hm
        cases hb : bS (l.drop J) [10]
        · rw [hb] at hm
          have C2 := ended_no Ao o.length co A c J l w.heap.size wr hrd hJl hn hc hb
          have HE : Hid (K = J ∧ E = 2) := by
            obtain ⟨m0, h1, h2⟩ := hm
            simp only [Bool.false_eq_true, if_false, Prod.mk.injEq] at h1
            obtain ⟨rfl, rfl, rfl⟩ := h1
            exact ⟨by omega, rfl⟩
          clear hm hb hJ hrd HH
          go_wp2_with fail
          refine c1.mono ?_; rintro e w' ⟨rfl, rfl⟩
          go_wp2_with fail
          refine C2.mono ?_; rintro e w' ⟨rfl, rfl⟩
          go_wp2
          go_ret3
          obtain ⟨rfl, rfl⟩ := HE.out
          exact ⟨_, rfl, by rw [HV.out.2 (by decide)]; exact OwnI.nil _ _, HB.out⟩
        · rw [hb] at hm
          obtain ⟨J2, hJ2⟩ : ∃ J2, J + 1 = J2 := ⟨_, rfl⟩
          have C2 := ended_yes Ao o.length co A c J l w.heap.size wr hrd hJl hn hc hb J2 hJ2
          have HE : Hid (R = o ∧ K = J2 ∧ E = 0) := by
            obtain ⟨m0, h1, h2⟩ := hm
            simp only [if_true, Prod.mk.injEq] at h1
            obtain ⟨rfl, rfl, rfl⟩ := h1
            exact ⟨rfl, by omega, rfl⟩
          clear hm hb hJ hJ2 hrd HH
          go_wp2_with fail
          refine c1.mono ?_; rintro e w' ⟨rfl, rfl⟩
          go_wp2_with fail
          refine C2.mono ?_; rintro e w' ⟨rfl, rfl⟩
          go_wp2
          go_ret3
          obtain ⟨rfl, rfl, rfl⟩ := HE.out
          exact ⟨_, rfl, by rw [← HV.out.1 rfl]; exact HO.out, HB.out⟩
      · rw [if_neg hx] at hm
        have hxb : (x == 0) = false := by simp [hx]
        by_cases ho2 : o.length = 1000
        · rw [if_pos ho2] at hm
          have hob : ((o.length : Int) == 1000) = true := by simp; omega
          have HE : Hid (R = [] ∧ K = j ∧ E = 3) := by
            obtain ⟨m0, h1, h2⟩ := hm
            simp only [Prod.mk.injEq] at h1
            obtain ⟨rfl, rfl, rfl⟩ := h1
            exact ⟨rfl, by omega, rfl⟩
          clear hm hrd HH hJ ho2 hx
          go_wp2_with fail
          refine c1.mono ?_; rintro e w' ⟨rfl, rfl⟩
          go_wp2
          go_ret3
          obtain ⟨rfl, rfl, rfl⟩ := HE.out
          exact ⟨_, rfl, by rw [HV.out.2 (by decide)]; exact OwnI.nil _ _, HB.out⟩
        · rw [if_neg ho2] at hm
          have hob : ((o.length : Int) == 1000) = false := by rw [beq_eq_false_iff_ne]; omega
          rw [hJ] at c1
          rw [show l.drop (j + m) = l.drop J by rw [hJ], show l.drop (j + (m + 1)) = l.drop (J + 1) by rw [← hJ]; rfl] at hm
          have H2 : Hid (∀ wx, Below w.heap.size w wx → Calls Tryd.prog 60 #[.slice A l.length c, .int .i64 J, .string ⟨#[32]⟩] wx (RetS wx (.tuple #[.int .i64 ((behS l J ⟨#[32]⟩ : Nat) : Int), .int .i64 (behE l J ⟨#[32]⟩)]))) := fun wx hx => behind_any A c J l ⟨#[32]⟩ w.heap.size wx (HH.out.below hx) hJl hn hc (by decide)
          unfold behS behE at H2
          rw [isB_bS] at H2
          have ez : J + (⟨#[32]⟩ : ByteArray).size = J + 1 := rfl
          rw [ez] at H2
          clear ez hrd
          have hbb := HB.out
          have hoo := HO.out
          have hol : o.length ≤ 100000 := by omega
          cases hb : bS (l.drop J) [32]
          · have hb' : bS (l.drop J) (⟨#[32]⟩ : ByteArray).data.toList = false := hb
            rw [hb'] at H2
            rw [dif_neg (by simp [hb])] at hm
            have HE : Hid (R = [] ∧ K = J ∧ E = 2) := by
              obtain ⟨m0, h1, h2⟩ := hm
              simp only [Prod.mk.injEq] at h1
              obtain ⟨rfl, rfl, rfl⟩ := h1
              exact ⟨rfl, by omega, rfl⟩
            clear hm hb hb' HH hJ hx ho2
            go_wp2_with fail
            refine c1.mono ?_; rintro e w' ⟨rfl, rfl⟩
            clear c1
            go_wp2_with (first
              | (at_builtin; refine wpI1 rfl (.tmp 38) (.tmp 40) rfl _ o rfl hoo x rfl hbb hol ?_))
            intro v' w2 ho2 hb2
            have C2 := H2.out w2 hb2
            simp only [Bool.false_eq_true, if_false] at C2
            obtain ⟨A2, c2, rfl, _, _, _, _⟩ := ho2.val
            clear H2 hoo hbb HO HB
            go_wp2_with fail
            refine C2.mono ?_; rintro e w' ⟨rfl, rfl⟩
            go_wp2
            go_ret3
            obtain ⟨rfl, rfl, rfl⟩ := HE.out
            exact ⟨_, rfl, by rw [HV.out.2 (by decide)]; exact OwnI.nil _ _, hb2⟩
          · have hb' : bS (l.drop J) (⟨#[32]⟩ : ByteArray).data.toList = true := hb
            rw [hb'] at H2
            rw [dif_pos hb] at hm
            have hJ1 : J + 1 ≤ l.length := by have := bS_len hb; simp at this; omega
            have HE : Hid (∃ m, rdCl n (l.drop (J + 1)) (o ++ [x]) = (R, m, E) ∧ J + 1 + m = K) := by
              obtain ⟨m0, h1, h2⟩ := hm
              simp only [Prod.mk.injEq] at h1
              obtain ⟨rfl, rfl, rfl⟩ := h1
              exact ⟨(rdCl n (l.drop (J + 1)) (o ++ [x])).2.1, rfl, by omega⟩
            obtain ⟨J2, hJ2⟩ : ∃ J2, J + 1 = J2 := ⟨_, rfl⟩
            rw [hJ2] at H2 hJ1 HE
            have hjJ : j < J2 := by omega
            have ho3 : o.length < 1000 := by omega
            clear hm hb hb' HH hJ hx ho2 hJ2
            go_wp2_with fail
            refine c1.mono ?_; rintro e w' ⟨rfl, rfl⟩
            clear c1
            go_wp2_with (first
              | (at_builtin; refine wpI1 rfl (.tmp 38) (.tmp 40) rfl _ o rfl hoo x rfl hbb hol ?_))
            intro v' w2 ho2 hb2
            have C2 := H2.out w2 hb2
            simp only [if_true] at C2
            obtain ⟨A2, c2, hv2, _, _, _, _⟩ := ho2.val
            rw [show (o ++ [x]).length = o.length + 1 by simp] at hv2
            rw [hv2] at ho2 ⊢
            have HO2 := Lib.hid ho2
            clear H2 hoo hbb HO HB hv2 ho2
            go_wp2_with fail
            refine C2.mono ?_; rintro e w' ⟨rfl, rfl⟩
            go_wp2
            go_roundw
            case rel => exact ⟨J2, o ++ [x], hJ1, by simp; omega, rfl, HO2.out, hb2, HE⟩
            case measure => simp [intOf]; omega
    · have heb : (e != 0) = true := by simp [he]
      rw [if_pos he] at hm
      have HE : Hid (R = [] ∧ K = j ∧ E = e) := by
        obtain ⟨m0, h1, h2⟩ := hm
        simp only [Prod.mk.injEq] at h1
        obtain ⟨rfl, rfl, rfl⟩ := h1
        exact ⟨rfl, by omega, rfl⟩
      obtain ⟨J, hJ⟩ : ∃ J, j + m = J := ⟨_, rfl⟩
      rw [hJ] at c1
      clear hm hrd HH he hJ
      go_wp2_with fail
      refine c1.mono ?_; rintro e w' ⟨rfl, rfl⟩
      go_wp2
      go_ret3
      obtain ⟨rfl, rfl, rfl⟩ := HE.out
      exact ⟨_, rfl, by rw [HV.out.2 (by simpa using heb)]; exact OwnI.nil _ _, HB.out⟩
end Go.Proofs.YtahedhpffjgimaaDoor
