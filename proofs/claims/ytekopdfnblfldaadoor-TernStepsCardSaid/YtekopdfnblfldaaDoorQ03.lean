/-
  IsTri, of both sides; literals that latches are next; a literal's value.
  The last variable of a model.
  sim.valuesOf over the translated program.
-/
import Derived.Test.YtekopdfnblfldaaDoorProg
import Derived.WalkKit
import Derived.WalkSpells
import Derived.WalkLawsBesides
import Derived.Lib.Hide
import Derived.BigQuiet
import Derived.Deep.QuietTactic
import Derived.Deep.RegionWith
import Derived.Deep.RegionHeld3
import Derived.Test.YtekopdfnblfldaaDoorQ02
import Derived.Deep.AppendSrc
import Derived.Test.YtekopdfnblfldaaDoorQ01
import Derived.Deep.LoopGhost
import Derived.WalkMore
set_option linter.unusedVariables false
/- IsTri, of both sides; literals that latches are next; a literal's value. -/
namespace Go.Proofs.YtekopdfnblfldaaDoor
open Go.RowKit
/-- Are all values? -/
def isTri (l : List Int) : Bool := l.all (fun x => decide (x ≤ 2))
theorem isTri_in {l : List Int} (h : isTri l = true) (h0 : ∀ x ∈ l, 0 ≤ x) : In3 l := by
  intro x hx
  have := List.all_eq_true.1 h x hx
  simp at this
  exact ⟨h0 x hx, this⟩
set_option maxHeartbeats 800000 in
theorem gt2_any (x : Int) (w : World) : Calls Tryd.prog 34 #[.int .u8 x] w (RetS w (.bool (decide (2 < x)))) := by
  go_enter Tryd.func34, Tryd.ntmps34
  go_wp2
  go_ret
  exact ⟨rfl, rfl⟩
def RetIdx (w0 : World) (b : Bool) (e : Ending) (w' : World) : Prop := ∃ r : Int, decide (0 ≤ r) = b ∧ e = .returned (.int .i64 r) ∧ w0 = w'
set_option maxHeartbeats 1000000 in
theorem indexT_any (A : Option Addr) (c : Nat) (l : List Int) (w : World) (h : RT w w.heap.size A l) (hn : l.length ≤ maxLen) :
    Calls Tryd.prog 49 #[.slice A l.length c, .func (.func 34) #[] #[]] w (RetIdx w (!isTri l)) := by
  unfold maxLen at hn
  obtain ⟨T, hT⟩ : ∃ T, (!isTri l) = T := ⟨_, rfl⟩
  rw [hT]
  have HT : Hid ((!isTri (l.drop 0)) = T) := by show _ = _; rw [List.drop_zero, hT]
  have H := Lib.hid h
  have C1 : Hid (∀ x, Calls Tryd.prog 34 #[.int .u8 x] w (RetS w (.bool (decide (2 < x))))) := Lib.hid fun x => gt2_any x w
  clear hT h
  go_enter Tryd.func49, Tryd.ntmps49
  go_wp2
  go_loopg [8] l.length (fun g s wr => ∃ j : Nat, j + g = l.length ∧ s = .int .i64 j ∧ w = wr ∧ Hid ((!isTri (l.drop j)) = T))
  case atStart => exact ⟨0, by omega, rfl, rfl, HT⟩
  case round =>
    obtain ⟨j, hj, rfl, rfl, HJ⟩ := hrel
    cases gk with
    | zero =>
      have q1 : ¬ ((j : Int) < l.length) := by omega
      have q2 : ¬ (j < l.length) := by omega
      have HE : Hid (false = T) := by show _ = _; rw [← HJ.out, List.drop_of_length_le (by omega)]; rfl
      clear HJ HT
      go_wp2
      go_ret
      exact ⟨-1, by rw [← HE.out]; rfl, rfl, rfl⟩
    | succ g =>
      have hjl : j < l.length := by omega
      have hjl' : (j : Int) < l.length := by omega
      obtain ⟨ad, rfl, hab, hc⟩ := H.out j hjl
      have e := HJ.out
      rw [dropT l j hjl] at e
      have c1 := C1.out (l.getD j 0)
      unfold isTri at e
      rw [List.all_cons] at e
      generalize l.getD j 0 = x at *
      clear HJ HT
      by_cases hx : 2 < x
      · have d1 : decide (2 < x) = true := decide_eq_true hx
        have d2 : decide (x ≤ 2) = false := decide_eq_false (by omega)
        have HE : Hid (true = T) := by show _ = _; rw [← e, d2]; rfl
        rw [d1] at c1
        clear e
        go_wp2_with fail
        refine c1.mono ?_; rintro e w' ⟨rfl, rfl⟩
        clear c1
        go_wp2
        go_ret
        exact ⟨j, by rw [← HE.out]; simp, rfl, rfl⟩
      · have d1 : decide (2 < x) = false := decide_eq_false hx
        have d2 : decide (x ≤ 2) = true := decide_eq_true (by omega)
        have HE : Hid ((!isTri (l.drop (j + 1))) = T) := by show _ = _; rw [← e, d2, Bool.true_and]; rfl
        rw [d1] at c1
        clear e
        go_wp2_with fail
        refine c1.mono ?_; rintro e w' ⟨rfl, rfl⟩
        clear c1
        go_wp2
        go_roundg g
        case measure => omega
        case rel => exact ⟨j + 1, by omega, by go_num, rfl, HE⟩
set_option maxHeartbeats 1000000 in
theorem containsT_any (A : Option Addr) (c : Nat) (l : List Int) (w : World) (h : RT w w.heap.size A l) (hn : l.length ≤ maxLen) :
    Calls Tryd.prog 33 #[.slice A l.length c, .func (.func 34) #[] #[]] w (RetS w (.bool (!isTri l))) := by
  have C := indexT_any A c l w h hn
  generalize (!isTri l) = T at *
  clear h
  go_enter Tryd.func33, Tryd.ntmps33
  go_wp2_with fail
  refine C.mono ?_; rintro e w' ⟨r, hr, rfl, rfl⟩
  clear C
  by_cases h0 : 0 ≤ r
  · have d1 : decide (0 ≤ r) = true := decide_eq_true h0
    rw [d1] at hr
    go_wp2
    go_ret
    exact ⟨by rw [← hr]; rfl, rfl⟩
  · have d1 : decide (0 ≤ r) = false := decide_eq_false h0
    rw [d1] at hr
    go_wp2
    go_ret
    exact ⟨by rw [← hr]; rfl, rfl⟩
set_option maxHeartbeats 1000000 in
theorem IsTri_any (A : Option Addr) (c : Nat) (l : List Int) (w : World) (h : RT w w.heap.size A l) (hn : l.length ≤ maxLen) :
    Calls Tryd.prog 11 #[.slice A l.length c] w (RetS w (.bool (isTri l))) := by
  have C := containsT_any A c l w h hn
  clear h
  go_enter Tryd.func11, Tryd.ntmps11
  go_wp2_with fail
  refine C.mono ?_; rintro e w' ⟨rfl, rfl⟩
  clear C
  go_wp2
  go_ret
  exact ⟨by simp, rfl⟩
set_option maxHeartbeats 1000000 in
theorem refIsTri_any (A : Option Addr) (c : Nat) (l : List Int) (w : World) (h : RT w w.heap.size A l) (hn : l.length ≤ maxLen) :
    Calls Tryd.prog 12 #[.slice A l.length c] w (RetS w (.bool (isTri l))) := by
  unfold maxLen at hn
  obtain ⟨T, hT⟩ : ∃ T, isTri l = T := ⟨_, rfl⟩
  rw [hT]
  have HT : Hid (isTri (l.drop 0) = T) := by show _ = _; rw [List.drop_zero, hT]
  have H := Lib.hid h
  clear hT h
  go_enter Tryd.func12, Tryd.ntmps12
  go_wp2
  go_loopg [3] l.length (fun g s wr => ∃ j : Nat, j + g = l.length ∧ s = .int .i64 j ∧ w = wr ∧ Hid (isTri (l.drop j) = T))
  case atStart => exact ⟨0, by omega, rfl, rfl, HT⟩
  case round =>
    obtain ⟨j, hj, rfl, rfl, HJ⟩ := hrel
    cases gk with
    | zero =>
      have q1 : ¬ ((j : Int) < l.length) := by omega
      have q2 : ¬ (j < l.length) := by omega
      have HE : Hid (true = T) := by show _ = _; rw [← HJ.out, List.drop_of_length_le (by omega)]; rfl
      clear HJ HT
      go_wp2
      go_ret
      exact ⟨by rw [← HE.out]; rfl, rfl⟩
    | succ g =>
      have hjl : j < l.length := by omega
      have hjl' : (j : Int) < l.length := by omega
      obtain ⟨ad, rfl, hab, hc⟩ := H.out j hjl
      have e := HJ.out
      rw [dropT l j hjl] at e
      unfold isTri at e
      rw [List.all_cons] at e
      generalize l.getD j 0 = x at *
      clear HJ HT
      by_cases hx : 2 < x
      · have d1 : decide (2 < x) = true := decide_eq_true hx
        have d2 : decide (x ≤ 2) = false := decide_eq_false (by omega)
        have HE : Hid (false = T) := by show _ = _; rw [← e, d2]; rfl
        clear e
        go_wp2
        go_ret
        exact ⟨by rw [← HE.out]; rfl, rfl⟩
      · have d1 : decide (2 < x) = false := decide_eq_false hx
        have d2 : decide (x ≤ 2) = true := decide_eq_true (by omega)
        have HE : Hid (isTri (l.drop (j + 1)) = T) := by show _ = _; rw [← e, d2, Bool.true_and]; rfl
        clear e
        go_wp2
        go_roundg g
        case measure => omega
        case rel => exact ⟨j + 1, by omega, by go_num, rfl, HE⟩
/-- A block of numbers. -/
def BI (w : World) (g : Nat) (M : List Int) : Prop := w.heap[g]? = some (.cells (M.map (Value.int .i64)).toArray 3 (0, 0))
theorem BI.cell {w : World} {g : Nat} {M : List Int} (h : BI w g M) (j : Nat) (hj : j < M.length) : w.cell? ⟨g, j, none⟩ = some (.int .i64 (M.getD j 0)) := by
  rw [cell_of_row w g j _ _ _ h]
  simp [List.getD_eq_getElem?_getD, hj]
theorem BI.frozen {w : World} {g : Nat} {M : List Int} (h : BI w g M) (j : Nat) : w.frozen? ⟨g, j, none⟩ = false := frozen_of_row w g j _ _ h
theorem BI.lt {w : World} {g : Nat} {M : List Int} (h : BI w g M) : g < w.heap.size := (Array.getElem?_eq_some_iff.1 h).1
theorem BI.store {w : World} {g : Nat} {M : List Int} (h : BI w g M) (j : Nat) (b : Int) : BI (w.setCell ⟨g, j, none⟩ (.int .i64 b)) g (M.set j b) := by
  have := heap_setCell_same w g j _ 3 (.int .i64 b) h
  unfold BI
  rw [this]
  simp [List.map_set]
theorem BI.below {w w' : World} {B g : Nat} {M : List Int} (h : BI w g M) (hb : Below B w w') (hg : g < B) : BI w' g M := (hb.block g hg).trans h
theorem BI.rb {w : World} {g : Nat} {M : List Int} (h : BI w g M) : RI w w.heap.size (some ⟨g, 0, none⟩) M := fun i hi => ⟨_, rfl, h.lt, by rw [add_loc]; exact h.cell i hi⟩
theorem BI.alloc {w : World} {g : Nat} {M : List Int} (h : BI w g M) (o : Obj) : BI (w.alloc o) g M := (heap_alloc_old w o h.lt).trans h
def mkOI (n : Nat) : Obj := .cells (madeCells #[.int .i64 0] n) 3
theorem mkI (T : TypeId) (hT : Tryd.prog.underlying T = some (.slice 3)) (n : Nat) (K : Int) (hK : K = (n : Int)) (hn : n ≤ 100000000) (w : World) : (Instr.makeSlice T (.int .i64 K) (.int .i64 K)).run Tryd.prog w = .ok (.slice (some ⟨w.heap.size, 0, none⟩) n n) (w.alloc (mkOI n)) := by
  subst hK
  obtain ⟨i0, hi0, hz0, hz1, hz2⟩ := info_parts int_info
  rw [run_make w T 3 i0 _ hT hi0 hz0 .i64 .i64 n n (by omega) (by omega) (by rw [hz2]; omega) (by omega), hz1]
  simp [Value.cells, mkOI]
theorem bi_made (w : World) (n : Nat) : BI (w.alloc (mkOI n)) w.heap.size (List.replicate n 0) := by
  unfold BI mkOI
  rw [heap_alloc_new]
  have hl := toList_madeCells_one (.int .i64 0) n
  have : madeCells #[Value.int .i64 0] n = ((List.replicate n 0).map (Value.int .i64)).toArray := by
    apply Array.ext'
    rw [hl]; simp
  rw [this]
def RetI (w0 : World) (l : List Int) (e : Ending) (w' : World) : Prop := ∃ A c, e = .returned (.slice A l.length c) ∧ RI w' w'.heap.size A l ∧ (A = none → c = 0) ∧ l.length ≤ c ∧ c ≤ maxLen ∧ Below w0.heap.size w0 w'
set_option maxHeartbeats 2000000 in
theorem nexts_any (A : Option Addr) (c : Nat) (L : List Pr) (w : World) (h : RP w w.heap.size A L) (hl : L.length ≤ 1000000) :
    Calls Tryd.prog 43 #[.slice A L.length c] w (RetI w (L.map (·.1))) := by
  obtain ⟨T, hT⟩ : ∃ T, L.map (·.1) = T := ⟨_, rfl⟩
  have htl : T.length = L.length := by rw [← hT]; simp
  rw [hT]
  have hg : ∀ j, j < L.length → T.getD j 0 = (L.getD j (0, 0)).1 := fun j hj => by rw [← hT]; simp [List.getD_eq_getElem?_getD, hj]
  have mk := mkI 32 Tryd.underlying32 L.length (L.length : Int) rfl (by omega) w
  have hbb := bi_made w L.length
  have hb2 := bal (Below.refl w.heap.size w) (mkOI L.length)
  have HG := Lib.hid hg
  have HT := Lib.hid htl
  have H := Lib.hid h
  clear hT hg htl h
  go_enter Tryd.func43, Tryd.ntmps43
  generalize w.alloc (mkOI L.length) = w2 at *
  have hr0 : BI w2 w.heap.size (rowM3 T L.length 0) := by unfold rowM3; simpa using hbb
  have HR0 := Lib.hid hr0
  have HB2 := Lib.hid hb2
  clear hbb hb2 hr0
  go_wp2
  go_loopg [11] L.length (fun g s wr => ∃ j : Nat, j + g = L.length ∧ s = .int .i64 j ∧ BI wr w.heap.size (rowM3 T L.length j) ∧ Below w.heap.size w wr)
  case atStart => exact ⟨0, by omega, rfl, HR0.out, HB2.out⟩
  case round =>
    obtain ⟨j, hj, rfl, hrow, hbel⟩ := hrel
    cases gk with
    | zero =>
      have q1 : ¬ ((j : Int) < L.length) := by omega
      have q2 : ¬ (j < L.length) := by omega
      rw [show j = L.length by omega, rowM3_full T _ HT.out] at hrow
      go_wp2
      go_ret
      exact ⟨_, L.length, by rw [HT.out]; rfl, hrow.rb, (fun e => by cases e), by rw [HT.out]; exact Nat.le_refl _, by unfold maxLen; omega, hbel⟩
    | succ g =>
      have hjl : j < L.length := by omega
      have hjl' : (j : Int) < L.length := by omega
      obtain ⟨ad, rfl, hab, hp0, hp1⟩ := H.out j hjl
      have hp0' := (hbel.cell (p := ad.add (j * 2)) (by rw [block_add]; exact hab)).trans hp0
      have hp1' := (hbel.cell (p := ⟨(ad.add (j * 2)).block, (ad.add (j * 2)).off + 1, none⟩) (by show (ad.add (j * 2)).block < _; rw [block_add]; exact hab)).trans hp1
      have hnext := rowM3_next T L.length j HT.out hjl
      rw [HG.out j hjl] at hnext
      have hll := rowM3_len T L.length j HT.out (by omega)
      have hcell := hrow.cell j (by omega)
      have hfroz := hrow.frozen j
      have hgr : w.heap.size < wr.heap.size := hrow.lt
      generalize (rowM3 T L.length j).getD j 0 = u at *
      generalize L.getD j (0, 0) = p at *
      obtain ⟨x, y⟩ := p
      simp only at hp0' hp1' hnext
      have HN := Lib.hid hnext
      have HROW := Lib.hid hrow
      have HBEL := Lib.hid hbel
      clear hnext hrow hbel hp0 hp1 hll
      go_wp2
      go_roundg g
      case measure => omega
      case rel => exact ⟨j + 1, by omega, by go_num, by rw [HN.out]; exact (HROW.out.store _ _).alloc _, (HBEL.out.setCell (Nat.le_refl _) _).alloc (by simp; omega) _⟩
set_option maxHeartbeats 2000000 in
theorem Lit3_any (A : Option Addr) (c : Nat) (v : List Int) (l : Int) (w : World) (h : RT w w.heap.size A v) (hn : v.length ≤ maxLen) (b0 : -9223372036854775808 ≤ l) (b1 : l ≤ 9223372036854775807) :
    Calls Tryd.prog 27 #[.slice A v.length c, .int .i64 l] w (RetV w (.int .u8 (lt3 v l))) := by
  have C1 := tellerOf_any A v.length c w
  have qf : ∀ (f g : Value) (wx : World), (Instr.field 87 (.agg #[f, g]) 0).run Tryd.prog wx = .ok f wx := by intros; kernel_rfl
  have H := Lib.hid h
  clear h
  go_enter Tryd.func27, Tryd.ntmps27
  go_wp2_with fail
  refine C1.mono ?_; rintro e w1 ⟨gv, gl, rfl, ht, hb⟩
  have C2 := lit1_any gv A c v l w1 ht.v (H.out.nx hb) hn b0 b1
  have HB := Lib.hid hb
  clear C1 ht hb
  go_wp2_with fail
  refine C2.mono ?_; rintro e w2 ⟨rfl, rfl⟩
  clear C2
  go_wp2
  go_ret
  exact ⟨rfl, HB.out⟩
end Go.Proofs.YtekopdfnblfldaaDoor
/- The last variable of a model. -/
namespace Go.Proofs.YtekopdfnblfldaaDoor
open Go.RowKit
set_option maxHeartbeats 2000000 in
theorem HeadOf_any (I : Int) (AL AG AO AB AC AN : Option Addr) (cL cG cO cB cC cN : Nat) (L G : List Pr) (O D C : List Int) (N : List Nm) (w : World) (h0 : 0 ≤ I) (h1 : I ≤ 1000000) (h2 : L.length ≤ 1000000) (h3 : G.length ≤ 1000000) :
    Calls Tryd.prog 65 #[.agg #[.int .i64 I, .slice AL L.length cL, .slice AG G.length cG, .slice AO O.length cO, .slice AB D.length cB, .slice AC C.length cC, .slice AN N.length cN]] w (RetV w (.agg #[.int .i64 (I + L.length + G.length), .int .i64 I, .int .i64 L.length, .int .i64 O.length, .int .i64 G.length, .int .i64 D.length, .int .i64 C.length])) := by
  go_enter Tryd.func65, Tryd.ntmps65
  go_wp2
  refine bodyPost_ret (v := .agg #[.int .i64 (I + L.length + G.length), .int .i64 I, .int .i64 L.length, .int .i64 O.length, .int .i64 G.length, .int .i64 D.length, .int .i64 C.length]) ?r rfl ?_
  case r =>
    simp only [results, Tryd.f65]
    go_simp
  exact ⟨rfl, by repeat (first | exact Below.refl _ _ | refine Below.setCell ?_ (by simp) _ | refine bal ?_ _)⟩
set_option maxRecDepth 100000 in
set_option maxHeartbeats 2000000 in
theorem Vars_any (I : Int) (AL AG AO AB AC AN : Option Addr) (cL cG cO cB cC cN : Nat) (L G : List Pr) (O D C : List Int) (N : List Nm) (w : World) (h0 : 0 ≤ I) (h1 : I ≤ 1000000) (h2 : L.length ≤ 1000000) (h3 : G.length ≤ 1000000) :
    Calls Tryd.prog 53 #[.agg #[.int .i64 I, .slice AL L.length cL, .slice AG G.length cG, .slice AO O.length cO, .slice AB D.length cB, .slice AC C.length cC, .slice AN N.length cN]] w (RetV w (.int .i64 (I + L.length + G.length))) := by
  have qf : ∀ (a b c d e f g : Int) (w : World), (Instr.field 114 (.agg #[.int .i64 a, .int .i64 b, .int .i64 c, .int .i64 d, .int .i64 e, .int .i64 f, .int .i64 g]) 0).run Tryd.prog w = .ok (.int .i64 a) w := by intros; kernel_rfl
  have C1 := fun w => HeadOf_any I AL AG AO AB AC AN cL cG cO cB cC cN L G O D C N w h0 h1 h2 h3
  have C1 := Lib.hid C1
  have b1 := bal (Below.refl w.heap.size w) (.cells #[.int .i64 I, .slice AL L.length cL, .slice AG G.length cG, .slice AO O.length cO, .slice AB D.length cB, .slice AC C.length cC, .slice AN N.length cN] 35)
  have C2 := C1.out (w.alloc (.cells #[.int .i64 I, .slice AL L.length cL, .slice AG G.length cG, .slice AO O.length cO, .slice AB D.length cB, .slice AC C.length cC, .slice AN N.length cN] 35))
  clear C1
  go_enter Tryd.func53, Tryd.ntmps53
  go_wp2_with fail
  refine C2.mono ?_; rintro e w' ⟨rfl, hb⟩
  go_wp2
  go_ret
  exact ⟨rfl, bnx b1 hb⟩
set_option maxHeartbeats 2000000 in
theorem refVars_any (I : Int) (AL AG AO AB AC AN : Option Addr) (cL cG cO cB cC cN : Nat) (L G : List Pr) (O D C : List Int) (N : List Nm) (w : World) (h0 : 0 ≤ I) (h1 : I ≤ 1000000) (h2 : L.length ≤ 1000000) (h3 : G.length ≤ 1000000) :
    Calls Tryd.prog 59 #[.agg #[.int .i64 I, .slice AL L.length cL, .slice AG G.length cG, .slice AO O.length cO, .slice AB D.length cB, .slice AC C.length cC, .slice AN N.length cN]] w (RetV w (.int .i64 (I + L.length + G.length))) := by
  have b1 := bal (Below.refl w.heap.size w) (.cells #[.int .i64 I, .slice AL L.length cL, .slice AG G.length cG, .slice AO O.length cO, .slice AB D.length cB, .slice AC C.length cC, .slice AN N.length cN] 35)
  go_enter Tryd.func59, Tryd.ntmps59
  go_wp2
  go_ret
  exact ⟨rfl, b1⟩
end Go.Proofs.YtekopdfnblfldaaDoor
/- sim.valuesOf over the translated program. -/
namespace Go.Proofs.YtekopdfnblfldaaDoor
open Go.RowKit
theorem pair_add (ad : Addr) (j : Nat) : (ad.add (j * 2)).block = ad.block := block_add _ _
set_option maxRecDepth 100000 in
set_option maxHeartbeats 4000000 in
theorem valuesOf_any (I : Int) (AL AG AO AB AC AN : Option Addr) (cL cG cO cB cC cN : Nat) (L G : List Pr) (O D C : List Int) (N : List Nm) (AS AI : Option Addr) (cs ci : Nat) (st inp : List Bool) (w : World) (hG : RP w w.heap.size AG G) (hS : RB w w.heap.size AS st) (hI : RB w w.heap.size AI inp) (eI : I = (inp.length : Int)) (eL : L.length = st.length)
    (b1 : inp.length ≤ 1000000) (b2 : st.length ≤ 1000000) (b3 : G.length ≤ 1000000) (ht : topo (1 + inp.length + st.length) G) :
    Calls Tryd.prog 45 #[.agg #[.int .i64 I, .slice AL L.length cL, .slice AG G.length cG, .slice AO O.length cO, .slice AB D.length cB, .slice AC C.length cC, .slice AN N.length cN], .slice AS st.length cs, .slice AI inp.length ci] w (RetB w (vals (false :: (inp ++ st)) G)) := by
  obtain ⟨m, hm⟩ : ∃ m, inp.length + st.length + G.length = m := ⟨_, rfl⟩
  obtain ⟨T, hT⟩ : ∃ T, vals (false :: (inp ++ st)) G = T := ⟨_, rfl⟩
  rw [hT]
  have HTT := Lib.hid hT
  clear hT
  have CV : Calls Tryd.prog 53 #[.agg #[.int .i64 I, .slice AL L.length cL, .slice AG G.length cG, .slice AO O.length cO, .slice AB D.length cB, .slice AC C.length cC, .slice AN N.length cN]] (w.alloc (.cells #[.int .i64 I, .slice AL L.length cL, .slice AG G.length cG, .slice AO O.length cO, .slice AB D.length cB, .slice AC C.length cC, .slice AN N.length cN] 35)) (RetV (w.alloc (.cells #[.int .i64 I, .slice AL L.length cL, .slice AG G.length cG, .slice AO O.length cO, .slice AB D.length cB, .slice AC C.length cC, .slice AN N.length cN] 35)) (.int .i64 (m : Int))) := by
    have := Vars_any I AL AG AO AB AC AN cL cG cO cB cC cN L G O D C N (w.alloc (.cells #[.int .i64 I, .slice AL L.length cL, .slice AG G.length cG, .slice AO O.length cO, .slice AB D.length cB, .slice AC C.length cC, .slice AN N.length cN] 35)) (by omega) (by omega) (by omega) (by omega)
    rwa [show I + L.length + G.length = (m : Int) by omega] at this
  have hb0 := bal (Below.refl w.heap.size w) (.cells #[.int .i64 I, .slice AL L.length cL, .slice AG G.length cG, .slice AO O.length cO, .slice AB D.length cB, .slice AC C.length cC, .slice AN N.length cN] 35)
  have hc0 : (w.alloc (.cells #[.int .i64 I, .slice AL L.length cL, .slice AG G.length cG, .slice AO O.length cO, .slice AB D.length cB, .slice AC C.length cC, .slice AN N.length cN] 35)).cell? ⟨w.heap.size, 2, none⟩ = some (.slice AG G.length cG) := by go_simp
  have hs0 : (w.alloc (.cells #[.int .i64 I, .slice AL L.length cL, .slice AG G.length cG, .slice AO O.length cO, .slice AB D.length cB, .slice AC C.length cC, .slice AN N.length cN] 35)).heap.size = w.heap.size + 1 := by simp
  have HM := Lib.hid hm
  have HT := Lib.hid ht
  have HG := Lib.hid hG
  have HS := Lib.hid hS
  have HI := Lib.hid hI
  have m1 : inp.length ≤ m := by omega
  have m2 : m ≤ 3000000 := by omega
  clear hm ht hG hS hI eI eL
  go_enter Tryd.func45, Tryd.ntmps45
  go_wp2_with fail
  refine CV.mono ?_; rintro e w1 ⟨rfl, hb1⟩
  generalize w.alloc (.cells #[.int .i64 I, .slice AL L.length cL, .slice AG G.length cG, .slice AO O.length cO, .slice AB D.length cB, .slice AC C.length cC, .slice AN N.length cN] 35) = w0 at *
  have hz1 := hb1.size
  obtain ⟨gb, hgb⟩ : ∃ gb, w1.heap.size = gb := ⟨_, rfl⟩
  have mk := mkB 93 Tryd.underlying93 (m + 1) ((m : Int) + 1) (by omega) (by omega) w1
  have hbb := bb_made w1 (m + 1)
  have hb2 := hb1.alloc hz1 (mkO (m + 1))
  rw [hgb] at mk hbb
  generalize w1.alloc (mkO (m + 1)) = w2 at *
  obtain ⟨Z1, hZ1⟩ : ∃ Z, cutA (some ⟨gb, 0, none⟩) (m + 1) 1 = Z := ⟨_, rfl⟩
  obtain ⟨Z2, hZ2⟩ : ∃ Z, cutA (some ⟨gb, 0, none⟩) (m + 1) (1 + inp.length) = Z := ⟨_, rfl⟩
  obtain ⟨Z3, hZ3⟩ : ∃ Z, cutA (some ⟨gb, 0, none⟩) (m + 1) (1 + inp.length + st.length) = Z := ⟨_, rfl⟩
  have sl1 : ∀ wx, (Instr.slice 93 (.slice (some ⟨gb, 0, none⟩) (m + 1) (m + 1)) (some (.int .i64 1)) none none).run Tryd.prog wx = .ok (.slice Z1 m m) wx := fun wx => by
    have := slice71_l (some ⟨gb, 0, none⟩) (m + 1) (m + 1) 1 1 rfl (by omega) wx
    rwa [hZ1, Nat.add_sub_cancel] at this
  obtain ⟨n2, hn2⟩ : ∃ n, m + 1 - (1 + inp.length) = n := ⟨_, rfl⟩
  have sl2 : ∀ wx, (Instr.slice 93 (.slice (some ⟨gb, 0, none⟩) (m + 1) (m + 1)) (some (.int .i64 (1 + (inp.length : Int)))) none none).run Tryd.prog wx = .ok (.slice Z2 n2 n2) wx := fun wx => by
    have := slice71_l (some ⟨gb, 0, none⟩) (m + 1) (m + 1) (1 + inp.length) (1 + (inp.length : Int)) (by omega) (by omega) wx
    rwa [hZ2, hn2] at this
  have sl3 : ∀ wx, (Instr.slice 93 (.slice (some ⟨gb, 0, none⟩) (m + 1) (m + 1)) (some (.int .i64 (1 + (inp.length : Int) + (st.length : Int)))) none none).run Tryd.prog wx = .ok (.slice Z3 G.length G.length) wx := fun wx => by
    have := slice71_l (some ⟨gb, 0, none⟩) (m + 1) (m + 1) (1 + inp.length + st.length) (1 + (inp.length : Int) + (st.length : Int)) (by omega) (by have := HM.out; omega) wx
    rwa [hZ3, show m + 1 - (1 + inp.length + st.length) = G.length by have := HM.out; omega] at this
  have HZ1 := Lib.hid hZ1
  have HZ2 := Lib.hid hZ2
  have HZ3 := Lib.hid hZ3
  have HN2 := Lib.hid hn2
  have hgw : w0.heap.size ≤ gb := by omega
  have HB2 := Lib.hid hb2
  have HBB := Lib.hid hbb
  have HS0 := Lib.hid hs0
  obtain ⟨X0, hX0⟩ : ∃ X, (List.replicate (m + 1) false).map Value.bool = X := ⟨_, rfl⟩
  obtain ⟨X1, hX1⟩ : ∃ X, inp.map Value.bool = X := ⟨_, rfl⟩
  obtain ⟨X2, hX2⟩ : ∃ X, st.map Value.bool = X := ⟨_, rfl⟩
  have x0 : X0.length = m + 1 := by rw [← hX0]; simp
  have x1 : X1.length = inp.length := by rw [← hX1]; simp
  have x2 : X2.length = st.length := by rw [← hX2]; simp
  have p1 : X1.length = Nat.min inp.length m := by rw [x1]; show _ = min _ _; omega
  have p2 : X2.length = Nat.min st.length n2 := by rw [x2]; show _ = min _ _; have := HM.out; have := HN2.out; omega
  have q1 : ∀ v ∈ X1, v.oneCell' = true := fun v hv => by rw [← hX1] at hv; obtain ⟨x, _, rfl⟩ := List.mem_map.1 hv; rfl
  have q2 : ∀ v ∈ X2, v.oneCell' = true := fun v hv => by rw [← hX2] at hv; obtain ⟨x, _, rfl⟩ := List.mem_map.1 hv; rfl
  have rd : ∀ (A : Option Addr) (l : List Bool) (X : List Value) (wx : World), l.map Value.bool = X → RB w w.heap.size A l → Below w0.heap.size w0 wx → 0 < X.length → ∃ ad, A = some ad ∧ ∀ j v, X[j]? = some v → wx.cell? (ad.add j) = some v := by
    intro A l X wx hX hr hx hl
    subst hX
    rw [List.length_map] at hl
    obtain ⟨ad, rfl, _, _⟩ := hr 0 hl
    refine ⟨ad, rfl, fun j v hj => ?_⟩
    have hjl : j < l.length := by simpa using (List.getElem?_eq_some_iff.1 hj).1
    obtain ⟨ad', e, hlt, hc⟩ := hr j hjl
    cases e
    rw [hx.cell (by rw [block_add]; have := HS0.out; omega), hb0.cell (by rw [block_add]; exact hlt), hc]
    simp [hjl] at hj
    rw [← hj]
    simp [List.getD_eq_getElem?_getD, hjl]
  have RD := Lib.hid rd
  have HX0 := Lib.hid hX0
  have HX1 := Lib.hid hX1
  have HX2 := Lib.hid hX2
  have hba : Hid (w2.heap[gb]? = some (.cells X0.toArray 4 (0, 0))) := by show _ = _; rw [← hX0]; exact hbb
  have A1 : 0 < X1.length → Z1 = some ⟨gb, 1, none⟩ := fun h0 => by rw [← hZ1, cutA_some _ _ _ (by omega), add_loc]
  have A2 : 0 < X2.length → Z2 = some ⟨gb, 1 + inp.length, none⟩ := fun h0 => by have := HM.out; rw [← hZ2, cutA_some _ _ _ (by omega), add_loc]
  have A3 : 0 < G.length → Z3 = some ⟨gb, 1 + inp.length + st.length, none⟩ := fun h0 => by have := HM.out; rw [← hZ3, cutA_some _ _ _ (by omega), add_loc]
  have A1 := Lib.hid A1
  have A2 := Lib.hid A2
  have A3 := Lib.hid A3
  have f1 : 1 + X1.length ≤ X0.length := by omega
  clear hZ1 hZ2 hZ3 hn2 hb2 hbb rd CV hgb hs0 hX0 hX1 hX2 HZ1 HZ2 HZ3
  go_wp2_with (first | (refine wpList_copy_splice rfl (.tmp 17) (.tmp 18) 93 53 rfl 4 Tryd.underlying93 size4 Z1 AI m m inp.length ci rfl rfl gb 1 X0 4 hba.out X1 p1 (fun h0 => ⟨A1.out h0, RD.out AI inp X1 _ HX1.out HI.out HB2.out h0⟩) f1 q1 w0.heap.size w0 HB2.out hgw ?_) | fail)
  intro wa ha hwa
  obtain ⟨Y1, hY1⟩ : ∃ Y, splice X0 1 X1 = Y := ⟨_, rfl⟩
  rw [hY1] at ha
  have y1 : Y1.length = m + 1 := by rw [← hY1, length_splice _ _ _ f1]; exact x0
  have HY1 := Lib.hid hY1
  have HWA := Lib.hid hwa
  have f2 : (1 + inp.length) + X2.length ≤ Y1.length := by have := HM.out; omega
  clear hba hY1 p1 q1 A1 f1 hwa
  go_wp2_with (first | (refine wpList_copy_splice rfl (.tmp 24) (.tmp 25) 93 53 rfl 4 Tryd.underlying93 size4 Z2 AS n2 n2 st.length cs rfl rfl gb (1 + inp.length) Y1 4 ha.out X2 p2 (fun h0 => ⟨A2.out h0, RD.out AS st X2 _ HX2.out HS.out HWA.out h0⟩) f2 q2 w0.heap.size w0 HWA.out hgw ?_) | fail)
  intro wb hb hwb
  obtain ⟨base, hbase⟩ : ∃ b, false :: (inp ++ st) = b := ⟨_, rfl⟩
  have hlb : base.length = 1 + inp.length + st.length := by rw [← hbase]; simp; omega
  have hrow : BB wb gb (rowV base G 0) := by
    have e := hb.out
    rw [← HY1.out, ← HX0.out, ← HX1.out, ← HX2.out, map_splice, map_splice, ← HM.out, splice_two, hbase, ← rowV_zero] at e
    exact e
  have hTb := HTT.out
  rw [hbase] at hTb
  have HTB := Lib.hid hTb
  clear hTb HTT
  have HROW := Lib.hid hrow
  have HWB := Lib.hid hwb
  have hc1 : wb.cell? ⟨w.heap.size, 2, none⟩ = some (.slice AG G.length cG) := (hwb.cell (by show w.heap.size < _; have := HS0.out; omega)).trans hc0
  have htopo := HT.out
  rw [← hlb] at htopo
  have HTO := Lib.hid htopo
  have HLB := Lib.hid hlb
  clear ha hb hwb hrow htopo hlb hbase HT HY1 HX0 HX1 HX2 HWA A2 p2 q2 f2 RD HS HI HBB HB2 x0 x1 x2 y1 sl1 sl2 mk hb1
  go_wp2
  go_loopg [40] G.length (fun g s40 wr => ∃ j : Nat, j + g = G.length ∧ s40 = .int .i64 j ∧ BB wr gb (rowV base G j) ∧ Below w0.heap.size w0 wr)
  case atStart => exact ⟨0, by omega, rfl, HROW.out, HWB.out⟩
  case round =>
    obtain ⟨j, hj, rfl, hrow, hbel⟩ := hrel
    have hlen := rowV_len base G j (by omega)
    have hlb := HLB.out
    have hmm := HM.out
    have hl : (rowV base G j).length = m + 1 := by omega
    cases gk with
    | zero =>
      have q1 : ¬ ((j : Int) < G.length) := by omega
      have q2 : ¬ (j < G.length) := by omega
      have e0 : rowV base G j = T := by rw [show j = G.length by omega, rowV_full, HTB.out]
      rw [e0] at hrow hl
      have HL := Lib.hid hl
      have hfin := hb0.trans (hbel.mono (by have := HS0.out; omega))
      clear hc1 hc0 sl3 hl e0 hlen
      go_wp2
      go_ret
      exact ⟨some ⟨gb, 0, none⟩, m + 1, by rw [HL.out]; rfl, hrow.rb, (fun e => by cases e), by rw [HL.out]; exact Nat.le_refl _, by unfold maxLen; omega, hfin⟩
    | succ g =>
      have hjl : j < G.length := by omega
      have hjl' : (j : Int) < G.length := by omega
      obtain ⟨ad, rfl, hab, hp0, hp1⟩ := HG.out j hjl
      have hp0' : wr.cell? (ad.add (j * 2)) = some (.int .i64 (G.getD j (0, 0)).1) := ((hbel.cell (by rw [block_add]; have := HS0.out; omega)).trans (hb0.cell (by rw [block_add]; exact hab))).trans hp0
      have hp1' : wr.cell? ⟨(ad.add (j * 2)).block, (ad.add (j * 2)).off + 1, none⟩ = some (.int .i64 (G.getD j (0, 0)).2) := ((hbel.cell (by show (ad.add (j * 2)).block < _; rw [block_add]; have := HS0.out; omega)).trans (hb0.cell (by show (ad.add (j * 2)).block < _; rw [block_add]; exact hab))).trans hp1
      obtain ⟨t1, t2, t3⟩ := HTO.out j hjl
      have hnext := rowV_next base G j hjl HTO.out
      generalize G.getD j (0, 0) = p at *
      obtain ⟨pa, pb⟩ := p
      simp only at hp0' hp1' t1 t2 t3 hnext
      have CT : ∀ x : Int, 0 ≤ x → x < 10000000 → ∀ wx, Below wr.heap.size wr wx → Calls Tryd.prog 46 #[.slice (some ⟨gb, 0, none⟩) (m + 1) (m + 1), .int .i64 x] wx (RetS wx (.bool (lt (rowV base G j) x))) := fun x h0 h1 wx hx => by
        have := isTrue_any (some ⟨gb, 0, none⟩) (m + 1) (rowV base G j) x wx (hrow.rb.nx hx) (by unfold maxLen; omega) (by omega) (by omega)
        rwa [hl] at this
      have HN := Lib.hid hnext
      have HP := Lib.hid (And.intro hp0' hp1')
      have HCT := Lib.hid CT
      have hz3 := A3.out (by omega)
      subst hz3
      have hkj : base.length + j = 1 + inp.length + st.length + j := by omega
      have hcell := hrow.cell (base.length + j) (by omega)
      have hfroz := hrow.frozen (base.length + j)
      rw [hkj] at hcell hfroz
      obtain ⟨u, hu⟩ : ∃ u, (rowV base G j).getD (1 + inp.length + st.length + j) false = u := ⟨_, rfl⟩
      rw [hu] at hcell
      clear hp0 hp1 hu HTO hnext CT
      have C1 := HCT.out pa (by omega) (by omega)
      have C2 := HCT.out pb (by omega) (by omega)
      generalize lt (rowV base G j) pa = xa at *
      generalize lt (rowV base G j) pb = xb at *
      have C1 := Lib.hid C1
      have C2 := Lib.hid C2
      have hgr : gb < wr.heap.size := hrow.lt
      have HGR := Lib.hid hgr
      have HROWJ := Lib.hid hrow
      have HBEL := Lib.hid hbel
      have hba := bal (Below.refl wr.heap.size wr) (.cells #[.int .i64 pa, .int .i64 pb] 68)
      have c1 := C1.out _ hba
      have c2 := C2.out _ hba
      clear hrow hbel hba C1 C2 HCT t1 t2 t3 hp0' hp1' hlen hl hlb hmm HROW HWB hc1 hc0 sl3 hb0 HTB HG HLB
      have hp0' : wr.cell? (ad.add (j * 2)) = some (.int .i64 pa) := HP.out.1
      have hp1' : wr.cell? ⟨(ad.add (j * 2)).block, (ad.add (j * 2)).off + 1, none⟩ = some (.int .i64 pb) := HP.out.2
      cases xa
      · go_wp2_with fail
        refine c1.mono ?_; rintro e w' ⟨rfl, rfl⟩
        clear c1 c2
        go_wp2
        go_roundg g
        case measure => omega
        case rel =>
          refine ⟨j + 1, by omega, by go_num, ?_, ?_⟩
          · rw [HN.out, hkj]
            exact (HROWJ.out.store _ _).alloc _
          · exact (HBEL.out.setCell (by exact hgw) _).alloc (by simp; omega) _
      · go_wp2_with fail
        refine c1.mono ?_; rintro e w' ⟨rfl, rfl⟩
        clear c1
        go_wp2_with fail
        refine c2.mono ?_; rintro e w' ⟨rfl, rfl⟩
        clear c2
        go_wp2
        go_roundg g
        case measure => omega
        case rel =>
          refine ⟨j + 1, by omega, by go_num, ?_, ?_⟩
          · rw [HN.out, hkj]
            exact (HROWJ.out.store _ _).alloc _
          · exact (HBEL.out.setCell (by exact hgw) _).alloc (by simp; omega) _
end Go.Proofs.YtekopdfnblfldaaDoor
