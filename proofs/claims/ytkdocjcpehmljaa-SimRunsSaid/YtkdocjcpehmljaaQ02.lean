/-
  What is told of each of a list: literals' values.
  The next state, in memory of its own.
  The last variable of a model.
  sim.valuesOf over the translated program.
-/
import Derived.Test.YtkdocjcpehmljaaProg
import Derived.WalkKit
import Derived.WalkSpells
import Derived.WalkLawsBesides
import Derived.Lib.Hide
import Derived.BigQuiet
import Derived.Deep.QuietTactic
import Derived.Deep.RegionWith
import Derived.Deep.RegionHeld3
import Derived.Test.YtkdocjcpehmljaaQ01
import Derived.Deep.LoopGhost
import Derived.WalkMore
set_option linter.unusedVariables false
/- What is told of each of a list: literals' values. -/
namespace Go.Proofs.Ytkdocjcpehmljaa
open Go.RowKit
/-- The row of what is told while it is filled. -/
def rowM (R : List Bool) (n j : Nat) : List Bool := R.take j ++ List.replicate (n - j) false
theorem rowM_len (R : List Bool) (n j : Nat) (hn : R.length = n) (h : j ≤ n) : (rowM R n j).length = n := by simp [rowM]; omega
theorem rowM_full (R : List Bool) (n : Nat) (hn : R.length = n) : rowM R n n = R := by subst hn; simp [rowM]
theorem rowM_next (R : List Bool) (n j : Nat) (hn : R.length = n) (h : j < n) : rowM R n (j + 1) = (rowM R n j).set j (R.getD j false) := by
  subst hn
  unfold rowM
  have hl : (R.take j).length = j := by rw [List.length_take]; omega
  have e : R.take (j + 1) = R.take j ++ [R.getD j false] := by rw [List.take_add_one]; simp [List.getD_eq_getElem?_getD, h]
  rw [e, show R.length - j = (R.length - (j + 1)) + 1 by omega, List.replicate_succ, List.set_append_right _ _ (by omega), hl, Nat.sub_self, List.set_cons_zero, List.append_assoc]
  rfl
theorem getD_map_lt (v : List Bool) (l : List Int) (j : Nat) (h : j < l.length) : (l.map (lt v)).getD j false = lt v (l.getD j 0) := by
  simp [List.getD_eq_getElem?_getD, h]
theorem getD_map_nx (v : List Bool) (L : List Pr) (j : Nat) (h : j < L.length) : (L.map (fun p => lt v p.1)).getD j false = lt v (L.getD j (0, 0)).1 := by
  simp [List.getD_eq_getElem?_getD, h]
/-- Literals within a machine's numbers. -/
def Lits (l : List Int) : Prop := ∀ x ∈ l, 0 ≤ x ∧ x ≤ 100000000
theorem Lits.at {l : List Int} (h : Lits l) (j : Nat) (hj : j < l.length) : 0 ≤ l.getD j 0 ∧ l.getD j 0 ≤ 100000000 := by
  apply h
  simp [List.getD_eq_getElem?_getD, hj]
def LitsP (L : List Pr) : Prop := ∀ p ∈ L, 0 ≤ p.1 ∧ p.1 ≤ 100000000
theorem LitsP.at {L : List Pr} (h : LitsP L) (j : Nat) (hj : j < L.length) : 0 ≤ (L.getD j (0, 0)).1 ∧ (L.getD j (0, 0)).1 ≤ 100000000 := by
  apply h
  simp [List.getD_eq_getElem?_getD, hj]
set_option maxHeartbeats 2000000 in
theorem rowI_any (A Av : Option Addr) (c cv : Nat) (l : List Int) (v : List Bool) (w : World) (h : RI w w.heap.size A l) (hv : RB w w.heap.size Av v) (hl : l.length ≤ 1000000) (hm : v.length ≤ maxLen) (hlit : Lits l) :
    Calls Try.prog 29 #[.slice A l.length c, .func (.func 28) #[.slice Av v.length cv] #[]] w (RetB w (l.map (lt v))) := by
  obtain ⟨T, hT⟩ : ∃ T, l.map (lt v) = T := ⟨_, rfl⟩
  have ht : T.length = l.length := by rw [← hT]; simp
  rw [hT]
  have hg : ∀ j, j < l.length → T.getD j false = lt v (l.getD j 0) := fun j hj => by rw [← hT]; exact getD_map_lt v l j hj
  have mk := mkB 28 Try.underlying28 l.length (l.length : Int) rfl (by omega) w
  have hbb := bb_made w l.length
  have hb2 := bal (Below.refl w.heap.size w) (mkO l.length)
  have HG := Lib.hid hg
  have HT := Lib.hid ht
  have H := Lib.hid h
  have CT : ∀ x : Int, 0 ≤ x → x ≤ 100000000 → ∀ wx, Below w.heap.size w wx → Calls Try.prog 28 #[.slice Av v.length cv, .int .i64 x] wx (RetS wx (.bool (lt v x))) := fun x h0 h1 wx hx => isTrue_any Av cv v x wx (hv.nx hx) hm (by omega) (by omega)
  have HCT := Lib.hid CT
  have HLI := Lib.hid hlit
  clear hT hg ht h hv CT hlit
  go_enter Try.func29, Try.ntmps29
  generalize w.alloc (mkO l.length) = w2 at *
  have hr0 : BB w2 w.heap.size (rowM T l.length 0) := by unfold rowM; simpa using hbb
  have HR0 := Lib.hid hr0
  have HB2 := Lib.hid hb2
  clear hbb hb2 hr0
  go_wp2
  go_loopg [13] l.length (fun g s wr => ∃ j : Nat, j + g = l.length ∧ s = .int .i64 j ∧ BB wr w.heap.size (rowM T l.length j) ∧ Below w.heap.size w wr)
  case atStart => exact ⟨0, by omega, rfl, HR0.out, HB2.out⟩
  case round =>
    obtain ⟨j, hj, rfl, hrow, hbel⟩ := hrel
    cases gk with
    | zero =>
      have q1 : ¬ ((j : Int) < l.length) := by omega
      have q2 : ¬ (j < l.length) := by omega
      rw [show j = l.length by omega, rowM_full T _ HT.out] at hrow
      go_wp2
      go_ret
      exact ⟨_, l.length, by rw [HT.out]; rfl, hrow.rb, (fun e => by cases e), by rw [HT.out]; exact Nat.le_refl _, by unfold maxLen; omega, hbel⟩
    | succ g =>
      have hjl : j < l.length := by omega
      have hjl' : (j : Int) < l.length := by omega
      obtain ⟨ad, rfl, hab, hp⟩ := H.out j hjl
      have hp' := (hbel.cell (p := ad.add j) (by rw [block_add]; exact hab)).trans hp
      obtain ⟨x0, x1⟩ := HLI.out.at j hjl
      have hnext := rowM_next T l.length j HT.out hjl
      have hgx := HG.out j hjl
      rw [hgx] at hnext
      have c1 := HCT.out (l.getD j 0) x0 x1 wr hbel
      have hll := rowM_len T l.length j HT.out (by omega)
      have hcell := hrow.cell j (by omega)
      have hfroz := hrow.frozen j
      generalize (rowM T l.length j).getD j false = u at *
      generalize lt v (l.getD j 0) = y at *
      generalize l.getD j 0 = x at *
      have HN := Lib.hid hnext
      have HROW := Lib.hid hrow
      have HBEL := Lib.hid hbel
      clear hnext hrow hbel hgx hp hll
      go_wp2_with fail
      refine c1.mono ?_; rintro e w' ⟨rfl, rfl⟩
      clear c1
      go_wp2
      go_roundg g
      case measure => omega
      case rel => exact ⟨j + 1, by omega, by go_num, by rw [HN.out]; exact HROW.out.store _ _, HBEL.out.setCell (Nat.le_refl _) _⟩
set_option maxHeartbeats 2000000 in
theorem next1_any (gv : Nat) (Av : Option Addr) (cv : Nat) (v : List Bool) (x y : Int) (w : World) (hc : w.cell? ⟨gv, 0, none⟩ = some (.slice Av v.length cv)) (hv : RB w w.heap.size Av v) (hm : v.length ≤ maxLen) (x0 : 0 ≤ x) (x1 : x ≤ 100000000) :
    Calls Try.prog 44 #[.agg #[.int .i64 x, .int .i64 y], .pointer (some ⟨gv, 0, none⟩)] w (RetV w (.bool (lt v x))) := by
  have hb := bal (Below.refl w.heap.size w) (.cells #[.int .i64 x, .int .i64 y] 63)
  have c1 := isTrue_any Av cv v x _ (hv.nx hb) hm (by omega) (by omega)
  have hg : gv < w.heap.size := by
    rcases Nat.lt_or_ge gv w.heap.size with h' | h'
    · exact h'
    · simp [World.cell?, Array.getElem?_eq_none h'] at hc
  clear hv
  go_enter Try.func44, Try.ntmps44
  go_wp2_with fail
  refine c1.mono ?_; rintro e w' ⟨rfl, rfl⟩
  go_wp2
  go_ret
  exact ⟨rfl, hb⟩
set_option maxHeartbeats 2000000 in
theorem rowL_any (A Av : Option Addr) (c cv gv : Nat) (L : List Pr) (v : List Bool) (w : World) (h : RP w w.heap.size A L) (hc : w.cell? ⟨gv, 0, none⟩ = some (.slice Av v.length cv)) (hv : RB w w.heap.size Av v) (hl : L.length ≤ 1000000) (hm : v.length ≤ maxLen) (hlit : LitsP L) :
    Calls Try.prog 43 #[.slice A L.length c, .func (.func 44) #[] #[.pointer (some ⟨gv, 0, none⟩)]] w (RetB w (L.map (fun p => lt v p.1))) := by
  have hgv : gv < w.heap.size := by
    rcases Nat.lt_or_ge gv w.heap.size with h' | h'
    · exact h'
    · simp [World.cell?, Array.getElem?_eq_none h'] at hc
  obtain ⟨T, hT⟩ : ∃ T, L.map (fun p => lt v p.1) = T := ⟨_, rfl⟩
  have ht : T.length = L.length := by rw [← hT]; simp
  rw [hT]
  have hg : ∀ j, j < L.length → T.getD j false = lt v (L.getD j (0, 0)).1 := fun j hj => by rw [← hT]; exact getD_map_nx v L j hj
  have mk := mkB 28 Try.underlying28 L.length (L.length : Int) rfl (by omega) w
  have hbb := bb_made w L.length
  have hb2 := bal (Below.refl w.heap.size w) (mkO L.length)
  have HG := Lib.hid hg
  have HT := Lib.hid ht
  have H := Lib.hid h
  have CT : ∀ x y : Int, 0 ≤ x → x ≤ 100000000 → ∀ wx, Below w.heap.size w wx → Calls Try.prog 44 #[.agg #[.int .i64 x, .int .i64 y], .pointer (some ⟨gv, 0, none⟩)] wx (RetV wx (.bool (lt v x))) := fun x y h0 h1 wx hx => next1_any gv Av cv v x y wx ((hx.cell hgv).trans hc) (hv.nx hx) hm h0 h1
  have HCT := Lib.hid CT
  have HLI := Lib.hid hlit
  clear hT hg ht h hv CT hlit hc
  go_enter Try.func43, Try.ntmps43
  generalize w.alloc (mkO L.length) = w2 at *
  have hr0 : BB w2 w.heap.size (rowM T L.length 0) := by unfold rowM; simpa using hbb
  have HR0 := Lib.hid hr0
  have HB2 := Lib.hid hb2
  clear hbb hb2 hr0
  go_wp2
  go_loopg [13] L.length (fun g s wr => ∃ j : Nat, j + g = L.length ∧ s = .int .i64 j ∧ BB wr w.heap.size (rowM T L.length j) ∧ Below w.heap.size w wr)
  case atStart => exact ⟨0, by omega, rfl, HR0.out, HB2.out⟩
  case round =>
    obtain ⟨j, hj, rfl, hrow, hbel⟩ := hrel
    cases gk with
    | zero =>
      have q1 : ¬ ((j : Int) < L.length) := by omega
      have q2 : ¬ (j < L.length) := by omega
      rw [show j = L.length by omega, rowM_full T _ HT.out] at hrow
      go_wp2
      go_ret
      exact ⟨_, L.length, by rw [HT.out]; rfl, hrow.rb, (fun e => by cases e), by rw [HT.out]; exact Nat.le_refl _, by unfold maxLen; omega, hbel⟩
    | succ g =>
      have hjl : j < L.length := by omega
      have hjl' : (j : Int) < L.length := by omega
      obtain ⟨ad, rfl, hab, hp0, hp1⟩ := H.out j hjl
      have hp0' := (hbel.cell (p := ad.add (j * 2)) (by rw [block_add]; exact hab)).trans hp0
      have hp1' := (hbel.cell (p := ⟨(ad.add (j * 2)).block, (ad.add (j * 2)).off + 1, none⟩) (by show (ad.add (j * 2)).block < _; rw [block_add]; exact hab)).trans hp1
      obtain ⟨x0, x1⟩ := HLI.out.at j hjl
      have hnext := rowM_next T L.length j HT.out hjl
      have hgx := HG.out j hjl
      rw [hgx] at hnext
      have hll := rowM_len T L.length j HT.out (by omega)
      generalize L.getD j (0, 0) = p at *
      obtain ⟨x, y⟩ := p
      simp only at hp0' hp1' x0 x1 hnext
      have hba := bal (Below.refl wr.heap.size wr) (.cells #[.int .i64 x, .int .i64 y] 63)
      have c1 := HCT.out x y x0 x1 _ (hbel.alloc hbel.size (.cells #[.int .i64 x, .int .i64 y] 63))
      have hrow1 : BB (wr.alloc (.cells #[.int .i64 x, .int .i64 y] 63)) w.heap.size (rowM T L.length j) := hrow.alloc _
      have hbel1 := hbel.alloc hbel.size (.cells #[.int .i64 x, .int .i64 y] 63)
      generalize lt v x = yy at *
      have HN := Lib.hid hnext
      have HROW := Lib.hid hrow1
      have HBEL := Lib.hid hbel1
      have HLL := Lib.hid hll
      clear hnext hrow hbel hgx hp0 hp1 hll hrow1 hbel1
      go_wp2_with fail
      refine c1.mono ?_; rintro e w' ⟨rfl, hbw⟩
      have hrw := HROW.out.below hbw (HROW.out.lt)
      have hcell := hrw.cell j (by rw [HLL.out]; exact hjl)
      have hfroz := hrw.frozen j
      generalize (rowM T L.length j).getD j false = u at *
      have HRW := Lib.hid hrw
      have HBW := Lib.hid (HBEL.out.trans (hbw.mono HBEL.out.size))
      clear c1 hrw hbw HROW HBEL
      go_wp2
      go_roundg g
      case measure => omega
      case rel => exact ⟨j + 1, by omega, by go_num, by rw [HN.out]; exact HRW.out.store _ _, HBW.out.setCell (Nat.le_refl _) _⟩
set_option maxHeartbeats 2000000 in
theorem next_any (I : Int) (AL AG AO AB AC AN : Option Addr) (cL cG cO cB cC cN : Nat) (L G : List Pr) (O D C : List Int) (N : List Nm) (Av : Option Addr) (cv : Nat) (v : List Bool) (w : World) (h : RP w w.heap.size AL L) (hv : RB w w.heap.size Av v) (hl : L.length ≤ 1000000) (hm : v.length ≤ maxLen) (hlit : LitsP L) :
    Calls Try.prog 30 #[.agg #[.int .i64 I, .slice AL L.length cL, .slice AG G.length cG, .slice AO O.length cO, .slice AB D.length cB, .slice AC C.length cC, .slice AN N.length cN], .slice Av v.length cv] w (RetB w (L.map (fun p => lt v p.1))) := by
  have hb1 := bal (Below.refl w.heap.size w) (.cells #[.int .i64 I, .slice AL L.length cL, .slice AG G.length cG, .slice AO O.length cO, .slice AB D.length cB, .slice AC C.length cC, .slice AN N.length cN] 27)
  have hb2 := bal hb1 (.cells #[.slice Av v.length cv] 71)
  have C1 := rowL_any AL Av cL cv (w.heap.size + 1) L v ((w.alloc (.cells #[.int .i64 I, .slice AL L.length cL, .slice AG G.length cG, .slice AO O.length cO, .slice AB D.length cB, .slice AC C.length cC, .slice AN N.length cN] 27)).alloc (.cells #[.slice Av v.length cv] 71)) (h.nx hb2) (by go_simp) (hv.nx hb2) hl hm hlit
  generalize L.map (fun p => lt v p.1) = T at *
  clear h hv hb1
  go_enter Try.func30, Try.ntmps30
  go_wp2_with fail
  refine C1.mono ?_; rintro e w' ⟨A', c', rfl, q1, q2, q3, q4, q5⟩
  have hq := bnx hb2 q5
  have HQ := Lib.hid (And.intro q1 (And.intro q2 (And.intro q3 (And.intro q4 hq))))
  clear C1 q1 q2 q3 q4 q5 hq hb2
  go_wp2
  go_ret
  exact ⟨A', c', rfl, HQ.out.1, HQ.out.2.1, HQ.out.2.2.1, HQ.out.2.2.2.1, HQ.out.2.2.2.2⟩
end Go.Proofs.Ytkdocjcpehmljaa
/- The next state, in memory of its own. -/
namespace Go.Proofs.Ytkdocjcpehmljaa
open Go.RowKit
/-- A call that tells a row of flags in a block of its own. -/
def RetW (w0 : World) (l : List Bool) (e : Ending) (w' : World) : Prop := ∃ g c, e = .returned (.slice (some ⟨g, 0, none⟩) l.length c) ∧ w0.heap.size ≤ g ∧ g < w'.heap.size ∧ RB w' w'.heap.size (some ⟨g, 0, none⟩) l ∧ l.length ≤ c ∧ c ≤ maxLen ∧ Below w0.heap.size w0 w'
set_option maxHeartbeats 2000000 in
theorem rowLn_any (A Av : Option Addr) (c cv gv : Nat) (L : List Pr) (v : List Bool) (w : World) (h : RP w w.heap.size A L) (hc : w.cell? ⟨gv, 0, none⟩ = some (.slice Av v.length cv)) (hv : RB w w.heap.size Av v) (hl : L.length ≤ 1000000) (hm : v.length ≤ maxLen) (hlit : LitsP L) :
    Calls Try.prog 43 #[.slice A L.length c, .func (.func 44) #[] #[.pointer (some ⟨gv, 0, none⟩)]] w (RetW w (L.map (fun p => lt v p.1))) := by
  have hgv : gv < w.heap.size := by
    rcases Nat.lt_or_ge gv w.heap.size with h' | h'
    · exact h'
    · simp [World.cell?, Array.getElem?_eq_none h'] at hc
  obtain ⟨T, hT⟩ : ∃ T, L.map (fun p => lt v p.1) = T := ⟨_, rfl⟩
  have ht : T.length = L.length := by rw [← hT]; simp
  rw [hT]
  have hg : ∀ j, j < L.length → T.getD j false = lt v (L.getD j (0, 0)).1 := fun j hj => by rw [← hT]; exact getD_map_nx v L j hj
  have mk := mkB 28 Try.underlying28 L.length (L.length : Int) rfl (by omega) w
  have hbb := bb_made w L.length
  have hb2 := bal (Below.refl w.heap.size w) (mkO L.length)
  have HG := Lib.hid hg
  have HT := Lib.hid ht
  have H := Lib.hid h
  have CT : ∀ x y : Int, 0 ≤ x → x ≤ 100000000 → ∀ wx, Below w.heap.size w wx → Calls Try.prog 44 #[.agg #[.int .i64 x, .int .i64 y], .pointer (some ⟨gv, 0, none⟩)] wx (RetV wx (.bool (lt v x))) := fun x y h0 h1 wx hx => next1_any gv Av cv v x y wx ((hx.cell hgv).trans hc) (hv.nx hx) hm h0 h1
  have HCT := Lib.hid CT
  have HLI := Lib.hid hlit
  clear hT hg ht h hv CT hlit hc
  go_enter Try.func43, Try.ntmps43
  generalize w.alloc (mkO L.length) = w2 at *
  have hr0 : BB w2 w.heap.size (rowM T L.length 0) := by unfold rowM; simpa using hbb
  have HR0 := Lib.hid hr0
  have HB2 := Lib.hid hb2
  clear hbb hb2 hr0
  go_wp2
  go_loopg [13] L.length (fun g s wr => ∃ j : Nat, j + g = L.length ∧ s = .int .i64 j ∧ BB wr w.heap.size (rowM T L.length j) ∧ Below w.heap.size w wr)
  case atStart => exact ⟨0, by omega, rfl, HR0.out, HB2.out⟩
  case round =>
    obtain ⟨j, hj, rfl, hrow, hbel⟩ := hrel
    cases gk with
    | zero =>
      have q1 : ¬ ((j : Int) < L.length) := by omega
      have q2 : ¬ (j < L.length) := by omega
      rw [show j = L.length by omega, rowM_full T _ HT.out] at hrow
      go_wp2
      go_ret
      exact ⟨w.heap.size, L.length, by rw [HT.out]; rfl, Nat.le_refl _, hrow.lt, hrow.rb, by rw [HT.out]; exact Nat.le_refl _, by unfold maxLen; omega, hbel⟩
    | succ g =>
      have hjl : j < L.length := by omega
      have hjl' : (j : Int) < L.length := by omega
      obtain ⟨ad, rfl, hab, hp0, hp1⟩ := H.out j hjl
      have hp0' := (hbel.cell (p := ad.add (j * 2)) (by rw [block_add]; exact hab)).trans hp0
      have hp1' := (hbel.cell (p := ⟨(ad.add (j * 2)).block, (ad.add (j * 2)).off + 1, none⟩) (by show (ad.add (j * 2)).block < _; rw [block_add]; exact hab)).trans hp1
      obtain ⟨x0, x1⟩ := HLI.out.at j hjl
      have hnext := rowM_next T L.length j HT.out hjl
      have hgx := HG.out j hjl
      rw [hgx] at hnext
      have hll := rowM_len T L.length j HT.out (by omega)
      generalize L.getD j (0, 0) = p at *
      obtain ⟨x, y⟩ := p
      simp only at hp0' hp1' x0 x1 hnext
      have hba := bal (Below.refl wr.heap.size wr) (.cells #[.int .i64 x, .int .i64 y] 63)
      have c1 := HCT.out x y x0 x1 _ (hbel.alloc hbel.size (.cells #[.int .i64 x, .int .i64 y] 63))
      have hrow1 : BB (wr.alloc (.cells #[.int .i64 x, .int .i64 y] 63)) w.heap.size (rowM T L.length j) := hrow.alloc _
      have hbel1 := hbel.alloc hbel.size (.cells #[.int .i64 x, .int .i64 y] 63)
      generalize lt v x = yy at *
      have HN := Lib.hid hnext
      have HROW := Lib.hid hrow1
      have HBEL := Lib.hid hbel1
      have HLL := Lib.hid hll
      clear hnext hrow hbel hgx hp0 hp1 hll hrow1 hbel1
      go_wp2_with fail
      refine c1.mono ?_; rintro e w' ⟨rfl, hbw⟩
      have hrw := HROW.out.below hbw (HROW.out.lt)
      have hcell := hrw.cell j (by rw [HLL.out]; exact hjl)
      have hfroz := hrw.frozen j
      generalize (rowM T L.length j).getD j false = u at *
      have HRW := Lib.hid hrw
      have HBW := Lib.hid (HBEL.out.trans (hbw.mono HBEL.out.size))
      clear c1 hrw hbw HROW HBEL
      go_wp2
      go_roundg g
      case measure => omega
      case rel => exact ⟨j + 1, by omega, by go_num, by rw [HN.out]; exact HRW.out.store _ _, HBW.out.setCell (Nat.le_refl _) _⟩
set_option maxHeartbeats 2000000 in
theorem nextn_any (I : Int) (AL AG AO AB AC AN : Option Addr) (cL cG cO cB cC cN : Nat) (L G : List Pr) (O D C : List Int) (N : List Nm) (Av : Option Addr) (cv : Nat) (v : List Bool) (w : World) (h : RP w w.heap.size AL L) (hv : RB w w.heap.size Av v) (hl : L.length ≤ 1000000) (hm : v.length ≤ maxLen) (hlit : LitsP L) :
    Calls Try.prog 30 #[.agg #[.int .i64 I, .slice AL L.length cL, .slice AG G.length cG, .slice AO O.length cO, .slice AB D.length cB, .slice AC C.length cC, .slice AN N.length cN], .slice Av v.length cv] w (RetW w (L.map (fun p => lt v p.1))) := by
  have hb1 := bal (Below.refl w.heap.size w) (.cells #[.int .i64 I, .slice AL L.length cL, .slice AG G.length cG, .slice AO O.length cO, .slice AB D.length cB, .slice AC C.length cC, .slice AN N.length cN] 27)
  have hb2 := bal hb1 (.cells #[.slice Av v.length cv] 71)
  have C1 := rowLn_any AL Av cL cv (w.heap.size + 1) L v ((w.alloc (.cells #[.int .i64 I, .slice AL L.length cL, .slice AG G.length cG, .slice AO O.length cO, .slice AB D.length cB, .slice AC C.length cC, .slice AN N.length cN] 27)).alloc (.cells #[.slice Av v.length cv] 71)) (h.nx hb2) (by go_simp) (hv.nx hb2) hl hm hlit
  generalize L.map (fun p => lt v p.1) = T at *
  clear h hv hb1
  go_enter Try.func30, Try.ntmps30
  go_wp2_with fail
  refine C1.mono ?_; rintro e w' ⟨g', c', rfl, q2, q6, q1, q3, q4, q5⟩
  have HQ6 := Lib.hid q6
  clear q6
  have hq := bnx hb2 q5
  have HQ := Lib.hid (And.intro q1 (And.intro q2 (And.intro q3 (And.intro q4 hq))))
  clear C1 q1 q2 q3 q4 q5 hq hb2
  go_wp2
  go_ret
  exact ⟨g', c', rfl, by have := HQ.out.2.1; simp at this; omega, HQ6.out, HQ.out.1, HQ.out.2.2.1, HQ.out.2.2.2.1, HQ.out.2.2.2.2⟩
end Go.Proofs.Ytkdocjcpehmljaa
/- The last variable of a model. -/
namespace Go.Proofs.Ytkdocjcpehmljaa
open Go.RowKit
set_option maxHeartbeats 2000000 in
theorem HeadOf_any (I : Int) (AL AG AO AB AC AN : Option Addr) (cL cG cO cB cC cN : Nat) (L G : List Pr) (O D C : List Int) (N : List Nm) (w : World) (h0 : 0 ≤ I) (h1 : I ≤ 1000000) (h2 : L.length ≤ 1000000) (h3 : G.length ≤ 1000000) :
    Calls Try.prog 48 #[.agg #[.int .i64 I, .slice AL L.length cL, .slice AG G.length cG, .slice AO O.length cO, .slice AB D.length cB, .slice AC C.length cC, .slice AN N.length cN]] w (RetV w (.agg #[.int .i64 (I + L.length + G.length), .int .i64 I, .int .i64 L.length, .int .i64 O.length, .int .i64 G.length, .int .i64 D.length, .int .i64 C.length])) := by
  go_enter Try.func48, Try.ntmps48
  go_wp2
  refine bodyPost_ret (v := .agg #[.int .i64 (I + L.length + G.length), .int .i64 I, .int .i64 L.length, .int .i64 O.length, .int .i64 G.length, .int .i64 D.length, .int .i64 C.length]) ?r rfl ?_
  case r =>
    simp only [results, Try.f48]
    go_simp
  exact ⟨rfl, by repeat (first | exact Below.refl _ _ | refine Below.setCell ?_ (by simp) _ | refine bal ?_ _)⟩
set_option maxRecDepth 100000 in
set_option maxHeartbeats 2000000 in
theorem Vars_any (I : Int) (AL AG AO AB AC AN : Option Addr) (cL cG cO cB cC cN : Nat) (L G : List Pr) (O D C : List Int) (N : List Nm) (w : World) (h0 : 0 ≤ I) (h1 : I ≤ 1000000) (h2 : L.length ≤ 1000000) (h3 : G.length ≤ 1000000) :
    Calls Try.prog 42 #[.agg #[.int .i64 I, .slice AL L.length cL, .slice AG G.length cG, .slice AO O.length cO, .slice AB D.length cB, .slice AC C.length cC, .slice AN N.length cN]] w (RetV w (.int .i64 (I + L.length + G.length))) := by
  have qf : ∀ (a b c d e f g : Int) (w : World), (Instr.field 97 (.agg #[.int .i64 a, .int .i64 b, .int .i64 c, .int .i64 d, .int .i64 e, .int .i64 f, .int .i64 g]) 0).run Try.prog w = .ok (.int .i64 a) w := by intros; kernel_rfl
  have C1 := fun w => HeadOf_any I AL AG AO AB AC AN cL cG cO cB cC cN L G O D C N w h0 h1 h2 h3
  have C1 := Lib.hid C1
  have b1 := bal (Below.refl w.heap.size w) (.cells #[.int .i64 I, .slice AL L.length cL, .slice AG G.length cG, .slice AO O.length cO, .slice AB D.length cB, .slice AC C.length cC, .slice AN N.length cN] 27)
  have C2 := C1.out (w.alloc (.cells #[.int .i64 I, .slice AL L.length cL, .slice AG G.length cG, .slice AO O.length cO, .slice AB D.length cB, .slice AC C.length cC, .slice AN N.length cN] 27))
  clear C1
  go_enter Try.func42, Try.ntmps42
  go_wp2_with fail
  refine C2.mono ?_; rintro e w' ⟨rfl, hb⟩
  go_wp2
  go_ret
  exact ⟨rfl, bnx b1 hb⟩
set_option maxHeartbeats 2000000 in
theorem refVars_any (I : Int) (AL AG AO AB AC AN : Option Addr) (cL cG cO cB cC cN : Nat) (L G : List Pr) (O D C : List Int) (N : List Nm) (w : World) (h0 : 0 ≤ I) (h1 : I ≤ 1000000) (h2 : L.length ≤ 1000000) (h3 : G.length ≤ 1000000) :
    Calls Try.prog 36 #[.agg #[.int .i64 I, .slice AL L.length cL, .slice AG G.length cG, .slice AO O.length cO, .slice AB D.length cB, .slice AC C.length cC, .slice AN N.length cN]] w (RetV w (.int .i64 (I + L.length + G.length))) := by
  have b1 := bal (Below.refl w.heap.size w) (.cells #[.int .i64 I, .slice AL L.length cL, .slice AG G.length cG, .slice AO O.length cO, .slice AB D.length cB, .slice AC C.length cC, .slice AN N.length cN] 27)
  go_enter Try.func36, Try.ntmps36
  go_wp2
  go_ret
  exact ⟨rfl, b1⟩
end Go.Proofs.Ytkdocjcpehmljaa
/- sim.valuesOf over the translated program. -/
namespace Go.Proofs.Ytkdocjcpehmljaa
open Go.RowKit
theorem pair_add (ad : Addr) (j : Nat) : (ad.add (j * 2)).block = ad.block := block_add _ _
set_option maxRecDepth 100000 in
set_option maxHeartbeats 4000000 in
theorem valuesOf_any (I : Int) (AL AG AO AB AC AN : Option Addr) (cL cG cO cB cC cN : Nat) (L G : List Pr) (O D C : List Int) (N : List Nm) (AS AI : Option Addr) (cs ci : Nat) (st inp : List Bool) (w : World) (hG : RP w w.heap.size AG G) (hS : RB w w.heap.size AS st) (hI : RB w w.heap.size AI inp) (eI : I = (inp.length : Int)) (eL : L.length = st.length)
    (b1 : inp.length ≤ 1000000) (b2 : st.length ≤ 1000000) (b3 : G.length ≤ 1000000) (ht : topo (1 + inp.length + st.length) G) :
    Calls Try.prog 27 #[.agg #[.int .i64 I, .slice AL L.length cL, .slice AG G.length cG, .slice AO O.length cO, .slice AB D.length cB, .slice AC C.length cC, .slice AN N.length cN], .slice AS st.length cs, .slice AI inp.length ci] w (RetB w (vals (false :: (inp ++ st)) G)) := by
  obtain ⟨m, hm⟩ : ∃ m, inp.length + st.length + G.length = m := ⟨_, rfl⟩
  obtain ⟨T, hT⟩ : ∃ T, vals (false :: (inp ++ st)) G = T := ⟨_, rfl⟩
  rw [hT]
  have HTT := Lib.hid hT
  clear hT
  have CV : Calls Try.prog 42 #[.agg #[.int .i64 I, .slice AL L.length cL, .slice AG G.length cG, .slice AO O.length cO, .slice AB D.length cB, .slice AC C.length cC, .slice AN N.length cN]] (w.alloc (.cells #[.int .i64 I, .slice AL L.length cL, .slice AG G.length cG, .slice AO O.length cO, .slice AB D.length cB, .slice AC C.length cC, .slice AN N.length cN] 27)) (RetV (w.alloc (.cells #[.int .i64 I, .slice AL L.length cL, .slice AG G.length cG, .slice AO O.length cO, .slice AB D.length cB, .slice AC C.length cC, .slice AN N.length cN] 27)) (.int .i64 (m : Int))) := by
    have := Vars_any I AL AG AO AB AC AN cL cG cO cB cC cN L G O D C N (w.alloc (.cells #[.int .i64 I, .slice AL L.length cL, .slice AG G.length cG, .slice AO O.length cO, .slice AB D.length cB, .slice AC C.length cC, .slice AN N.length cN] 27)) (by omega) (by omega) (by omega) (by omega)
    rwa [show I + L.length + G.length = (m : Int) by omega] at this
  have hb0 := bal (Below.refl w.heap.size w) (.cells #[.int .i64 I, .slice AL L.length cL, .slice AG G.length cG, .slice AO O.length cO, .slice AB D.length cB, .slice AC C.length cC, .slice AN N.length cN] 27)
  have hc0 : (w.alloc (.cells #[.int .i64 I, .slice AL L.length cL, .slice AG G.length cG, .slice AO O.length cO, .slice AB D.length cB, .slice AC C.length cC, .slice AN N.length cN] 27)).cell? ⟨w.heap.size, 2, none⟩ = some (.slice AG G.length cG) := by go_simp
  have hs0 : (w.alloc (.cells #[.int .i64 I, .slice AL L.length cL, .slice AG G.length cG, .slice AO O.length cO, .slice AB D.length cB, .slice AC C.length cC, .slice AN N.length cN] 27)).heap.size = w.heap.size + 1 := by simp
  have HM := Lib.hid hm
  have HT := Lib.hid ht
  have HG := Lib.hid hG
  have HS := Lib.hid hS
  have HI := Lib.hid hI
  have m1 : inp.length ≤ m := by omega
  have m2 : m ≤ 3000000 := by omega
  clear hm ht hG hS hI eI eL
  go_enter Try.func27, Try.ntmps27
  go_wp2_with fail
  refine CV.mono ?_; rintro e w1 ⟨rfl, hb1⟩
  generalize w.alloc (.cells #[.int .i64 I, .slice AL L.length cL, .slice AG G.length cG, .slice AO O.length cO, .slice AB D.length cB, .slice AC C.length cC, .slice AN N.length cN] 27) = w0 at *
  have hz1 := hb1.size
  obtain ⟨gb, hgb⟩ : ∃ gb, w1.heap.size = gb := ⟨_, rfl⟩
  have mk := mkB 71 Try.underlying71 (m + 1) ((m : Int) + 1) (by omega) (by omega) w1
  have hbb := bb_made w1 (m + 1)
  have hb2 := hb1.alloc hz1 (mkO (m + 1))
  rw [hgb] at mk hbb
  generalize w1.alloc (mkO (m + 1)) = w2 at *
  obtain ⟨Z1, hZ1⟩ : ∃ Z, cutA (some ⟨gb, 0, none⟩) (m + 1) 1 = Z := ⟨_, rfl⟩
  obtain ⟨Z2, hZ2⟩ : ∃ Z, cutA (some ⟨gb, 0, none⟩) (m + 1) (1 + inp.length) = Z := ⟨_, rfl⟩
  obtain ⟨Z3, hZ3⟩ : ∃ Z, cutA (some ⟨gb, 0, none⟩) (m + 1) (1 + inp.length + st.length) = Z := ⟨_, rfl⟩
  have sl1 : ∀ wx, (Instr.slice 71 (.slice (some ⟨gb, 0, none⟩) (m + 1) (m + 1)) (some (.int .i64 1)) none none).run Try.prog wx = .ok (.slice Z1 m m) wx := fun wx => by
    have := slice71_l (some ⟨gb, 0, none⟩) (m + 1) (m + 1) 1 1 rfl (by omega) wx
    rwa [hZ1, Nat.add_sub_cancel] at this
  obtain ⟨n2, hn2⟩ : ∃ n, m + 1 - (1 + inp.length) = n := ⟨_, rfl⟩
  have sl2 : ∀ wx, (Instr.slice 71 (.slice (some ⟨gb, 0, none⟩) (m + 1) (m + 1)) (some (.int .i64 (1 + (inp.length : Int)))) none none).run Try.prog wx = .ok (.slice Z2 n2 n2) wx := fun wx => by
    have := slice71_l (some ⟨gb, 0, none⟩) (m + 1) (m + 1) (1 + inp.length) (1 + (inp.length : Int)) (by omega) (by omega) wx
    rwa [hZ2, hn2] at this
  have sl3 : ∀ wx, (Instr.slice 71 (.slice (some ⟨gb, 0, none⟩) (m + 1) (m + 1)) (some (.int .i64 (1 + (inp.length : Int) + (st.length : Int)))) none none).run Try.prog wx = .ok (.slice Z3 G.length G.length) wx := fun wx => by
    have := slice71_l (some ⟨gb, 0, none⟩) (m + 1) (m + 1) (1 + inp.length + st.length) (1 + (inp.length : Int) + (st.length : Int)) (by omega) (by have := HM.out; omega) wx
    rwa [hZ3, show m + 1 - (1 + inp.length + st.length) = G.length by have := HM.out; omega] at this
  have HZ1 := Lib.hid hZ1
  have HZ2 := Lib.hid hZ2
  have HZ3 := Lib.hid hZ3
  have HN2 := Lib.hid hn2
  have hgw : w0.heap.size ≤ gb := by omega
  have HB2 := Lib.hid hb2
  have HBB := Lib.hid hbb
  have HS0 := Lib.hid hs0
  obtain ⟨X0, hX0⟩ : ∃ X, (List.replicate (m + 1) false).map Value.bool = X := ⟨_, rfl⟩
  obtain ⟨X1, hX1⟩ : ∃ X, inp.map Value.bool = X := ⟨_, rfl⟩
  obtain ⟨X2, hX2⟩ : ∃ X, st.map Value.bool = X := ⟨_, rfl⟩
  have x0 : X0.length = m + 1 := by rw [← hX0]; simp
  have x1 : X1.length = inp.length := by rw [← hX1]; simp
  have x2 : X2.length = st.length := by rw [← hX2]; simp
  have p1 : X1.length = Nat.min inp.length m := by rw [x1]; show _ = min _ _; omega
  have p2 : X2.length = Nat.min st.length n2 := by rw [x2]; show _ = min _ _; have := HM.out; have := HN2.out; omega
  have q1 : ∀ v ∈ X1, v.oneCell' = true := fun v hv => by rw [← hX1] at hv; obtain ⟨x, _, rfl⟩ := List.mem_map.1 hv; rfl
  have q2 : ∀ v ∈ X2, v.oneCell' = true := fun v hv => by rw [← hX2] at hv; obtain ⟨x, _, rfl⟩ := List.mem_map.1 hv; rfl
  have rd : ∀ (A : Option Addr) (l : List Bool) (X : List Value) (wx : World), l.map Value.bool = X → RB w w.heap.size A l → Below w0.heap.size w0 wx → 0 < X.length → ∃ ad, A = some ad ∧ ∀ j v, X[j]? = some v → wx.cell? (ad.add j) = some v := by
    intro A l X wx hX hr hx hl
    subst hX
    rw [List.length_map] at hl
    obtain ⟨ad, rfl, _, _⟩ := hr 0 hl
    refine ⟨ad, rfl, fun j v hj => ?_⟩
    have hjl : j < l.length := by simpa using (List.getElem?_eq_some_iff.1 hj).1
    obtain ⟨ad', e, hlt, hc⟩ := hr j hjl
    cases e
    rw [hx.cell (by rw [block_add]; have := HS0.out; omega), hb0.cell (by rw [block_add]; exact hlt), hc]
    simp [hjl] at hj
    rw [← hj]
    simp [List.getD_eq_getElem?_getD, hjl]
  have RD := Lib.hid rd
  have HX0 := Lib.hid hX0
  have HX1 := Lib.hid hX1
  have HX2 := Lib.hid hX2
  have hba : Hid (w2.heap[gb]? = some (.cells X0.toArray 4 (0, 0))) := by show _ = _; rw [← hX0]; exact hbb
  have A1 : 0 < X1.length → Z1 = some ⟨gb, 1, none⟩ := fun h0 => by rw [← hZ1, cutA_some _ _ _ (by omega), add_loc]
  have A2 : 0 < X2.length → Z2 = some ⟨gb, 1 + inp.length, none⟩ := fun h0 => by have := HM.out; rw [← hZ2, cutA_some _ _ _ (by omega), add_loc]
  have A3 : 0 < G.length → Z3 = some ⟨gb, 1 + inp.length + st.length, none⟩ := fun h0 => by have := HM.out; rw [← hZ3, cutA_some _ _ _ (by omega), add_loc]
  have A1 := Lib.hid A1
  have A2 := Lib.hid A2
  have A3 := Lib.hid A3
  have f1 : 1 + X1.length ≤ X0.length := by omega
  clear hZ1 hZ2 hZ3 hn2 hb2 hbb rd CV hgb hs0 hX0 hX1 hX2 HZ1 HZ2 HZ3
  go_wp2_with (first | (refine wpList_copy_splice rfl (.tmp 17) (.tmp 18) 71 28 rfl 4 Try.underlying71 size4 Z1 AI m m inp.length ci rfl rfl gb 1 X0 4 hba.out X1 p1 (fun h0 => ⟨A1.out h0, RD.out AI inp X1 _ HX1.out HI.out HB2.out h0⟩) f1 q1 w0.heap.size w0 HB2.out hgw ?_) | fail)
  intro wa ha hwa
  obtain ⟨Y1, hY1⟩ : ∃ Y, splice X0 1 X1 = Y := ⟨_, rfl⟩
  rw [hY1] at ha
  have y1 : Y1.length = m + 1 := by rw [← hY1, length_splice _ _ _ f1]; exact x0
  have HY1 := Lib.hid hY1
  have HWA := Lib.hid hwa
  have f2 : (1 + inp.length) + X2.length ≤ Y1.length := by have := HM.out; omega
  clear hba hY1 p1 q1 A1 f1 hwa
  go_wp2_with (first | (refine wpList_copy_splice rfl (.tmp 24) (.tmp 25) 71 28 rfl 4 Try.underlying71 size4 Z2 AS n2 n2 st.length cs rfl rfl gb (1 + inp.length) Y1 4 ha.out X2 p2 (fun h0 => ⟨A2.out h0, RD.out AS st X2 _ HX2.out HS.out HWA.out h0⟩) f2 q2 w0.heap.size w0 HWA.out hgw ?_) | fail)
  intro wb hb hwb
  obtain ⟨base, hbase⟩ : ∃ b, false :: (inp ++ st) = b := ⟨_, rfl⟩
  have hlb : base.length = 1 + inp.length + st.length := by rw [← hbase]; simp; omega
  have hrow : BB wb gb (rowV base G 0) := by
    have e := hb.out
    rw [← HY1.out, ← HX0.out, ← HX1.out, ← HX2.out, map_splice, map_splice, ← HM.out, splice_two, hbase, ← rowV_zero] at e
    exact e
  have hTb := HTT.out
  rw [hbase] at hTb
  have HTB := Lib.hid hTb
  clear hTb HTT
  have HROW := Lib.hid hrow
  have HWB := Lib.hid hwb
  have hc1 : wb.cell? ⟨w.heap.size, 2, none⟩ = some (.slice AG G.length cG) := (hwb.cell (by show w.heap.size < _; have := HS0.out; omega)).trans hc0
  have htopo := HT.out
  rw [← hlb] at htopo
  have HTO := Lib.hid htopo
  have HLB := Lib.hid hlb
  clear ha hb hwb hrow htopo hlb hbase HT HY1 HX0 HX1 HX2 HWA A2 p2 q2 f2 RD HS HI HBB HB2 x0 x1 x2 y1 sl1 sl2 mk hb1
  go_wp2
  go_loopg [40] G.length (fun g s40 wr => ∃ j : Nat, j + g = G.length ∧ s40 = .int .i64 j ∧ BB wr gb (rowV base G j) ∧ Below w0.heap.size w0 wr)
  case atStart => exact ⟨0, by omega, rfl, HROW.out, HWB.out⟩
  case round =>
    obtain ⟨j, hj, rfl, hrow, hbel⟩ := hrel
    have hlen := rowV_len base G j (by omega)
    have hlb := HLB.out
    have hmm := HM.out
    have hl : (rowV base G j).length = m + 1 := by omega
    cases gk with
    | zero =>
      have q1 : ¬ ((j : Int) < G.length) := by omega
      have q2 : ¬ (j < G.length) := by omega
      have e0 : rowV base G j = T := by rw [show j = G.length by omega, rowV_full, HTB.out]
      rw [e0] at hrow hl
      have HL := Lib.hid hl
      have hfin := hb0.trans (hbel.mono (by have := HS0.out; omega))
      clear hc1 hc0 sl3 hl e0 hlen
      go_wp2
      go_ret
      exact ⟨some ⟨gb, 0, none⟩, m + 1, by rw [HL.out]; rfl, hrow.rb, (fun e => by cases e), by rw [HL.out]; exact Nat.le_refl _, by unfold maxLen; omega, hfin⟩
    | succ g =>
      have hjl : j < G.length := by omega
      have hjl' : (j : Int) < G.length := by omega
      obtain ⟨ad, rfl, hab, hp0, hp1⟩ := HG.out j hjl
      have hp0' : wr.cell? (ad.add (j * 2)) = some (.int .i64 (G.getD j (0, 0)).1) := ((hbel.cell (by rw [block_add]; have := HS0.out; omega)).trans (hb0.cell (by rw [block_add]; exact hab))).trans hp0
      have hp1' : wr.cell? ⟨(ad.add (j * 2)).block, (ad.add (j * 2)).off + 1, none⟩ = some (.int .i64 (G.getD j (0, 0)).2) := ((hbel.cell (by show (ad.add (j * 2)).block < _; rw [block_add]; have := HS0.out; omega)).trans (hb0.cell (by show (ad.add (j * 2)).block < _; rw [block_add]; exact hab))).trans hp1
      obtain ⟨t1, t2, t3⟩ := HTO.out j hjl
      have hnext := rowV_next base G j hjl HTO.out
      generalize G.getD j (0, 0) = p at *
      obtain ⟨pa, pb⟩ := p
      simp only at hp0' hp1' t1 t2 t3 hnext
      have CT : ∀ x : Int, 0 ≤ x → x < 10000000 → ∀ wx, Below wr.heap.size wr wx → Calls Try.prog 28 #[.slice (some ⟨gb, 0, none⟩) (m + 1) (m + 1), .int .i64 x] wx (RetS wx (.bool (lt (rowV base G j) x))) := fun x h0 h1 wx hx => by
        have := isTrue_any (some ⟨gb, 0, none⟩) (m + 1) (rowV base G j) x wx (hrow.rb.nx hx) (by unfold maxLen; omega) (by omega) (by omega)
        rwa [hl] at this
      have HN := Lib.hid hnext
      have HP := Lib.hid (And.intro hp0' hp1')
      have HCT := Lib.hid CT
      have hz3 := A3.out (by omega)
      subst hz3
      have hkj : base.length + j = 1 + inp.length + st.length + j := by omega
      have hcell := hrow.cell (base.length + j) (by omega)
      have hfroz := hrow.frozen (base.length + j)
      rw [hkj] at hcell hfroz
      obtain ⟨u, hu⟩ : ∃ u, (rowV base G j).getD (1 + inp.length + st.length + j) false = u := ⟨_, rfl⟩
      rw [hu] at hcell
      clear hp0 hp1 hu HTO hnext CT
      have C1 := HCT.out pa (by omega) (by omega)
      have C2 := HCT.out pb (by omega) (by omega)
      generalize lt (rowV base G j) pa = xa at *
      generalize lt (rowV base G j) pb = xb at *
      have C1 := Lib.hid C1
      have C2 := Lib.hid C2
      have hgr : gb < wr.heap.size := hrow.lt
      have HGR := Lib.hid hgr
      have HROWJ := Lib.hid hrow
      have HBEL := Lib.hid hbel
      have hba := bal (Below.refl wr.heap.size wr) (.cells #[.int .i64 pa, .int .i64 pb] 58)
      have c1 := C1.out _ hba
      have c2 := C2.out _ hba
      clear hrow hbel hba C1 C2 HCT t1 t2 t3 hp0' hp1' hlen hl hlb hmm HROW HWB hc1 hc0 sl3 hb0 HTB HG HLB
      have hp0' : wr.cell? (ad.add (j * 2)) = some (.int .i64 pa) := HP.out.1
      have hp1' : wr.cell? ⟨(ad.add (j * 2)).block, (ad.add (j * 2)).off + 1, none⟩ = some (.int .i64 pb) := HP.out.2
      cases xa
      · go_wp2_with fail
        refine c1.mono ?_; rintro e w' ⟨rfl, rfl⟩
        clear c1 c2
        go_wp2
        go_roundg g
        case measure => omega
        case rel =>
          refine ⟨j + 1, by omega, by go_num, ?_, ?_⟩
          · rw [HN.out, hkj]
            exact (HROWJ.out.store _ _).alloc _
          · exact (HBEL.out.setCell (by exact hgw) _).alloc (by simp; omega) _
      · go_wp2_with fail
        refine c1.mono ?_; rintro e w' ⟨rfl, rfl⟩
        clear c1
        go_wp2_with fail
        refine c2.mono ?_; rintro e w' ⟨rfl, rfl⟩
        clear c2
        go_wp2
        go_roundg g
        case measure => omega
        case rel =>
          refine ⟨j + 1, by omega, by go_num, ?_, ?_⟩
          · rw [HN.out, hkj]
            exact (HROWJ.out.store _ _).alloc _
          · exact (HBEL.out.setCell (by exact hgw) _).alloc (by simp; omega) _
end Go.Proofs.Ytkdocjcpehmljaa
