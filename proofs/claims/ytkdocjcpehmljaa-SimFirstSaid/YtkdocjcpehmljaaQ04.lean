/-
  The next state, in memory of its own.
  Flags, rows and few rows.
  The reference's Values, lits and Start.
-/
import Derived.Test.YtkdocjcpehmljaaProg
import Derived.WalkKit
import Derived.WalkSpells
import Derived.WalkLawsBesides
import Derived.Lib.Hide
import Derived.BigQuiet
import Derived.Deep.QuietTactic
import Derived.Deep.RegionWith
import Derived.Deep.RegionHeld3
import Derived.Test.YtkdocjcpehmljaaQ02
import Derived.Test.YtkdocjcpehmljaaQ01
import Derived.Deep.LoopGhost
import Derived.WalkMore
import Derived.Test.YtkdocjcpehmljaaQ03
set_option linter.unusedVariables false
/- The next state, in memory of its own. -/
namespace Go.Proofs.Ytkdocjcpehmljaa
open Go.RowKit
/-- A call that tells a row of flags in a block of its own. -/
def RetW (w0 : World) (l : List Bool) (e : Ending) (w' : World) : Prop := ∃ g c, e = .returned (.slice (some ⟨g, 0, none⟩) l.length c) ∧ w0.heap.size ≤ g ∧ g < w'.heap.size ∧ RB w' w'.heap.size (some ⟨g, 0, none⟩) l ∧ l.length ≤ c ∧ c ≤ maxLen ∧ Below w0.heap.size w0 w'
set_option maxHeartbeats 2000000 in
theorem rowLn_any (A Av : Option Addr) (c cv gv : Nat) (L : List Pr) (v : List Bool) (w : World) (h : RP w w.heap.size A L) (hc : w.cell? ⟨gv, 0, none⟩ = some (.slice Av v.length cv)) (hv : RB w w.heap.size Av v) (hl : L.length ≤ 1000000) (hm : v.length ≤ maxLen) (hlit : LitsP L) :
    Calls Try.prog 43 #[.slice A L.length c, .func (.func 44) #[] #[.pointer (some ⟨gv, 0, none⟩)]] w (RetW w (L.map (fun p => lt v p.1))) := by
  have hgv : gv < w.heap.size := by
    rcases Nat.lt_or_ge gv w.heap.size with h' | h'
    · exact h'
    · simp [World.cell?, Array.getElem?_eq_none h'] at hc
  obtain ⟨T, hT⟩ : ∃ T, L.map (fun p => lt v p.1) = T := ⟨_, rfl⟩
  have ht : T.length = L.length := by rw [← hT]; simp
  rw [hT]
  have hg : ∀ j, j < L.length → T.getD j false = lt v (L.getD j (0, 0)).1 := fun j hj => by rw [← hT]; exact getD_map_nx v L j hj
  have mk := mkB 28 Try.underlying28 L.length (L.length : Int) rfl (by omega) w
  have hbb := bb_made w L.length
  have hb2 := bal (Below.refl w.heap.size w) (mkO L.length)
  have HG := Lib.hid hg
  have HT := Lib.hid ht
  have H := Lib.hid h
  have CT : ∀ x y : Int, 0 ≤ x → x ≤ 100000000 → ∀ wx, Below w.heap.size w wx → Calls Try.prog 44 #[.agg #[.int .i64 x, .int .i64 y], .pointer (some ⟨gv, 0, none⟩)] wx (RetV wx (.bool (lt v x))) := fun x y h0 h1 wx hx => next1_any gv Av cv v x y wx ((hx.cell hgv).trans hc) (hv.nx hx) hm h0 h1
  have HCT := Lib.hid CT
  have HLI := Lib.hid hlit
  clear hT hg ht h hv CT hlit hc
  go_enter Try.func43, Try.ntmps43
  generalize w.alloc (mkO L.length) = w2 at *
  have hr0 : BB w2 w.heap.size (rowM T L.length 0) := by unfold rowM; simpa using hbb
  have HR0 := Lib.hid hr0
  have HB2 := Lib.hid hb2
  clear hbb hb2 hr0
  go_wp2
  go_loopg [13] L.length (fun g s wr => ∃ j : Nat, j + g = L.length ∧ s = .int .i64 j ∧ BB wr w.heap.size (rowM T L.length j) ∧ Below w.heap.size w wr)
  case atStart => exact ⟨0, by omega, rfl, HR0.out, HB2.out⟩
  case round =>
    obtain ⟨j, hj, rfl, hrow, hbel⟩ := hrel
    cases gk with
    | zero =>
      have q1 : ¬ ((j : Int) < L.length) := by omega
      have q2 : ¬ (j < L.length) := by omega
      rw [show j = L.length by omega, rowM_full T _ HT.out] at hrow
      go_wp2
      go_ret
      exact ⟨w.heap.size, L.length, by rw [HT.out]; rfl, Nat.le_refl _, hrow.lt, hrow.rb, by rw [HT.out]; exact Nat.le_refl _, by unfold maxLen; omega, hbel⟩
    | succ g =>
      have hjl : j < L.length := by omega
      have hjl' : (j : Int) < L.length := by omega
      obtain ⟨ad, rfl, hab, hp0, hp1⟩ := H.out j hjl
      have hp0' := (hbel.cell (p := ad.add (j * 2)) (by rw [block_add]; exact hab)).trans hp0
      have hp1' := (hbel.cell (p := ⟨(ad.add (j * 2)).block, (ad.add (j * 2)).off + 1, none⟩) (by show (ad.add (j * 2)).block < _; rw [block_add]; exact hab)).trans hp1
      obtain ⟨x0, x1⟩ := HLI.out.at j hjl
      have hnext := rowM_next T L.length j HT.out hjl
      have hgx := HG.out j hjl
      rw [hgx] at hnext
      have hll := rowM_len T L.length j HT.out (by omega)
      generalize L.getD j (0, 0) = p at *
      obtain ⟨x, y⟩ := p
      simp only at hp0' hp1' x0 x1 hnext
      have hba := bal (Below.refl wr.heap.size wr) (.cells #[.int .i64 x, .int .i64 y] 63)
      have c1 := HCT.out x y x0 x1 _ (hbel.alloc hbel.size (.cells #[.int .i64 x, .int .i64 y] 63))
      have hrow1 : BB (wr.alloc (.cells #[.int .i64 x, .int .i64 y] 63)) w.heap.size (rowM T L.length j) := hrow.alloc _
      have hbel1 := hbel.alloc hbel.size (.cells #[.int .i64 x, .int .i64 y] 63)
      generalize lt v x = yy at *
      have HN := Lib.hid hnext
      have HROW := Lib.hid hrow1
      have HBEL := Lib.hid hbel1
      have HLL := Lib.hid hll
      clear hnext hrow hbel hgx hp0 hp1 hll hrow1 hbel1
      go_wp2_with fail
      refine c1.mono ?_; rintro e w' ⟨rfl, hbw⟩
      have hrw := HROW.out.below hbw (HROW.out.lt)
      have hcell := hrw.cell j (by rw [HLL.out]; exact hjl)
      have hfroz := hrw.frozen j
      generalize (rowM T L.length j).getD j false = u at *
      have HRW := Lib.hid hrw
      have HBW := Lib.hid (HBEL.out.trans (hbw.mono HBEL.out.size))
      clear c1 hrw hbw HROW HBEL
      go_wp2
      go_roundg g
      case measure => omega
      case rel => exact ⟨j + 1, by omega, by go_num, by rw [HN.out]; exact HRW.out.store _ _, HBW.out.setCell (Nat.le_refl _) _⟩
set_option maxHeartbeats 2000000 in
theorem nextn_any (I : Int) (AL AG AO AB AC AN : Option Addr) (cL cG cO cB cC cN : Nat) (L G : List Pr) (O D C : List Int) (N : List Nm) (Av : Option Addr) (cv : Nat) (v : List Bool) (w : World) (h : RP w w.heap.size AL L) (hv : RB w w.heap.size Av v) (hl : L.length ≤ 1000000) (hm : v.length ≤ maxLen) (hlit : LitsP L) :
    Calls Try.prog 30 #[.agg #[.int .i64 I, .slice AL L.length cL, .slice AG G.length cG, .slice AO O.length cO, .slice AB D.length cB, .slice AC C.length cC, .slice AN N.length cN], .slice Av v.length cv] w (RetW w (L.map (fun p => lt v p.1))) := by
  have hb1 := bal (Below.refl w.heap.size w) (.cells #[.int .i64 I, .slice AL L.length cL, .slice AG G.length cG, .slice AO O.length cO, .slice AB D.length cB, .slice AC C.length cC, .slice AN N.length cN] 27)
  have hb2 := bal hb1 (.cells #[.slice Av v.length cv] 71)
  have C1 := rowLn_any AL Av cL cv (w.heap.size + 1) L v ((w.alloc (.cells #[.int .i64 I, .slice AL L.length cL, .slice AG G.length cG, .slice AO O.length cO, .slice AB D.length cB, .slice AC C.length cC, .slice AN N.length cN] 27)).alloc (.cells #[.slice Av v.length cv] 71)) (h.nx hb2) (by go_simp) (hv.nx hb2) hl hm hlit
  generalize L.map (fun p => lt v p.1) = T at *
  clear h hv hb1
  go_enter Try.func30, Try.ntmps30
  go_wp2_with fail
  refine C1.mono ?_; rintro e w' ⟨g', c', rfl, q2, q6, q1, q3, q4, q5⟩
  have HQ6 := Lib.hid q6
  clear q6
  have hq := bnx hb2 q5
  have HQ := Lib.hid (And.intro q1 (And.intro q2 (And.intro q3 (And.intro q4 hq))))
  clear C1 q1 q2 q3 q4 q5 hq hb2
  go_wp2
  go_ret
  exact ⟨g', c', rfl, by have := HQ.out.2.1; simp at this; omega, HQ6.out, HQ.out.1, HQ.out.2.2.1, HQ.out.2.2.2.1, HQ.out.2.2.2.2⟩
end Go.Proofs.Ytkdocjcpehmljaa
/- Flags, rows and few rows. -/
namespace Go.Proofs.Ytkdocjcpehmljaa
open Go.RowKit
set_option maxHeartbeats 800000 in
theorem Flags_q (A A' : Option Addr) (c c' : Nat) (l l' : List Bool) (w : World) (h : RB w w.heap.size A l) (h' : RB w w.heap.size A' l') (hn : l.length ≤ maxLen) (hn' : l'.length ≤ maxLen) :
    Calls Try.prog 21 #[.slice A l.length c, .slice A' l'.length c'] w fun e w' => e = .returned (.bool (l == l')) ∧ ∃ n, w' = w.drewN n := by
  unfold maxLen at hn hn'
  by_cases hl : l.length = l'.length
  · have hne : ((l.length : Int) != (l'.length : Int)) = false := by simp [hl]
    obtain ⟨T, hT⟩ : ∃ T, (l == l') = T := ⟨_, rfl⟩
    rw [hT]
    have HT : Hid ((l == l') = T) := hT
    clear hT
    have HL := Lib.hid hl
    clear hl
    go_enter Try.func21, Try.ntmps21
    go_wp2
    go_loopw [5] (fun i wr => ∃ (j q : Nat), j ≤ l.length ∧ i = .int .i64 j ∧ wr = w.drewN q ∧ Hid ((l.drop j == l'.drop j) = T)) (fun i _ => l.length - (intOf i).toNat)
    case atStart => exact ⟨0, 0, Nat.zero_le _, rfl, rfl, HT⟩
    case round =>
      obtain ⟨j, q, hj, rfl, rfl, HJ⟩ := hrel
      by_cases hlt : j < l.length
      · obtain ⟨a1, rfl, _, hc1⟩ := h j hlt
        obtain ⟨a2, rfl, _, hc2⟩ := h' j (by rw [← HL.out]; exact hlt)
        have hlt' : (j : Int) < l.length := by omega
        have hlt2 : (j : Int) < l'.length := by have := HL.out; omega
        have e := HJ.out
        rw [dropB l j hlt, dropB l' j (by rw [← HL.out]; exact hlt)] at e
        generalize l.getD j false = u at *
        generalize l'.getD j false = v at *
        by_cases huv : u = v
        · subst huv
          have hvv : (u != u) = false := by simp
          have hvv2 : (!u == u) = false := by cases u <;> rfl
          have HE : Hid ((l.drop (j + 1) == l'.drop (j + 1)) = T) := by show _ = _; simpa using e
          clear e HJ HT h h'
          go_wp2
          go_quiet (fail)
          go_wp2
          go_roundw
          case rel => exact ⟨j + 1, q + nq, by omega, by go_num, by first | rfl | rw [World.drewN_drewN], HE⟩
          case measure => simp [intOf]; omega
        · have hvv : (u != v) = true := by simp [huv]
          have hvv2 : (!u == v) = true := by cases u <;> cases v <;> simp_all
          have HE : Hid (false = T) := by show _ = _; rw [← e, List.cons_beq_cons, beq_eq_false_iff_ne.2 huv, Bool.false_and]
          clear e HJ HT h h' huv
          go_wp2
          go_quiet (fail)
          go_wp2
          go_ret
          exact ⟨by rw [← HE.out]; rfl, q + nq, by first | rfl | rw [World.drewN_drewN]⟩
      · have e := HJ.out
        rw [List.drop_of_length_le (by omega), List.drop_of_length_le (by have := HL.out; omega)] at e
        have HE : Hid (true = T) := by show _ = _; simpa using e
        clear e HJ HT h h'
        go_wp2
        go_ret
        exact ⟨by rw [← HE.out]; rfl, q, rfl⟩
  · have hne : ((l.length : Int) != (l'.length : Int)) = true := by simp; omega
    have hf : (l == l') = false := by rw [beq_eq_false_iff_ne]; intro e; exact hl (by rw [e])
    rw [hf]
    clear hl h h'
    go_enter Try.func21, Try.ntmps21
    go_wp2
    go_ret
    exact ⟨rfl, 0, rfl⟩
theorem Flags_any (A A' : Option Addr) (c c' : Nat) (l l' : List Bool) (w : World) (h : RB w w.heap.size A l) (h' : RB w w.heap.size A' l') (hn : l.length ≤ maxLen) (hn' : l'.length ≤ maxLen) :
    Calls Try.prog 21 #[.slice A l.length c, .slice A' l'.length c'] w (RetV w (.bool (l == l'))) :=
  (Flags_q A A' c c' l l' w h h' hn hn').mono fun e w' ⟨he, n, hw⟩ => ⟨he, by rw [hw]; exact drw n⟩
set_option maxHeartbeats 1600000 in
theorem Rows_any (A A' : Option Addr) (c c' : Nat) (L L' : List (List Bool)) (w : World) (h : RR w w.heap.size A L) (h' : RR w w.heap.size A' L') (hn : L.length ≤ maxLen) (hn' : L'.length ≤ maxLen) :
    Calls Try.prog 22 #[.slice A L.length c, .slice A' L'.length c'] w (RetV w (.bool (L == L'))) := by
  unfold maxLen at hn hn'
  by_cases hl : L.length = L'.length
  · have hne : ((L.length : Int) != (L'.length : Int)) = false := by simp [hl]
    obtain ⟨T, hT⟩ : ∃ T, (L == L') = T := ⟨_, rfl⟩
    rw [hT]
    have HT : Hid ((L == L') = T) := hT
    clear hT
    have HL := Lib.hid hl
    have H := Lib.hid h
    have H' := Lib.hid h'
    clear hl h h'
    go_enter Try.func22, Try.ntmps22
    go_wp2
    go_loopg [5] L.length (fun g s wr => ∃ j : Nat, j + g = L.length ∧ s = .int .i64 j ∧ Below w.heap.size w wr ∧ Hid ((L.drop j == L'.drop j) = T))
    case atStart => exact ⟨0, by omega, rfl, Below.refl _ _, HT⟩
    case round =>
      obtain ⟨j, hj, rfl, hb, HJ⟩ := hrel
      cases gk with
      | zero =>
        have q1 : ¬ ((j : Int) < L.length) := by omega
        have q2 : ¬ (j < L.length) := by omega
        have e := HJ.out
        rw [List.drop_of_length_le (by omega), List.drop_of_length_le (by have := HL.out; omega)] at e
        have HE : Hid (true = T) := by show _ = _; simpa using e
        clear e HJ HT H H'
        go_wp2
        go_ret
        exact ⟨by rw [← HE.out]; rfl, hb⟩
      | succ g =>
        have hlt : j < L.length := by omega
        obtain ⟨a1, A1, c1, rfl, g1, hc1, r1, n1, m1, _⟩ := H.out j hlt
        obtain ⟨a2, A2, c2, rfl, g2, hc2, r2, n2, m2, _⟩ := H'.out j (by rw [← HL.out]; exact hlt)
        have HKK : Hid (∀ wx, Below w.heap.size w wx → wx.cell? (a1.add j) = some (.slice A1 (L.getD j []).length c1) ∧ wx.cell? (a2.add j) = some (.slice A2 (L'.getD j []).length c2)) := Lib.hid fun wx hx => ⟨(hx.cell (p := a1.add j) (by rw [block_add]; exact g1)).trans hc1, (hx.cell (p := a2.add j) (by rw [block_add]; exact g2)).trans hc2⟩
        have hlt' : (j : Int) < L.length := by omega
        have hlt2 : (j : Int) < L'.length := by have := HL.out; omega
        have e := HJ.out
        have dC : ∀ (l : List (List Bool)) (k : Nat), k < l.length → l.drop k = l.getD k [] :: l.drop (k + 1) := fun l k h => by rw [List.drop_eq_getElem_cons h]; simp [List.getD, h]
        rw [dC L j hlt, dC L' j (by rw [← HL.out]; exact hlt), List.cons_beq_cons] at e
        generalize L.getD j [] = u at *
        generalize L'.getD j [] = v at *
        have FL : Hid (∀ wx, Below w.heap.size w wx → Calls Try.prog 21 #[.slice A1 u.length c1, .slice A2 v.length c2] wx (RetV wx (.bool (u == v)))) := Lib.hid fun wx hx => Flags_any A1 A2 c1 c2 u v wx ((r1.below hx).mono hx.size) ((r2.below hx).mono hx.size) (by omega) (by omega)
        generalize hu : (u == v) = uv at *
        have hU := hb.drew
        have K0 := HKK.out _ hU
        clear hc1 hc2 r1 r2 n1 n2 m1 m2 HJ HT hu dC hb
        cases uv
        · have HE : Hid (false = T) := by show _ = _; rw [← e, Bool.false_and]
          clear e
          go_wp2_with fail
          go_region_held3 (fun w' => w'.cell? (a1.add j) = some (.slice A1 u.length c1) ∧ w'.cell? (a2.add j) = some (.slice A2 v.length c2))
            (first | exact K0 | exact K1)
            (first
              | (go_at_call 21; ((with_reducible refine (FL.out _ hU).mono ?_); rintro e u1 ⟨rfl, hu1⟩; have U1 := bnx hU hu1; have K1 := HKK.out _ U1)))
          clear K0 HKK FL hU
          go_wp2
          go_ret
          exact ⟨by rw [← HE.out]; rfl, U1⟩
        · have HE : Hid ((L.drop (j + 1) == L'.drop (j + 1)) = T) := by show _ = _; rw [← e, Bool.true_and]
          clear e
          go_wp2_with fail
          go_region_held3 (fun w' => w'.cell? (a1.add j) = some (.slice A1 u.length c1) ∧ w'.cell? (a2.add j) = some (.slice A2 v.length c2))
            (first | exact K0 | exact K1)
            (first
              | (go_at_call 21; ((with_reducible refine (FL.out _ hU).mono ?_); rintro e u1 ⟨rfl, hu1⟩; have U1 := bnx hU hu1; have K1 := HKK.out _ U1)))
          clear K0 HKK FL hU
          go_wp2
          go_roundg g
          case measure => omega
          case rel => exact ⟨j + 1, by omega, by go_num, U1, HE⟩
  · have hne : ((L.length : Int) != (L'.length : Int)) = true := by simp; omega
    have hf : (L == L') = false := by rw [beq_eq_false_iff_ne]; intro e; exact hl (by rw [e])
    rw [hf]
    clear hl h h'
    go_enter Try.func22, Try.ntmps22
    go_wp2
    go_ret
    exact ⟨rfl, Below.refl _ _⟩
/-- Are there few rows, none too long? -/
def fewF (m : Int) (L : List (List Bool)) : Bool := decide ((L.length : Int) ≤ m) && L.all (fun r => decide (r.length ≤ 60))
theorem few_parts {m : Int} {L : List (List Bool)} (h : fewF m L = true) : (L.length : Int) ≤ m ∧ ∀ r ∈ L, r.length ≤ 60 := by
  simp only [fewF, Bool.and_eq_true, decide_eq_true_eq, List.all_eq_true] at h
  exact h
/-- What is left to look at from place j on. -/
def fewG (m : Int) (L : List (List Bool)) (j : Nat) : Bool := decide ((L.length : Int) ≤ m ∨ L.length ≤ j) && (L.drop j).all (fun r => decide (r.length ≤ 60))
theorem fewG_zero {m : Int} (h : 0 ≤ m) (L : List (List Bool)) : fewG m L 0 = fewF m L := by
  unfold fewG fewF
  have e : decide ((L.length : Int) ≤ m ∨ L.length ≤ 0) = decide ((L.length : Int) ≤ m) := decide_eq_decide.2 ⟨fun h => by omega, fun h => .inl h⟩
  rw [e, List.drop_zero]
theorem fewG_end (m : Int) (L : List (List Bool)) (j : Nat) (h : L.length ≤ j) : fewG m L j = true := by
  unfold fewG
  rw [decide_eq_true (.inr h), List.drop_of_length_le h]; rfl
theorem fewG_bad (m : Int) (L : List (List Bool)) (j : Nat) (h : j < L.length) (hb : m ≤ (j : Int) ∨ 60 < (L.getD j []).length) : fewG m L j = false := by
  unfold fewG
  have dC : L.drop j = L.getD j [] :: L.drop (j + 1) := by rw [List.drop_eq_getElem_cons h]; simp [List.getD, h]
  rw [dC, List.all_cons]
  rcases hb with h1 | h1
  · rw [decide_eq_false (by omega)]; rfl
  · rw [show decide ((L.getD j []).length ≤ 60) = false from decide_eq_false (by omega)]; simp
theorem fewG_step (m : Int) (L : List (List Bool)) (j : Nat) (h : j < L.length) (h1 : (j : Int) < m) (h2 : (L.getD j []).length ≤ 60) : fewG m L j = fewG m L (j + 1) := by
  unfold fewG
  have dC : L.drop j = L.getD j [] :: L.drop (j + 1) := by rw [List.drop_eq_getElem_cons h]; simp [List.getD, h]
  rw [dC, List.all_cons, show decide ((L.getD j []).length ≤ 60) = true from decide_eq_true h2, Bool.true_and]
  congr 1
  exact decide_eq_decide.2 ⟨fun h => by omega, fun h => by omega⟩
set_option maxHeartbeats 1600000 in
theorem Few_any (A : Option Addr) (c : Nat) (m : Int) (L : List (List Bool)) (w : World) (h : RR w w.heap.size A L) (hn : L.length ≤ maxLen) (hm : 0 ≤ m) :
    Calls Try.prog 12 #[.slice A L.length c, .int .i64 m] w (RetS w (.bool (fewF m L))) := by
  unfold maxLen at hn
  obtain ⟨T, hT⟩ : ∃ T, fewF m L = T := ⟨_, rfl⟩
  rw [hT]
  have HT : Hid (fewG m L 0 = T) := by show _ = _; rw [fewG_zero hm, hT]
  have H := Lib.hid h
  clear hT h
  go_enter Try.func12, Try.ntmps12
  go_wp2
  go_loopg [5] L.length (fun g s wr => ∃ j : Nat, j + g = L.length ∧ s = .int .i64 j ∧ w = wr ∧ Hid (fewG m L j = T))
  case atStart => exact ⟨0, by omega, rfl, rfl, HT⟩
  case round =>
    obtain ⟨j, hj, rfl, rfl, HJ⟩ := hrel
    cases gk with
    | zero =>
      have q1 : ¬ ((j : Int) < L.length) := by omega
      have q2 : ¬ (j < L.length) := by omega
      have HE : Hid (true = T) := by show _ = _; rw [← HJ.out, fewG_end m L j (by omega)]
      clear HJ HT H
      go_wp2
      go_ret
      exact ⟨by rw [← HE.out]; rfl, rfl⟩
    | succ g =>
      have hlt : j < L.length := by omega
      have hlt' : (j : Int) < L.length := by omega
      obtain ⟨a1, A1, c1, rfl, g1, hc1, r1, n1, m1, _⟩ := H.out j hlt
      by_cases h1 : m ≤ (j : Int)
      · have d1 : decide (m ≤ (j : Int)) = true := decide_eq_true h1
        have HE : Hid (false = T) := by show _ = _; rw [← HJ.out, fewG_bad m L j hlt (.inl h1)]
        clear HJ HT H r1 n1 m1
        go_wp2
        go_ret
        exact ⟨by rw [← HE.out]; rfl, rfl⟩
      · have d1 : decide (m ≤ (j : Int)) = false := decide_eq_false h1
        by_cases h2 : 60 < (L.getD j []).length
        · have HE : Hid (false = T) := by show _ = _; rw [← HJ.out, fewG_bad m L j hlt (.inr h2)]
          clear HJ HT H r1 m1
          generalize (L.getD j []).length = u at *
          have d2 : decide (60 < u) = true := decide_eq_true h2
          have d3 : decide ((60 : Int) < (u : Int)) = true := decide_eq_true (by omega)
          go_wp2
          go_ret
          exact ⟨by rw [← HE.out]; rfl, rfl⟩
        · have HE : Hid (fewG m L (j + 1) = T) := by show _ = _; rw [← HJ.out, fewG_step m L j hlt (by omega) (by omega)]
          clear HJ HT H r1 m1
          generalize (L.getD j []).length = u at *
          have d2 : decide (60 < u) = false := decide_eq_false h2
          have d3 : decide ((60 : Int) < (u : Int)) = false := decide_eq_false (by omega)
          go_wp2
          go_roundg g
          case measure => omega
          case rel => exact ⟨j + 1, by omega, by go_num, rfl, HE⟩
end Go.Proofs.Ytkdocjcpehmljaa
/- The reference's Values, lits and Start. -/
namespace Go.Proofs.Ytkdocjcpehmljaa
open Go.RowKit
set_option maxHeartbeats 2000000 in
theorem refValues_no (I : Int) (AL AG AO AB AC AN : Option Addr) (cL cG cO cB cC cN : Nat) (L G : List Pr) (O D C : List Int) (N : List Nm) (AS AI : Option Addr) (cs ci : Nat) (st inp : List Bool) (w : World) (h : ¬ (st.length = L.length ∧ (inp.length : Int) = I)) :
    Calls Try.prog 14 #[.agg #[.int .i64 I, .slice AL L.length cL, .slice AG G.length cG, .slice AO O.length cO, .slice AB D.length cB, .slice AC C.length cC, .slice AN N.length cN], .slice AS st.length cs, .slice AI inp.length ci] w (RetB0 w [] 7) := by
  have hb := bal (Below.refl w.heap.size w) (.cells #[.int .i64 I, .slice AL L.length cL, .slice AG G.length cG, .slice AO O.length cO, .slice AB D.length cB, .slice AC C.length cC, .slice AN N.length cN] 27)
  by_cases h1 : st.length = L.length
  · have d1 : ((st.length : Int) != (L.length : Int)) = false := by simp [h1]
    have d2 : ((inp.length : Int) != I) = true := by simp; intro e; exact h ⟨h1, e⟩
    clear h h1
    go_enter Try.func14, Try.ntmps14
    go_wp2
    go_ret2
    exact ⟨none, 0, rfl, RB.nil _ _ _, fun _ => rfl, by simp, by simp [maxLen], hb⟩
  · have d1 : ((st.length : Int) != (L.length : Int)) = true := by simp; omega
    clear h h1
    go_enter Try.func14, Try.ntmps14
    go_wp2
    go_ret2
    exact ⟨none, 0, rfl, RB.nil _ _ _, fun _ => rfl, by simp, by simp [maxLen], hb⟩
theorem own_one (w : World) (b : Bool) : OwnB (w.alloc (.cells #[.bool b] 4)) w.heap.size (.slice (some ⟨w.heap.size, 0, none⟩) 1 1) [b] := by
  have := World.ownsRow_lit (e := 4) (size := 1) (base := w.heap.size) w #[.bool b] 1 (Nat.le_refl _) (by simp [maxLen]) rfl
  unfold OwnB
  simpa using this
set_option maxRecDepth 100000 in
set_option maxHeartbeats 4000000 in
theorem refValues_yes (I : Int) (AL AG AO AB AC AN : Option Addr) (cL cG cO cB cC cN : Nat) (L G : List Pr) (O D C : List Int) (N : List Nm) (AS AI : Option Addr) (cs ci : Nat) (st inp : List Bool) (w : World) (hA : RA w w.heap.size AL AG AO AB AC AN L G O D C N) (hS : RB w w.heap.size AS st) (hI : RB w w.heap.size AI inp) (zS : AS = none → cs = 0) (zI : AI = none → ci = 0) (hM : Md I L G O D C) (h1 : st.length = L.length) (h2 : (inp.length : Int) = I) :
    Calls Try.prog 14 #[.agg #[.int .i64 I, .slice AL L.length cL, .slice AG G.length cG, .slice AO O.length cO, .slice AB D.length cB, .slice AC C.length cC, .slice AN N.length cN], .slice AS st.length cs, .slice AI inp.length ci] w (RetB0 w (valsOf st inp G) 0) := by
  have hb := bal (Below.refl w.heap.size w) (.cells #[.int .i64 I, .slice AL L.length cL, .slice AG G.length cG, .slice AO O.length cO, .slice AB D.length cB, .slice AC C.length cC, .slice AN N.length cN] 27)
  have d1 : ((st.length : Int) != (L.length : Int)) = false := by simp [h1]
  have d2 : ((inp.length : Int) != I) = false := by simp [h2]
  have m1 : inp.length ≤ 1000000 := by have := hM.i1; omega
  have m2 : st.length ≤ 1000000 := by have := hM.nl; omega
  have m3 := hM.ng
  have ht := hM.tp
  rw [show 1 + I.toNat + L.length = 1 + inp.length + st.length by omega] at ht
  obtain ⟨T, hT⟩ : ∃ T, valsOf st inp G = T := ⟨_, rfl⟩
  rw [hT]
  have HTT := Lib.hid hT
  have hbox : (w.alloc (.cells #[.int .i64 I, .slice AL L.length cL, .slice AG G.length cG, .slice AO O.length cO, .slice AB D.length cB, .slice AC C.length cC, .slice AN N.length cN] 27)).cell? ⟨w.heap.size, 2, none⟩ = some (.slice AG G.length cG) := by go_simp
  have hs0 : (w.alloc (.cells #[.int .i64 I, .slice AL L.length cL, .slice AG G.length cG, .slice AO O.length cO, .slice AB D.length cB, .slice AC C.length cC, .slice AN N.length cN] 27)).heap.size = w.heap.size + 1 := by simp
  have ho : OwnB ((w.alloc (.cells #[.int .i64 I, .slice AL L.length cL, .slice AG G.length cG, .slice AO O.length cO, .slice AB D.length cB, .slice AC C.length cC, .slice AN N.length cN] 27)).alloc (.cells #[.bool false] 4)) (w.heap.size + 1) (.slice (some ⟨w.heap.size + 1, 0, none⟩) 1 1) [false] := by
    have := own_one (w.alloc (.cells #[.int .i64 I, .slice AL L.length cL, .slice AG G.length cG, .slice AO O.length cO, .slice AB D.length cB, .slice AC C.length cC, .slice AN N.length cN] 27)) false
    rwa [hs0] at this
  have hb1 := bal (Below.refl _ (w.alloc (.cells #[.int .i64 I, .slice AL L.length cL, .slice AG G.length cG, .slice AO O.length cO, .slice AB D.length cB, .slice AC C.length cC, .slice AN N.length cN] 27))) (.cells #[.bool false] 4)
  have HG := Lib.hid (hA.g.nx hb)
  have HS := Lib.hid (hS.nx hb)
  have HI := Lib.hid (hI.nx hb)
  have HT := Lib.hid ht
  have HZS := Lib.hid zS
  have HB := Lib.hid hb
  clear hA hS hI hM h1 h2 ht hT zS hb
  go_enter Try.func14, Try.ntmps14
  have HIx := HI.out.nx hb1
  go_wp2_with (first | (at_builtin; refine wpBs (z := w.alloc (.cells #[.int .i64 I, .slice AL L.length cL, .slice AG G.length cG, .slice AO O.length cO, .slice AB D.length cB, .slice AC C.length cC, .slice AN N.length cN] 27)) rfl (.tmp 26) (.tmp 27) rfl (w.heap.size + 1) _ [false] rfl ho AI ci inp rfl HIx (by simp) (by simp) hb1 (by simp; omega) zI ?_) | fail)
  intro v1 w1 ho1 hb2
  rw [← hs0] at hb2 ho1
  generalize w.alloc (.cells #[.int .i64 I, .slice AL L.length cL, .slice AG G.length cG, .slice AO O.length cO, .slice AB D.length cB, .slice AC C.length cC, .slice AN N.length cN] 27) = w0 at *
  have HS0 := Lib.hid hs0
  clear hs0
  have hB1 := hb1.trans hb2
  have HSx := HS.out.nx hB1
  clear ho hb1 HIx hb2
  go_wp2_with (first | (at_builtin; refine wpBs (z := w0) rfl (.tmp 29) (.tmp 30) rfl _ _ ([false] ++ inp) rfl ho1 AS cs st rfl HSx hB1.size (Nat.le_refl _) hB1 (by simp; omega) HZS.out ?_) | fail)
  intro v2 w2 ho2 hb3
  have hB2 := hB1.trans hb3
  have ho2 : OwnB w2 w0.heap.size v2 (false :: (inp ++ st)) := by simpa using ho2
  obtain ⟨base, hbs⟩ : ∃ b, false :: (inp ++ st) = b := ⟨_, rfl⟩
  have hlb : base.length = 1 + inp.length + st.length := by rw [← hbs]; simp; omega
  rw [hbs] at ho2
  have HTB : Hid (vals base G = T) := Lib.hid (by rw [← hbs]; exact HTT.out)
  have hto := HT.out
  rw [← hlb] at hto
  have HTO := Lib.hid hto
  have HO2 := Lib.hid ho2
  have HB2 := Lib.hid hB2
  have HBX := Lib.hid hbox
  clear ho1 hB1 HSx hb3 hto HT HTT hbs ho2 hB2 hbox
  go_wp2
  go_loopg [8, 9] G.length (fun g s8 s9 wr => ∃ j : Nat, j + g = G.length ∧ s9 = .int .i64 j ∧ OwnB wr w0.heap.size s8 (vals base (G.take j)) ∧ Below w0.heap.size w0 wr)
  case atStart => exact ⟨0, by omega, rfl, HO2.out, HB2.out⟩
  case round =>
    obtain ⟨j, hj, rfl, hrow, hbel⟩ := hrel
    have hc2 := (hbel.cell (p := ⟨w.heap.size, 2, none⟩) (by show w.heap.size < _; have := HS0.out; omega)).trans HBX.out
    have hfb := HB.out.trans (hbel.mono HB.out.size)
    have hlen : (vals base (G.take j)).length = base.length + j := by rw [vals_length, List.length_take]; omega
    cases gk with
    | zero =>
      have q1 : ¬ ((j : Int) < G.length) := by omega
      have q2 : ¬ (j < G.length) := by omega
      rw [show G.take j = G from List.take_of_length_le (by omega), HTB.out] at hrow
      obtain ⟨A, c, rfl, r1, r2, r3, r4⟩ := hrow.val
      have HQ := Lib.hid (And.intro r1 (And.intro r2 (And.intro r3 (And.intro r4 hfb))))
      clear r1 r2 r3 r4 hfb hrow hbel hlen
      go_wp2
      go_ret2
      exact ⟨A, c, rfl, HQ.out.1, HQ.out.2.1, HQ.out.2.2.1, HQ.out.2.2.2.1, HQ.out.2.2.2.2⟩
    | succ g =>
      have hjl : j < G.length := by omega
      have hjl' : (j : Int) < G.length := by omega
      obtain ⟨ad, rfl, hab, hp0, hp1⟩ := HG.out j hjl
      have hp0' : wr.cell? (ad.add (j * 2)) = some (.int .i64 (G.getD j (0, 0)).1) := (hbel.cell (by rw [block_add]; exact hab)).trans hp0
      have hp1' : wr.cell? ⟨(ad.add (j * 2)).block, (ad.add (j * 2)).off + 1, none⟩ = some (.int .i64 (G.getD j (0, 0)).2) := (hbel.cell (by show (ad.add (j * 2)).block < _; rw [block_add]; exact hab)).trans hp1
      obtain ⟨t1, t2, t3⟩ := HTO.out j hjl
      have hnext := vals_next base G j hjl
      obtain ⟨A, c, rfl, r1, r2, r3, r4⟩ := hrow.val
      have hmx : (vals base (G.take j)).length ≤ 3000000 := by rw [hlen]; omega
      generalize vals base (G.take j) = M at *
      generalize G.getD j (0, 0) = p at *
      obtain ⟨pa, pb⟩ := p
      simp only at hp0' hp1' t1 t2 t3 hnext
      have C1 := refLit_any A c M pa wr r1 (by unfold maxLen; omega) (by omega) (by omega)
      have C2 := refLit_any A c M pb wr r1 (by unfold maxLen; omega) (by omega) (by omega)
      have HN := Lib.hid hnext
      generalize lt M pa = xa at *
      generalize lt M pb = xb at *
      have HROW := Lib.hid hrow
      have HBEL := Lib.hid hbel
      have hown := hrow
      have HM := Lib.hid hmx
      clear hnext hfb hp0 hp1 hlen r1 r2 r3 r4 t1 t2 t3 hrow hmx
      go_wp2_with fail
      refine C1.mono ?_; rintro e w' ⟨rfl, rfl⟩
      clear C1
      go_wp2_with fail
      refine C2.mono ?_; rintro e w' ⟨rfl, rfl⟩
      clear C2
      cases xa
      · go_wp2_with (first | (at_builtin; refine wpB1 (z := w0) rfl (.tmp 55) (.tmp 60) rfl _ M rfl hown false rfl HBEL.out (by have := HM.out; omega) ?_) | fail)
        intro v3 w3 ho3 hb3
        have HO3 := Lib.hid ho3
        have HB3 := Lib.hid hb3
        clear hown ho3 hb3 hbel hc2 hp0' hp1'
        go_wp2
        go_roundg g
        case measure => omega
        case rel => exact ⟨j + 1, by omega, by go_num, by rw [HN.out]; exact HO3.out, HB3.out⟩
      · go_wp2_with (first | (at_builtin; refine wpB1 (z := w0) rfl (.tmp 55) (.tmp 60) rfl _ M rfl hown xb rfl HBEL.out (by have := HM.out; omega) ?_) | fail)
        intro v3 w3 ho3 hb3
        have HO3 := Lib.hid ho3
        have HB3 := Lib.hid hb3
        clear hown ho3 hb3 hbel hc2 hp0' hp1'
        go_wp2
        go_roundg g
        case measure => omega
        case rel => exact ⟨j + 1, by omega, by go_num, by rw [HN.out]; exact HO3.out, HB3.out⟩
set_option maxHeartbeats 2000000 in
theorem reflits_any (A Av : Option Addr) (c cv : Nat) (l : List Int) (v : List Bool) (w : World) (h : RI w w.heap.size A l) (hv : RB w w.heap.size Av v) (hl : l.length ≤ 1000000) (hm : v.length ≤ maxLen) (hlit : Lits l) :
    Calls Try.prog 31 #[.slice Av v.length cv, .slice A l.length c] w (RetB w (l.map (lt v))) := by
  have H := Lib.hid h
  have HV := Lib.hid hv
  have HLI := Lib.hid hlit
  clear h hv hlit
  go_enter Try.func31, Try.ntmps31
  go_wp2
  go_loopg [5, 6] l.length (fun g s5 s6 wr => ∃ j : Nat, j + g = l.length ∧ s6 = .int .i64 j ∧ OwnB wr w.heap.size s5 ((l.take j).map (lt v)) ∧ Below w.heap.size w wr)
  case atStart => exact ⟨0, by omega, rfl, OwnB.nil _ _, Below.refl _ _⟩
  case round =>
    obtain ⟨j, hj, rfl, hrow, hbel⟩ := hrel
    cases gk with
    | zero =>
      have q1 : ¬ ((j : Int) < l.length) := by omega
      have q2 : ¬ (j < l.length) := by omega
      rw [show l.take j = l from List.take_of_length_le (by omega)] at hrow
      obtain ⟨A2, c2, rfl, r1, r2, r3, r4⟩ := hrow.val
      have HQ := Lib.hid (And.intro r1 (And.intro r2 (And.intro r3 (And.intro r4 hbel))))
      generalize l.map (lt v) = T at *
      clear r1 r2 r3 r4 hrow hbel
      go_wp2
      go_ret
      exact ⟨A2, c2, rfl, HQ.out.1, HQ.out.2.1, HQ.out.2.2.1, HQ.out.2.2.2.1, HQ.out.2.2.2.2⟩
    | succ g =>
      have hjl : j < l.length := by omega
      have hjl' : (j : Int) < l.length := by omega
      obtain ⟨ad, rfl, hab, hp⟩ := H.out j hjl
      have hp' := (hbel.cell (p := ad.add j) (by rw [block_add]; exact hab)).trans hp
      obtain ⟨x0, x1⟩ := HLI.out.at j hjl
      have hnext : (l.take (j + 1)).map (lt v) = (l.take j).map (lt v) ++ [lt v (l.getD j 0)] := by
        have e : l.take (j + 1) = l.take j ++ [l.getD j 0] := by rw [List.take_add_one]; simp [List.getD_eq_getElem?_getD, hjl]
        rw [e, List.map_append]; rfl
      have hmx : ((l.take j).map (lt v)).length ≤ 1000000 := by simp; omega
      have C1 := refLit_any Av cv v (l.getD j 0) wr (HV.out.nx hbel) hm (by omega) (by omega)
      generalize (l.take j).map (lt v) = M at *
      generalize lt v (l.getD j 0) = y at *
      generalize l.getD j 0 = x at *
      have HN := Lib.hid hnext
      have HBEL := Lib.hid hbel
      have HM := Lib.hid hmx
      clear hnext hp hmx
      go_wp2_with fail
      refine C1.mono ?_; rintro e w' ⟨rfl, rfl⟩
      clear C1
      go_wp2_with (first | (at_builtin; refine wpB1 (z := w) rfl (.tmp 13) (.tmp 20) rfl _ M rfl hrow y rfl HBEL.out (by have := HM.out; omega) ?_) | fail)
      intro v3 w3 ho3 hb3
      have HO3 := Lib.hid ho3
      have HB3 := Lib.hid hb3
      clear hrow ho3 hb3 hbel hp'
      go_wp2
      go_roundg g
      case measure => omega
      case rel => exact ⟨j + 1, by omega, by go_num, by rw [HN.out]; exact HO3.out, HB3.out⟩
end Go.Proofs.Ytkdocjcpehmljaa
