/-
  The reference's values and rows of literals.
  The reference's step.
-/
import Derived.Test.YtekopdfnblfldaaDoorProg
import Derived.WalkKit
import Derived.WalkSpells
import Derived.WalkLawsBesides
import Derived.Lib.Hide
import Derived.BigQuiet
import Derived.Deep.QuietTactic
import Derived.Deep.RegionWith
import Derived.Deep.RegionHeld3
import Derived.Test.YtekopdfnblfldaaDoorQ18
import Derived.StillTailTactics
set_option linter.unusedVariables false
/- The reference's values and rows of literals. -/
namespace Go.Proofs.YtekopdfnblfldaaDoor
open Go.RowKit
set_option maxHeartbeats 2000000 in
theorem reflits3_any (A Av : Option Addr) (c cv : Nat) (l : List Int) (v : List Int) (w : World) (h : RI w w.heap.size A l) (hv : RT w w.heap.size Av v) (hl : l.length ≤ 1000000) (hm : v.length ≤ maxLen) (hlit : Lits l) :
    Calls Tryd.prog 44 #[.slice Av v.length cv, .slice A l.length c] w (RetR w (l.map (lt3 v))) := by
  have H := Lib.hid h
  have HV := Lib.hid hv
  have HLI := Lib.hid hlit
  clear h hv hlit
  go_enter Tryd.func44, Tryd.ntmps44
  go_wp2
  go_loopg [5, 6] l.length (fun g s5 s6 wr => ∃ j : Nat, j + g = l.length ∧ s6 = .int .i64 j ∧ OwnT wr w.heap.size s5 ((l.take j).map (lt3 v)) ∧ Below w.heap.size w wr)
  case atStart => exact ⟨0, by omega, rfl, OwnT.nil _ _, Below.refl _ _⟩
  case round =>
    obtain ⟨j, hj, rfl, hrow, hbel⟩ := hrel
    cases gk with
    | zero =>
      have q1 : ¬ ((j : Int) < l.length) := by omega
      have q2 : ¬ (j < l.length) := by omega
      rw [show l.take j = l from List.take_of_length_le (by omega)] at hrow
      obtain ⟨A2, c2, rfl, r1, r2, r3, r4⟩ := hrow.val
      have HQ := Lib.hid (And.intro r1 (And.intro r2 (And.intro r3 (And.intro r4 hbel))))
      generalize l.map (lt3 v) = T at *
      clear r1 r2 r3 r4 hrow hbel
      go_wp2
      go_ret
      exact ⟨A2, c2, rfl, HQ.out.1, HQ.out.2.1, HQ.out.2.2.1, HQ.out.2.2.2.1, HQ.out.2.2.2.2⟩
    | succ g =>
      have hjl : j < l.length := by omega
      have hjl' : (j : Int) < l.length := by omega
      obtain ⟨ad, rfl, hab, hp⟩ := H.out j hjl
      have hp' := (hbel.cell (p := ad.add j) (by rw [block_add]; exact hab)).trans hp
      obtain ⟨x0, x1⟩ := HLI.out.at j hjl
      have hnext : (l.take (j + 1)).map (lt3 v) = (l.take j).map (lt3 v) ++ [lt3 v (l.getD j 0)] := by
        have e : l.take (j + 1) = l.take j ++ [l.getD j 0] := by rw [List.take_add_one]; simp [List.getD_eq_getElem?_getD, hjl]
        rw [e, List.map_append]; rfl
      have hmx : ((l.take j).map (lt3 v)).length ≤ 1000000 := by simp; omega
      have C1 := refLit3_any Av cv v (l.getD j 0) wr (HV.out.nx hbel) hm (by omega) (by omega)
      generalize (l.take j).map (lt3 v) = M at *
      generalize lt3 v (l.getD j 0) = y at *
      generalize l.getD j 0 = x at *
      have HN := Lib.hid hnext
      have HBEL := Lib.hid hbel
      have HM := Lib.hid hmx
      clear hnext hp hmx
      go_wp2_with fail
      refine C1.mono ?_; rintro e w' ⟨rfl, rfl⟩
      clear C1
      go_wp2_with (first | (at_builtin; refine wpT1 (z := w) rfl (.tmp 13) (.tmp 20) rfl _ M rfl hrow y rfl HBEL.out (by have := HM.out; omega) ?_) | fail)
      intro v3 w3 ho3 hb3
      have HO3 := Lib.hid ho3
      have HB3 := Lib.hid hb3
      clear hrow ho3 hb3 hbel hp'
      go_wp2
      go_roundg g
      case measure => omega
      case rel => exact ⟨j + 1, by omega, by go_num, by rw [HN.out]; exact HO3.out, HB3.out⟩

theorem wpTso {w : World} {o : Oper} {a : Act} {K : Act → World → Prop} {Q : Exit → Act → World → Prop} (s x : Operand)
    (ho : o.op = .call { callee := .builtin .append, args := #[s, x], argTypes := #[22, 22] })
    (base : Nat) (v : Value) (l : List Int) (hs : a.eval s = v) (hown : OwnT w base v l) (A : Option Addr) (c : Nat) (m : List Int) (hx : a.eval x = .slice A m.length c) (hr : RT w w.heap.size A m) (hbase : base ≤ w.heap.size)
    (hn : l.length + m.length ≤ 3000000000) (hA : A = none → c = 0)
    (h : ∀ v' w', OwnT w' base v' (l ++ m) → Below base w w' → K (a.put o.dst v') w') : o.wp Tryd.prog a w K Q := by
  obtain ⟨i0, hi0, hz0, hz1, hz2⟩ := info_parts tri_info
  cases A with
  | none =>
    have h0 : m = [] := by
      cases m with
      | nil => rfl
      | cons x l => obtain ⟨ad, e, _⟩ := hr 0 (by simp); cases e
    subst h0
    obtain rfl := hA rfl
    have hrun := run_append_owned_none (P := Tryd.prog) (w := w) base 22 o.type 25 i0 1 Tryd.underlying22 hi0 v l.length (l.map (Value.int .u8)) hown
    have hx' : a.eval x = .slice none 0 0 := hx
    unfold Oper.wp
    simp [execOp, ho, resolve, invoke, builtin, hs, hx', hrun, Result.andThen]
    exact h v w (by simpa using hown) (Below.refl _ _)
  | some ad =>
    refine wp_append_own w s x 22 ho base 25 i0 (.int .u8 0) 1 1 Tryd.underlying22 hi0 hz0 hz1 hz2 rfl (by omega) v l.length (l.map (Value.int .u8)) hs hown ad m.length c (m.map (Value.int .u8)) hx (by simp) ?_ ?_ (by unfold maxLen; omega) (by omega) hbase ?_
    · intro j u hj
      have hjl : j < m.length := by
        have := (List.getElem?_eq_some_iff.1 hj).1
        simpa using this
      obtain ⟨ad', e, _, hc⟩ := hr j hjl
      cases e
      rw [hc]
      simp [hjl] at hj
      rw [← hj]
      simp [List.getD_eq_getElem?_getD, hjl]
    · intro u hu; obtain ⟨x, _, rfl⟩ := List.mem_map.1 hu; rfl
    · intro v' w' hown' hg _
      refine h v' w' ?_ ((Below.refl base w).grown hg hbase (fun k hk => ((World.ownsRow.lt hown) k hk).1))
      unfold OwnT
      simpa using hown'
theorem stepTs {w : World} {ops : Array Oper} {o : Oper} {a : Act} {K : Act → World → Prop} {Q : Exit → Act → World → Prop} {E : Prop} (hgd : o.guard = none) (s x : Operand)
    (ho : o.op = .call { callee := .builtin .append, args := #[s, x], argTypes := #[22, 22] })
    (base : Nat) (v : Value) (l : List Int) (hs : a.eval s = v) (hown : OwnT w base v l) (A : Option Addr) (c : Nat) (m : List Int) (hx : a.eval x = .slice A m.length c) (hr : RT w w.heap.size A m) (hbase : base ≤ w.heap.size)
    (hn : l.length + m.length ≤ 3000000000) (hA : A = none → c = 0)
    (h : ∀ v' w', OwnT w' base v' (l ++ m) → Below base w w' → K (a.put o.dst v') w') : if Region.wanted o (yielded ops a.tmps) = true then Oper.wp Tryd.prog o a w K Q else E := by
  have hw : Region.wanted o (yielded ops a.tmps) = true := by simp [Region.wanted, hgd]
  rw [if_pos hw]
  exact wpTso s x ho base v l hs hown A c m hx hr hbase hn hA h

set_option maxHeartbeats 800000 in
theorem own_zero (w : World) : OwnT (w.alloc (.cells #[.int .u8 0] 25)) w.heap.size (.slice (some ⟨w.heap.size, 0, none⟩) 1 1) [0] := by
  have := World.ownsRow_lit (e := 25) (size := 1) (base := w.heap.size) w #[.int .u8 0] 1 (Nat.le_refl _) (by simp [maxLen]) rfl
  unfold OwnT
  simpa using this
set_option maxRecDepth 100000 in
set_option maxHeartbeats 8000000 in
theorem refValues3_any (I : Int) (AL AG AO AB AC AN : Option Addr) (cL cG cO cB cC cN : Nat) (L G : List Pr) (O D C : List Int) (N : List Nm) (AS AI : Option Addr) (cs ci : Nat) (st inp : List Int) (w : World) (hA : RA w w.heap.size AL AG AO AB AC AN L G O D C N) (hS : RT w w.heap.size AS st) (hI : RT w w.heap.size AI inp) (zS : AS = none → cs = 0) (zI : AI = none → ci = 0) (ms : st.length ≤ maxLen) (mi : inp.length ≤ maxLen) (hM : Md I L G O D C) :
    Calls Tryd.prog 23 #[.agg #[.int .i64 I, .slice AL L.length cL, .slice AG G.length cG, .slice AO O.length cO, .slice AB D.length cB, .slice AC C.length cC, .slice AN N.length cN], .slice AS st.length cs, .slice AI inp.length ci] w (RetR0 w (orNil (fit3 I L st inp) (valsOf3 st inp G)) (errX (fit3 I L st inp))) := by
  have hb := bal (Below.refl w.heap.size w) (.cells #[.int .i64 I, .slice AL L.length cL, .slice AG G.length cG, .slice AO O.length cO, .slice AB D.length cB, .slice AC C.length cC, .slice AN N.length cN] 35)
  have CS := refIsTri_any AS cs st _ (hS.nx hb) ms
  have CI := refIsTri_any AI ci inp _ (hI.nx hb) mi
  unfold maxLen at ms mi
  cases t1 : isTri st
  · rw [t1] at CS
    have e : fit3 I L st inp = false := by simp [fit3, t1]
    rw [e]
    generalize isTri inp = b2 at *
    clear hA hS hI hM t1 e
    go_enter Tryd.func23, Tryd.ntmps23
    go_wp2_with fail
    refine CS.mono ?_; rintro e w' ⟨rfl, rfl⟩
    clear CS
    go_wp2_with fail
    refine CI.mono ?_; rintro e w' ⟨rfl, rfl⟩
    clear CI
    go_wp2
    go_ret2
    exact ⟨none, 0, rfl, RT.nil _ _ _, fun _ => rfl, by simp [orNil], by simp [maxLen], hb⟩
  rw [t1] at CS
  cases t2 : isTri inp
  · rw [t2] at CI
    have e : fit3 I L st inp = false := by simp [fit3, t2]
    rw [e]
    clear hA hS hI hM t1 t2 e
    go_enter Tryd.func23, Tryd.ntmps23
    go_wp2_with fail
    refine CS.mono ?_; rintro e w' ⟨rfl, rfl⟩
    clear CS
    go_wp2_with fail
    refine CI.mono ?_; rintro e w' ⟨rfl, rfl⟩
    clear CI
    go_wp2
    go_ret2
    exact ⟨none, 0, rfl, RT.nil _ _ _, fun _ => rfl, by simp [orNil], by simp [maxLen], hb⟩
  rw [t2] at CI
  by_cases h1 : ¬ st.length = L.length
  · have d1 : ((st.length : Int) != (L.length : Int)) = true := by simp; omega
    have e : fit3 I L st inp = false := by simp [fit3, h1]
    rw [e]
    clear hA hS hI hM t1 t2 e
    go_enter Tryd.func23, Tryd.ntmps23
    go_wp2_with fail
    refine CS.mono ?_; rintro e w' ⟨rfl, rfl⟩
    clear CS
    go_wp2_with fail
    refine CI.mono ?_; rintro e w' ⟨rfl, rfl⟩
    clear CI
    go_wp2
    go_ret2
    exact ⟨none, 0, rfl, RT.nil _ _ _, fun _ => rfl, by simp [orNil], by simp [maxLen], hb⟩
  replace h1 := Classical.not_not.1 h1
  have d1 : ((st.length : Int) != (L.length : Int)) = false := by simp [h1]
  by_cases h2 : ¬ (inp.length : Int) = I
  · have d2 : ((inp.length : Int) != I) = true := by simpa using h2
    have e : fit3 I L st inp = false := by simp [fit3, h2]
    rw [e]
    clear hA hS hI hM t1 t2 e h1
    go_enter Tryd.func23, Tryd.ntmps23
    go_wp2_with fail
    refine CS.mono ?_; rintro e w' ⟨rfl, rfl⟩
    clear CS
    go_wp2_with fail
    refine CI.mono ?_; rintro e w' ⟨rfl, rfl⟩
    clear CI
    go_wp2
    go_ret2
    exact ⟨none, 0, rfl, RT.nil _ _ _, fun _ => rfl, by simp [orNil], by simp [maxLen], hb⟩
  replace h2 := Classical.not_not.1 h2
  have d2 : ((inp.length : Int) != I) = false := by simp [h2]
  have e : fit3 I L st inp = true := by simp [fit3, h1, h2, t1, t2]
  rw [e]
  simp only [orNil, errX, if_true]
  have m1 : inp.length ≤ 1000000 := by have := hM.i1; omega
  have m2 : st.length ≤ 1000000 := by have := hM.nl; omega
  have m3 := hM.ng
  have ht := hM.tp
  rw [show 1 + I.toNat + L.length = 1 + inp.length + st.length by omega] at ht
  obtain ⟨T, hTT⟩ : ∃ T, valsOf3 st inp G = T := ⟨_, rfl⟩
  rw [hTT]
  have HTT : Hid (vals3 (0 :: (inp ++ st)) G = T) := hTT
  have hbox : (w.alloc (.cells #[.int .i64 I, .slice AL L.length cL, .slice AG G.length cG, .slice AO O.length cO, .slice AB D.length cB, .slice AC C.length cC, .slice AN N.length cN] 35)).cell? ⟨w.heap.size, 2, none⟩ = some (.slice AG G.length cG) := by go_simp
  have hs0 : (w.alloc (.cells #[.int .i64 I, .slice AL L.length cL, .slice AG G.length cG, .slice AO O.length cO, .slice AB D.length cB, .slice AC C.length cC, .slice AN N.length cN] 35)).heap.size = w.heap.size + 1 := by simp
  have ho : OwnT ((w.alloc (.cells #[.int .i64 I, .slice AL L.length cL, .slice AG G.length cG, .slice AO O.length cO, .slice AB D.length cB, .slice AC C.length cC, .slice AN N.length cN] 35)).alloc (.cells #[.int .u8 0] 25)) (w.heap.size + 1) (.slice (some ⟨w.heap.size + 1, 0, none⟩) 1 1) [0] := by
    have := own_zero (w.alloc (.cells #[.int .i64 I, .slice AL L.length cL, .slice AG G.length cG, .slice AO O.length cO, .slice AB D.length cB, .slice AC C.length cC, .slice AN N.length cN] 35))
    rwa [hs0] at this
  have hb1 := bal (Below.refl _ (w.alloc (.cells #[.int .i64 I, .slice AL L.length cL, .slice AG G.length cG, .slice AO O.length cO, .slice AB D.length cB, .slice AC C.length cC, .slice AN N.length cN] 35))) (.cells #[.int .u8 0] 25)
  have HG := Lib.hid (hA.g.nx hb)
  have HS := Lib.hid (hS.nx hb)
  have HI := Lib.hid (hI.nx hb)
  have HT := Lib.hid ht
  have HZS := Lib.hid zS
  have HB := Lib.hid hb
  clear hA hS hI hM h1 h2 ht hTT zS hb t1 t2 e
  go_enter Tryd.func23, Tryd.ntmps23
  go_wp2_with fail
  refine CS.mono ?_; rintro e w' ⟨rfl, rfl⟩
  clear CS
  go_wp2_with fail
  refine CI.mono ?_; rintro e w' ⟨rfl, rfl⟩
  clear CI
  have HIx := HI.out.nx hb1
  go_wp2_with (first | (at_builtin; refine wpTs (z := w.alloc (.cells #[.int .i64 I, .slice AL L.length cL, .slice AG G.length cG, .slice AO O.length cO, .slice AB D.length cB, .slice AC C.length cC, .slice AN N.length cN] 35)) rfl (.tmp 37) (.tmp 38) rfl (w.heap.size + 1) _ [0] rfl ho AI ci inp rfl HIx (by simp) (by simp) hb1 (by simp; omega) zI ?_) | fail)
  intro v1 w1 ho1 hb2
  rw [← hs0] at hb2 ho1
  generalize w.alloc (.cells #[.int .i64 I, .slice AL L.length cL, .slice AG G.length cG, .slice AO O.length cO, .slice AB D.length cB, .slice AC C.length cC, .slice AN N.length cN] 35) = w0 at *
  have HS0 := Lib.hid hs0
  clear hs0
  have hB1 := hb1.trans hb2
  have HSx := HS.out.nx hB1
  clear ho hb1 HIx hb2
  go_wp2_with (first | (at_builtin; refine wpTs (z := w0) rfl (.tmp 39) (.tmp 40) rfl _ _ ([0] ++ inp) rfl ho1 AS cs st rfl HSx hB1.size (Nat.le_refl _) hB1 (by simp; omega) HZS.out ?_) | fail)
  intro v2 w2 ho2 hb3
  have hB2 := hB1.trans hb3
  have ho2 : OwnT w2 w0.heap.size v2 (0 :: (inp ++ st)) := by simpa using ho2
  obtain ⟨base, hbs⟩ : ∃ b, (0 : Int) :: (inp ++ st) = b := ⟨_, rfl⟩
  have hlb : base.length = 1 + inp.length + st.length := by rw [← hbs]; simp; omega
  rw [hbs] at ho2
  have HTV : Hid (vals3 base G = T) := Lib.hid (by rw [← hbs]; exact HTT.out)
  have hto := HT.out
  rw [← hlb] at hto
  have HTO := Lib.hid hto
  have HO2 := Lib.hid ho2
  have HB2 := Lib.hid hB2
  have HBX := Lib.hid hbox
  clear ho1 hB1 HSx hb3 hto HT HTT hbs ho2 hB2 hbox
  go_wp2
  go_loopg [10, 11] G.length (fun g s8 s9 wr => ∃ j : Nat, j + g = G.length ∧ s9 = .int .i64 j ∧ OwnT wr w0.heap.size s8 (vals3 base (G.take j)) ∧ Below w0.heap.size w0 wr)
  case atStart => exact ⟨0, by omega, rfl, HO2.out, HB2.out⟩
  case round =>
    obtain ⟨j, hj, rfl, hrow, hbel⟩ := hrel
    have hc2 := (hbel.cell (p := ⟨w.heap.size, 2, none⟩) (by show w.heap.size < _; have := HS0.out; omega)).trans HBX.out
    have hfb := HB.out.trans (hbel.mono HB.out.size)
    have hlen : (vals3 base (G.take j)).length = base.length + j := by rw [vals3_length, List.length_take]; omega
    cases gk with
    | zero =>
      have q1 : ¬ ((j : Int) < G.length) := by omega
      have q2 : ¬ (j < G.length) := by omega
      rw [show G.take j = G from List.take_of_length_le (by omega), HTV.out] at hrow
      obtain ⟨A, c, rfl, r1, r2, r3, r4⟩ := hrow.val
      have HQ := Lib.hid (And.intro r1 (And.intro r2 (And.intro r3 (And.intro r4 hfb))))
      clear r1 r2 r3 r4 hfb hrow hbel hlen
      go_wp2
      go_ret2
      exact ⟨A, c, rfl, HQ.out.1, HQ.out.2.1, HQ.out.2.2.1, HQ.out.2.2.2.1, HQ.out.2.2.2.2⟩
    | succ g =>
      have hjl : j < G.length := by omega
      have hjl' : (j : Int) < G.length := by omega
      obtain ⟨ad, rfl, hab, hp0, hp1⟩ := HG.out j hjl
      have hp0' : wr.cell? (ad.add (j * 2)) = some (.int .i64 (G.getD j (0, 0)).1) := (hbel.cell (by rw [block_add]; exact hab)).trans hp0
      have hp1' : wr.cell? ⟨(ad.add (j * 2)).block, (ad.add (j * 2)).off + 1, none⟩ = some (.int .i64 (G.getD j (0, 0)).2) := (hbel.cell (by show (ad.add (j * 2)).block < _; rw [block_add]; exact hab)).trans hp1
      obtain ⟨t1, t2, t3⟩ := HTO.out j hjl
      have hnext := vals3_next base G j hjl
      obtain ⟨A, c, rfl, r1, r2, r3, r4⟩ := hrow.val
      have hmx : (vals3 base (G.take j)).length ≤ 3000000 := by rw [hlen]; omega
      generalize vals3 base (G.take j) = M at *
      generalize G.getD j (0, 0) = p at *
      obtain ⟨pa, pb⟩ := p
      simp only at hp0' hp1' t1 t2 t3 hnext
      have C1 := refLit3_any A c M pa wr.drew (r1.nx (Below.refl _ _).drew) (by unfold maxLen; omega) (by omega) (by omega)
      have C2 := refLit3_any A c M pb wr.drew (r1.nx (Below.refl _ _).drew) (by unfold maxLen; omega) (by omega) (by omega)
      have C3 := refAnd_any (lt3 M pa) (lt3 M pb) wr.drew
      have HN := Lib.hid hnext
      generalize lt3 M pa = xa at *
      generalize lt3 M pb = xb at *
      generalize and3 xa xb = xc at *
      have hown : OwnT (wr.alloc (.cells #[.int .u8 xc] 25)).drew w0.heap.size (.slice A M.length c) M := (hrow.old (bal (Below.refl _ _) _)).old (Below.refl _ _).drew
      have h1t : RT (wr.alloc (.cells #[.int .u8 xc] 25)).drew (wr.alloc (.cells #[.int .u8 xc] 25)).drew.heap.size (some ⟨wr.heap.size, 0, none⟩) [xc] := (one_t wr xc).nx (Below.refl _ _).drew
      have hba := (hbel.alloc hbel.size (.cells #[.int .u8 xc] 25)).drew
      have HKK : Hid (∀ w', Below w0.heap.size w0 w' → w'.cell? ⟨w.heap.size, 2, none⟩ = some (.slice (some ad) G.length cG) ∧ w'.cell? (ad.add (j * 2)) = some (.int .i64 pa) ∧ w'.cell? ⟨(ad.add (j * 2)).block, (ad.add (j * 2)).off + 1, none⟩ = some (.int .i64 pb)) := Lib.hid fun wx hx => ⟨(hx.cell (p := ⟨w.heap.size, 2, none⟩) (by show w.heap.size < _; have := HS0.out; omega)).trans HBX.out, (hx.cell (by rw [block_add]; exact hab)).trans hp0, (hx.cell (by show (ad.add (j * 2)).block < _; rw [block_add]; exact hab)).trans hp1⟩
      have K0 := HKK.out _ hbel.drew
      have K1 := HKK.out _ hba
      have HMX := Lib.hid hmx
      have hsz : w0.heap.size ≤ (wr.alloc (.cells #[.int .u8 xc] 25)).drew.heap.size := hba.size
      clear hnext hfb hlen r1 r2 r3 r4 t1 t2 t3 hrow hmx hp0 hp1 hp0' hp1'
      go_wp2_with fail
      go_region_held3 (fun w' => w'.cell? ⟨w.heap.size, 2, none⟩ = some (.slice (some ad) G.length cG) ∧ w'.cell? (ad.add (j * 2)) = some (.int .i64 pa) ∧ w'.cell? ⟨(ad.add (j * 2)).block, (ad.add (j * 2)).off + 1, none⟩ = some (.int .i64 pb))
        (first | exact K0 | exact K1 | exact K2)
        (first
          | (go_at_call 28; ((with_reducible refine C1.mono ?_); rintro e u1 ⟨rfl, rfl⟩))
          | (go_at_call 28; ((with_reducible refine C2.mono ?_); rintro e u2 ⟨rfl, rfl⟩))
          | (go_at_call 16; ((with_reducible refine C3.mono ?_); rintro e u3 ⟨rfl, rfl⟩))
          | (refine stepTs rfl (.tmp 49) (.tmp 67) (by rfl) w0.heap.size _ M (by rfl) hown (some ⟨wr.heap.size, 0, none⟩) 1 [xc] (by rfl) h1t hsz (by have := HMX.out; simp; omega) (fun h => by cases h) ?_; intro v3 w3 ho3 hb3; have K2 := HKK.out _ (hba.trans hb3)))
      have HO3 := Lib.hid ho3
      have HB3 := Lib.hid (hba.trans hb3)
      clear hown ho3 hb3 hbel hba K0 K1 K2 HKK h1t hsz C1 C2 C3 hc2
      go_wp2
      go_roundg g
      case measure => omega
      case rel => exact ⟨j + 1, by omega, by go_num, by rw [HN.out]; exact HO3.out, HB3.out⟩
end Go.Proofs.YtekopdfnblfldaaDoor
/- The reference's step. -/
namespace Go.Proofs.YtekopdfnblfldaaDoor
open Go.RowKit
theorem takeN3 (L : List Pr) (v : List Int) (j : Nat) (h : j < L.length) : (L.take (j + 1)).map (fun p => lt3 v p.1) = (L.take j).map (fun p => lt3 v p.1) ++ [lt3 v (L.getD j (0, 0)).1] := by
  rw [takeP L j h, List.map_append]; rfl
set_option maxRecDepth 100000 in
set_option maxHeartbeats 4000000 in
theorem refStep3_no (I : Int) (AL AG AO AB AC AN : Option Addr) (cL cG cO cB cC cN : Nat) (L G : List Pr) (O D C : List Int) (N : List Nm) (AS AI : Option Addr) (cs ci : Nat) (st inp : List Int) (w : World) (hA : RA w w.heap.size AL AG AO AB AC AN L G O D C N) (hS : RT w w.heap.size AS st) (hI : RT w w.heap.size AI inp) (zS : AS = none → cs = 0) (zI : AI = none → ci = 0) (ms : st.length ≤ maxLen) (mi : inp.length ≤ maxLen) (hM : Md I L G O D C) (h : fit3 I L st inp = false) :
    Calls Tryd.prog 25 #[.agg #[.int .i64 I, .slice AL L.length cL, .slice AG G.length cG, .slice AO O.length cO, .slice AB D.length cB, .slice AC C.length cC, .slice AN N.length cN], .slice AS st.length cs, .slice AI inp.length ci] w (RetS3 w [] [] [] [] 7) := by
  have hb := bal (bal (Below.refl w.heap.size w) (.cells #[.int .i64 I, .slice AL L.length cL, .slice AG G.length cG, .slice AO O.length cO, .slice AB D.length cB, .slice AC C.length cC, .slice AN N.length cN] 35)) (.cells #[.slice none 0 0, .slice none 0 0, .slice none 0 0] 44)
  have C1 := refValues3_any I AL AG AO AB AC AN cL cG cO cB cC cN L G O D C N AS AI cs ci st inp ((w.alloc (.cells #[.int .i64 I, .slice AL L.length cL, .slice AG G.length cG, .slice AO O.length cO, .slice AB D.length cB, .slice AC C.length cC, .slice AN N.length cN] 35)).alloc (.cells #[.slice none 0 0, .slice none 0 0, .slice none 0 0] 44)) (hA.nx hb) (hS.nx hb) (hI.nx hb) zS zI ms mi hM
  rw [h] at C1
  simp only [orNil, errX, Bool.false_eq_true, if_false] at C1
  have ht : T3 ((w.alloc (.cells #[.int .i64 I, .slice AL L.length cL, .slice AG G.length cG, .slice AO O.length cO, .slice AB D.length cB, .slice AC C.length cC, .slice AN N.length cN] 35)).alloc (.cells #[.slice none 0 0, .slice none 0 0, .slice none 0 0] 44)) (w.heap.size + 1) (.slice none 0 0) (.slice none 0 0) (.slice none 0 0) := by
    have := T3.new (w.alloc (.cells #[.int .i64 I, .slice AL L.length cL, .slice AG G.length cG, .slice AO O.length cO, .slice AB D.length cB, .slice AC C.length cC, .slice AN N.length cN] 35)) (.slice none 0 0) (.slice none 0 0) (.slice none 0 0) 44
    simpa using this
  have hs : ((w.alloc (.cells #[.int .i64 I, .slice AL L.length cL, .slice AG G.length cG, .slice AO O.length cO, .slice AB D.length cB, .slice AC C.length cC, .slice AN N.length cN] 35)).alloc (.cells #[.slice none 0 0, .slice none 0 0, .slice none 0 0] 44)).heap.size = w.heap.size + 2 := by simp
  clear h hA hS hI hM
  go_enter Tryd.func25, Tryd.ntmps25
  go_wp2_with fail
  refine C1.mono ?_; rintro e w1 ⟨A1, c1, rfl, _, _, _, _, hb1⟩
  have ht1 := ht.nx hb1 (by omega)
  have hB := hb.trans (hb1.mono (by omega))
  generalize (w.alloc (.cells #[.int .i64 I, .slice AL L.length cL, .slice AG G.length cG, .slice AO O.length cO, .slice AB D.length cB, .slice AC C.length cC, .slice AN N.length cN] 35)).alloc (.cells #[.slice none 0 0, .slice none 0 0, .slice none 0 0] 44) = w0 at *
  have hT := T3.put3 ht1 (.slice none 0 0) (.slice none 0 0) (.slice none 0 0)
  obtain ⟨e0, e1, e2, e3, e4, e5⟩ := ht1
  clear C1 ht hb hb1 hs
  go_wp2
  refine bodyPost_ret (v := .tuple #[.slice none 0 0, .agg #[.slice none 0 0, .slice none 0 0, .slice none 0 0], .int .i64 7]) ?r rfl ?_
  case r =>
    simp only [results, Tryd.f25]
    go_simp
  exact ⟨_, _, _, _, rfl, ST.nil _, ST.nil _, ST.nil _, ST.nil _, below_put3 hB (by omega) _ _ _⟩
set_option maxRecDepth 100000 in
set_option maxHeartbeats 8000000 in
theorem refStep3_yes (I : Int) (AL AG AO AB AC AN : Option Addr) (cL cG cO cB cC cN : Nat) (L G : List Pr) (O D C : List Int) (N : List Nm) (AS AI : Option Addr) (cs ci : Nat) (st inp : List Int) (w : World) (hA : RA w w.heap.size AL AG AO AB AC AN L G O D C N) (hS : RT w w.heap.size AS st) (hI : RT w w.heap.size AI inp) (zS : AS = none → cs = 0) (zI : AI = none → ci = 0) (ms : st.length ≤ maxLen) (mi : inp.length ≤ maxLen) (hM : Md I L G O D C) (h : fit3 I L st inp = true) (h1 : st.length = L.length) (h2 : (inp.length : Int) = I) :
    Calls Tryd.prog 25 #[.agg #[.int .i64 I, .slice AL L.length cL, .slice AG G.length cG, .slice AO O.length cO, .slice AB D.length cB, .slice AC C.length cC, .slice AN N.length cN], .slice AS st.length cs, .slice AI inp.length ci] w (RetS3 w (nextL3 L G st inp) (tellL3 O G st inp) (tellL3 D G st inp) (tellL3 C G st inp) 0) := by
  have hb := bal (bal (Below.refl w.heap.size w) (.cells #[.int .i64 I, .slice AL L.length cL, .slice AG G.length cG, .slice AO O.length cO, .slice AB D.length cB, .slice AC C.length cC, .slice AN N.length cN] 35)) (.cells #[.slice none 0 0, .slice none 0 0, .slice none 0 0] 44)
  have C1 := refValues3_any I AL AG AO AB AC AN cL cG cO cB cC cN L G O D C N AS AI cs ci st inp ((w.alloc (.cells #[.int .i64 I, .slice AL L.length cL, .slice AG G.length cG, .slice AO O.length cO, .slice AB D.length cB, .slice AC C.length cC, .slice AN N.length cN] 35)).alloc (.cells #[.slice none 0 0, .slice none 0 0, .slice none 0 0] 44)) (hA.nx hb) (hS.nx hb) (hI.nx hb) zS zI ms mi hM
  rw [h] at C1
  simp only [orNil, errX, if_true] at C1
  have ht : T3 ((w.alloc (.cells #[.int .i64 I, .slice AL L.length cL, .slice AG G.length cG, .slice AO O.length cO, .slice AB D.length cB, .slice AC C.length cC, .slice AN N.length cN] 35)).alloc (.cells #[.slice none 0 0, .slice none 0 0, .slice none 0 0] 44)) (w.heap.size + 1) (.slice none 0 0) (.slice none 0 0) (.slice none 0 0) := by
    have := T3.new (w.alloc (.cells #[.int .i64 I, .slice AL L.length cL, .slice AG G.length cG, .slice AO O.length cO, .slice AB D.length cB, .slice AC C.length cC, .slice AN N.length cN] 35)) (.slice none 0 0) (.slice none 0 0) (.slice none 0 0) 44
    simpa using this
  have hk : KA ((w.alloc (.cells #[.int .i64 I, .slice AL L.length cL, .slice AG G.length cG, .slice AO O.length cO, .slice AB D.length cB, .slice AC C.length cC, .slice AN N.length cN] 35)).alloc (.cells #[.slice none 0 0, .slice none 0 0, .slice none 0 0] 44)) w.heap.size I AL AG AO AB AC AN cL cG cO cB cC cN L G O D C N := by
    constructor <;> go_simp
  have hs : ((w.alloc (.cells #[.int .i64 I, .slice AL L.length cL, .slice AG G.length cG, .slice AO O.length cO, .slice AB D.length cB, .slice AC C.length cC, .slice AN N.length cN] 35)).alloc (.cells #[.slice none 0 0, .slice none 0 0, .slice none 0 0] 44)).heap.size = w.heap.size + 2 := by simp
  have hvl : (valsOf3 st inp G).length ≤ maxLen := by
    rw [valsOf3_length]; have := hM.i1; have := hM.nl; have := hM.ng; unfold maxLen; omega
  have nl := hM.nl
  have HM := Lib.hid hM
  have HA := Lib.hid (hA.nx hb)
  unfold nextL3 tellL3
  clear hA hS hI hM h1 h2 h
  generalize valsOf3 st inp G = V at *
  obtain ⟨TN, hTN⟩ : ∃ T, L.map (fun p => lt3 V p.1) = T := ⟨_, rfl⟩
  obtain ⟨TO, hTO⟩ : ∃ T, O.map (lt3 V) = T := ⟨_, rfl⟩
  obtain ⟨TD, hTD⟩ : ∃ T, D.map (lt3 V) = T := ⟨_, rfl⟩
  obtain ⟨TC, hTC⟩ : ∃ T, C.map (lt3 V) = T := ⟨_, rfl⟩
  rw [hTN, hTO, hTD, hTC]
  have HTN := Lib.hid hTN
  have HTO := Lib.hid hTO
  have HTD := Lib.hid hTD
  have HTC := Lib.hid hTC
  clear hTN hTO hTD hTC
  go_enter Tryd.func25, Tryd.ntmps25
  go_wp2_with fail
  refine C1.mono ?_; rintro e w1 ⟨AV, cV, rfl, rV, zV, nV, mV, hb1⟩
  generalize (w.alloc (.cells #[.int .i64 I, .slice AL L.length cL, .slice AG G.length cG, .slice AO O.length cO, .slice AB D.length cB, .slice AC C.length cC, .slice AN N.length cN] 35)).alloc (.cells #[.slice none 0 0, .slice none 0 0, .slice none 0 0] 44) = w0 at *
  have HS := Lib.hid hs
  have HVL := Lib.hid hvl
  have HRV := Lib.hid rV
  have HB1 := Lib.hid hb1
  have HT := Lib.hid ht
  have HK := Lib.hid hk
  have HB := Lib.hid hb
  clear C1 hs hvl rV zV nV mV hb1 ht hk hb
  go_wp2
  go_loopg [11, 12] L.length (fun g s11 s12 wr => ∃ j : Nat, j + g = L.length ∧ s12 = .int .i64 j ∧ OwnT wr w1.heap.size s11 ((L.take j).map (fun p => lt3 V p.1)) ∧ Below w1.heap.size w1 wr)
  case atStart => exact ⟨0, by omega, rfl, OwnT.nil _ _, Below.refl _ _⟩
  case round =>
    obtain ⟨j, hj, rfl, hrow, hbel⟩ := hrel
    have hb2 := bnx HB1.out hbel
    obtain ⟨k0, k1, k2, k3, k4, k5, k6⟩ := HK.out.nx hb2 (by have := HS.out; omega)
    cases gk with
    | zero =>
      have q1 : ¬ ((j : Int) < L.length) := by omega
      have q2 : ¬ (j < L.length) := by omega
      rw [show L.take j = L from List.take_of_length_le (by omega), HTN.out] at hrow
      obtain ⟨An, cn, rfl, r1, r2, r3, r4⟩ := hrow.val
      have HSN := Lib.hid (show ST wr (.slice An TN.length cn) TN from ⟨An, cn, rfl, r1, r2, r3, r4⟩)
      have hU := (Below.refl wr.heap.size wr).drew
      have HB2 := Lib.hid hb2
      have HRV2 := Lib.hid (HRV.out.nx hbel)
      have LL : Hid (∀ (A : Option Addr) (c : Nat) (l : List Int) (wx : World), Lits l → l.length ≤ 1000000 → RI w0 w0.heap.size A l → Below wr.heap.size wr wx → Calls Tryd.prog 44 #[.slice AV V.length cV, .slice A l.length c] wx (RetR wx (l.map (lt3 V)))) := Lib.hid fun A c l wx hl hn hr hx => reflits3_any A AV c cV l V wx ((hr.nx HB2.out).nx hx) (HRV2.out.nx hx) hn HVL.out hl
      have HKK : Hid (∀ wx, Below wr.heap.size wr wx → wx.cell? ⟨w.heap.size, 3, none⟩ = some (.slice AO O.length cO) ∧ wx.cell? ⟨w.heap.size, 4, none⟩ = some (.slice AB D.length cB) ∧ wx.cell? ⟨w.heap.size, 5, none⟩ = some (.slice AC C.length cC)) := Lib.hid fun wx hx => by
        have q := HK.out.nx (bnx HB2.out hx) (by have := HS.out; omega)
        exact ⟨q.k3, q.k4, q.k5⟩
      have HPP : Hid (∀ wx, Below wr.heap.size wr wx → ∀ x y z, (((wx.setCell ⟨w.heap.size + 1, 0, none⟩ x).setCell ⟨w.heap.size + 1, 1, none⟩ y).setCell ⟨w.heap.size + 1, 2, none⟩ z).cell? ⟨w.heap.size, 3, none⟩ = some (.slice AO O.length cO) ∧ (((wx.setCell ⟨w.heap.size + 1, 0, none⟩ x).setCell ⟨w.heap.size + 1, 1, none⟩ y).setCell ⟨w.heap.size + 1, 2, none⟩ z).cell? ⟨w.heap.size, 4, none⟩ = some (.slice AB D.length cB) ∧ (((wx.setCell ⟨w.heap.size + 1, 0, none⟩ x).setCell ⟨w.heap.size + 1, 1, none⟩ y).setCell ⟨w.heap.size + 1, 2, none⟩ z).cell? ⟨w.heap.size, 5, none⟩ = some (.slice AC C.length cC)) := Lib.hid fun wx hx x y z => by
        obtain ⟨q1, q2, q3⟩ := HKK.out wx hx
        refine ⟨?_, ?_, ?_⟩
        · rw [World.cell?_setCell_other _ _ _ _ (by simp), World.cell?_setCell_other _ _ _ _ (by simp), World.cell?_setCell_other _ _ _ _ (by simp)]; exact q1
        · rw [World.cell?_setCell_other _ _ _ _ (by simp), World.cell?_setCell_other _ _ _ _ (by simp), World.cell?_setCell_other _ _ _ _ (by simp)]; exact q2
        · rw [World.cell?_setCell_other _ _ _ _ (by simp), World.cell?_setCell_other _ _ _ _ (by simp), World.cell?_setCell_other _ _ _ _ (by simp)]; exact q3
      have HTT : Hid (∀ wx, Below wr.heap.size wr wx → T3 wx (w.heap.size + 1) (.slice none 0 0) (.slice none 0 0) (.slice none 0 0)) := Lib.hid fun wx hx => HT.out.nx (bnx HB2.out hx) (by have := HS.out; omega)
      have L1 : Hid (∀ wx, Below wr.heap.size wr wx → Calls Tryd.prog 44 #[.slice AV V.length cV, .slice AO O.length cO] wx (RetR wx (O.map (lt3 V)))) := Lib.hid fun wx hx => LL.out AO cO O wx HM.out.lo HM.out.no HA.out.o hx
      have L2 : Hid (∀ wx, Below wr.heap.size wr wx → Calls Tryd.prog 44 #[.slice AV V.length cV, .slice AB D.length cB] wx (RetR wx (D.map (lt3 V)))) := Lib.hid fun wx hx => LL.out AB cB D wx HM.out.ld HM.out.nd HA.out.d hx
      have L3 : Hid (∀ wx, Below wr.heap.size wr wx → Calls Tryd.prog 44 #[.slice AV V.length cV, .slice AC C.length cC] wx (RetR wx (C.map (lt3 V)))) := Lib.hid fun wx hx => LL.out AC cC C wx HM.out.lc HM.out.nc HA.out.c hx
      rw [HTO.out] at L1
      rw [HTD.out] at L2
      rw [HTC.out] at L3
      clear r1 r2 r3 r4 hrow hbel hb2 k2 k6 LL HRV HM HA
      go_wp2_with fail
      have K0 := HKK.out _ hU
      clear k0 k1 k3 k4 k5
      go_region_held3 (fun w' => w'.cell? ⟨w.heap.size, 3, none⟩ = some (.slice AO O.length cO) ∧ w'.cell? ⟨w.heap.size, 4, none⟩ = some (.slice AB D.length cB) ∧ w'.cell? ⟨w.heap.size, 5, none⟩ = some (.slice AC C.length cC))
        (first | exact K0 | exact K1 | exact K2 | exact K3 | exact K4 _ _ _)
        (first
          | (go_at_call 44; ((with_reducible refine (L1.out _ hU).mono ?_); rintro e u1 ⟨A1, c1, rfl, r1, z1, n1, m1, hu1⟩; have U1 := bnx hU hu1; have K1 := HKK.out _ U1))
          | (go_at_call 44; ((with_reducible refine (L2.out _ U1).mono ?_); rintro e u2 ⟨A2, c2, rfl, r2, z2, n2, m2, hu2⟩; have U2 := bnx U1 hu2; have K2 := HKK.out _ U2))
          | (go_at_call 44; ((with_reducible refine (L3.out _ U2).mono ?_); rintro e u3 ⟨A3, c3, rfl, r3, z3, n3, m3, hu3⟩; have U3 := bnx U2 hu3; have K3 := HKK.out _ U3; have K4 := HPP.out _ U3; obtain ⟨e0, e1, e2, e3, e4, e5⟩ := HTT.out _ U3)))
      have TT := HTT.out _ U3
      have F1 := (HSN.out.nx U3).put3 TT (.slice A1 TO.length c1) (.slice A2 TD.length c2) (.slice A3 TC.length c3)
      have F2 := (ST.nx (⟨A1, c1, rfl, r1, z1, n1, m1⟩ : ST u1 (.slice A1 TO.length c1) TO) (bnx hu2 hu3)).put3 TT (.slice A1 TO.length c1) (.slice A2 TD.length c2) (.slice A3 TC.length c3)
      have F3 := (ST.nx (⟨A2, c2, rfl, r2, z2, n2, m2⟩ : ST u2 (.slice A2 TD.length c2) TD) hu3).put3 TT (.slice A1 TO.length c1) (.slice A2 TD.length c2) (.slice A3 TC.length c3)
      have F4 := ST.put3 (⟨A3, c3, rfl, r3, z3, n3, m3⟩ : ST u3 (.slice A3 TC.length c3) TC) TT (.slice A1 TO.length c1) (.slice A2 TD.length c2) (.slice A3 TC.length c3)
      have F5 := below_put3 ((HB.out.trans ((bnx HB2.out U3).mono HB.out.size))) (b := w.heap.size + 1) (by omega) (.slice A1 TO.length c1) (.slice A2 TD.length c2) (.slice A3 TC.length c3)
      have F6 := TT.put3 (.slice A1 TO.length c1) (.slice A2 TD.length c2) (.slice A3 TC.length c3)
      unfold put3 at F1 F2 F3 F4 F5 F6
      generalize ((u3.setCell ⟨w.heap.size + 1, 0, none⟩ (.slice A1 TO.length c1)).setCell ⟨w.heap.size + 1, 1, none⟩ (.slice A2 TD.length c2)).setCell ⟨w.heap.size + 1, 2, none⟩ (.slice A3 TC.length c3) = P at *
      have HF := Lib.hid (And.intro F1 (And.intro F2 (And.intro F3 (And.intro F4 F5))))
      clear F1 F2 F3 F4 F5 TT K0 K1 K2 K3 K4 U1 U2 U3 hu1 hu2 hu3 r1 z1 n1 m1 r2 z2 n2 m2 r3 z3 n3 m3 e0 e1 e2 e3 e4 e5 hU HPP HTT HKK L1 L2 L3
      obtain ⟨e0, e1, e2, e3, e4, e5⟩ := F6
      go_wp2
      refine bodyPost_ret (v := .tuple #[.slice An TN.length cn, .agg #[.slice A1 TO.length c1, .slice A2 TD.length c2, .slice A3 TC.length c3], .int .i64 0]) ?r rfl ?_
      case r =>
        simp only [results, Tryd.f25]
        go_simp
      exact ⟨_, _, _, _, rfl, HF.out.1, HF.out.2.1, HF.out.2.2.1, HF.out.2.2.2.1, HF.out.2.2.2.2⟩
    | succ g =>
      have hjl : j < L.length := by omega
      have hjl' : (j : Int) < L.length := by omega
      obtain ⟨ad, rfl, hab, hp0, hp1⟩ := HA.out.l j hjl
      have hp0' := (hb2.cell (p := ad.add (j * 2)) (by rw [block_add]; exact hab)).trans hp0
      obtain ⟨x0, x1⟩ := HM.out.ll.at j hjl
      have hnext := takeN3 L V j hjl
      have hmx : ((L.take j).map (fun p => lt3 V p.1)).length ≤ 1000000 := by simp; omega
      have C1 := refLit3_any AV cV V (L.getD j (0, 0)).1 wr (HRV.out.nx hbel) HVL.out (by omega) (by omega)
      generalize (L.take j).map (fun p => lt3 V p.1) = M at *
      generalize lt3 V (L.getD j (0, 0)).1 = y at *
      generalize (L.getD j (0, 0)).1 = x at *
      have HN := Lib.hid hnext
      have HBEL := Lib.hid hbel
      have HMX := Lib.hid hmx
      clear hnext hp0 hp1 hmx hb2
      go_wp2_with fail
      refine C1.mono ?_; rintro e w' ⟨rfl, rfl⟩
      clear C1
      go_wp2_with (first | (at_builtin; refine wpT1 (z := w1) rfl (.tmp 31) (.tmp 40) rfl _ M rfl hrow y rfl HBEL.out (by have := HMX.out; omega) ?_) | fail)
      intro v3 w3 ho3 hb3
      have HO3 := Lib.hid ho3
      have HB3 := Lib.hid hb3
      clear hrow ho3 hb3 hbel hp0' k0 k1 k2 k3 k4 k5 k6
      go_wp2
      go_roundg g
      case measure => omega
      case rel => exact ⟨j + 1, by omega, by go_num, by rw [HN.out]; exact HO3.out, HB3.out⟩
theorem refStep3_any (I : Int) (AL AG AO AB AC AN : Option Addr) (cL cG cO cB cC cN : Nat) (L G : List Pr) (O D C : List Int) (N : List Nm) (AS AI : Option Addr) (cs ci : Nat) (st inp : List Int) (w : World) (hA : RA w w.heap.size AL AG AO AB AC AN L G O D C N) (hS : RT w w.heap.size AS st) (hI : RT w w.heap.size AI inp) (zS : AS = none → cs = 0) (zI : AI = none → ci = 0) (ms : st.length ≤ maxLen) (mi : inp.length ≤ maxLen) (hM : Md I L G O D C) :
    Calls Tryd.prog 25 #[.agg #[.int .i64 I, .slice AL L.length cL, .slice AG G.length cG, .slice AO O.length cO, .slice AB D.length cB, .slice AC C.length cC, .slice AN N.length cN], .slice AS st.length cs, .slice AI inp.length ci] w (RetS3 w (orNil (fit3 I L st inp) (nextL3 L G st inp)) (orNil (fit3 I L st inp) (tellL3 O G st inp)) (orNil (fit3 I L st inp) (tellL3 D G st inp)) (orNil (fit3 I L st inp) (tellL3 C G st inp)) (errX (fit3 I L st inp))) := by
  cases h : fit3 I L st inp
  · exact refStep3_no I AL AG AO AB AC AN cL cG cO cB cC cN L G O D C N AS AI cs ci st inp w hA hS hI zS zI ms mi hM h
  · exact refStep3_yes I AL AG AO AB AC AN cL cG cO cB cC cN L G O D C N AS AI cs ci st inp w hA hS hI zS zI ms mi hM h (fit3_yes h).1 (fit3_yes h).2.1
end Go.Proofs.YtekopdfnblfldaaDoor
