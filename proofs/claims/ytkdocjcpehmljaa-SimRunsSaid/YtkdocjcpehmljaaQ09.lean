/-
  A run.
  A run, whole.
-/
import Derived.Test.YtkdocjcpehmljaaProg
import Derived.WalkKit
import Derived.WalkSpells
import Derived.WalkLawsBesides
import Derived.Lib.Hide
import Derived.BigQuiet
import Derived.Deep.QuietTactic
import Derived.Deep.RegionWith
import Derived.Deep.RegionHeld3
import Derived.Test.YtkdocjcpehmljaaQ08
import Derived.Test.YtkdocjcpehmljaaQ03
import Derived.Deep.AppendSrc
set_option linter.unusedVariables false
/- A run. -/
namespace Go.Proofs.Ytkdocjcpehmljaa
open Go.RowKit
/-- A call that tells rows of flags, and how it went. -/
def RetRR (w0 : World) (T : List (List Bool)) (x : Int) (e : Ending) (w' : World) : Prop := ∃ A c, e = .returned (.tuple #[.slice A T.length c, .int .i64 x]) ∧ RR w' w'.heap.size A T ∧ (A = none → c = 0) ∧ T.length ≤ c ∧ c ≤ maxLen ∧ Below w0.heap.size w0 w'
set_option maxHeartbeats 1000000 in
theorem run1_any (A : Option Addr) (c b : Nat) (r : List Bool) (I : Int) (w : World) (h : w.cell? ⟨b, 0, none⟩ = some (.int .i64 I)) :
    Calls Try.prog 34 #[.slice A r.length c, .pointer (some ⟨b, 0, none⟩)] w (RetS w (.bool ((r.length : Int) != I))) := by
  go_enter Try.func34, Try.ntmps34
  go_wp2
  go_ret
  exact ⟨rfl, rfl⟩
/-- Has a row another length? -/
def badR (I : Int) (ins : List (List Bool)) : Bool := ins.any (fun r => ((r.length : Int) != I))
def RetIdx (w0 : World) (b : Bool) (e : Ending) (w' : World) : Prop := ∃ r : Int, decide (0 ≤ r) = b ∧ e = .returned (.int .i64 r) ∧ w0 = w'
theorem dropR (l : List (List Bool)) (k : Nat) (h : k < l.length) : l.drop k = l.getD k [] :: l.drop (k + 1) := by
  rw [List.drop_eq_getElem_cons h]; simp [List.getD, h]
set_option maxHeartbeats 1000000 in
theorem indexR_any (A : Option Addr) (c b : Nat) (ins : List (List Bool)) (I : Int) (w : World) (h : w.cell? ⟨b, 0, none⟩ = some (.int .i64 I)) (hR : RR w w.heap.size A ins) (hn : ins.length ≤ maxLen) :
    Calls Try.prog 45 #[.slice A ins.length c, .func (.func 34) #[] #[.pointer (some ⟨b, 0, none⟩)]] w (RetIdx w (badR I ins)) := by
  unfold maxLen at hn
  obtain ⟨T, hT⟩ : ∃ T, badR I ins = T := ⟨_, rfl⟩
  rw [hT]
  have HT : Hid (badR I (ins.drop 0) = T) := by show _ = _; rw [List.drop_zero, hT]
  have HR := Lib.hid hR
  have C1 : Hid (∀ A c r, Calls Try.prog 34 #[.slice A (List.length r) c, .pointer (some ⟨b, 0, none⟩)] w (RetS w (.bool (((List.length r : Nat) : Int) != I)))) := Lib.hid fun A c r => run1_any A c b r I w h
  clear hT hR
  go_enter Try.func45, Try.ntmps45
  go_wp2
  go_loopg [8] ins.length (fun g s wr => ∃ j : Nat, j + g = ins.length ∧ s = .int .i64 j ∧ w = wr ∧ Hid (badR I (ins.drop j) = T))
  case atStart => exact ⟨0, by omega, rfl, rfl, HT⟩
  case round =>
    obtain ⟨j, hj, rfl, rfl, HJ⟩ := hrel
    cases gk with
    | zero =>
      have q1 : ¬ ((j : Int) < ins.length) := by omega
      have q2 : ¬ (j < ins.length) := by omega
      have HE : Hid (false = T) := by show _ = _; rw [← HJ.out, List.drop_of_length_le (by omega)]; rfl
      clear HJ HT
      go_wp2
      go_ret
      exact ⟨-1, by rw [← HE.out]; rfl, rfl, rfl⟩
    | succ g =>
      have hjl : j < ins.length := by omega
      have hjl' : (j : Int) < ins.length := by omega
      obtain ⟨ad, Ar, cr, rfl, hab, hc, _⟩ := HR.out j hjl
      have e := HJ.out
      rw [dropR ins j hjl] at e
      have c1 := C1.out Ar cr (ins.getD j [])
      unfold badR at e
      rw [List.any_cons] at e
      generalize ins.getD j [] = r at *
      generalize hbb : ((r.length : Int) != I) = bb at *
      clear HJ HT hbb
      cases bb
      · have HE : Hid (badR I (ins.drop (j + 1)) = T) := by show _ = _; rw [← e, Bool.false_or]; rfl
        clear e
        go_wp2_with fail
        refine c1.mono ?_; rintro e w' ⟨rfl, rfl⟩
        clear c1
        go_wp2
        go_roundg g
        case measure => omega
        case rel => exact ⟨j + 1, by omega, by go_num, rfl, HE⟩
      · have HE : Hid (true = T) := by show _ = _; rw [← e, Bool.true_or]
        clear e
        go_wp2_with fail
        refine c1.mono ?_; rintro e w' ⟨rfl, rfl⟩
        clear c1
        go_wp2
        go_ret
        exact ⟨j, by rw [← HE.out]; simp, rfl, rfl⟩
set_option maxHeartbeats 1000000 in
theorem containsR_any (A : Option Addr) (c b : Nat) (ins : List (List Bool)) (I : Int) (w : World) (h : w.cell? ⟨b, 0, none⟩ = some (.int .i64 I)) (hR : RR w w.heap.size A ins) (hn : ins.length ≤ maxLen) :
    Calls Try.prog 33 #[.slice A ins.length c, .func (.func 34) #[] #[.pointer (some ⟨b, 0, none⟩)]] w (RetS w (.bool (badR I ins))) := by
  have C := indexR_any A c b ins I w h hR hn
  generalize badR I ins = T at *
  clear hR
  go_enter Try.func33, Try.ntmps33
  go_wp2_with fail
  refine C.mono ?_; rintro e w' ⟨r, hr, rfl, rfl⟩
  clear C
  by_cases h0 : 0 ≤ r
  · have d1 : decide (0 ≤ r) = true := decide_eq_true h0
    rw [d1] at hr
    go_wp2
    go_ret
    exact ⟨by rw [← hr]; rfl, rfl⟩
  · have d1 : decide (0 ≤ r) = false := decide_eq_false h0
    rw [d1] at hr
    go_wp2
    go_ret
    exact ⟨by rw [← hr]; rfl, rfl⟩
set_option maxHeartbeats 1000000 in
theorem states_any (I : Int) (AL AG AO AB AC AN : Option Addr) (cL cG cO cB cC cN : Nat) (L G : List Pr) (O D C : List Int) (N : List Nm) (AF AI : Option Addr) (nf cf ni ci : Nat) (w : World) :
    Calls Try.prog 35 #[.agg #[.int .i64 I, .slice AL L.length cL, .slice AG G.length cG, .slice AO O.length cO, .slice AB D.length cB, .slice AC C.length cC, .slice AN N.length cN], .slice AF nf cf, .slice AI ni ci] w (fun e w' => e = .returned (.func (.func 46) #[] #[.pointer (some ⟨w.heap.size + 1, 0, none⟩), .pointer (some ⟨w.heap.size + 2, 0, none⟩), .pointer (some ⟨w.heap.size, 0, none⟩)]) ∧ w' = ((w.alloc (.cells #[.int .i64 I, .slice AL L.length cL, .slice AG G.length cG, .slice AO O.length cO, .slice AB D.length cB, .slice AC C.length cC, .slice AN N.length cN] 27)).alloc (.cells #[.slice AF nf cf] 28)).alloc (.cells #[.slice AI ni ci] 29)) := by
  go_enter Try.func35, Try.ntmps35
  go_wp2
  go_ret
  exact ⟨rfl, rfl⟩
theorem row_info : (Try.prog.info? 28).map (fun i => (i.zero, i.size, i.bytes)) = some (some (.slice none 0 0), 1, 24) := by kernel_rfl
def mkOR (m : Nat) : Obj := .cells (madeCells #[.slice none 0 0] m) 28
theorem mkR (m : Nat) (K : Int) (hK : K = (m : Int)) (hm : m ≤ 100000000) (w : World) : (Instr.makeSlice 29 (.int .i64 0) (.int .i64 K)).run Try.prog w = .ok (.slice (some ⟨w.heap.size, 0, none⟩) 0 m) (w.alloc (mkOR m)) := by
  subst hK
  obtain ⟨i0, hi0, hz0, hz1, hz2⟩ := info_parts row_info
  have := run_make w 29 28 i0 _ Try.underlying29 hi0 hz0 .i64 .i64 0 m (by omega) (by omega) (by rw [hz2]; omega) (by omega)
  rw [hz1] at this
  simpa [Value.cells, mkOR] using this
theorem own_mkR (w : World) (m base : Nat) (hm : m ≤ 100000000) (hb : base ≤ w.heap.size) : (w.alloc (mkOR m)).ownsRow base 28 1 (.slice (some ⟨w.heap.size, 0, none⟩) 0 m) 0 [] :=
  World.ownsRow_made w _ m hb (by unfold maxLen; omega) (by simp [madeCells])
end Go.Proofs.Ytkdocjcpehmljaa
/- A run, whole. -/
namespace Go.Proofs.Ytkdocjcpehmljaa
open Go.RowKit
set_option maxRecDepth 100000 in
set_option maxHeartbeats 4000000 in
theorem Run_no (I : Int) (AL AG AO AB AC AN : Option Addr) (cL cG cO cB cC cN : Nat) (L G : List Pr) (O D C : List Int) (N : List Nm) (AS AI : Option Addr) (cs ci : Nat) (st : List Bool) (ins : List (List Bool)) (w : World) (h : ¬ (st.length = L.length)) :
    Calls Try.prog 19 #[.agg #[.int .i64 I, .slice AL L.length cL, .slice AG G.length cG, .slice AO O.length cO, .slice AB D.length cB, .slice AC C.length cC, .slice AN N.length cN], .slice AS st.length cs, .slice AI ins.length ci] w (RetRR w [] 7) := by
  have C1 := Start_no I AL AG AO AB AC AN cL cG cO cB cC cN L G O D C N AS cs st (w.alloc (.cells #[.int .i64 I, .slice AL L.length cL, .slice AG G.length cG, .slice AO O.length cO, .slice AB D.length cB, .slice AC C.length cC, .slice AN N.length cN] 27)) h
  have hb := bal (Below.refl w.heap.size w) (.cells #[.int .i64 I, .slice AL L.length cL, .slice AG G.length cG, .slice AO O.length cO, .slice AB D.length cB, .slice AC C.length cC, .slice AN N.length cN] 27)
  go_enter Try.func19, Try.ntmps19
  go_wp2_with fail
  refine C1.mono ?_; rintro e w1 ⟨A1, c1, rfl, _, _, _, _, hb1⟩
  have hB := hb.trans (hb1.mono hb.size)
  clear C1 hb hb1
  go_wp2
  go_ret2
  exact ⟨none, 0, rfl, RR.nil _ _ _, fun _ => rfl, by simp, by simp [maxLen], hB⟩
set_option maxRecDepth 100000 in
set_option maxHeartbeats 4000000 in
theorem Run_bad (I : Int) (AL AG AO AB AC AN : Option Addr) (cL cG cO cB cC cN : Nat) (L G : List Pr) (O D C : List Int) (N : List Nm) (AS AI : Option Addr) (cs ci : Nat) (st : List Bool) (ins : List (List Bool)) (w : World) (hL : RP w w.heap.size AL L) (hS : RB w w.heap.size AS st) (hR : RR w w.heap.size AI ins) (nl : L.length ≤ 1000000) (hn : ins.length ≤ maxLen) (h : st.length = L.length) (hbad : badR I ins = true) :
    Calls Try.prog 19 #[.agg #[.int .i64 I, .slice AL L.length cL, .slice AG G.length cG, .slice AO O.length cO, .slice AB D.length cB, .slice AC C.length cC, .slice AN N.length cN], .slice AS st.length cs, .slice AI ins.length ci] w (RetRR w [] 7) := by
  have hb := bal (Below.refl w.heap.size w) (.cells #[.int .i64 I, .slice AL L.length cL, .slice AG G.length cG, .slice AO O.length cO, .slice AB D.length cB, .slice AC C.length cC, .slice AN N.length cN] 27)
  have C1 := Start_yes I AL AG AO AB AC AN cL cG cO cB cC cN L G O D C N AS cs st (w.alloc (.cells #[.int .i64 I, .slice AL L.length cL, .slice AG G.length cG, .slice AO O.length cO, .slice AB D.length cB, .slice AC C.length cC, .slice AN N.length cN] 27)) (hL.nx hb) (hS.nx hb) nl h
  have hk := KA.new w I AL AG AO AB AC AN cL cG cO cB cC cN L G O D C N
  have hs : (w.alloc (.cells #[.int .i64 I, .slice AL L.length cL, .slice AG G.length cG, .slice AO O.length cO, .slice AB D.length cB, .slice AC C.length cC, .slice AN N.length cN] 27)).heap.size = w.heap.size + 1 := by simp
  have HR := Lib.hid hR
  have HB := Lib.hid hb
  have HK := Lib.hid hk
  have HS := Lib.hid hs
  clear hL hS hR hb hk hs h
  go_enter Try.func19, Try.ntmps19
  go_wp2_with fail
  refine C1.mono ?_; rintro e w1 ⟨A1, c1, rfl, _, _, _, _, hb1⟩
  have hB := HB.out.trans (hb1.mono HB.out.size)
  have hk1 := HK.out.nx hb1 (by have := HS.out; omega)
  have C2 := containsR_any AI ci w.heap.size ins I w1 hk1.k0 (HR.out.nx hB) hn
  rw [hbad] at C2
  clear C1 hb1 hk1
  go_wp2_with fail
  refine C2.mono ?_; rintro e w2 ⟨rfl, rfl⟩
  clear C2
  go_wp2
  go_ret2
  exact ⟨none, 0, rfl, RR.nil _ _ _, fun _ => rfl, by simp, by simp [maxLen], hB⟩
set_option maxRecDepth 100000 in
set_option maxHeartbeats 4000000 in
theorem Run_yes (I : Int) (AL AG AO AB AC AN : Option Addr) (cL cG cO cB cC cN : Nat) (L G : List Pr) (O D C : List Int) (N : List Nm) (AS AI : Option Addr) (cs ci : Nat) (st : List Bool) (ins : List (List Bool)) (w : World) (hA : RA w w.heap.size AL AG AO AB AC AN L G O D C N) (hS : RB w w.heap.size AS st) (hR : RR w w.heap.size AI ins) (hM : Md I L G O D C) (hn : ins.length ≤ 1000000) (h : st.length = L.length) (hgood : badR I ins = false) :
    Calls Try.prog 19 #[.agg #[.int .i64 I, .slice AL L.length cL, .slice AG G.length cG, .slice AO O.length cO, .slice AB D.length cB, .slice AC C.length cC, .slice AN N.length cN], .slice AS st.length cs, .slice AI ins.length ci] w (RetRR w (runL L G (startL L st) ins) 0) := by
  have hin : ∀ r ∈ ins, (r.length : Int) = I := fun r hr => by
    unfold badR at hgood
    rw [List.any_eq_false] at hgood
    have := hgood r hr
    simpa using this
  have hs0 : (startL L st).length = L.length := by rw [startL_len L st h]; exact h
  have hb := bal (Below.refl w.heap.size w) (.cells #[.int .i64 I, .slice AL L.length cL, .slice AG G.length cG, .slice AO O.length cO, .slice AB D.length cB, .slice AC C.length cC, .slice AN N.length cN] 27)
  have C1 := Start_yes I AL AG AO AB AC AN cL cG cO cB cC cN L G O D C N AS cs st (w.alloc (.cells #[.int .i64 I, .slice AL L.length cL, .slice AG G.length cG, .slice AO O.length cO, .slice AB D.length cB, .slice AC C.length cC, .slice AN N.length cN] 27)) (hA.l.nx hb) (hS.nx hb) hM.nl h
  have hk := KA.new w I AL AG AO AB AC AN cL cG cO cB cC cN L G O D C N
  have hs : (w.alloc (.cells #[.int .i64 I, .slice AL L.length cL, .slice AG G.length cG, .slice AO O.length cO, .slice AB D.length cB, .slice AC C.length cC, .slice AN N.length cN] 27)).heap.size = w.heap.size + 1 := by simp
  obtain ⟨s0, hs0e⟩ : ∃ s, startL L st = s := ⟨_, rfl⟩
  rw [hs0e] at C1 hs0 ⊢
  have HA := Lib.hid hA
  have HM := Lib.hid hM
  have HR := Lib.hid hR
  have HB := Lib.hid hb
  have HK := Lib.hid hk
  have HS := Lib.hid hs
  have HIN := Lib.hid hin
  have HS0 := Lib.hid hs0
  clear hA hS hM hR hb hk hs h hin hs0 hs0e
  refine (callsIn_wide (n := 3)).1 ?_
  refine callsIn_of_wp_marks Try.func19 rfl trivial ?_ rfl
  simp only [Try.ntmps19, List.size_toArray, List.length_cons, List.length_nil, Nat.reduceAdd, Nat.reduceSub, Array.replicate_succ, Array.replicate_zero, List.push_toArray, List.append_toArray, List.nil_append, List.cons_append]
  refine wpIn_wide.2 ?_
  go_wp2_with fail
  refine C1.mono ?_; rintro e w1 ⟨AF, cf, rfl, rF, zF, nF, mF, hb1⟩
  have hB := HB.out.trans (hb1.mono HB.out.size)
  have hk1 := HK.out.nx hb1 (by have := HS.out; omega)
  have C2 := containsR_any AI ci w.heap.size ins I w1 hk1.k0 (HR.out.nx hB) (by unfold maxLen; omega)
  rw [hgood] at C2
  have HK1 := Lib.hid hk1
  have HB1 := Lib.hid hB
  have HF := Lib.hid (And.intro rF (And.intro zF (And.intro nF mF)))
  clear C1 hb1 hk1 hB rF zF nF mF
  go_wp2_with fail
  refine C2.mono ?_; rintro e w2 ⟨rfl, rfl⟩
  clear C2
  obtain ⟨br, hbr⟩ : ∃ br, w1.heap.size = br := ⟨_, rfl⟩
  have mk := mkR (ins.length + 1) ((ins.length : Int) + 1) (by omega) (by omega) w1
  have hwz : w.heap.size < w1.heap.size := by have := HB1.out.size; have := HS.out; have h := HK1.out.k0; rcases Nat.lt_or_ge w.heap.size w1.heap.size with h' | h'; exact h'; simp [World.cell?, Array.getElem?_eq_none h'] at h
  go_upto_region 7 with fail
  have hb3 : Below w1.heap.size w1 ((w1.alloc (mkOR (ins.length + 1))).alloc (.cells #[.slice (some ⟨br, 0, none⟩) 0 (ins.length + 1)] 29)) := bal (bal (Below.refl _ _) _) _
  have hk3 := HK1.out.nx hb3 hwz
  have hz3 : ((w1.alloc (mkOR (ins.length + 1))).alloc (.cells #[.slice (some ⟨br, 0, none⟩) 0 (ins.length + 1)] 29)).heap.size = br + 2 := by simp [hbr]
  have hi3 : RunI w (br + 1) br (ins.length + 1) [] ((w1.alloc (mkOR (ins.length + 1))).alloc (.cells #[.slice (some ⟨br, 0, none⟩) 0 (ins.length + 1)] 29)) := by
    have ho := own_mkR w1 (ins.length + 1) w.heap.size (by omega) HB1.out.size
    rw [hbr] at ho
    refine ⟨?_, ⟨[], World.ownsRow.alloc ho _, rfl, fun i hi => absurd hi (by simp)⟩, HB1.out.trans (hb3.mono HB1.out.size), by have := HB1.out.size; omega, by have := HB1.out.size; omega, by omega⟩
    have := World.alloc_heap_new (w1.alloc (mkOR (ins.length + 1))) (.cells #[.slice (some ⟨br, 0, none⟩) 0 (ins.length + 1)] 29)
    rwa [World.size_alloc, hbr] at this
  have hF3 : RBX (br + 1) br ((w1.alloc (mkOR (ins.length + 1))).alloc (.cells #[.slice (some ⟨br, 0, none⟩) 0 (ins.length + 1)] 29)) AF s0 := by
    refine ⟨HF.out.1.nx hb3, fun h0 ad e => ?_⟩
    obtain ⟨ad', e', hlt, _⟩ := HF.out.1 0 h0
    rw [e] at e'; cases e'
    exact ⟨by omega, by omega, by omega⟩
  generalize ((w1.alloc (mkOR (ins.length + 1))).alloc (.cells #[.slice (some ⟨br, 0, none⟩) 0 (ins.length + 1)] 29)) = w3 at *
  have HI3 := Lib.hid hi3
  have HF3 := Lib.hid hF3
  have HK3 := Lib.hid hk3
  have HZ3 := Lib.hid hz3
  have CS := states_any I AL AG AO AB AC AN cL cG cO cB cC cN L G O D C N AF AI s0.length cf ins.length ci w3
  obtain ⟨k0, k1, k2, k3, k4, k5, k6⟩ := hk3
  have hb4 : Below w3.heap.size w3 (((w3.alloc (.cells #[.int .i64 I, .slice AL L.length cL, .slice AG G.length cG, .slice AO O.length cO, .slice AB D.length cB, .slice AC C.length cC, .slice AN N.length cN] 27)).alloc (.cells #[.slice AF s0.length cf] 28)).alloc (.cells #[.slice AI ins.length ci] 29)) := bal (bal (bal (Below.refl _ _) _) _) _
  have hk4 : KA (((w3.alloc (.cells #[.int .i64 I, .slice AL L.length cL, .slice AG G.length cG, .slice AO O.length cO, .slice AB D.length cB, .slice AC C.length cC, .slice AN N.length cN] 27)).alloc (.cells #[.slice AF s0.length cf] 28)).alloc (.cells #[.slice AI ins.length ci] 29)) w3.heap.size I AL AG AO AB AC AN cL cG cO cB cC cN L G O D C N := by constructor <;> go_simp
  have hc1 : (((w3.alloc (.cells #[.int .i64 I, .slice AL L.length cL, .slice AG G.length cG, .slice AO O.length cO, .slice AB D.length cB, .slice AC C.length cC, .slice AN N.length cN] 27)).alloc (.cells #[.slice AF s0.length cf] 28)).alloc (.cells #[.slice AI ins.length ci] 29)).cell? ⟨w3.heap.size + 1, 0, none⟩ = some (.slice AF s0.length cf) := by go_simp
  have hc2 : (((w3.alloc (.cells #[.int .i64 I, .slice AL L.length cL, .slice AG G.length cG, .slice AO O.length cO, .slice AB D.length cB, .slice AC C.length cC, .slice AN N.length cN] 27)).alloc (.cells #[.slice AF s0.length cf] 28)).alloc (.cells #[.slice AI ins.length ci] 29)).cell? ⟨w3.heap.size + 2, 0, none⟩ = some (.slice AI ins.length ci) := by go_simp
  have hz4 : (((w3.alloc (.cells #[.int .i64 I, .slice AL L.length cL, .slice AG G.length cG, .slice AO O.length cO, .slice AB D.length cB, .slice AC C.length cC, .slice AN N.length cN] 27)).alloc (.cells #[.slice AF s0.length cf] 28)).alloc (.cells #[.slice AI ins.length ci] 29)).heap.size = w3.heap.size + 3 := by simp
  have HF4 := Lib.hid (And.intro (hF3.kx (KX.of_below hb4)) (And.intro hk4 (And.intro hc1 (And.intro hc2 (And.intro hz4 (hi3.kx hb4))))))
  clear hi3 hF3 hz3 hb3 hb4 hk4 hc1 hc2 hz4 mk
  go_wp2_with fail
  refine CS.mono ?_; rintro e w4 ⟨rfl, rfl⟩
  clear CS k0 k1 k2 k3 k4 k5 k6
  generalize (((w3.alloc (.cells #[.int .i64 I, .slice AL L.length cL, .slice AG G.length cG, .slice AO O.length cO, .slice AB D.length cB, .slice AC C.length cC, .slice AN N.length cN] 27)).alloc (.cells #[.slice AF s0.length cf] 28)).alloc (.cells #[.slice AI ins.length ci] 29)) = w4 at *
  go_wp2
  obtain ⟨f1, f2, f3, f4, f5, f6⟩ := HF4.out
  refine wp_range_states I AL AG AO AB AC AN cL cG cO cB cC cN L G O D C N w w4 w3.heap.size (br + 1) br (ins.length + 1) AF AI cf ci s0 ins HA.out HM.out HR.out hn HIN.out HS0.out f1 ⟨HF.out.2.2.1, HF.out.2.2.2, HF.out.2.1⟩ (by omega) (by have := HZ3.out; omega) f2 f3 f4 rfl rfl f6 (Nat.le_refl _) (fun x => { tmps := #[.agg #[.int .i64 I, .slice AL L.length cL, .slice AG G.length cG, .slice AO O.length cO, .slice AB D.length cB, .slice AC C.length cC, .slice AN N.length cN], .slice AS st.length cs, .slice AI ins.length ci, .pointer (some ⟨w.heap.size, 0, none⟩), undef, undef, .slice none 0 0, .int .i64 0, .slice AF s0.length cf, .int .i64 0, .pointer (some ⟨br + 1, 0, none⟩), x, .tuple #[.slice AF s0.length cf, .int .i64 0], .agg #[.int .i64 I, .slice AL L.length cL, .slice AG G.length cG, .slice AO O.length cO, .slice AB D.length cB, .slice AC C.length cC, .slice AN N.length cN], .slice AS st.length cs, .tuple #[.slice AF s0.length cf, .int .i64 0], .slice AF s0.length cf, .int .i64 0, .int .i64 0, .bool false, undef, .slice AI ins.length ci, .func (.func 34) #[] #[.pointer (some ⟨w.heap.size, 0, none⟩)], .bool false, .slice AI ins.length ci, .int .i64 (ins.length : Int), .int .i64 ((ins.length : Int) + 1), .slice (some ⟨br, 0, none⟩) 0 (ins.length + 1), .agg #[.int .i64 I, .slice AL L.length cL, .slice AG G.length cG, .slice AO O.length cO, .slice AB D.length cB, .slice AC C.length cC, .slice AN N.length cN], .slice AF s0.length cf, .slice AI ins.length ci, .func (.func 46) #[] #[.pointer (some ⟨w3.heap.size + 1, 0, none⟩), .pointer (some ⟨w3.heap.size + 2, 0, none⟩), .pointer (some ⟨w3.heap.size, 0, none⟩)], x, undef, undef, undef, undef, undef], defers := [] }) ?assign ?body ?done
  case assign =>
    intro l x W K hK
    have hsa := @Oper.semAt_some
    gi_wp2
    exact hK
  case body =>
    rintro l pre A c s W hr hX hz hlen
    obtain ⟨vs, h1, h2, h3⟩ := hr.row
    obtain ⟨i0, hi0, hz0, hzz1, hzz2⟩ := info_parts row_info
    have hbox : Boxed W (br + 1) 29 (.slice (some ⟨br, 0, none⟩) pre.length (ins.length + 1)) := hr.box
    have hcb := hbox.cell
    have hfz := hbox.frozen
    have hwr := hr.bel.size
    have hsa := @Oper.semAt_some
    have hoa := World.ownsRow.alloc h1 (.cells #[.slice A s.length c] 28)
    gi_wp2_with (first | (gi_at_builtin; refine wpListIn_append_fits _ rfl (.tmp 33) (.tmp 35) 29 rfl w.heap.size 28 i0 1 Try.underlying29 hi0 hzz1 br pre.length (ins.length + 1) vs rfl hoa ⟨W.heap.size, 0, none⟩ 1 1 [.slice A s.length c] rfl rfl (cell_one_new _ _ _) (by intro u hu; simp at hu; subst hu; rfl) (by omega) ?_) | fail)
    intro w5 ho5 hg5
    obtain ⟨b1, b2, b3, _, b5⟩ := hbox.appended (by decide) h1 hwr (by have := hr.w1; omega) ho5 hg5
    have hc5 := b1.cell
    have hf5 := b1.frozen
    have hkx : KX (br + 1) br W (w5.setCell ⟨br + 1, 0, none⟩ (.slice (some ⟨br, 0, none⟩) (pre.length + 1) (ins.length + 1))) := by
      refine ⟨?_, fun k hk h1 h2 => ?_⟩
      · have := b5.size; exact this
      · rw [heap_setCell_other _ _ _ _ (by intro e; exact h1 e), hg5.block k (by simp; omega) (by intro e; cases e; exact h2 rfl)]
        exact Below.heap_alloc _ _ _ hk
    have hfin : RunI w (br + 1) br (ins.length + 1) (pre ++ [s]) (w5.setCell ⟨br + 1, 0, none⟩ (.slice (some ⟨br, 0, none⟩) (pre.length + 1) (ins.length + 1))) := by
      refine ⟨by rw [List.length_append]; exact b2, ⟨vs ++ [.slice A s.length c], by rw [List.length_append]; exact b3, by simp [h2], fun i hi => ?_⟩, hr.bel.trans b5, hr.w1, hr.w2, hr.ne⟩
      by_cases hil : i < pre.length
      · obtain ⟨A', c', e, q1, q2⟩ := h3 i hil
        have e1 : (pre ++ [s]).getD i [] = pre.getD i [] := by simp [List.getD_eq_getElem?_getD, List.getElem?_append_left hil]
        rw [e1]
        exact ⟨A', c', by rw [List.getElem?_append_left (by omega)]; exact e, q1.kx hkx, q2⟩
      · have hi' : i = pre.length := by simp at hi; omega
        subst hi'
        have e1 : (pre ++ [s]).getD pre.length [] = s := by simp [List.getD_eq_getElem?_getD]
        rw [e1]
        exact ⟨A, c, by rw [List.getElem?_append_right (by omega), h2]; simp, hX.kx hkx, hz⟩
    clear hoa hcb hfz b1 b2 b3 b5 ho5 hg5 hbox
    gi_wp2
  case done =>
    rintro D' W hr hd hD
    obtain ⟨vs, h1, h2, h3⟩ := hr.row
    have hbox : Boxed W (br + 1) 29 (.slice (some ⟨br, 0, none⟩) (runL L G s0 ins).length (ins.length + 1)) := hr.box
    have hcb := hbox.cell
    obtain ⟨RR0, hRR⟩ : ∃ R, runL L G s0 ins = R := ⟨_, rfl⟩
    have hres : RR (W.putObj D' (.deferred none)) (W.putObj D' (.deferred none)).heap.size (some ⟨br, 0, none⟩) (runL L G s0 ins) := by
      intro i hi
      obtain ⟨A, c, e, q1, q2⟩ := h3 i hi
      have hbr' := (World.ownsRow.lt h1 br rfl).2
      rw [size_put]
      refine ⟨⟨br, 0, none⟩, A, c, rfl, hbr', ?_, q1.1.put _ hd rfl, q2⟩
      rw [add_loc]
      refine cell_kept ?_ (grownBy_putObj' W D' _) (fun r e => by cases e; exact ⟨_, hd, rfl⟩)
      rw [World.ownsRow.cellAt h1 i (by omega), e]
    have hfb : Below w.heap.size w (W.putObj D' (.deferred none)) := hr.bel.grown (grownBy_putObj' W D' _) hr.bel.size (fun k e => by cases e; exact hD)
    have hle : (runL L G s0 ins).length ≤ ins.length + 1 := by simp [runL]
    rw [hRR] at hcb hres hle ⊢
    gi_wp2
    go_wp2
    refine ⟨by simp, .inl ⟨_, _, rfl, run_takeDeferred hd, ?_⟩⟩
    refine ⟨_, results_tmp2 rfl _ _ _, ?_⟩
    rw [hRR]
    exact ⟨some ⟨br, 0, none⟩, ins.length + 1, rfl, hres, (fun e => by cases e), hle, by unfold maxLen; omega, hfb⟩
end Go.Proofs.Ytkdocjcpehmljaa
