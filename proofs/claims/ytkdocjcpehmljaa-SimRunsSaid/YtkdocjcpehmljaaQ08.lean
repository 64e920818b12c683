/-
  A range over the states of a run, whatever its body: what is owed.
  A step, of the program.
-/
import Derived.Test.YtkdocjcpehmljaaProg
import Derived.WalkKit
import Derived.WalkSpells
import Derived.WalkLawsBesides
import Derived.Lib.Hide
import Derived.BigQuiet
import Derived.Deep.QuietTactic
import Derived.Deep.RegionWith
import Derived.Deep.RegionHeld3
import Derived.Test.YtkdocjcpehmljaaQ07
import Derived.Deep.DeepCutAuto
set_option linter.unusedVariables false
/- A range over the states of a run, whatever its body: what is owed. -/
namespace Go.Proofs.Ytkdocjcpehmljaa
open Go.RowKit
theorem RB.put {W : World} {B : Nat} {A : Option Addr} {s : List Bool} (h : RB W B A s) {l : Nat} {o : Obj} (o' : Obj) (hl : W.heap[l]? = some o) (ho : o.isCells = false) : RB (W.putObj l o') B A s := by
  intro i hi
  obtain ⟨ad, e, hlt, hc⟩ := h i hi
  exact ⟨ad, e, hlt, cell_kept hc (grownBy_putObj' W l o') (fun r e => by cases e; exact ⟨_, hl, ho⟩)⟩
theorem size_put (W : World) (l : Nat) (o' : Obj) : (W.putObj l o').heap.size = W.heap.size := by simp [World.putObj]
theorem RBX.put {bx br : Nat} {W : World} {A : Option Addr} {s : List Bool} (h : RBX bx br W A s) {l : Nat} {o : Obj} (o' : Obj) (hl : W.heap[l]? = some o) (ho : o.isCells = false) : RBX bx br (W.putObj l o') A s := by
  unfold RBX
  rw [size_put]
  exact ⟨h.1.put o' hl ho, h.2⟩
theorem RunI.put {w W : World} {bx br cap : Nat} {pre : List (List Bool)} (h : RunI w bx br cap pre W) {l : Nat} {o : Obj} (o' : Obj) (hl : W.heap[l]? = some o) (ho : o.isCells = false) (hw : w.heap.size ≤ l) : RunI w bx br cap pre (W.putObj l o') := by
  obtain ⟨vs, h1, h2, h3⟩ := h.row
  refine ⟨?_, ⟨vs, ownsRow_putObj h1 o' hl ho, h2, fun i hi => ?_⟩, h.bel.grown (grownBy_putObj' W l o') h.bel.size (fun k e => by cases e; exact hw), h.w1, h.w2, h.ne⟩
  · by_cases e : bx = l
    · subst e; rw [h.box] at hl; cases hl; cases ho
    · exact (World.putObj_heap_other (by omega)).trans h.box
  · obtain ⟨A, c, q1, q2, q3⟩ := h3 i hi
    exact ⟨A, c, q1, q2.put o' hl ho, q3⟩
set_option maxHeartbeats 2000000 in
theorem wp_range_states (I : Int) (AL AG AO AB AC AN : Option Addr) (cL cG cO cB cC cN : Nat) (L G : List Pr) (O D C : List Int) (N : List Nm) (w W0 : World) (b bx br cap : Nat) (AF AI : Option Addr) (cf ci : Nat) (s0 : List Bool) (ins : List (List Bool))
    {g : Operand} {ps : Array Tmp} {assign body : Code} {Q : Exit → Act → World → Prop} {a : Act}
    (hA : RA w w.heap.size AL AG AO AB AC AN L G O D C N) (hM : Md I L G O D C) (hR : RR w w.heap.size AI ins) (hln : ins.length ≤ 1000000) (hin : ∀ r ∈ ins, (r.length : Int) = I) (hs0 : s0.length = L.length)
    (hF : RBX bx br W0 AF s0) (zF : s0.length ≤ cf ∧ cf ≤ maxLen ∧ (AF = none → cf = 0)) (hblt : b + 2 < W0.heap.size) (hne : bx < b ∧ br < b)
    (hk : KA W0 b I AL AG AO AB AC AN cL cG cO cB cC cN L G O D C N) (hc1 : W0.cell? ⟨b + 1, 0, none⟩ = some (.slice AF s0.length cf)) (hc2 : W0.cell? ⟨b + 2, 0, none⟩ = some (.slice AI ins.length ci))
    (hps : ps.size = 1) (hg : a.eval g = .func (.func 46) #[] #[.pointer (some ⟨b + 1, 0, none⟩), .pointer (some ⟨b + 2, 0, none⟩), .pointer (some ⟨b, 0, none⟩)])
    (h0 : RunI w bx br cap [] W0) (hcap : ins.length + 1 ≤ cap) (a₁ : Value → Act)
    (hassign : ∀ (l : Nat) (x : Value) (W : World) (K : Act → World → Prop), K (a₁ x) W → assign.wpIn (Fence.wide.inRound l) 0 Try.prog (Exit.then K (fun _ _ _ => False)) { tmps := (ps.zip #[x]).foldl (fun t (p, v) => t.setIfInBounds p v) a.tmps, defers := [] } W)
    (hbody : ∀ (l : Nat) (pre : List (List Bool)) (A : Option Addr) (c : Nat) (s : List Bool) (W : World), RunI w bx br cap pre W → RBX bx br W A s → s.length ≤ c ∧ c ≤ maxLen ∧ (A = none → c = 0) → pre.length < cap →
      body.wpIn (Fence.wide.inRound l) 0 Try.prog (fun e _ W' => e = .normal ∧ RunI w bx br cap (pre ++ [s]) W' ∧ KX bx br W W') (a₁ (.slice A s.length c)) W)
    (hdone : ∀ (D : Nat) (W : World), RunI w bx br cap (runL L G s0 ins) W → W.heap[D]? = some (.deferred (some [])) → w.heap.size ≤ D → Q .normal { a with defers := { target := .collected D, args := #[] } :: a.defers } W) :
    (Code.rangeFunc g ps assign body).wp Try.prog Q a W0 := by
  refine (wpIn_wide (n := 1)).1 (wpIn_rangeFunc ?_)
  intro fn hfn
  obtain ⟨rec, hrec⟩ : ∃ rec : LoopState → Loop, rec = fun stt => { state := stt, pending := none, fn, tmps := a.tmps, params := ps, assign, body, defers := W0.heap.size } := ⟨_, rfl⟩
  have hb1 : Below W0.heap.size W0 ((W0.alloc (.deferred (some []))).alloc (.loop (rec .ready))) := bal (bal (Below.refl _ _) _) _
  have hL1 : ((W0.alloc (.deferred (some []))).alloc (.loop (rec .ready))).heap[W0.heap.size + 1]? = some (.loop (rec .ready)) := by
    have := World.alloc_heap_new (W0.alloc (.deferred (some []))) (.loop (rec .ready)); rwa [World.size_alloc] at this
  have hK1 : ((W0.alloc (.deferred (some []))).alloc (.loop (rec .ready))).heap[W0.heap.size]? = some (.deferred (some [])) :=
    (Below.heap_alloc _ _ _ (by simp)).trans (World.alloc_heap_new W0 _)
  have hz1 : ((W0.alloc (.deferred (some []))).alloc (.loop (rec .ready))).heap.size = W0.heap.size + 2 := by simp
  have hbx : bx < W0.heap.size := (Array.getElem?_eq_some_iff.1 h0.box).1
  have hbr : br < W0.heap.size := by omega
  have hw0 : w.heap.size ≤ W0.heap.size := h0.bel.size

  refine ⟨W0.heap.size + 1, [{ target := .collected W0.heap.size, args := #[] }], (W0.alloc (.deferred (some []))).alloc (.loop (rec .ready)), { target := .fn (.func 46) #[.pointer (some ⟨b + 1, 0, none⟩), .pointer (some ⟨b + 2, 0, none⟩), .pointer (some ⟨b, 0, none⟩)], args := #[.func (.yield (W0.heap.size + 1)) #[] #[]] }, (W0.alloc (.deferred (some []))).alloc (.loop (rec .ready)), 46,
    #[.func (.yield (W0.heap.size + 1)) #[] #[], .pointer (some ⟨b + 1, 0, none⟩), .pointer (some ⟨b + 2, 0, none⟩), .pointer (some ⟨b, 0, none⟩)], (W0.alloc (.deferred (some []))).alloc (.loop (rec .ready)), ?_, ?_, ?_, ?_, ?_, ?_⟩
  · rw [hrec]; exact run_enterLoop_outer _ _ _ _ _
  · simp only [resolve, hg]
    simp [go_sem]
  · intro f' _; trivial
  · simp [invoke, go_sem]
  · intro h; cases h
  · generalize (W0.alloc (.deferred (some []))).alloc (.loop (rec .ready)) = W1 at *
    refine (callsIn_wide.2 (states1_any I AL AG AO AB AC AN cL cG cO cB cC cN L G O D C N w W1 (W0.heap.size + 1) b bx br (fun pre W => RunI w bx br cap pre W ∧ W.heap[W0.heap.size + 1]? = some (.loop (rec .ready)) ∧ W.heap[W0.heap.size]? = some (.deferred (some [])))
      AF AI cf ci s0 ins hA hM hR hln hin hs0 (hF.kx (KX.of_below hb1)) zF (h0.bel.trans (hb1.mono hw0)) h0.w1 h0.w2 (by omega) hne (hk.nx hb1 (by omega)) ((hb1.cell (p := ⟨b + 1, 0, none⟩) (by show b + 1 < _; omega)).trans hc1) ((hb1.cell (p := ⟨b + 2, 0, none⟩) (by show b + 2 < _; omega)).trans hc2)
      ?_ ⟨h0.kx hb1, hL1, hK1⟩ (fun pre W h => h.1.bel) ?_)).mono ?_
    · rintro pre W W' ⟨h1, h2, h3⟩ hb
      have l1 := (Array.getElem?_eq_some_iff.1 h2).1
      have l2 := (Array.getElem?_eq_some_iff.1 h3).1
      exact ⟨h1.kx hb, (hb.block _ l1).trans h2, (hb.block _ l2).trans h3⟩
    · rintro pre A c s W ⟨hr, hl, hd⟩ hX hz hlen
      have l1 := (Array.getElem?_eq_some_iff.1 hl).1
      have hy := run_yield (P := Try.prog) (args := #[.slice A s.length c]) hl (by rw [hrec]; exact hps.symm)
      rw [hrec] at hy
      refine ⟨fn, _, assign, body, hy, roundIn_of_wpIn hfn (hassign _ _ W _ ⟨_, run_beginRound hl (by rw [hrec]), ?_⟩)⟩
      have hl2 : (W.putObj (W0.heap.size + 1) (.loop { rec .ready with state := .busy })).heap[W0.heap.size + 1]? = some (.loop { rec .ready with state := .busy }) := World.putObj_heap_same l1
      have hd2 : (W.putObj (W0.heap.size + 1) (.loop { rec .ready with state := .busy })).heap[W0.heap.size]? = some (.deferred (some [])) := (World.putObj_heap_other (by omega)).trans hd
      refine wpIn_mono (hbody _ pre A c s _ (hr.put _ hl rfl (by omega)) (hX.put _ hl rfl) hz (by omega)) ?_
      rintro e a3 W3 ⟨rfl, hr3, hk3⟩
      have hs2 := size_put W (W0.heap.size + 1) (.loop { rec .ready with state := .busy })
      have hl3 : W3.heap[W0.heap.size + 1]? = some (.loop { rec .ready with state := .busy }) := (hk3.same _ (by rw [hs2]; exact l1) (by omega) (by omega)).trans hl2
      have hd3 : W3.heap[W0.heap.size]? = some (.deferred (some [])) := (hk3.same _ (by rw [hs2]; omega) (by omega) (by omega)).trans hd2
      have hre := run_endRound (P := Try.prog) none hl3
      have l3 := (Array.getElem?_eq_some_iff.1 hl3).1
      refine ⟨_, _, hre, rfl, ⟨hr3.put _ hl3 rfl (by omega), ?_, (World.putObj_heap_other (by omega)).trans hd3⟩, ?_, ?_⟩
      · rw [World.putObj_heap_same l3, hrec]; rfl
      · rw [size_put]; have q := hk3.size; rw [size_put] at q; exact q
      · intro k hk1 hk2 hk3'
        by_cases e : k = W0.heap.size + 1
        · subst e
          rw [World.putObj_heap_same l3, hl, hrec]; rfl
        · rw [World.putObj_heap_other (by omega), hk3.same k (by rw [hs2]; exact hk1) hk2 hk3', World.putObj_heap_other (by omega)]
    · rintro e W2 ⟨rfl, ⟨hr, hl, hd⟩, _⟩
      have l1 := (Array.getElem?_eq_some_iff.1 hl).1
      exact ⟨none, _, by have := run_endLoop (P := Try.prog) hl (by rw [hrec]; simp); rw [hrec] at this; exact this, hdone W0.heap.size _ (hr.put _ hl rfl (by omega)) ((World.putObj_heap_other (by omega)).trans hd) hw0⟩
end Go.Proofs.Ytkdocjcpehmljaa
/- A step, of the program. -/
namespace Go.Proofs.Ytkdocjcpehmljaa
open Go.RowKit
set_option maxRecDepth 100000 in
set_option maxHeartbeats 4000000 in
theorem Step_no (I : Int) (AL AG AO AB AC AN : Option Addr) (cL cG cO cB cC cN : Nat) (L G : List Pr) (O D C : List Int) (N : List Nm) (AS AI : Option Addr) (cs ci : Nat) (st inp : List Bool) (w : World) (h : ¬ (st.length = L.length ∧ (inp.length : Int) = I)) :
    Calls Try.prog 15 #[.agg #[.int .i64 I, .slice AL L.length cL, .slice AG G.length cG, .slice AO O.length cO, .slice AB D.length cB, .slice AC C.length cC, .slice AN N.length cN], .slice AS st.length cs, .slice AI inp.length ci] w (RetT w [] [] [] [] 7) := by
  have C1 := Values_no I AL AG AO AB AC AN cL cG cO cB cC cN L G O D C N AS AI cs ci st inp ((w.alloc (.cells #[.int .i64 I, .slice AL L.length cL, .slice AG G.length cG, .slice AO O.length cO, .slice AB D.length cB, .slice AC C.length cC, .slice AN N.length cN] 27)).alloc (.cells #[.slice none 0 0, .slice none 0 0, .slice none 0 0] 40)) h
  have hb := bal (bal (Below.refl w.heap.size w) (.cells #[.int .i64 I, .slice AL L.length cL, .slice AG G.length cG, .slice AO O.length cO, .slice AB D.length cB, .slice AC C.length cC, .slice AN N.length cN] 27)) (.cells #[.slice none 0 0, .slice none 0 0, .slice none 0 0] 40)
  have ht : T3 ((w.alloc (.cells #[.int .i64 I, .slice AL L.length cL, .slice AG G.length cG, .slice AO O.length cO, .slice AB D.length cB, .slice AC C.length cC, .slice AN N.length cN] 27)).alloc (.cells #[.slice none 0 0, .slice none 0 0, .slice none 0 0] 40)) (w.heap.size + 1) (.slice none 0 0) (.slice none 0 0) (.slice none 0 0) := by
    have := T3.new (w.alloc (.cells #[.int .i64 I, .slice AL L.length cL, .slice AG G.length cG, .slice AO O.length cO, .slice AB D.length cB, .slice AC C.length cC, .slice AN N.length cN] 27)) (.slice none 0 0) (.slice none 0 0) (.slice none 0 0) 40
    simpa using this
  have hs : ((w.alloc (.cells #[.int .i64 I, .slice AL L.length cL, .slice AG G.length cG, .slice AO O.length cO, .slice AB D.length cB, .slice AC C.length cC, .slice AN N.length cN] 27)).alloc (.cells #[.slice none 0 0, .slice none 0 0, .slice none 0 0] 40)).heap.size = w.heap.size + 2 := by simp
  clear h
  go_enter Try.func15, Try.ntmps15
  go_wp2_with fail
  refine C1.mono ?_; rintro e w1 ⟨A1, c1, rfl, _, _, _, _, hb1⟩
  have ht1 := ht.nx hb1 (by omega)
  have hB := hb.trans (hb1.mono (by omega))
  generalize (w.alloc (.cells #[.int .i64 I, .slice AL L.length cL, .slice AG G.length cG, .slice AO O.length cO, .slice AB D.length cB, .slice AC C.length cC, .slice AN N.length cN] 27)).alloc (.cells #[.slice none 0 0, .slice none 0 0, .slice none 0 0] 40) = w0 at *
  have hT := T3.put3 ht1 (.slice none 0 0) (.slice none 0 0) (.slice none 0 0)
  obtain ⟨e0, e1, e2, e3, e4, e5⟩ := ht1
  clear C1 ht hb hb1 hs
  go_wp2
  refine bodyPost_ret (v := .tuple #[.slice none 0 0, .agg #[.slice none 0 0, .slice none 0 0, .slice none 0 0], .int .i64 7]) ?r rfl ?_
  case r =>
    simp only [results, Try.f15]
    go_simp
  exact ⟨_, _, _, _, rfl, SB.nil _, SB.nil _, SB.nil _, SB.nil _, below_put3 hB (by omega) _ _ _⟩
/-- Where what comes out has been laid. -/
def StR (w1 : World) (o d c : List Bool) (s : Value) (wx : World) : Prop := ∃ g vo vd vc, s = .pointer (some ⟨g, 0, none⟩) ∧ T3 wx g vo vd vc ∧ SB wx vo o ∧ SB wx vd d ∧ SB wx vc c ∧ Below w1.heap.size w1 wx ∧ w1.heap.size ≤ g ∧ g < wx.heap.size
def Z3 : Obj := .cells #[.slice none 0 0, .slice none 0 0, .slice none 0 0] 40
theorem StR.ahead {w1 u : World} {o d c : List Bool} {v1 v2 v3 : Value} {g : Nat} (hU : Below w1.heap.size w1 u) (h1 : SB u v1 o) (h2 : SB u v2 d) (h3 : SB u v3 c) (ht : T3 u g (.slice none 0 0) (.slice none 0 0) (.slice none 0 0)) (hg : w1.heap.size ≤ g) (hl : g < u.heap.size) :
    StR w1 o d c (.pointer (some ⟨g, 0, none⟩)) (((u.setCell ⟨g, 0, none⟩ v1).setCell ⟨g, 1, none⟩ v2).setCell ⟨g, 2, none⟩ v3) :=
  ⟨g, v1, v2, v3, rfl, ht.put3 _ _ _, h1.put3 ht _ _ _, h2.put3 ht _ _ _, h3.put3 ht _ _ _, below_put3 hU hg _ _ _, hg, by simpa [put3] using hl⟩
theorem StR.last {w1 u : World} {o d c : List Bool} {v1 v2 v3 : Value} (hU : Below w1.heap.size w1 u) (h1 : SB u v1 o) (h2 : SB u v2 d) (h3 : SB u v3 c) :
    StR w1 o d c (.pointer (some ⟨u.heap.size, 0, none⟩)) (u.alloc (.cells #[v1, v2, v3] 40)) :=
  have hb := bal (Below.refl u.heap.size u) (.cells #[v1, v2, v3] 40)
  ⟨u.heap.size, v1, v2, v3, rfl, T3.new u v1 v2 v3 40, h1.nx hb, h2.nx hb, h3.nx hb, hU.alloc hU.size _, hU.size, by simp⟩
set_option maxRecDepth 100000 in
set_option maxHeartbeats 8000000 in
theorem Step_yes (I : Int) (AL AG AO AB AC AN : Option Addr) (cL cG cO cB cC cN : Nat) (L G : List Pr) (O D C : List Int) (N : List Nm) (AS AI : Option Addr) (cs ci : Nat) (st inp : List Bool) (w : World) (hA : RA w w.heap.size AL AG AO AB AC AN L G O D C N) (hS : RB w w.heap.size AS st) (hI : RB w w.heap.size AI inp) (hM : Md I L G O D C) (h1 : st.length = L.length) (h2 : (inp.length : Int) = I) :
    Calls Try.prog 15 #[.agg #[.int .i64 I, .slice AL L.length cL, .slice AG G.length cG, .slice AO O.length cO, .slice AB D.length cB, .slice AC C.length cC, .slice AN N.length cN], .slice AS st.length cs, .slice AI inp.length ci] w (RetT w (nextL L G st inp) (tellL O G st inp) (tellL D G st inp) (tellL C G st inp) 0) := by
  have hb := bal (bal (Below.refl w.heap.size w) (.cells #[.int .i64 I, .slice AL L.length cL, .slice AG G.length cG, .slice AO O.length cO, .slice AB D.length cB, .slice AC C.length cC, .slice AN N.length cN] 27)) (.cells #[.slice none 0 0, .slice none 0 0, .slice none 0 0] 40)
  have C1 := Values_yes I AL AG AO AB AC AN cL cG cO cB cC cN L G O D C N AS AI cs ci st inp ((w.alloc (.cells #[.int .i64 I, .slice AL L.length cL, .slice AG G.length cG, .slice AO O.length cO, .slice AB D.length cB, .slice AC C.length cC, .slice AN N.length cN] 27)).alloc (.cells #[.slice none 0 0, .slice none 0 0, .slice none 0 0] 40)) (hA.nx hb) (hS.nx hb) (hI.nx hb) hM h1 h2
  have ht : T3 ((w.alloc (.cells #[.int .i64 I, .slice AL L.length cL, .slice AG G.length cG, .slice AO O.length cO, .slice AB D.length cB, .slice AC C.length cC, .slice AN N.length cN] 27)).alloc (.cells #[.slice none 0 0, .slice none 0 0, .slice none 0 0] 40)) (w.heap.size + 1) (.slice none 0 0) (.slice none 0 0) (.slice none 0 0) := by
    have := T3.new (w.alloc (.cells #[.int .i64 I, .slice AL L.length cL, .slice AG G.length cG, .slice AO O.length cO, .slice AB D.length cB, .slice AC C.length cC, .slice AN N.length cN] 27)) (.slice none 0 0) (.slice none 0 0) (.slice none 0 0) 40
    simpa using this
  have hk : KA ((w.alloc (.cells #[.int .i64 I, .slice AL L.length cL, .slice AG G.length cG, .slice AO O.length cO, .slice AB D.length cB, .slice AC C.length cC, .slice AN N.length cN] 27)).alloc (.cells #[.slice none 0 0, .slice none 0 0, .slice none 0 0] 40)) w.heap.size I AL AG AO AB AC AN cL cG cO cB cC cN L G O D C N := by
    constructor <;> go_simp
  have hs : ((w.alloc (.cells #[.int .i64 I, .slice AL L.length cL, .slice AG G.length cG, .slice AO O.length cO, .slice AB D.length cB, .slice AC C.length cC, .slice AN N.length cN] 27)).alloc (.cells #[.slice none 0 0, .slice none 0 0, .slice none 0 0] 40)).heap.size = w.heap.size + 2 := by simp
  have hvl : (valsOf st inp G).length ≤ maxLen := by
    rw [valsOf_length]; have := hM.i1; have := hM.nl; have := hM.ng; unfold maxLen; omega
  have HM := Lib.hid hM
  have HA := Lib.hid (hA.nx hb)
  unfold nextL tellL
  clear hA hS hI hM h1 h2
  generalize valsOf st inp G = V at *
  obtain ⟨TN, hTN⟩ : ∃ T, L.map (fun p => lt V p.1) = T := ⟨_, rfl⟩
  obtain ⟨TO, hTO⟩ : ∃ T, O.map (lt V) = T := ⟨_, rfl⟩
  obtain ⟨TD, hTD⟩ : ∃ T, D.map (lt V) = T := ⟨_, rfl⟩
  obtain ⟨TC, hTC⟩ : ∃ T, C.map (lt V) = T := ⟨_, rfl⟩
  rw [hTN, hTO, hTD, hTC]
  have HTN := Lib.hid hTN
  have HTO := Lib.hid hTO
  have HTD := Lib.hid hTD
  have HTC := Lib.hid hTC
  clear hTN hTO hTD hTC
  go_enter Try.func15, Try.ntmps15
  go_wp2_with fail
  refine C1.mono ?_; rintro e w1 ⟨AV, cV, rfl, rV, zV, nV, mV, hb1⟩
  generalize (w.alloc (.cells #[.int .i64 I, .slice AL L.length cL, .slice AG G.length cG, .slice AO O.length cO, .slice AB D.length cB, .slice AC C.length cC, .slice AN N.length cN] 27)).alloc (.cells #[.slice none 0 0, .slice none 0 0, .slice none 0 0] 40) = w0 at *
  have HS := Lib.hid hs
  have HVL := Lib.hid hvl
  have HRV := Lib.hid rV
  have HB1 := Lib.hid hb1
  have HT := Lib.hid ht
  have HK := Lib.hid hk
  have HB := Lib.hid hb
  have HKA : Hid (∀ wx, Below w1.heap.size w1 wx → KA wx w.heap.size I AL AG AO AB AC AN cL cG cO cB cC cN L G O D C N) := Lib.hid fun wx hx => HK.out.nx (bnx HB1.out hx) (by have := HS.out; omega)
  have HKK : Hid (∀ wx, Below w1.heap.size w1 wx → wx.cell? ⟨w.heap.size, 3, none⟩ = some (.slice AO O.length cO) ∧ wx.cell? ⟨w.heap.size, 4, none⟩ = some (.slice AB D.length cB) ∧ wx.cell? ⟨w.heap.size, 5, none⟩ = some (.slice AC C.length cC)) := Lib.hid fun wx hx => ⟨(HKA.out wx hx).k3, (HKA.out wx hx).k4, (HKA.out wx hx).k5⟩
  have HPP : Hid (∀ wx, Below w1.heap.size w1 wx → ∀ g x y z, (((wx.setCell ⟨g, 0, none⟩ x).setCell ⟨g, 1, none⟩ y).setCell ⟨g, 2, none⟩ z).cell? ⟨w.heap.size, 3, none⟩ = some (.slice AO O.length cO) ∧ (((wx.setCell ⟨g, 0, none⟩ x).setCell ⟨g, 1, none⟩ y).setCell ⟨g, 2, none⟩ z).cell? ⟨w.heap.size, 4, none⟩ = some (.slice AB D.length cB) ∧ (((wx.setCell ⟨g, 0, none⟩ x).setCell ⟨g, 1, none⟩ y).setCell ⟨g, 2, none⟩ z).cell? ⟨w.heap.size, 5, none⟩ = some (.slice AC C.length cC)) := Lib.hid fun wx hx g x y z => by
    obtain ⟨q1, q2, q3⟩ := HKK.out wx hx
    refine ⟨?_, ?_, ?_⟩
    · rw [World.cell?_setCell_other _ _ _ _ (by simp), World.cell?_setCell_other _ _ _ _ (by simp), World.cell?_setCell_other _ _ _ _ (by simp)]; exact q1
    · rw [World.cell?_setCell_other _ _ _ _ (by simp), World.cell?_setCell_other _ _ _ _ (by simp), World.cell?_setCell_other _ _ _ _ (by simp)]; exact q2
    · rw [World.cell?_setCell_other _ _ _ _ (by simp), World.cell?_setCell_other _ _ _ _ (by simp), World.cell?_setCell_other _ _ _ _ (by simp)]; exact q3
  have LL : Hid (∀ (A : Option Addr) (c : Nat) (l : List Int) (wx : World), Lits l → l.length ≤ 1000000 → RI w0 w0.heap.size A l → Below w1.heap.size w1 wx → Calls Try.prog 29 #[.slice A l.length c, .func (.func 28) #[.slice AV V.length cV] #[]] wx (RetB wx (l.map (lt V)))) := Lib.hid fun A c l wx hl hn hr hx => rowI_any A AV c cV l V wx ((hr.nx HB1.out).nx hx) (HRV.out.nx hx) hn HVL.out hl
  have L1 : Hid (∀ wx, Below w1.heap.size w1 wx → Calls Try.prog 29 #[.slice AO O.length cO, .func (.func 28) #[.slice AV V.length cV] #[]] wx (RetB wx TO)) := Lib.hid fun wx hx => by have := LL.out AO cO O wx HM.out.lo HM.out.no HA.out.o hx; rwa [HTO.out] at this
  have L2 : Hid (∀ wx, Below w1.heap.size w1 wx → Calls Try.prog 29 #[.slice AB D.length cB, .func (.func 28) #[.slice AV V.length cV] #[]] wx (RetB wx TD)) := Lib.hid fun wx hx => by have := LL.out AB cB D wx HM.out.ld HM.out.nd HA.out.d hx; rwa [HTD.out] at this
  have L3 : Hid (∀ wx, Below w1.heap.size w1 wx → Calls Try.prog 29 #[.slice AC C.length cC, .func (.func 28) #[.slice AV V.length cV] #[]] wx (RetB wx TC)) := Lib.hid fun wx hx => by have := LL.out AC cC C wx HM.out.lc HM.out.nc HA.out.c hx; rwa [HTC.out] at this
  have LN : Hid (∀ wx, Below w1.heap.size w1 wx → Calls Try.prog 30 #[.agg #[.int .i64 I, .slice AL L.length cL, .slice AG G.length cG, .slice AO O.length cO, .slice AB D.length cB, .slice AC C.length cC, .slice AN N.length cN], .slice AV V.length cV] wx (RetB wx TN)) := Lib.hid fun wx hx => by have := next_any I AL AG AO AB AC AN cL cG cO cB cC cN L G O D C N AV cV V wx ((HA.out.l.nx HB1.out).nx hx) (HRV.out.nx hx) HM.out.nl HVL.out HM.out.ll; rwa [HTN.out] at this
  clear C1 hs hvl rV zV nV mV hb1 ht hk hb LL HRV HVL HM HA HTO HTD HTC HTN
  go_upto_region 5 with fail
  go_cut [12] (fun s12 wx => StR w1 TO TD TC s12 wx)
  case first =>
    have hU := (Below.refl w1.heap.size w1).drew
    have hV := hU.alloc hU.size Z3
    have K0 := HKK.out _ hU
    have K0a := HKK.out _ hV
    have t0 : T3 (w1.drew.alloc Z3) w1.heap.size (.slice none 0 0) (.slice none 0 0) (.slice none 0 0) := T3.new w1.drew _ _ _ 40
    have s0 : w1.heap.size < (w1.drew.alloc Z3).heap.size := by simp
    unfold Z3 at hV K0a t0 s0
    go_region_held3 (fun w' => w'.cell? ⟨w.heap.size, 3, none⟩ = some (.slice AO O.length cO) ∧ w'.cell? ⟨w.heap.size, 4, none⟩ = some (.slice AB D.length cB) ∧ w'.cell? ⟨w.heap.size, 5, none⟩ = some (.slice AC C.length cC))
      (first | exact K0 | exact K0a | exact K1 | exact K1a | exact K2 | exact K2a | exact K3 | exact K3a | exact K3c | exact K4 _ _ _ _)
      (first
        | (go_at_call 29; ((with_reducible refine (L1.out _ hU).mono ?_); rintro e u1 ⟨A1, c1, rfl, r1, z1, n1, m1, hu1⟩; have S1 : SB u1 (.slice A1 TO.length c1) TO := ⟨A1, c1, rfl, r1, z1, n1, m1⟩; have U1 := bnx hU hu1; have K1 := HKK.out _ U1; have U1a := U1.alloc U1.size (.cells #[.slice none 0 0, .slice none 0 0, .slice none 0 0] 40); have K1a := HKK.out _ U1a; have tb1 := T3.new u1 (.slice none 0 0) (.slice none 0 0) (.slice none 0 0) 40; have lb1 : u1.heap.size < (u1.alloc (.cells #[.slice none 0 0, .slice none 0 0, .slice none 0 0] 40)).heap.size := by simp))
        | (go_at_call 29; ((with_reducible refine (L2.out _ U1).mono ?_); rintro e u2 ⟨A2, c2, rfl, r2, z2, n2, m2, hu2⟩; have S2 : SB u2 (.slice A2 TD.length c2) TD := ⟨A2, c2, rfl, r2, z2, n2, m2⟩; have S1x := S1.nx hu2; have U2 := bnx U1 hu2; have K2 := HKK.out _ U2; have T2 := T1.nx hu2 l1; have l2 := Nat.lt_of_lt_of_le l1 hu2.size))
        | (go_at_call 29; ((with_reducible refine (L2.out _ U1a).mono ?_); rintro e u2 ⟨A2, c2, rfl, r2, z2, n2, m2, hu2⟩; have S2 : SB u2 (.slice A2 TD.length c2) TD := ⟨A2, c2, rfl, r2, z2, n2, m2⟩; have S1x := (S1.nx (bal (Below.refl _ _) _)).nx hu2; have U2 := bnx U1a hu2; have K2 := HKK.out _ U2; have T2 := tb1.nx hu2 lb1; have l2 := Nat.lt_of_lt_of_le lb1 hu2.size))
        | (go_at_call 29; ((with_reducible refine (L2.out _ U1).mono ?_); rintro e u2 ⟨A2, c2, rfl, r2, z2, n2, m2, hu2⟩; have S2 : SB u2 (.slice A2 TD.length c2) TD := ⟨A2, c2, rfl, r2, z2, n2, m2⟩; have S1x := S1.nx hu2; have U2 := bnx U1 hu2; have K2 := HKK.out _ U2; have U2a := U2.alloc U2.size (.cells #[.slice none 0 0, .slice none 0 0, .slice none 0 0] 40); have K2a := HKK.out _ U2a; have tb2 := T3.new u2 (.slice none 0 0) (.slice none 0 0) (.slice none 0 0) 40; have lb2 : u2.heap.size < (u2.alloc (.cells #[.slice none 0 0, .slice none 0 0, .slice none 0 0] 40)).heap.size := by simp))
        | (go_at_call 29; ((with_reducible refine (L3.out _ U2).mono ?_); rintro e u3 ⟨A3, c3, rfl, r3, z3, n3, m3, hu3⟩; have S3 : SB u3 (.slice A3 TC.length c3) TC := ⟨A3, c3, rfl, r3, z3, n3, m3⟩; have S1y := S1x.nx hu3; have S2y := S2.nx hu3; have U3 := bnx U2 hu3; have K3 := HKK.out _ U3; have T3f := T2.nx hu3 l2; have l3 := Nat.lt_of_lt_of_le l2 hu3.size; have K4 := HPP.out _ U3; obtain ⟨e0, e1, e2, e3, e4, e5⟩ := T3f))
        | (go_at_call 29; ((with_reducible refine (L3.out _ U2a).mono ?_); rintro e u3 ⟨A3, c3, rfl, r3, z3, n3, m3, hu3⟩; have S3 : SB u3 (.slice A3 TC.length c3) TC := ⟨A3, c3, rfl, r3, z3, n3, m3⟩; have S1y := (S1x.nx (bal (Below.refl _ _) _)).nx hu3; have S2y := (S2.nx (bal (Below.refl _ _) _)).nx hu3; have U3 := bnx U2a hu3; have K3 := HKK.out _ U3; have T3f := tb2.nx hu3 lb2; have l3 := Nat.lt_of_lt_of_le lb2 hu3.size; have K4 := HPP.out _ U3; obtain ⟨e0, e1, e2, e3, e4, e5⟩ := T3f))
        | (go_at_call 29; ((with_reducible refine (L3.out _ U2).mono ?_); rintro e u3 ⟨A3, c3, rfl, r3, z3, n3, m3, hu3⟩; have S3 : SB u3 (.slice A3 TC.length c3) TC := ⟨A3, c3, rfl, r3, z3, n3, m3⟩; have S1y := S1x.nx hu3; have S2y := S2.nx hu3; have U3 := bnx U2 hu3; have K3 := HKK.out _ U3; have U3a := U3.alloc U3.size (.cells #[.slice none 0 0, .slice none 0 0, .slice none 0 0] 40); have K3a := HKK.out _ U3a; have K3c := HKK.out _ (U3.alloc U3.size (.cells #[.slice A1 TO.length c1, .slice A2 TD.length c2, .slice A3 TC.length c3] 40))))
        | (go_at_call 29; ((refine (L1.out _ hV).mono ?_); rintro e u1 ⟨A1, c1, rfl, r1, z1, n1, m1, hu1⟩; have S1 : SB u1 (.slice A1 TO.length c1) TO := ⟨A1, c1, rfl, r1, z1, n1, m1⟩; have U1 := bnx hV hu1; have K1 := HKK.out _ U1; have T1 := t0.nx hu1 s0; have l1 : w1.heap.size < u1.heap.size := Nat.lt_of_lt_of_le s0 hu1.size)))
    all_goals (go_wp2_with fail; go_meet; first | exact StR.last U3 S1y S2y S3 | exact StR.ahead U3 S1y S2y S3 ⟨e0, e1, e2, e3, e4, e5⟩ (by first | exact Nat.le_refl _ | exact U1.size | exact U2.size) l3)
  case rest =>
    obtain ⟨g, vo, vd, vc, rfl, tg, so, sd, sc, hbl, hg1, hg2⟩ := hcut
    obtain ⟨Ao, co, rfl, zo⟩ := so
    obtain ⟨Ad, cd, rfl, zd⟩ := sd
    obtain ⟨Ac, cc, rfl, zc⟩ := sc
    have so : SB wc (.slice Ao TO.length co) TO := ⟨Ao, co, rfl, zo⟩
    have sd : SB wc (.slice Ad TD.length cd) TD := ⟨Ad, cd, rfl, zd⟩
    have sc : SB wc (.slice Ac TC.length cc) TC := ⟨Ac, cc, rfl, zc⟩
    have hgne : ¬ (w.heap.size + 1 = g) := by have := HS.out; have := HB1.out.size; omega
    have HBL := Lib.hid hbl
    have HKG : Hid (∀ wx, Below wc.heap.size wc wx → wx.cell? ⟨w.heap.size, 0, none⟩ = some (.int .i64 I) ∧ wx.cell? ⟨w.heap.size, 1, none⟩ = some (.slice AL L.length cL) ∧ wx.cell? ⟨w.heap.size, 2, none⟩ = some (.slice AG G.length cG) ∧ wx.cell? ⟨w.heap.size, 3, none⟩ = some (.slice AO O.length cO) ∧ wx.cell? ⟨w.heap.size, 4, none⟩ = some (.slice AB D.length cB) ∧ wx.cell? ⟨w.heap.size, 5, none⟩ = some (.slice AC C.length cC) ∧ wx.cell? ⟨w.heap.size, 6, none⟩ = some (.slice AN N.length cN) ∧ wx.cell? ⟨g, 0, none⟩ = some (.slice Ao TO.length co) ∧ wx.cell? ⟨g, 1, none⟩ = some (.slice Ad TD.length cd) ∧ wx.cell? ⟨g, 2, none⟩ = some (.slice Ac TC.length cc)) := Lib.hid fun wx hx => by
      have q := HKA.out wx (bnx HBL.out hx)
      have r := tg.nx hx hg2
      exact ⟨q.k0, q.k1, q.k2, q.k3, q.k4, q.k5, q.k6, r.c0, r.c1, r.c2⟩
    have HPG : Hid (∀ wx, Below wc.heap.size wc wx → ∀ x y z, (((wx.setCell ⟨w.heap.size + 1, 0, none⟩ x).setCell ⟨w.heap.size + 1, 1, none⟩ y).setCell ⟨w.heap.size + 1, 2, none⟩ z).cell? ⟨w.heap.size, 0, none⟩ = some (.int .i64 I) ∧ (((wx.setCell ⟨w.heap.size + 1, 0, none⟩ x).setCell ⟨w.heap.size + 1, 1, none⟩ y).setCell ⟨w.heap.size + 1, 2, none⟩ z).cell? ⟨w.heap.size, 1, none⟩ = some (.slice AL L.length cL) ∧ (((wx.setCell ⟨w.heap.size + 1, 0, none⟩ x).setCell ⟨w.heap.size + 1, 1, none⟩ y).setCell ⟨w.heap.size + 1, 2, none⟩ z).cell? ⟨w.heap.size, 2, none⟩ = some (.slice AG G.length cG) ∧ (((wx.setCell ⟨w.heap.size + 1, 0, none⟩ x).setCell ⟨w.heap.size + 1, 1, none⟩ y).setCell ⟨w.heap.size + 1, 2, none⟩ z).cell? ⟨w.heap.size, 3, none⟩ = some (.slice AO O.length cO) ∧ (((wx.setCell ⟨w.heap.size + 1, 0, none⟩ x).setCell ⟨w.heap.size + 1, 1, none⟩ y).setCell ⟨w.heap.size + 1, 2, none⟩ z).cell? ⟨w.heap.size, 4, none⟩ = some (.slice AB D.length cB) ∧ (((wx.setCell ⟨w.heap.size + 1, 0, none⟩ x).setCell ⟨w.heap.size + 1, 1, none⟩ y).setCell ⟨w.heap.size + 1, 2, none⟩ z).cell? ⟨w.heap.size, 5, none⟩ = some (.slice AC C.length cC) ∧ (((wx.setCell ⟨w.heap.size + 1, 0, none⟩ x).setCell ⟨w.heap.size + 1, 1, none⟩ y).setCell ⟨w.heap.size + 1, 2, none⟩ z).cell? ⟨w.heap.size, 6, none⟩ = some (.slice AN N.length cN) ∧ (((wx.setCell ⟨w.heap.size + 1, 0, none⟩ x).setCell ⟨w.heap.size + 1, 1, none⟩ y).setCell ⟨w.heap.size + 1, 2, none⟩ z).cell? ⟨g, 0, none⟩ = some (.slice Ao TO.length co) ∧ (((wx.setCell ⟨w.heap.size + 1, 0, none⟩ x).setCell ⟨w.heap.size + 1, 1, none⟩ y).setCell ⟨w.heap.size + 1, 2, none⟩ z).cell? ⟨g, 1, none⟩ = some (.slice Ad TD.length cd) ∧ (((wx.setCell ⟨w.heap.size + 1, 0, none⟩ x).setCell ⟨w.heap.size + 1, 1, none⟩ y).setCell ⟨w.heap.size + 1, 2, none⟩ z).cell? ⟨g, 2, none⟩ = some (.slice Ac TC.length cc)) := Lib.hid fun wx hx x y z => by
      obtain ⟨q0, q1, q2, q3, q4, q5, q6, q7, q8, q9⟩ := HKG.out wx hx
      refine ⟨?_, ?_, ?_, ?_, ?_, ?_, ?_, ?_, ?_, ?_⟩ <;> rw [World.cell?_setCell_other _ _ _ _ (by first | (simp; done) | simp [hgne]), World.cell?_setCell_other _ _ _ _ (by first | (simp; done) | simp [hgne]), World.cell?_setCell_other _ _ _ _ (by first | (simp; done) | simp [hgne])]
      · exact q0
      · exact q1
      · exact q2
      · exact q3
      · exact q4
      · exact q5
      · exact q6
      · exact q7
      · exact q8
      · exact q9
    have HT7 : Hid (∀ wx, Below wc.heap.size wc wx → T3 wx (w.heap.size + 1) (.slice none 0 0) (.slice none 0 0) (.slice none 0 0)) := Lib.hid fun wx hx => HT.out.nx (bnx HB1.out (bnx HBL.out hx)) (by have := HS.out; omega)
    have hU := (Below.refl wc.heap.size wc).drew
    have K0 := HKG.out _ hU
    obtain ⟨e0, e1, e2, e3, e4, e5⟩ := HT7.out _ hU
    have HSO := Lib.hid (And.intro so (And.intro sd sc))
    have LN1 : Hid (∀ wx, Below wc.heap.size wc wx → Calls Try.prog 30 #[.agg #[.int .i64 I, .slice AL L.length cL, .slice AG G.length cG, .slice AO O.length cO, .slice AB D.length cB, .slice AC C.length cC, .slice AN N.length cN], .slice AV V.length cV] wx (RetB wx TN)) := Lib.hid fun wx hx => LN.out wx (bnx HBL.out hx)
    clear tg so sd sc zo zd zc hbl e0 e1 e2 e3 e4 e5 HKA HKK HPP L1 L2 L3 LN
    go_wp2_with fail
    go_region_held3 (fun w' => w'.cell? ⟨w.heap.size, 0, none⟩ = some (.int .i64 I) ∧ w'.cell? ⟨w.heap.size, 1, none⟩ = some (.slice AL L.length cL) ∧ w'.cell? ⟨w.heap.size, 2, none⟩ = some (.slice AG G.length cG) ∧ w'.cell? ⟨w.heap.size, 3, none⟩ = some (.slice AO O.length cO) ∧ w'.cell? ⟨w.heap.size, 4, none⟩ = some (.slice AB D.length cB) ∧ w'.cell? ⟨w.heap.size, 5, none⟩ = some (.slice AC C.length cC) ∧ w'.cell? ⟨w.heap.size, 6, none⟩ = some (.slice AN N.length cN) ∧ w'.cell? ⟨g, 0, none⟩ = some (.slice Ao TO.length co) ∧ w'.cell? ⟨g, 1, none⟩ = some (.slice Ad TD.length cd) ∧ w'.cell? ⟨g, 2, none⟩ = some (.slice Ac TC.length cc))
      (first | exact K0 | exact K1 | exact K4 _ _ _)
      (first
        | (go_at_call 30; ((with_reducible refine (LN1.out _ hU).mono ?_); rintro e u1 ⟨A1, c1, rfl, r1, z1, n1, m1, hu1⟩; have U1 := bnx hU hu1; have K1 := HKG.out _ U1; have K4 := HPG.out _ U1; obtain ⟨e0, e1, e2, e3, e4, e5⟩ := HT7.out _ U1)))
    have TT := HT7.out _ U1
    have F1 := SB.put3 (⟨A1, c1, rfl, r1, z1, n1, m1⟩ : SB u1 (.slice A1 TN.length c1) TN) TT (.slice Ao TO.length co) (.slice Ad TD.length cd) (.slice Ac TC.length cc)
    have F2 := (HSO.out.1.nx U1).put3 TT (.slice Ao TO.length co) (.slice Ad TD.length cd) (.slice Ac TC.length cc)
    have F3 := (HSO.out.2.1.nx U1).put3 TT (.slice Ao TO.length co) (.slice Ad TD.length cd) (.slice Ac TC.length cc)
    have F4 := (HSO.out.2.2.nx U1).put3 TT (.slice Ao TO.length co) (.slice Ad TD.length cd) (.slice Ac TC.length cc)
    have F5 := below_put3 (HB.out.trans ((bnx HB1.out (bnx HBL.out U1)).mono HB.out.size)) (b := w.heap.size + 1) (by omega) (.slice Ao TO.length co) (.slice Ad TD.length cd) (.slice Ac TC.length cc)
    have F6 := TT.put3 (.slice Ao TO.length co) (.slice Ad TD.length cd) (.slice Ac TC.length cc)
    unfold put3 at F1 F2 F3 F4 F5 F6
    generalize ((u1.setCell ⟨w.heap.size + 1, 0, none⟩ (.slice Ao TO.length co)).setCell ⟨w.heap.size + 1, 1, none⟩ (.slice Ad TD.length cd)).setCell ⟨w.heap.size + 1, 2, none⟩ (.slice Ac TC.length cc) = P at *
    have HF := Lib.hid (And.intro F1 (And.intro F2 (And.intro F3 (And.intro F4 F5))))
    clear F1 F2 F3 F4 F5 TT K0 K1 K4 U1 hu1 r1 z1 n1 m1 e0 e1 e2 e3 e4 e5 hU HKG HPG HT7 LN1
    obtain ⟨e0, e1, e2, e3, e4, e5⟩ := F6
    go_wp2
    refine bodyPost_ret (v := .tuple #[.slice A1 TN.length c1, .agg #[(.slice Ao TO.length co), (.slice Ad TD.length cd), (.slice Ac TC.length cc)], .int .i64 0]) ?r rfl ?_
    case r =>
      simp only [results, Try.f15]
      go_simp
    exact ⟨_, _, _, _, rfl, HF.out.1, HF.out.2.1, HF.out.2.2.1, HF.out.2.2.2.1, HF.out.2.2.2.2⟩
end Go.Proofs.Ytkdocjcpehmljaa
