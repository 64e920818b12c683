/-
  May a formula and a proof be asked about?
  A builder is written to; what lies in a box behind it stays.
  A proof's text.
  Which proofs are the same.
-/
import Derived.Test.YtahedhpffjgimaaDoorProg
import Derived.WalkKit
import Derived.WalkSpells
import Derived.WalkLawsBesides
import Derived.Lib.Hide
import Derived.BigQuiet
import Derived.Deep.QuietTactic
import Derived.Deep.RegionWith
import Derived.Deep.RegionHeld3
import Derived.Test.YtahedhpffjgimaaDoorQ18
import Derived.Laws.Externs
import Derived.Lib.Builder
import Derived.Lib.AppendStr
import Derived.Lib.UnsafeStr
import Derived.Lib.Walk
import Derived.Lib.Slices
import Derived.WalkSmall
set_option linter.unusedVariables false
/- May a formula and a proof be asked about? -/
namespace Go.Proofs.YtahedhpffjgimaaDoor
open Go.RowKit
open Go.Lib Go.Sort
/-- May a formula and a proof be asked about? -/
def mayD (n : Int) (L : List (List Int)) (P : List Stp) : Bool := decide (n ≤ 40) && smallF 20 L && rightF n L && smallP 20 P && rightP n P
/-- The formula's variable stands. -/
structure FW (w : World) (LA : Option Addr) (k : Nat) (n : Int) (L : List (List Int)) (w' : World) : Prop where
  bel : Below w.heap.size w w'
  f0 : w'.cell? ⟨w.heap.size, 0, none⟩ = some (.int .i64 n)
  f1 : w'.cell? ⟨w.heap.size, 1, none⟩ = some (.slice LA L.length k)
theorem FW.first (w : World) (LA : Option Addr) (k : Nat) (n : Int) (L : List (List Int)) : FW w LA k n L (w.alloc (.cells #[.int .i64 n, .slice LA L.length k] 24)) := by
  refine ⟨bal (Below.refl _ _) _, ?_, ?_⟩ <;> go_simp
theorem FW.nx {w : World} {LA : Option Addr} {k : Nat} {n : Int} {L : List (List Int)} {w1 w2 : World} (h : FW w LA k n L w1) (hb : Below w1.heap.size w1 w2) : FW w LA k n L w2 :=
  ⟨bnx h.bel hb, (hb.cell (World.block_lt_of_cell? w1 _ h.f0)).trans h.f0, (hb.cell (World.block_lt_of_cell? w1 _ h.f1)).trans h.f1⟩
theorem mayD_parts {n : Int} {L : List (List Int)} {P : List Stp} (h : mayD n L P = true) : 0 ≤ n ∧ n ≤ 40 ∧ L.length ≤ 20 ∧ P.length ≤ 20 ∧ (∀ c ∈ L, c.length ≤ 20 ∧ ∀ x ∈ c, x ≠ 0 ∧ -n ≤ x ∧ x ≤ n) ∧ (∀ s ∈ P, s.2.length ≤ 20 ∧ ∀ x ∈ s.2, x ≠ 0 ∧ -n ≤ x ∧ x ≤ n) ∧ rightF n L = true ∧ rightP n P = true := by
  simp only [mayD, Bool.and_eq_true, decide_eq_true_eq] at h
  obtain ⟨⟨⟨⟨h0, h1⟩, h2⟩, h3⟩, h4⟩ := h
  obtain ⟨a1, a2⟩ := small_parts h1
  obtain ⟨b0, _, _, b1⟩ := right_parts h2
  obtain ⟨c1, c2⟩ := smallP_parts h3
  obtain ⟨_, _, _, d1⟩ := rightP_parts h4
  exact ⟨b0, h0, by omega, by omega, fun c hc => ⟨by have := a2 c hc; omega, (b1 c hc).2⟩, fun s hs => ⟨by have := c2 s hs; omega, (d1 s hs).2⟩, h2, h4⟩
theorem RCk.rc' {w : World} {B : Nat} {A : Option Addr} {L : List (List Int)} (h : RCk w B A L) : RC w B A L := h.rc
set_option maxHeartbeats 4000000 in
theorem may_any (LA PA : Option Addr) (k kp : Nat) (n : Int) (L : List (List Int)) (P : List Stp) (w : World) (hL : RCk w w.heap.size LA L) (hP : RS w w.heap.size PA P) (hn : L.length ≤ maxLen) (hp : P.length ≤ maxLen) :
    Calls Tryd.prog 25 #[.agg #[.int .i64 n, .slice LA L.length k], .slice PA P.length kp] w (RetV w (.bool (mayD n L P))) := by
  obtain ⟨T, hT⟩ : ∃ T, mayD n L P = T := ⟨_, rfl⟩
  rw [hT]
  have HT := Lib.hid hT
  have C1 : Hid (∀ wx, FW w LA k n L wx → Calls Tryd.prog 12 #[.agg #[.int .i64 n, .slice LA L.length k], .int .i64 20] wx (RetV wx (.bool (smallF 20 L)))) := Lib.hid fun wx hx => Small_any LA k n 20 L wx (hL.nx hx.bel).rc hn
  have C2 : Hid (∀ wx, FW w LA k n L wx → Calls Tryd.prog 30 #[.agg #[.int .i64 n, .slice LA L.length k]] wx (RetV wx (.bool (rightF n L)))) := Lib.hid fun wx hx => refRight_any LA k n L wx (hL.nx hx.bel).rc hn
  have C3 : Hid (∀ wx, FW w LA k n L wx → Calls Tryd.prog 16 #[.slice PA P.length kp, .int .i64 20] wx (RetV wx (.bool (smallP 20 P)))) := Lib.hid fun wx hx => (refSmall_any PA kp 20 P wx (hP.nx hx.bel) hp).mono fun e w' h => ⟨h.1, by rw [← h.2]; exact Below.refl _ _⟩
  have C4 : Hid (∀ wx, FW w LA k n L wx → Calls Tryd.prog 18 #[.int .i64 n, .slice PA P.length kp] wx (RetV wx (.bool (rightP n P)))) := Lib.hid fun wx hx => refPRight_any PA kp n P wx (hP.nx hx.bel) hp
  have F0 := FW.first w LA k n L
  have HF := Lib.hid F0
  clear hT hL hP hn hp F0
  by_cases h40 : n ≤ 40
  · have d0 : decide (n ≤ 40) = true := decide_eq_true h40
    cases hb0 : smallF 20 L
    · rw [hb0] at C1
      have HE : Hid (false = T) := by show _ = _; rw [← HT.out]; simp [mayD, d0, hb0]
      clear HT hb0 h40
      have G0 := HF.out
      have HWW : Hid (w.alloc (.cells #[.int .i64 n, .slice LA L.length k] 24) = w.alloc (.cells #[.int .i64 n, .slice LA L.length k] 24)) := Lib.hid rfl
      have c0 := C1.out _ G0
      clear G0
      go_enter Tryd.func25, Tryd.ntmps25
      go_wp2_with fail
      refine c0.mono ?_; rintro e w1 ⟨rfl, hb⟩
      have F1 := Lib.hid ((HF.out).nx hb)
      clear hb c0
      have HB := Lib.hid F1.out.bel
      go_wp2
      go_ret
      exact ⟨by rw [← HE.out]; rfl, HB.out⟩
    · rw [hb0] at C1
      cases hb1 : rightF n L
      · rw [hb1] at C2
        have HE : Hid (false = T) := by show _ = _; rw [← HT.out]; simp [mayD, d0, hb0, hb1]
        clear HT hb0 hb1 h40
        have G0 := HF.out
        have HWW : Hid (w.alloc (.cells #[.int .i64 n, .slice LA L.length k] 24) = w.alloc (.cells #[.int .i64 n, .slice LA L.length k] 24)) := Lib.hid rfl
        have c0 := C1.out _ G0
        clear G0
        go_enter Tryd.func25, Tryd.ntmps25
        go_wp2_with fail
        refine c0.mono ?_; rintro e w1 ⟨rfl, hb⟩
        have F1 := Lib.hid ((HF.out).nx hb)
        have p0 := F1.out.f0
        have p1 := F1.out.f1
        have c1 := C2.out _ F1.out
        clear hb c0
        go_wp2_with fail
        refine c1.mono ?_; rintro e w2 ⟨rfl, hb⟩
        have F2 := Lib.hid ((F1.out).nx hb)
        clear hb c1
        have HB := Lib.hid F2.out.bel
        go_wp2
        go_ret
        exact ⟨by rw [← HE.out]; rfl, HB.out⟩
      · rw [hb1] at C2
        cases hb2 : smallP 20 P
        · rw [hb2] at C3
          have HE : Hid (false = T) := by show _ = _; rw [← HT.out]; simp [mayD, d0, hb0, hb1, hb2]
          clear HT hb0 hb1 hb2 h40
          have G0 := HF.out
          have HWW : Hid (w.alloc (.cells #[.int .i64 n, .slice LA L.length k] 24) = w.alloc (.cells #[.int .i64 n, .slice LA L.length k] 24)) := Lib.hid rfl
          have c0 := C1.out _ G0
          clear G0
          go_enter Tryd.func25, Tryd.ntmps25
          go_wp2_with fail
          refine c0.mono ?_; rintro e w1 ⟨rfl, hb⟩
          have F1 := Lib.hid ((HF.out).nx hb)
          have p0 := F1.out.f0
          have p1 := F1.out.f1
          have c1 := C2.out _ F1.out
          clear hb c0
          go_wp2_with fail
          refine c1.mono ?_; rintro e w2 ⟨rfl, hb⟩
          have F2 := Lib.hid ((F1.out).nx hb)
          have p0 := F2.out.f0
          have p1 := F2.out.f1
          have c2 := C3.out _ F2.out
          clear hb c1
          go_wp2_with fail
          refine c2.mono ?_; rintro e w3 ⟨rfl, hb⟩
          have F3 := Lib.hid ((F2.out).nx hb)
          clear hb c2
          have HB := Lib.hid F3.out.bel
          go_wp2
          go_ret
          exact ⟨by rw [← HE.out]; rfl, HB.out⟩
        · rw [hb2] at C3
          cases hb3 : rightP n P
          · rw [hb3] at C4
            have HE : Hid (false = T) := by show _ = _; rw [← HT.out]; simp [mayD, d0, hb0, hb1, hb2, hb3]
            clear HT hb0 hb1 hb2 hb3 h40
            have G0 := HF.out
            have HWW : Hid (w.alloc (.cells #[.int .i64 n, .slice LA L.length k] 24) = w.alloc (.cells #[.int .i64 n, .slice LA L.length k] 24)) := Lib.hid rfl
            have c0 := C1.out _ G0
            clear G0
            go_enter Tryd.func25, Tryd.ntmps25
            go_wp2_with fail
            refine c0.mono ?_; rintro e w1 ⟨rfl, hb⟩
            have F1 := Lib.hid ((HF.out).nx hb)
            have p0 := F1.out.f0
            have p1 := F1.out.f1
            have c1 := C2.out _ F1.out
            clear hb c0
            go_wp2_with fail
            refine c1.mono ?_; rintro e w2 ⟨rfl, hb⟩
            have F2 := Lib.hid ((F1.out).nx hb)
            have p0 := F2.out.f0
            have p1 := F2.out.f1
            have c2 := C3.out _ F2.out
            clear hb c1
            go_wp2_with fail
            refine c2.mono ?_; rintro e w3 ⟨rfl, hb⟩
            have F3 := Lib.hid ((F2.out).nx hb)
            have p0 := F3.out.f0
            have p1 := F3.out.f1
            have c3 := C4.out _ F3.out
            clear hb c2
            go_wp2_with fail
            refine c3.mono ?_; rintro e w4 ⟨rfl, hb⟩
            have F4 := Lib.hid ((F3.out).nx hb)
            clear hb c3
            have HB := Lib.hid F4.out.bel
            go_wp2
            go_ret
            exact ⟨by rw [← HE.out]; rfl, HB.out⟩
          · rw [hb3] at C4
            have HE : Hid (true = T) := by show _ = _; rw [← HT.out]; simp [mayD, d0, hb0, hb1, hb2, hb3]
            clear HT hb0 hb1 hb2 hb3 h40
            have G0 := HF.out
            have HWW : Hid (w.alloc (.cells #[.int .i64 n, .slice LA L.length k] 24) = w.alloc (.cells #[.int .i64 n, .slice LA L.length k] 24)) := Lib.hid rfl
            have c0 := C1.out _ G0
            clear G0
            go_enter Tryd.func25, Tryd.ntmps25
            go_wp2_with fail
            refine c0.mono ?_; rintro e w1 ⟨rfl, hb⟩
            have F1 := Lib.hid ((HF.out).nx hb)
            have p0 := F1.out.f0
            have p1 := F1.out.f1
            have c1 := C2.out _ F1.out
            clear hb c0
            go_wp2_with fail
            refine c1.mono ?_; rintro e w2 ⟨rfl, hb⟩
            have F2 := Lib.hid ((F1.out).nx hb)
            have p0 := F2.out.f0
            have p1 := F2.out.f1
            have c2 := C3.out _ F2.out
            clear hb c1
            go_wp2_with fail
            refine c2.mono ?_; rintro e w3 ⟨rfl, hb⟩
            have F3 := Lib.hid ((F2.out).nx hb)
            have p0 := F3.out.f0
            have p1 := F3.out.f1
            have c3 := C4.out _ F3.out
            clear hb c2
            go_wp2_with fail
            refine c3.mono ?_; rintro e w4 ⟨rfl, hb⟩
            have F4 := Lib.hid ((F3.out).nx hb)
            clear hb c3
            have HB := Lib.hid F4.out.bel
            go_wp2
            go_ret
            exact ⟨by rw [← HE.out]; rfl, HB.out⟩
  · have d0 : decide (n ≤ 40) = false := decide_eq_false h40
    have HE : Hid (false = T) := by show _ = _; rw [← HT.out]; simp [mayD, d0]
    have HB := Lib.hid HF.out.bel
    clear HT C1 C2 C3 C4 HF
    go_enter Tryd.func25, Tryd.ntmps25
    go_wp2
    go_ret
    exact ⟨by rw [← HE.out]; rfl, HB.out⟩
end Go.Proofs.YtahedhpffjgimaaDoor
/- A builder is written to; what lies in a box behind it stays. -/
namespace Go.Proofs.YtahedhpffjgimaaDoor
open Go.RowKit
open Go.Lib Go.Sort
/-- The box's block is as it was. -/
def BoxIs (w : World) (z : Nat) (cs : Array Value) : Prop := w.heap[z]? = some (.cells cs 54 (0, 0))
theorem BoxIs.new (w : World) (cs : Array Value) : BoxIs (w.alloc (.cells cs 54)) w.heap.size cs := (MapKept.heap_alloc w (.cells cs 54)).1
theorem BoxIs.cell {w : World} {z : Nat} {cs : Array Value} (h : BoxIs w z cs) (i : Nat) (v : Value) (hi : cs[i]? = some v) : w.cell? ⟨z, i, none⟩ = some v := by rw [Lib.cell_of_heap h]; exact hi
theorem BoxIs.set {w : World} {z : Nat} {cs : Array Value} (h : BoxIs w z cs) {a : Addr} (ha : a.block ≠ z) (v : Value) : BoxIs (w.setCell a v) z cs := by
  have hz : z < w.heap.size := by
    rcases Nat.lt_or_ge z w.heap.size with h' | h'
    · exact h'
    · simp [BoxIs, Array.getElem?_eq_none h'] at h
  exact ((grown_set (w := w) a v).block z hz (fun e => ha (Option.some.inj e).symm)).trans h
theorem copyCheck_box (B b z : Nat) (cs : Array Value) (bs : List Value) (w : World) (h : Lib.IsBuilder 86 5 B b bs w) (hz : BoxIs w z cs) (hne : b ≠ z) :
    Calls Tryd.prog 70 #[.pointer (some ⟨b, 0, none⟩)] w fun e w' => e = .returned (.tuple #[]) ∧ Lib.BuilderAt 86 5 B b (.pointer (some ⟨b, 0, none⟩)) bs w' ∧ Below B w w' ∧ BoxIs w' z cs := by
  rcases h with h | h
  · refine (copyCheck_fresh b w h.cell0 h.shape h.frozen0).mono ?_
    rintro e w' ⟨rfl, rfl⟩
    exact ⟨rfl, h.used _, (Below.refl B w).setCell (p := ⟨b, 0, none⟩) h.1 _, hz.set hne _⟩
  · refine (copyCheck_used b w h.cell0).mono ?_
    rintro e w' ⟨rfl, rfl⟩
    exact ⟨rfl, h, Below.refl B _, hz⟩
set_option maxHeartbeats 1000000 in
set_option maxRecDepth 100000 in
theorem Write_box (B b z : Nat) (cs : Array Value) (l : List UInt8) (s : ByteArray) (w : World) (h : Bd w B b l) (hlen : l.length + s.size ≤ 1099511627776) (hz : BoxIs w z cs) (hne : b ≠ z) :
    Calls Tryd.prog 48 #[.pointer (some ⟨b, 0, none⟩), .string s] w (fun e w' => RetW w B b (l ++ s.data.toList) s.size e w' ∧ BoxIs w' z cs) := by
  obtain ⟨i0, hi, hz0, hz1, hz2⟩ := info_parts u8_info
  have hBw := h.sz
  have C := copyCheck_box B b z cs _ w h.is hz hne
  have hcl : (Lib.byteCells l).length = l.length := Lib.byteCells_length l
  have hl2 : (Lib.byteCells l).length + s.size ≤ 1099511627776 := by rw [hcl]; exact hlen
  have HF : Hid (Lib.byteCells (l ++ s.data.toList) = Lib.byteCells l ++ Lib.strCells s) := by show _ = _; rw [Lib.byteCells_append, Lib.strCells_eq]
  generalize Lib.byteCells l = bs at *
  clear h hcl hz
  go_enter Tryd.func48, Tryd.ntmps48
  go_wp2_with fail
  refine C.mono ?_
  rintro e w1 ⟨rfl, h1, hb1, hz⟩
  have HZ := Lib.hid hz
  clear hz
  obtain ⟨hB, v, hbk, hown, hne2⟩ := h1
  have c0 : w1.cell? ⟨b, 0, none⟩ = some (.pointer (some ⟨b, 0, none⟩)) := by rw [Lib.cell_of_heap hbk]; rfl
  have c1 : w1.cell? ⟨b, 1, none⟩ = some v := by rw [Lib.cell_of_heap hbk]; rfl
  go_wp2_with (at_builtin; refine Lib.wpList_append_own_string _ rfl _ _ 35 9 rfl B 5 i0 Tryd.underlying35 Tryd.underlying9 hi hz0 hz1 hz2 _ _ _ rfl hown s rfl ?c3 ?c4 ?c5 ?_)
  case c3 => unfold maxLen; omega
  case c4 => omega
  case c5 => have := hb1.size; omega
  intro v' w2 hown' hgrow _
  have hlt : b < w1.heap.size := by
    rcases Nat.lt_or_ge b w1.heap.size with h' | h'
    · exact h'
    · simp [Array.getElem?_eq_none h'] at hbk
  have hzl : z < w1.heap.size := by
    rcases Nat.lt_or_ge z w1.heap.size with h' | h'
    · exact h'
    · have := HZ.out; simp [BoxIs, Array.getElem?_eq_none h'] at this
  have hzv : v.ownBlock ≠ some z := by
    rcases hown.2 with ⟨rfl, _⟩ | ⟨g, cap, cur, rfl, _, hg, _⟩
    · simp [Value.ownBlock]
    · intro e
      have e2 : g = z := by simpa [Value.ownBlock] using e
      subst e2
      have := HZ.out
      unfold BoxIs at this
      rw [hg] at this
      injection this with h1
      injection h1 with h2 h3
      exact absurd h3 (by decide)
  have hz2' : BoxIs w2 z cs := (hgrow.block z hzl (fun e => hzv e.symm)).trans HZ.out
  have HZ2 := Lib.hid (hz2'.set (a := ⟨b, 1, none⟩) hne)
  have hb2 : w2.heap[b]? = some (.cells #[.pointer (some ⟨b, 0, none⟩), v] 86 (0, 0)) := by
    rw [hgrow.block b hlt (fun e => hne2 e.symm)]
    exact hbk
  have d0 : w2.cell? ⟨b, 0, none⟩ = some (.pointer (some ⟨b, 0, none⟩)) := by rw [Lib.cell_of_heap hb2]; rfl
  have d1 : w2.cell? ⟨b, 1, none⟩ = some v := by rw [Lib.cell_of_heap hb2]; rfl
  have f1 : w2.frozen? ⟨b, 1, none⟩ = false := Lib.frozen_of_heap hb2 1
  clear hz2' hzv
  obtain ⟨ao, n', cap, rfl⟩ : ∃ ao n' cap, v' = .slice ao n' cap := by
    rcases hown'.2 with ⟨hv, _⟩ | ⟨g, cap, cur, hv, _⟩
    · exact ⟨_, _, _, hv⟩
    · exact ⟨_, _, _, hv⟩
  go_wp2
  go_ret2
  refine ⟨⟨rfl, ⟨.inr ?_, ?_⟩, ?_⟩, HZ2.out _⟩
  · rw [HF.out]
    exact Lib.BuilderAt.put (T := 86) (e := 5) hB hb2 (bs' := bs ++ Lib.strCells s) (by simpa [Lib.strCells_length] using hown') (by decide)
  · have := hb1.size; have := hgrow.size; simp; omega
  · exact (hb1.grown hgrow (by have := hb1.size; omega) (fun k hk => (hown.lt k hk).1)).setCell (p := ⟨b, 1, none⟩) hB _
end Go.Proofs.YtahedhpffjgimaaDoor
/- A proof's text. -/
namespace Go.Proofs.YtahedhpffjgimaaDoor
open Go.RowKit
open Go.Lib Go.Sort
/-- A step's text, and a proof's. -/
def stepS (s : Stp) : List UInt8 := (if s.1 then [100, 32] else []) ++ tellS s.2
def printP (P : List Stp) : List UInt8 := P.flatMap stepS
theorem printP_snoc (P : List Stp) (s : Stp) : printP (P ++ [s]) = printP P ++ stepS s := by simp [printP]
theorem printP_app (P Q : List Stp) : printP (P ++ Q) = printP P ++ printP Q := by simp [printP]
/-- Steps of which not too much is told. -/
def Okp (P : List Stp) : Prop := P.length ≤ 2000 ∧ ∀ s ∈ P, s.2.length ≤ 1000 ∧ ∀ x ∈ s.2, -9223372036854775808 ≤ x ∧ x ≤ 9223372036854775807
theorem stepS_len {s : Stp} (h : s.2.length ≤ 1000 ∧ ∀ x ∈ s.2, -9223372036854775808 ≤ x ∧ x ≤ 9223372036854775807) : (stepS s).length ≤ 22004 := by
  have := litsS_len s.2 h.2
  unfold stepS tellS
  split <;> simp <;> omega
theorem printP_len : ∀ (P : List Stp), (∀ s ∈ P, s.2.length ≤ 1000 ∧ ∀ x ∈ s.2, -9223372036854775808 ≤ x ∧ x ≤ 9223372036854775807) → (printP P).length ≤ 22004 * P.length
  | [], _ => by simp [printP]
  | s :: P, h => by
    have h1 := printP_len P (fun s hs => h s (by simp [hs]))
    have h2 := stepS_len (h s (by simp))
    have e : printP (s :: P) = stepS s ++ printP P := rfl
    rw [e, List.length_append, List.length_cons]; omega
set_option maxHeartbeats 2000000 in
set_option maxRecDepth 100000 in
theorem PPrint_any (PA : Option Addr) (kp : Nat) (P : List Stp) (w : World) (hS : RS w w.heap.size PA P) (hP : Pow w.heap.size w) (hok : Okp P) :
    Calls Tryd.prog 23 #[.slice PA P.length kp] w (RetV w (.string ⟨(printP P).toArray⟩)) := by
  have HR := Lib.hid hS
  have HP := Lib.hid hP
  have HLits := Lib.hid hok.2
  have hpl := hok.1
  have hD := Bd.new w
  have hbw := bal (Below.refl w.heap.size w) (.cells #[.pointer none, .slice none 0 0] 86)
  have hz : (w.alloc (.cells #[.pointer none, .slice none 0 0] 86)).heap.size = w.heap.size + 1 := by simp
  generalize hw1 : w.alloc (.cells #[.pointer none, .slice none 0 0] 86) = w1 at *
  have HW1 := Lib.hid hw1
  have H0 := Lib.hid (And.intro hD (And.intro hbw hz))
  clear hS hP hok hD hbw hz hw1
  go_enter Tryd.func23, Tryd.ntmps23
  go_wp2
  rw [HW1.out]
  go_loopw [8] (fun i wr => ∃ j : Nat, j ≤ P.length ∧ i = .int .i64 j ∧ Bd wr w.heap.size w.heap.size (printP (P.take j)) ∧ Below w.heap.size w wr ∧ w.heap.size < wr.heap.size) (fun i _ => P.length - (intOf i).toNat)
  case atStart => exact ⟨0, Nat.zero_le _, rfl, by simpa [printP] using H0.out.1, H0.out.2.1, by rw [H0.out.2.2]; omega⟩
  case round =>
    obtain ⟨j, hj, rfl, hD, hb, hwl⟩ := hrel
    clear H0
    by_cases hlt : j < P.length
    · obtain ⟨ad, A1, c1, rfl, hab, hc0, hc1, hr, hlc, hcm⟩ := HR.out j hlt
      have hcc0 := (hb.cell (p := ad.add (j * 2)) (by rw [block_add]; exact hab)).trans hc0
      have hcc1 := (hb.cell (p := ⟨(ad.add (j * 2)).block, (ad.add (j * 2)).off + 1, none⟩) (by show (ad.add (j * 2)).block < _; rw [block_add]; exact hab)).trans hc1
      have hlt' : (j : Int) < P.length := by omega
      have hrr := hr.below hb
      have hsl := HLits.out _ (getD_memS P j hlt)
      have hbl := printP_len (P.take j) (fun s hs => HLits.out s (List.mem_of_mem_take hs))
      rw [List.length_take] at hbl
      have HE : Hid (printP (P.take (j + 1)) = printP (P.take j) ++ stepS (P.getD j (true, []))) := by show _ = _; rw [takeS P j hlt, printP_snoc]
      obtain ⟨ub, hub⟩ : ∃ ub, P.getD j (true, []) = ub := ⟨_, rfl⟩
      rw [hub] at hcc0 hcc1 hlc hrr hsl HE
      obtain ⟨d, u⟩ := ub
      simp only at hcc0 hcc1 hlc hrr hsl
      have hml : (printP (P.take j)).length ≤ 900000000 := by omega
      have hbx := bal (Below.refl wr.heap.size wr) (.cells #[.bool d, .slice A1 u.length c1] 54)
      have hq1 : (wr.alloc (.cells #[.bool d, .slice A1 u.length c1] 54)).cell? ⟨wr.heap.size, 1, none⟩ = some (.slice A1 u.length c1) := (box_cells wr (.bool d) (.slice A1 u.length c1) 54).2
      have hbs : wr.heap.size < (wr.alloc (.cells #[.bool d, .slice A1 u.length c1] 54)).heap.size := by simp
      have hrr2 := hrr.below (hbx.mono hb.size)
      have hbox := BoxIs.new wr #[.bool d, .slice A1 u.length c1]
      have hD1 := hD.nx hbx
      have hb1 := bnx hb hbx
      have HBS := Lib.hid (And.intro hb.size hbs)
      generalize printP (P.take j) = m at *
      clear hc0 hc1 hr hbl hub hb hD hbx
      cases d
      · have C := tell_any w.heap.size w.heap.size m A1 c1 u _ hD1 hrr2 ((HP.out.below hb1)) hsl.2 (by omega) (by omega)
        have HB := Lib.hid hb1
        have HEE : Hid (stepS (false, u) = tellS u) := Lib.hid (by simp [stepS])
        clear hD1 hrr hrr2 hsl hb1 hbox
        go_wp2_with fail
        refine C.mono ?_; rintro e w3 ⟨rfl, hD3, hb3⟩
        have hB3 := HB.out.trans hb3
        have hw3 : w.heap.size < w3.heap.size := by have := hb3.size; have := HBS.out; omega
        clear C HB hb3
        go_wp2
        go_roundw
        case rel => exact ⟨j + 1, by omega, by go_num, by rw [HE.out, HEE.out]; exact hD3, hB3, hw3⟩
        case measure => simp [intOf]; omega
      · have hne : w.heap.size ≠ wr.heap.size := by omega
        have C := Write_box w.heap.size w.heap.size wr.heap.size #[.bool true, .slice A1 u.length c1] m ⟨#[100, 32]⟩ _ hD1 (by show m.length + 2 ≤ _; omega) hbox hne
        have HB := Lib.hid hb1
        have HSL := Lib.hid hsl
        have HRR := Lib.hid hrr2
        have HEE : Hid (stepS (true, u) = [100, 32] ++ tellS u) := Lib.hid (by simp [stepS])
        clear hD1 hrr hrr2 hsl hb1 hbox
        go_wp2_with fail
        refine C.mono ?_; rintro e w3 ⟨⟨rfl, hD3, hb3⟩, hbx3⟩
        have hq3 := hbx3.cell 1 _ rfl
        have hB3 := HB.out.trans hb3
        have C2 := tell_any w.heap.size w.heap.size _ A1 c1 u w3 hD3 (HRR.out.below hb3) (HP.out.below hB3) HSL.out.2 (by show (m ++ [100, 32]).length ≤ _; simp; omega) (by have := HSL.out.1; omega)
        have HB3 := Lib.hid hB3
        have HW3 : Hid (w.heap.size < w3.heap.size) := Lib.hid (by have := hb3.size; have := HBS.out; omega)
        clear C hB3 hD3 hb3 hbx3 HB HRR HSL
        go_wp2_with fail
        refine C2.mono ?_; rintro e w4 ⟨rfl, hD4, hb4⟩
        have hB4 := HB3.out.trans hb4
        have hw4 : w.heap.size < w4.heap.size := by have := hb4.size; have := HW3.out; omega
        have hD5 : Bd w4 w.heap.size w.heap.size (printP (P.take (j + 1))) := by
          rw [HE.out, HEE.out, ← List.append_assoc]; exact hD4
        clear C2 HB3 hb4 hD4
        go_wp2
        go_roundw
        case rel => exact ⟨j + 1, by omega, by go_num, hD5, hB4, hw4⟩
        case measure => simp [intOf]; omega
    · obtain rfl : j = P.length := by omega
      rw [List.take_length] at hD
      have C := String_any w.heap.size w.heap.size _ wr hD
      have HB := Lib.hid hb
      have n2 : ¬ ((P.length : Int) < P.length) := by omega
      clear hD hb
      generalize printP P = m at *
      go_wp2_with fail
      refine C.mono ?_; rintro e w3 ⟨rfl, hb3⟩
      have hB3 := HB.out.trans hb3
      clear C HB hb3
      go_wp2
      go_ret
      exact ⟨rfl, hB3⟩
end Go.Proofs.YtahedhpffjgimaaDoor
/- Which proofs are the same. -/
namespace Go.Proofs.YtahedhpffjgimaaDoor
open Go.RowKit
open Go.Lib Go.Sort
def sameS (s t : Stp) : Bool := s.1 == t.1 && s.2 == t.2
def sameP : List Stp → List Stp → Bool
  | [], [] => true
  | s :: P, t :: Q => sameS s t && sameP P Q
  | _, _ => false
theorem sameS_iff (s t : Stp) : sameS s t = true ↔ s = t := by
  obtain ⟨d, u⟩ := s
  obtain ⟨e, v⟩ := t
  simp [sameS]
theorem sameP_iff : ∀ (P Q : List Stp), sameP P Q = true ↔ P = Q
  | [], [] => by simp [sameP]
  | s :: P, [] => by simp [sameP]
  | [], t :: Q => by simp [sameP]
  | s :: P, t :: Q => by simp [sameP, sameS_iff, sameP_iff P Q]
theorem sameP_self (P : List Stp) : sameP P P = true := (sameP_iff P P).2 rfl
theorem sameP_len {P Q : List Stp} (h : P.length ≠ Q.length) : sameP P Q = false := by
  rw [Bool.eq_false_iff]; intro e; exact h (by rw [(sameP_iff P Q).1 e])
set_option maxHeartbeats 800000 in
theorem same1_any (A A' : Option Addr) (c c' : Nat) (d d' : Bool) (u u' : List Int) (w : World) (h : RI w w.heap.size A u) (h' : RI w w.heap.size A' u') (hn : u.length ≤ maxLen) (hn' : u'.length ≤ maxLen) :
    Calls Tryd.prog 40 #[.agg #[.bool d, .slice A u.length c], .agg #[.bool d', .slice A' u'.length c']] w (RetV w (.bool (sameS (d, u) (d', u')))) := by
  have hb := bal (bal (Below.refl w.heap.size w) (.cells #[.bool d, .slice A u.length c] 54)) (.cells #[.bool d', .slice A' u'.length c'] 54)
  have C := Equal_any A A' c c' u u' _ (h.nx hb) (h'.nx hb) hn hn'
  have HB := Lib.hid hb
  unfold sameS
  clear h h' hb
  by_cases e : d = d'
  · subst e
    have dd : (d == d) = true := by simp
    simp only [dd, Bool.true_and]
    generalize (u == u') = b at *
    go_enter Tryd.func40, Tryd.ntmps40
    go_wp2_with fail
    refine C.mono ?_; rintro e w' ⟨rfl, hb⟩
    have HB2 := Lib.hid (bnx HB.out hb)
    clear C hb
    go_wp2
    go_ret
    exact ⟨rfl, HB2.out⟩
  · have dd : (d == d') = false := by simpa using e
    simp only [dd, Bool.false_and]
    clear C e
    go_enter Tryd.func40, Tryd.ntmps40
    go_wp2
    go_ret
    exact ⟨rfl, HB.out⟩
theorem box_two (w : World) (x y x' y' : Value) : (((w.alloc (.cells #[x, y] 54)).alloc (.cells #[x', y'] 54)).cell? ⟨w.heap.size, 0, none⟩ = some x) ∧ (((w.alloc (.cells #[x, y] 54)).alloc (.cells #[x', y'] 54)).cell? ⟨w.heap.size, 1, none⟩ = some y) := by constructor <;> go_simp
set_option maxHeartbeats 1600000 in
set_option maxRecDepth 100000 in
theorem PEq_any (PA QA : Option Addr) (kp kq : Nat) (P Q : List Stp) (w : World) (hP : RS w w.heap.size PA P) (hQ : RS w w.heap.size QA Q) (hn : P.length ≤ maxLen) (hn' : Q.length ≤ maxLen) :
    Calls Tryd.prog 39 #[.slice PA P.length kp, .slice QA Q.length kq, .func (.func 40) #[] #[]] w (RetV w (.bool (sameP P Q))) := by
  unfold maxLen at hn hn'
  by_cases hl : P.length = Q.length
  · have hne : ((P.length : Int) != (Q.length : Int)) = false := by simp [hl]
    obtain ⟨T, hT⟩ : ∃ T, sameP P Q = T := ⟨_, rfl⟩
    rw [hT]
    have HT : Hid (sameP (P.drop 0) (Q.drop 0) = T) := hT
    have HP := Lib.hid hP
    have HQ := Lib.hid hQ
    have HL := Lib.hid hl
    clear hT hP hQ hl
    go_enter Tryd.func39, Tryd.ntmps39
    go_wp2
    go_loopw [17] (fun i wr => ∃ j : Nat, j ≤ P.length ∧ i = .int .i64 j ∧ Below w.heap.size w wr ∧ Hid (sameP (P.drop j) (Q.drop j) = T)) (fun i _ => P.length - (intOf i).toNat)
    case atStart => exact ⟨0, Nat.zero_le _, rfl, Below.refl _ _, HT⟩
    case round =>
      obtain ⟨j, hj, rfl, hb, HJ⟩ := hrel
      by_cases hlt : j < P.length
      · have hltq : j < Q.length := by rw [← HL.out]; exact hlt
        obtain ⟨ad, A1, c1, rfl, hab, hc0, hc1, hr, hlc, hcm⟩ := HP.out j hlt
        obtain ⟨ad', A1', c1', rfl, hab', hc0', hc1', hr', hlc', hcm'⟩ := HQ.out j hltq
        have k0 := (hb.cell (p := ad.add (j * 2)) (by rw [block_add]; exact hab)).trans hc0
        have k1 := (hb.cell (p := ⟨(ad.add (j * 2)).block, (ad.add (j * 2)).off + 1, none⟩) (by show (ad.add (j * 2)).block < _; rw [block_add]; exact hab)).trans hc1
        have k0' := (hb.cell (p := ad'.add (j * 2)) (by rw [block_add]; exact hab')).trans hc0'
        have k1' := (hb.cell (p := ⟨(ad'.add (j * 2)).block, (ad'.add (j * 2)).off + 1, none⟩) (by show (ad'.add (j * 2)).block < _; rw [block_add]; exact hab')).trans hc1'
        have hlt1 : (j : Int) < P.length := by omega
        have hlt2 : (j : Int) < Q.length := by omega
        have e := HJ.out
        rw [dropS P j hlt, dropS Q j hltq, sameP] at e
        have hrr := (hr.below hb).mono hb.size
        have hrr' := (hr'.below hb).mono hb.size
        obtain ⟨ub, hub⟩ : ∃ ub, P.getD j (true, []) = ub := ⟨_, rfl⟩
        obtain ⟨ub', hub'⟩ : ∃ ub, Q.getD j (true, []) = ub := ⟨_, rfl⟩
        rw [hub] at k0 k1 hlc hrr e
        rw [hub'] at k0' k1' hlc' hrr' e
        obtain ⟨d, u⟩ := ub
        obtain ⟨d', u'⟩ := ub'
        simp only at k0 k1 hlc hrr k0' k1' hlc' hrr'
        have hbx := bal (bal (Below.refl wr.heap.size wr) (.cells #[.bool d, .slice A1 u.length c1] 54)) (.cells #[.bool d', .slice A1' u'.length c1'] 54)
        have C := same1_any A1 A1' c1 c1' d d' u u' _ (hrr.nx hbx) (hrr'.nx hbx) (by omega) (by omega)
        have HB := Lib.hid (bnx hb hbx)
        have m0 := Lib.cell?_alloc_some (.cells #[.bool d, .slice A1 u.length c1] 54) k0'
        have m1 := Lib.cell?_alloc_some (.cells #[.bool d, .slice A1 u.length c1] 54) k1'
        obtain ⟨z0, z1⟩ := box_two wr (.bool d) (.slice A1 u.length c1) (.bool d') (.slice A1' u'.length c1')
        clear hc0 hc1 hr hc0' hc1' hr' hrr hrr' hb hub hub' hbx HJ HT
        cases hs : sameS (d, u) (d', u')
        · rw [hs] at C e
          have HE : Hid (false = T) := by show _ = _; rw [← e, Bool.false_and]
          clear e hs
          go_wp2_with fail
          refine C.mono ?_; rintro e w2 ⟨rfl, hb2⟩
          have HB2 := Lib.hid (bnx HB.out hb2)
          clear C hb2
          go_wp2
          go_ret
          exact ⟨by rw [← HE.out]; rfl, HB2.out⟩
        · rw [hs] at C e
          have HE : Hid (sameP (P.drop (j + 1)) (Q.drop (j + 1)) = T) := by show _ = _; rw [← e, Bool.true_and]
          clear e hs
          go_wp2_with fail
          refine C.mono ?_; rintro e w2 ⟨rfl, hb2⟩
          have HB2 := Lib.hid (bnx HB.out hb2)
          clear C hb2
          go_wp2
          go_roundw
          case rel => exact ⟨j + 1, by omega, by go_num, HB2.out, HE⟩
          case measure => simp [intOf]; omega
      · have e := HJ.out
        rw [List.drop_of_length_le (by omega), List.drop_of_length_le (by have := HL.out; omega), sameP] at e
        have HE : Hid (true = T) := e
        have HB := Lib.hid hb
        clear e HJ HT HP HQ hb
        go_wp2
        go_ret
        exact ⟨by rw [← HE.out]; rfl, HB.out⟩
  · have hne : ((P.length : Int) != (Q.length : Int)) = true := by simp; omega
    rw [sameP_len hl]
    clear hl hP hQ
    go_enter Tryd.func39, Tryd.ntmps39
    go_wp2
    go_ret
    exact ⟨rfl, Below.refl _ _⟩
theorem PSame_any (PA QA : Option Addr) (kp kq : Nat) (P Q : List Stp) (w : World) (hP : RS w w.heap.size PA P) (hQ : RS w w.heap.size QA Q) (hn : P.length ≤ maxLen) (hn' : Q.length ≤ maxLen) :
    Calls Tryd.prog 19 #[.slice PA P.length kp, .slice QA Q.length kq] w (RetV w (.bool (sameP P Q))) := by
  have C := PEq_any PA QA kp kq P Q w hP hQ hn hn'
  generalize sameP P Q = b at *
  clear hP hQ
  go_enter Tryd.func19, Tryd.ntmps19
  go_wp2_with fail
  refine C.mono ?_; rintro e w' ⟨rfl, hb⟩
  have HB := Lib.hid hb
  clear C hb
  go_wp2
  go_ret
  exact ⟨rfl, HB.out⟩
end Go.Proofs.YtahedhpffjgimaaDoor
