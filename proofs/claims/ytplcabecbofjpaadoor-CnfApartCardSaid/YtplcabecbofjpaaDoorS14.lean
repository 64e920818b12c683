/-
  The statements' common head over the translated program: it tells true.
-/
import Derived.Test.YtplcabecbofjpaaDoorProg
import Derived.WalkKit
import Derived.WalkSpells
import Derived.WalkLawsBesides
import Derived.Lib.Hide
import Derived.BigQuiet
import Derived.Deep.QuietTactic
import Derived.Deep.RegionWith
import Derived.Deep.RegionHeld3
import Derived.Test.YtplcabecbofjpaaDoorT1
import Derived.Lib.SlBytesConst
import Derived.Lib.ConvBytes
set_option linter.unusedVariables false
namespace Go.Proofs.YtplcabecbofjpaaDoor
open Go.RowKit
theorem litRd (w : World) (l : List UInt8) (cs : Array Value) (m : Nat × Nat) (hcs : cs = (l.map fun b => Value.int .u8 (b.toNat : Int)).toArray) : Rd (w.alloc (.cells cs 5 m)) (w.heap.size + 1) (some ⟨w.heap.size, 0, none⟩) l := by
  subst hcs
  intro i hi
  refine ⟨_, rfl, by simp, ?_⟩
  rw [add_loc]
  have hb : (w.alloc (.cells (l.map fun b => Value.int .u8 (b.toNat : Int)).toArray 5 m)).heap[w.heap.size]? = some (.cells (l.map fun b => Value.int .u8 (b.toNat : Int)).toArray 5 m) := by
    show (w.heap.push _)[w.heap.size]? = _
    simp
  simp only [World.cell?, hb]
  simp [hi]
theorem ex_print : printS 2 [[1, -2]] = [112, 32, 99, 110, 102, 32, 50, 32, 49, 10, 49, 32, 45, 50, 32, 48, 10] := by
  have e2 : Lib.itoa 2 = [50] := by rw [show (2 : Int) = ((2 : Nat) : Int) from rfl, itoa_nn, figs_last 2 (by omega)]; rfl
  have e1 : Lib.itoa 1 = [49] := by rw [show (1 : Int) = ((1 : Nat) : Int) from rfl, itoa_nn, figs_last 1 (by omega)]; rfl
  have e3 : Lib.itoa (-2) = [45, 50] := by rw [show (-2 : Int) = -((2 : Nat) : Int) from rfl, itoa_ng _ (by omega), figs_last 2 (by omega)]; rfl
  simp [printS, headS, bodyS, tellS, litsS, litS, e2, e1, e3]
theorem ex_mod : modS [false, false] = [118, 32, 45, 49, 32, 45, 50, 32, 48, 10] := by
  have e1 : Lib.itoa (-1) = [45, 49] := by rw [show (-1 : Int) = -((1 : Nat) : Int) from rfl, itoa_ng _ (by omega), figs_last 1 (by omega)]; rfl
  have e3 : Lib.itoa (-2) = [45, 50] := by rw [show (-2 : Int) = -((2 : Nat) : Int) from rfl, itoa_ng _ (by omega), figs_last 2 (by omega)]; rfl
  have em : modL [false, false] = [-1, -2] := by decide
  simp [modS, tellS, litsS, litS, em, e1, e3]
theorem ex_right : rightF 2 [[1, -2]] = true := by decide
theorem ex_parse : parseS [112, 32, 99, 110, 102, 32, 50, 32, 49, 10, 49, 32, 45, 50, 32, 48, 10] = ((2, [[1, -2]]), 17, 0) := by
  have := parse_print ex_right (by rw [ex_print]; decide)
  rw [ex_print] at this
  exact this
theorem ex_parseM : parseM [118, 32, 45, 49, 32, 45, 50, 32, 48, 10] 2 = ([false, false], 10, 0) := by
  have := parseM_print [false, false]
  rw [ex_mod] at this
  exact this
theorem ex_holds : hoT [[1, -2]] [false, false] = true := by decide
theorem ex_clause : clT [1, -2] [false, false] = true := by decide
theorem ex_same : sameF 2 2 [[1, -2]] [[1, -2]] = true := by decide
theorem bytes_read (w : World) (s : ByteArray) : Rd (Lib.bytesWorld w 5 s) (w.heap.size + 1) (some ⟨w.heap.size, 0, none⟩) s.data.toList ∧ Below w.heap.size w (Lib.bytesWorld w 5 s) ∧ (Lib.bytesWorld w 5 s).heap.size = w.heap.size + 1 := by
  refine ⟨?_, ?_, Lib.bytesWorld_size w 5 s⟩
  · intro i hi
    refine ⟨_, rfl, by simp, ?_⟩
    rw [add_loc]
    exact Lib.bytesWorld_cell w 5 s i hi
  · exact ⟨rfl, rfl, rfl, by rw [Lib.bytesWorld_size]; omega, fun k hk => Lib.bytesWorld_at_old w 5 s k hk⟩
/-- The example, as it is laid. -/
def exW (w : World) : World := ((w.alloc (.cells #[.int .i64 1, .int .i64 (-2)] 3)).alloc (.cells #[.slice (some ⟨w.heap.size, 0, none⟩) 2 2] 50)).alloc (.cells #[.int .i64 2, .slice (some ⟨w.heap.size + 1, 0, none⟩) 1 1] 24)
theorem ex_world (w : World) : RC (exW w) (exW w).heap.size (some ⟨w.heap.size + 1, 0, none⟩) [[1, -2]] ∧ (exW w).cell? ⟨w.heap.size + 1 + 1, 0, none⟩ = some (.int .i64 2) ∧ (exW w).cell? ⟨w.heap.size + 1 + 1, 1, none⟩ = some (.slice (some ⟨w.heap.size + 1, 0, none⟩) 1 1) ∧ (exW w).cell? ⟨w.heap.size + 1, 0, none⟩ = some (.slice (some ⟨w.heap.size, 0, none⟩) 2 2) ∧ RI (exW w) (exW w).heap.size (some ⟨w.heap.size, 0, none⟩) [1, -2] ∧ Below w.heap.size w (exW w) ∧ (exW w).heap.size = w.heap.size + 1 + 1 + 1 := by
  have hr : RI (exW w) (exW w).heap.size (some ⟨w.heap.size, 0, none⟩) [1, -2] := by
    intro i hi
    have : i = 0 ∨ i = 1 := by simp at hi; omega
    rcases this with rfl | rfl
    · exact ⟨_, rfl, (by simp [exW] <;> omega), by rw [add_loc]; unfold exW; go_simp⟩
    · exact ⟨_, rfl, (by simp [exW] <;> omega), by rw [add_loc]; unfold exW; go_simp⟩
  refine ⟨?_, ?_, ?_, ?_, hr, bal (bal (bal (Below.refl _ _) _) _) _, by simp [exW]⟩
  · intro i hi
    obtain rfl : i = 0 := by simp at hi; omega
    exact ⟨_, some ⟨w.heap.size, 0, none⟩, 2, rfl, (by simp [exW] <;> omega), by rw [add_loc]; unfold exW; go_simp, hr, by decide⟩
  · unfold exW; go_simp
  · unfold exW; go_simp
  · unfold exW; go_simp
set_option maxRecDepth 100000 in
set_option maxHeartbeats 4000000 in
theorem shown_any (w : World) (hP : Pow w.heap.size w) : Calls Tryd.prog 15 #[] w (RetV w (.bool true)) := by
  obtain ⟨x1, x2, x3, x4, x5, x6, x7⟩ := ex_world w
  have kc := fun (wx : World) => Lib.run_convert_string_bytes (P := Tryd.prog) wx 9 25 5 ⟨#[112, 32, 99, 110, 102, 32, 50, 32, 49, 10, 49, 32, 45, 50, 32, 48, 10]⟩ Tryd.underlying9 Tryd.underlying25 Tryd.underlying5
  have kb := fun (w : World) (C : Array Value) (n c : Nat) => Lib.run_convert_bytes_const (P := Tryd.prog) w 25 5 C n c Tryd.underlying25 Tryd.underlying5
  have C1 := Print_yes (some ⟨w.heap.size + 1, 0, none⟩) 1 2 [[1, -2]] (exW w) x1 (hP.nx x6) ex_right
  rw [ex_print] at C1
  have H1 := Lib.hid x1
  have H5 := Lib.hid x5
  have HP := Lib.hid hP
  have HB := Lib.hid x6
  generalize hwe : exW w = we at *
  have HW := Lib.hid hwe
  have hs2 : w.heap.size + 1 + 1 < we.heap.size := by omega
  have hs1 : w.heap.size + 1 < we.heap.size := by omega
  have HX2 := Lib.hid x2
  have HX3 := Lib.hid x3
  have HX4 := Lib.hid x4
  clear hwe x1 x5 hP x6 x2 x3 x4 x7
  unfold exW at HW
  go_enter Tryd.func15, Tryd.ntmps15
  go_wp2_with fail
  rw [HW.out]
  refine C1.mono ?_; rintro e w1 ⟨rfl, hb1⟩
  have hB1 := bnx HB.out hb1
  have E1 := Lib.hid hb1
  clear C1 hb1
  go_wp2_with fail
  obtain ⟨b1, b2, b3⟩ := bytes_read w1 ⟨#[112, 32, 99, 110, 102, 32, 50, 32, 49, 10, 49, 32, 45, 50, 32, 48, 10]⟩
  have C2 := Parse_any (some ⟨w1.heap.size, 0, none⟩) (grownCap w1 17 0 5) [112, 32, 99, 110, 102, 32, 50, 32, 49, 10, 49, 32, 45, 50, 32, 48, 10] (Lib.bytesWorld w1 5 ⟨#[112, 32, 99, 110, 102, 32, 50, 32, 49, 10, 49, 32, 45, 50, 32, 48, 10]⟩) (by rw [b3]; exact b1) (grownCap_ge _ _ _ _) (grownCap_le_maxLen _ _ _ _ (by decide))
  rw [ex_parse] at C2
  have hB2 := bnx hB1 b2
  have hE2 := bnx E1.out b2
  clear hB1 E1 b1 b2 b3 kc
  refine C2.mono ?_; rintro e w2 ⟨A2, c2, rfl, r2, _, hb2⟩
  have hB3 := bnx hB2 hb2
  have hE3 := bnx hE2 hb2
  have hA := bal (Below.refl w2.heap.size w2) (.cells #[.int .i64 2, .slice A2 1 c2] 24)
  have hB4 := bnx hB3 hA
  have hE4 := bnx hE3 hA
  have r4 := r2.nx hA
  obtain ⟨g0, g1⟩ := box_cells w2 (.int .i64 2) (.slice A2 1 c2) 24
  have gs : w2.heap.size < (w2.alloc (.cells #[.int .i64 2, .slice A2 1 c2] 24)).heap.size := by simp
  clear C2 hb2 hB2 hE2 hB3 hE3 r2 hA
  have kb2 := kb (w2.alloc (.cells #[.int .i64 2, .slice A2 1 c2] 24)) #[.int .u8 118, .int .u8 32, .int .u8 45, .int .u8 49, .int .u8 32, .int .u8 45, .int .u8 50, .int .u8 32, .int .u8 48, .int .u8 10] 10 10
  have ez : (w2.alloc (.cells #[.int .i64 2, .slice A2 1 c2] 24)).heap.size = w2.heap.size + 1 := by simp
  have hr5 := litRd (w2.alloc (.cells #[.int .i64 2, .slice A2 1 c2] 24)) [118, 32, 45, 49, 32, 45, 50, 32, 48, 10] #[.int .u8 118, .int .u8 32, .int .u8 45, .int .u8 49, .int .u8 32, .int .u8 45, .int .u8 50, .int .u8 32, .int .u8 48, .int .u8 10] (10, 11) rfl
  have hA5 := bal (Below.refl (w2.alloc (.cells #[.int .i64 2, .slice A2 1 c2] 24)).heap.size (w2.alloc (.cells #[.int .i64 2, .slice A2 1 c2] 24))) (.cells #[.int .u8 118, .int .u8 32, .int .u8 45, .int .u8 49, .int .u8 32, .int .u8 45, .int .u8 50, .int .u8 32, .int .u8 48, .int .u8 10] 5 (10, 11))
  rw [ez] at kb2 hr5
  have hB5 := bnx hB4 hA5
  have hE5 := bnx hE4 hA5
  have r5 := r4.nx hA5
  have g0' := (hA5.cell (p := ⟨w2.heap.size, 0, none⟩) gs).trans g0
  have g1' := (hA5.cell (p := ⟨w2.heap.size, 1, none⟩) gs).trans g1
  have ez5 : ((w2.alloc (.cells #[.int .i64 2, .slice A2 1 c2] 24)).alloc (.cells #[.int .u8 118, .int .u8 32, .int .u8 45, .int .u8 49, .int .u8 32, .int .u8 45, .int .u8 50, .int .u8 32, .int .u8 48, .int .u8 10] 5 (10, 11))).heap.size = w2.heap.size + 1 + 1 := by simp
  have C3 := ParseModel_any (some ⟨w2.heap.size + 1, 0, none⟩) 10 2 [118, 32, 45, 49, 32, 45, 50, 32, 48, 10] _ (by rw [ez5]; exact hr5) (by decide) (by decide) (by omega) (HP.out.nx hB5)
  rw [ex_parseM] at C3
  have gs5 : w2.heap.size < ((w2.alloc (.cells #[.int .i64 2, .slice A2 1 c2] 24)).alloc (.cells #[.int .u8 118, .int .u8 32, .int .u8 45, .int .u8 49, .int .u8 32, .int .u8 45, .int .u8 50, .int .u8 32, .int .u8 48, .int .u8 10] 5 (10, 11))).heap.size := by rw [ez5]; omega
  clear kb hr5 hA5 hB4 hE4 r4 g0 g1 gs ez ez5
  go_wp2_with fail
  generalize (w2.alloc (.cells #[.int .i64 2, .slice A2 1 c2] 24)).alloc (.cells #[.int .u8 118, .int .u8 32, .int .u8 45, .int .u8 49, .int .u8 32, .int .u8 45, .int .u8 50, .int .u8 32, .int .u8 48, .int .u8 10] 5 (10, 11)) = w5 at *
  refine C3.mono ?_; rintro e w6 ⟨A6, c6, rfl, r6, _, hb6⟩
  have hB6 := bnx hB5 hb6
  have hE6 := bnx hE5 hb6
  have rC6 := r5.nx hb6
  have g0 := (hb6.cell (p := ⟨w2.heap.size, 0, none⟩) gs5).trans g0'
  have g1 := (hb6.cell (p := ⟨w2.heap.size, 1, none⟩) gs5).trans g1'
  have gs6 : w2.heap.size < w6.heap.size := by have := hb6.size; omega
  clear C3 hB5 hE5 r5 g0' g1' gs5 hb6 kb2
  have p2 := (hE6.cell (p := ⟨w.heap.size + 1 + 1, 0, none⟩) hs2).trans HX2.out
  have p3 := (hE6.cell (p := ⟨w.heap.size + 1 + 1, 1, none⟩) hs2).trans HX3.out
  have ps2 : w.heap.size + 1 + 1 < w6.heap.size := by have := hE6.size; omega
  have C4 := Same_any (some ⟨w.heap.size + 1, 0, none⟩) A2 1 c2 2 2 [[1, -2]] [[1, -2]] w6 (H1.out.nx hE6) rC6 (by decide) (by decide)
  rw [ex_same] at C4
  go_wp2_with fail
  refine C4.mono ?_; rintro e w7 ⟨rfl, hb7⟩
  have hB7 := bnx hB6 hb7
  have hE7 := bnx hE6 hb7
  have r7 := r6.nx hb7
  clear C4 hB6 hE6 r6 rC6 hb7 p2 p3 ps2 g0 g1 gs6
  have p2 := (hE7.cell (p := ⟨w.heap.size + 1 + 1, 0, none⟩) hs2).trans HX2.out
  have p3 := (hE7.cell (p := ⟨w.heap.size + 1 + 1, 1, none⟩) hs2).trans HX3.out
  have ps2 : w.heap.size + 1 + 1 < w7.heap.size := by have := hE7.size; omega
  have C5 := Holds_any (some ⟨w.heap.size + 1, 0, none⟩) A6 1 c6 2 [[1, -2]] [false, false] w7 (H1.out.nx hE7) r7 (by decide) (by decide)
  rw [ex_holds] at C5
  go_wp2_with fail
  refine C5.mono ?_; rintro e w8 ⟨rfl, hb8⟩
  have hB8 := bnx hB7 hb8
  have hE8 := bnx hE7 hb8
  have r8 := r7.nx hb8
  clear C5 hB7 hE7 r7 hb8 p2 p3 ps2
  have p2 := (hE8.cell (p := ⟨w.heap.size + 1 + 1, 0, none⟩) hs2).trans HX2.out
  have p3 := (hE8.cell (p := ⟨w.heap.size + 1 + 1, 1, none⟩) hs2).trans HX3.out
  have p4 := (hE8.cell (p := ⟨w.heap.size + 1, 0, none⟩) hs1).trans HX4.out
  have ps2 : w.heap.size + 1 + 1 < w8.heap.size := by have := hE8.size; omega
  have ps1 : w.heap.size + 1 < w8.heap.size := by omega
  have C6 := Clause_any (some ⟨w.heap.size, 0, none⟩) A6 2 c6 [1, -2] [false, false] w8 (H5.out.nx hE8) r8 (by decide) (by decide)
  rw [ex_clause] at C6
  go_wp2_with fail
  refine C6.mono ?_; rintro e w9 ⟨rfl, hb9⟩
  have hB9 := bnx hB8 hb9
  have hE9 := bnx hE8 hb9
  have r9 := r8.nx hb9
  clear C6 hB8 hE8 r8 hb9 p2 p3 p4 ps2 ps1
  have C7 := PrintModel_any A6 c6 [false, false] w9 r9 (by decide) (HP.out.nx hB9)
  rw [ex_mod] at C7
  go_wp2_with fail
  refine C7.mono ?_; rintro e w10 ⟨rfl, hb10⟩
  have hB10 := bnx hB9 hb10
  have hE10 := bnx hE9 hb10
  clear C7 hB9 hE9 r9 hb10
  have p2 := (hE10.cell (p := ⟨w.heap.size + 1 + 1, 0, none⟩) hs2).trans HX2.out
  have p3 := (hE10.cell (p := ⟨w.heap.size + 1 + 1, 1, none⟩) hs2).trans HX3.out
  have ps2 : w.heap.size + 1 + 1 < w10.heap.size := by have := hE10.size; omega
  have C8 := Right_any (some ⟨w.heap.size + 1, 0, none⟩) 1 2 [[1, -2]] w10 (H1.out.nx hE10) (by decide)
  rw [ex_right] at C8
  go_wp2_with fail
  refine C8.mono ?_; rintro e w11 ⟨rfl, hb11⟩
  have hB11 := bnx hB10 hb11
  clear C8 hB10 hE10 hb11 p2 p3 ps2
  go_wp2
  go_ret
  exact ⟨rfl, hB11⟩
end Go.Proofs.YtplcabecbofjpaaDoor
