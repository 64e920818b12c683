/-
  CnfEnds, walked.
-/
import Derived.Test.YtplcabecbofjpaaDoorProg
import Derived.WalkKit
import Derived.WalkSpells
import Derived.WalkLawsBesides
import Derived.Lib.Hide
import Derived.BigQuiet
import Derived.Deep.QuietTactic
import Derived.Deep.RegionWith
import Derived.Deep.RegionHeld3
import Derived.Test.YtplcabecbofjpaaDoorV4
set_option linter.unusedVariables false
namespace Go.Proofs.YtplcabecbofjpaaDoor
open Go.RowKit
set_option maxHeartbeats 16000000 in
set_option maxRecDepth 100000 in
theorem ends_walk (A Ab : Option Addr) (c cb q : Nat) (N : Int) (L : List (List Int)) (l : List UInt8) (w : World) (h : RC w w.heap.size A L) (hb : Rd w w.heap.size Ab l) (hn : L.length ≤ maxLen) (hl : l.length ≤ maxLen) (hq : q < 65536) (hP : Pow w.heap.size w) :
    Calls Tryd.prog 8 #[.agg #[.int .i64 N, .slice A L.length c], .slice Ab l.length cb, .int .u16 q] w (RetV w (.bool true)) := by
  have hbx := bal (Below.refl w.heap.size w) (.cells #[.int .i64 N, .slice A L.length c] 24)
  obtain ⟨q0, q1⟩ := box_cells w (.int .i64 N) (.slice A L.length c) 24
  have qs : w.heap.size < (w.alloc (.cells #[.int .i64 N, .slice A L.length c] 24)).heap.size := by simp
  have HB := Lib.hid hbx
  have HR := Lib.hid (h.nx hbx)
  have HD := Lib.hid ((hb.below hbx).mono hbx.size)
  have HP := Lib.hid (hP.nx hbx)
  have HN := Lib.hid hn
  have ll : l.length ≤ 9223372036854775807 := hl
  have HQq := Lib.hid hq
  generalize hw0 : w.alloc (.cells #[.int .i64 N, .slice A L.length c] 24) = w0 at *
  have HW0 := Lib.hid hw0
  have HK : Hid (∀ wx, Below w0.heap.size w0 wx → wx.cell? ⟨w.heap.size, 0, none⟩ = some (.int .i64 N) ∧ wx.cell? ⟨w.heap.size, 1, none⟩ = some (.slice A L.length c) ∧ w.heap.size < wx.heap.size) := fun wx hb => ⟨(hb.cell (p := ⟨w.heap.size, 0, none⟩) qs).trans q0, (hb.cell (p := ⟨w.heap.size, 1, none⟩) qs).trans q1, by have := hb.size; omega⟩
  have C1 := shown_any w0 HP.out
  clear hw0 hb hl hbx h hP hn q0 q1 hq
  go_enter Tryd.func8, Tryd.ntmps8
  go_wp2_with fail
  rw [HW0.out]
  refine C1.mono ?_; rintro e w1 ⟨rfl, hE1⟩
  clear C1
  obtain ⟨p0, p1, ps⟩ := HK.out w1 hE1
  have C2 := Small_any A c N 40 L w1 (HR.out.nx hE1) HN.out
  generalize hs1 : smallF 40 L = b1 at C2
  go_wp2_with fail
  refine C2.mono ?_; rintro e w2 ⟨rfl, hb2⟩
  have hE2 := bnx hE1 hb2
  clear C2 hb2 hE1 p0 p1 ps
  obtain ⟨p0, p1, ps⟩ := HK.out w2 hE2
  cases b1
  case false =>
    have hB := bnx HB.out hE2
    clear hE2
    go_wp2
    go_ret
    exact ⟨rfl, hB⟩
  by_cases h1 : l.length ≤ 100
  case neg =>
    have d1 : decide ((100 : Int) < l.length) = true := decide_eq_true (by omega)
    have hB := bnx HB.out hE2
    clear hE2
    go_wp2
    go_ret
    exact ⟨rfl, hB⟩
  have d1 : decide ((100 : Int) < l.length) = false := decide_eq_false (by omega)
  by_cases h2 : l = []
  case pos =>
    subst h2
    have hB := bnx HB.out hE2
    clear hE2
    go_wp2
    go_ret
    exact ⟨rfl, hB⟩
  have hpos : 0 < l.length := List.length_pos_iff.2 h2
  have d2 : ((l.length : Int) == 0) = false := by rw [beq_eq_false_iff_ne]; omega
  have C4 := refRight_any A c N L w2 (HR.out.nx hE2) HN.out
  generalize hr1 : rightF N L = b3 at C4
  go_wp2_with fail
  refine C4.mono ?_; rintro e w4 ⟨rfl, hb4⟩
  have hE4 := bnx hE2 hb4
  clear C4 hb4 hE2 p0 p1 ps
  obtain ⟨p0, p1, ps⟩ := HK.out w4 hE4
  cases b3
  case false =>
    have hB := bnx HB.out hE4
    clear hE4
    go_wp2
    go_ret
    exact ⟨rfl, hB⟩
  have C5 := Print_yes A c N L w4 (HR.out.nx hE4) (HP.out.nx hE4) hr1
  have hsh := print_short hs1 hr1
  have hps := print_pos N L
  obtain ⟨S, hS⟩ : ∃ S, S = strOf (printS N L) := ⟨_, rfl⟩
  have hZ : (printS N L).length = S.size := by rw [hS, strOf_size]
  rw [show (⟨(printS N L).toArray⟩ : ByteArray) = S from hS.symm] at C5
  have hpa := parse_print_any hr1 l (by rw [List.length_append]; omega)
  rw [if_neg h2, hZ] at hpa
  have hcut := parse_cut hr1 (by omega)
  rw [hZ] at hcut
  have hdat : S.data.toList = printS N L := by rw [hS, strOf_data]
  rw [← hdat] at hpa hcut
  have HS := Lib.hid hS
  have HPA := Lib.hid hpa
  have HC := Lib.hid hcut
  have HDT := Lib.hid hdat
  have z1 : ((S.size : Int) == 0) = false := by rw [beq_eq_false_iff_ne]; omega
  have z2 : S.size ≤ 13000 := by omega
  have z3 : 6 ≤ S.size := by omega
  have H2 := Lib.hid h2
  have H1 := Lib.hid h1
  have Z2 := Lib.hid z2
  clear hS hZ hpa hsh hs1 hr1 hps hcut hdat h2 h1 hpos z2
  go_wp2_with fail
  refine C5.mono ?_; rintro e w5 ⟨rfl, hb5⟩
  have hE5 := bnx hE4 hb5
  clear C5 hb5 hE4 p0 p1 ps
  have kc5 := Lib.run_convert_string_bytes (P := Tryd.prog) w5 9 25 5 S Tryd.underlying9 Tryd.underlying25 Tryd.underlying5
  obtain ⟨A6, c6, w6, hrun6, r6, hb6, n6, m6⟩ := bytes_more w5 S Ab cb l 25 ((HD.out.below hE5).mono hE5.size) H2.out H1.out (by have := Z2.out; omega)
  have hE6 := bnx hE5 hb6
  have C6 := Parse_any A6 c6 _ w6 r6 (by rw [List.length_append]; exact n6) m6
  rw [HPA.out, show (S.data.toList ++ l).length = S.size + l.length by simp] at C6
  have HRUN := Lib.hid hrun6
  clear hrun6 hb6 hE5 r6 n6 m6
  go_wp2_with (at_builtin; refine wp_app rfl (.tmp 51) (.tmp 52) 25 rfl _ _ rfl rfl HRUN.out ?_)
  go_wp2_with fail
  refine C6.mono ?_; rintro e w7 ⟨A7, c7, rfl, r7, _, hb7⟩
  have hE7 := bnx hE6 hb7
  have hA := bal (Below.refl w7.heap.size w7) (.cells #[.int .i64 0, .slice A7 0 c7] 24)
  have hE8 := bnx hE7 hA
  clear C6 hb7 hE6 hE7 r7 hA kc5 HRUN
  have hqn := HQq.out
  obtain ⟨k, hk⟩ : ∃ k, k = q % S.size := ⟨_, rfl⟩
  have hkl : k < S.size := by rw [hk]; exact Nat.mod_lt _ (by omega)
  have hmod : Int.tmod (q : Int) (S.size : Int) = (k : Int) := by rw [hk]; rfl
  clear hk
  go_wp2_with fail
  have hT : S.extract 0 k = strOf (S.data.toList.take k) := by
    apply ByteArray.ext
    apply Array.ext'
    rw [strOf_data]
    simp [ByteArray.data_extract]
  have hpl := parse_len (S.data.toList.take k)
  have hz := HC.out k hkl
  have hlen : (S.data.toList.take k).length = k := by simp; omega
  rw [hlen] at hpl
  generalize S.extract 0 k = T at *
  generalize w7.alloc (.cells #[.int .i64 0, .slice A7 0 c7] 24) = w8 at *
  have kc8 := Lib.run_convert_string_bytes (P := Tryd.prog) w8 9 25 5 T Tryd.underlying9 Tryd.underlying25 Tryd.underlying5
  have C8 := parse_bytes w8 T _ hT (by rw [hlen]; have := Z2.out; omega)
  rw [parse_no hz] at C8
  have y1 : ((parseS (S.data.toList.take k)).2.2 != 0) = true := by simpa using hz
  generalize (parseS (S.data.toList.take k)).2.2 = E at *
  generalize (parseS (S.data.toList.take k)).2.1 = K at *
  have y2 : decide ((K : Int) ≤ (k : Int)) = true := decide_eq_true (by omega)
  have y3 : decide (K ≤ k) = true := decide_eq_true (by omega)
  clear hT hz hlen hpl HC HPA HDT HS
  go_wp2_with fail
  refine C8.mono ?_; rintro e w9 ⟨A9, c9, rfl, r9, _, hb9⟩
  have hB := bal (bnx HB.out (bnx hE8 hb9)) (.cells #[.int .i64 0, .slice A9 0 c9] 24)
  clear C8 hb9 hE8 kc8 r9
  go_wp2
  go_ret
  exact ⟨rfl, hB⟩
end Go.Proofs.YtplcabecbofjpaaDoor
