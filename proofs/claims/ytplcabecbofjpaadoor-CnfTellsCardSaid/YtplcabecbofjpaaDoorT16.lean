/-
  The reference's Print.
-/
import Derived.Test.YtplcabecbofjpaaDoorProg
import Derived.WalkKit
import Derived.WalkSpells
import Derived.WalkLawsBesides
import Derived.Lib.Hide
import Derived.BigQuiet
import Derived.Deep.QuietTactic
import Derived.Deep.RegionWith
import Derived.Deep.RegionHeld3
import Derived.Test.YtplcabecbofjpaaDoorT15
set_option linter.unusedVariables false
namespace Go.Proofs.YtplcabecbofjpaaDoor
open Go.RowKit
/-- A formula's text behind j clauses, and behind k literals more. -/
def prP (N : Int) (L : List (List Int)) (j : Nat) : List UInt8 := headS N L.length ++ bodyS (L.take j)
theorem prP_next (N : Int) (L : List (List Int)) (j : Nat) (h : j < L.length) : prP N L (j + 1) = prP N L j ++ litsS (L.getD j []) ++ [48, 10] := by
  unfold prP
  rw [takeC L j h, bodyS_snoc, tellS]
  simp
theorem prP_all (N : Int) (L : List (List Int)) : prP N L L.length = printS N L := by unfold prP printS; rw [List.take_length]
theorem lits_next (u : List Int) (k : Nat) (h : k < u.length) : litsS (u.take (k + 1)) = litsS (u.take k) ++ Lib.itoa (u.getD k 0) ++ [32] := by
  rw [takeI u k h, litsS_snoc, litS]; simp
theorem prP_short (N : Int) (L : List (List Int)) (j : Nat) (hs : smallF 40 L = true) (h : rightF N L = true) : (prP N L j).length ≤ 13000 := by
  obtain ⟨s1, s2⟩ := small_parts hs
  obtain ⟨h0, h1, h2, h3⟩ := right_parts h
  have b := body_short (L.take j) (fun c hc => ⟨by have := s2 c (List.mem_of_mem_take hc); omega, fun x hx => by have := (h3 c (List.mem_of_mem_take hc)).2 x hx; omega⟩)
  have i1 := itoa_short N (by omega) h1
  have i2 := itoa_short (L.length : Int) (by omega) (by omega)
  have e : (prP N L j).length = 6 + (Lib.itoa N).length + 1 + (Lib.itoa (L.length : Int)).length + 1 + (bodyS (L.take j)).length := by simp [prP, headS]; omega
  have : (L.take j).length ≤ L.length := by simp; omega
  rw [e]; omega
set_option maxHeartbeats 800000 in
theorem refPrint_no (A : Option Addr) (c : Nat) (N : Int) (L : List (List Int)) (w : World) (h : RC w w.heap.size A L) (hn : L.length ≤ maxLen) (hr : rightF N L = false) :
    Calls Tryd.prog 18 #[.agg #[.int .i64 N, .slice A L.length c]] w (RetV w (.tuple #[.string ⟨#[]⟩, .int .i64 1])) := by
  have hb := bal (Below.refl w.heap.size w) (.cells #[.int .i64 N, .slice A L.length c] 24)
  have C := refRight_any A c N L _ (h.nx hb) hn
  rw [hr] at C
  have HB := Lib.hid hb
  clear h hb hr
  go_enter Tryd.func18, Tryd.ntmps18
  go_wp2_with fail
  refine C.mono ?_; rintro e w1 ⟨rfl, hb1⟩
  have HB1 := Lib.hid (bnx HB.out hb1)
  clear C hb1
  go_wp2
  go_ret2
  exact ⟨rfl, HB1.out⟩
set_option maxHeartbeats 3200000 in
set_option maxRecDepth 100000 in
theorem refPrint_yes (A : Option Addr) (c : Nat) (N : Int) (L : List (List Int)) (w : World) (h : RC w w.heap.size A L) (hs : smallF 40 L = true) (hr : rightF N L = true) :
    Calls Tryd.prog 18 #[.agg #[.int .i64 N, .slice A L.length c]] w (RetV w (.tuple #[.string (strOf (printS N L)), .int .i64 0])) := by
  obtain ⟨s1, s2⟩ := small_parts hs
  obtain ⟨h0, h1, h2, h3⟩ := right_parts hr
  have hb := bal (Below.refl w.heap.size w) (.cells #[.int .i64 N, .slice A L.length c] 24)
  obtain ⟨q0, q1⟩ := box_cells w (.int .i64 N) (.slice A L.length c) 24
  have qs : w.heap.size < (w.alloc (.cells #[.int .i64 N, .slice A L.length c] 24)).heap.size := by simp
  have HB := Lib.hid hb
  have HR := Lib.hid (h.nx hb)
  have HS := Lib.hid hs
  have HRt := Lib.hid hr
  generalize hw0 : w.alloc (.cells #[.int .i64 N, .slice A L.length c] 24) = w0 at *
  have HW0 := Lib.hid hw0
  have HK : Hid (∀ wx, Below w0.heap.size w0 wx → wx.cell? ⟨w.heap.size, 0, none⟩ = some (.int .i64 N) ∧ wx.cell? ⟨w.heap.size, 1, none⟩ = some (.slice A L.length c) ∧ w.heap.size < wx.heap.size) := fun wx hb => ⟨(hb.cell (p := ⟨w.heap.size, 0, none⟩) qs).trans q0, (hb.cell (p := ⟨w.heap.size, 1, none⟩) qs).trans q1, by have := hb.size; omega⟩
  have C1 := refRight_any A c N L w0 HR.out (by unfold maxLen; omega)
  rw [hr] at C1
  obtain ⟨V, hV⟩ : ∃ V, Value.string (strOf (printS N L)) = V := ⟨_, rfl⟩
  rw [hV]
  have HV := Lib.hid hV
  have HX := Lib.hid (fun c hc => And.intro (s2 c hc) (h3 c hc).2)
  have p0 := q0
  have p1 := q1
  clear h hb hs hr hw0 hV s2 h3 q0 q1
  go_enter Tryd.func18, Tryd.ntmps18
  go_wp2_with fail
  rw [HW0.out]
  refine C1.mono ?_; rintro e w1 ⟨rfl, hE1⟩
  clear C1 p0 p1
  obtain ⟨p0, p1, ps⟩ := HK.out w1 hE1
  have HF1 : Hid (∀ wx : World, Calls Tryd.prog 51 #[.int .i64 N] wx (RetV wx (.string (strOf (Lib.itoa N))))) := fun wx => refFig_any N (by omega) (by omega) wx
  have HF2 : Hid (∀ wx : World, Calls Tryd.prog 51 #[.int .i64 (L.length : Int)] wx (RetV wx (.string (strOf (Lib.itoa (L.length : Int)))))) := fun wx => refFig_any (L.length : Int) (by omega) (by omega) wx
  have i1 : (strOf (Lib.itoa N)).size ≤ 7 := itoa_short N (by omega) h1
  have i2 : (strOf (Lib.itoa (L.length : Int))).size ≤ 7 := itoa_short (L.length : Int) (by omega) (by omega)
  have HP0 : Hid (strOf (prP N L 0) = (((⟨#[112, 32, 99, 110, 102, 32]⟩ ++ strOf (Lib.itoa N)) ++ ⟨#[32]⟩) ++ strOf (Lib.itoa (L.length : Int))) ++ ⟨#[10]⟩) := by
    show _ = _
    rw [show (⟨#[112, 32, 99, 110, 102, 32]⟩ : ByteArray) = strOf [112, 32, 99, 110, 102, 32] from rfl, show (⟨#[32]⟩ : ByteArray) = strOf [32] from rfl, show (⟨#[10]⟩ : ByteArray) = strOf [10] from rfl, strOf_app, strOf_app, strOf_app, strOf_app]
    congr 1
    simp [prP, headS, bodyS]
  generalize strOf (Lib.itoa N) = FN at *
  generalize strOf (Lib.itoa (L.length : Int)) = FL at *
  have y1 : ¬ (9223372036854775807 < 6 + FN.size) := by omega
  have y2 : ¬ (9223372036854775807 < 6 + FN.size + 1) := by omega
  have y3 : ¬ (9223372036854775807 < 6 + FN.size + 1 + FL.size) := by omega
  have y4 : ¬ (9223372036854775807 < 6 + FN.size + 1 + FL.size + 1) := by omega
  have hU := (Below.refl w1.heap.size w1).drew
  have HKK : Hid (∀ wx, Below w1.heap.size w1 wx → wx.cell? ⟨w.heap.size, 0, none⟩ = some (.int .i64 N) ∧ wx.cell? ⟨w.heap.size, 1, none⟩ = some (.slice A L.length c)) := fun wx hb => ⟨(hb.cell (p := ⟨w.heap.size, 0, none⟩) ps).trans p0, (hb.cell (p := ⟨w.heap.size, 1, none⟩) ps).trans p1⟩
  have K0 := HKK.out _ hU
  have HE1 := Lib.hid hE1
  clear hE1
  go_wp2_with fail
  go_region_held3 (fun w' => w'.cell? ⟨w.heap.size, 0, none⟩ = some (.int .i64 N) ∧ w'.cell? ⟨w.heap.size, 1, none⟩ = some (.slice A L.length c))
    (first | exact K0 | exact K1 | exact K2)
    (first
      | (go_at_call 51; ((with_reducible refine (HF1.out _).mono ?_); rintro e u1 ⟨rfl, hu1⟩; have U1 := bnx hU hu1; have K1 := HKK.out _ U1))
      | (go_at_call 51; ((with_reducible refine (HF2.out _).mono ?_); rintro e u2 ⟨rfl, hu2⟩; have U2 := bnx U1 hu2; have K2 := HKK.out _ U2)))
  have HU2 := Lib.hid (bnx HE1.out U2)
  clear K0 K1 K2 HKK p0 p1 HE1 hU hu1 U1 hu2 U2 HF1 HF2
  go_wp2
  clear y1 y2 y3 y4 i1 i2
  go_loopw [5, 6] (fun s i wr => ∃ (j : Nat), j ≤ L.length ∧ i = .int .i64 j ∧ s = .string (strOf (prP N L j)) ∧ Below w0.heap.size w0 wr) (fun _ i _ => L.length - (intOf i).toNat)
  case atStart => exact ⟨0, Nat.zero_le _, rfl, by rw [HP0.out], HU2.out⟩
  case round =>
    obtain ⟨j, hj, rfl, rfl, hE⟩ := hrel
    clear HU2 HP0
    obtain ⟨p0, p1, ps1⟩ := HK.out wr hE
    by_cases hlt : j < L.length
    · obtain ⟨a1, A1, k1, rfl, hab, hc1, r1, m1⟩ := (HR.out.nx hE) j hlt
      obtain ⟨lu, lx⟩ := HX.out (L.getD j []) (by simp [List.getD_eq_getElem?_getD, hlt])
      have hlt' : (j : Int) < L.length := by omega
      have HNX : Hid (strOf (prP N L (j + 1)) = strOf (prP N L j ++ litsS (L.getD j [])) ++ ⟨#[48, 10]⟩) := by
        show _ = _
        rw [prP_next N L j hlt, show (⟨#[48, 10]⟩ : ByteArray) = strOf [48, 10] from rfl, strOf_app]
      have hsh := prP_short N L j HS.out HRt.out
      generalize L.getD j [] = u at *
      generalize prP N L j = P at *
      have HLX := Lib.hid lx
      have HRI := Lib.hid r1
      have hab' : (a1.add j).block < wr.heap.size := by rw [block_add]; exact hab
      have HC1 := Lib.hid hc1
      have HP1 := Lib.hid p1
      have HE := Lib.hid hE
      have hu9 : u.length ≤ 9223372036854775807 := m1
      clear lx r1 hE m1
      generalize wr = z at *
      go_wp2
      clear p0 p1 hc1
      go_loopw [5, 7] (fun s i wx => ∃ (k : Nat), k ≤ u.length ∧ i = .int .i64 k ∧ s = .string (strOf (P ++ litsS (u.take k))) ∧ Below z.heap.size z wx) (fun _ i _ => u.length - (intOf i).toNat)
      case atStart => exact ⟨0, Nat.zero_le _, rfl, by simp [litsS], Below.refl _ _⟩
      case round =>
        obtain ⟨k, hk, rfl, rfl, hBz⟩ := hrel
        have p1 := (hBz.cell (p := ⟨w.heap.size, 1, none⟩) ps1).trans HP1.out
        have hc1 := (hBz.cell (p := a1.add j) hab').trans HC1.out
        have ps2 : w.heap.size < wr.heap.size := by have := hBz.size; omega
        have hll : (litsS (u.take k)).length ≤ 8 * u.length := by
          have := lits_short (u.take k) (fun x hx => by have := HLX.out x (List.mem_of_mem_take hx); omega)
          have e : (u.take k).length ≤ u.length := by simp; omega
          omega
        have zs : (strOf (P ++ litsS (u.take k))).size ≤ 14000 := by rw [strOf_size, List.length_append]; omega
        by_cases hkl : k < u.length
        · obtain ⟨a2, rfl, hb2, hc2⟩ := (HRI.out.below hBz) k hkl
          have hx := HLX.out (u.getD k 0) (by simp [List.getD_eq_getElem?_getD, hkl])
          have hkl' : (k : Int) < u.length := by omega
          have HNT : Hid (strOf (P ++ litsS (u.take (k + 1))) = strOf (P ++ litsS (u.take k)) ++ strOf (Lib.itoa (u.getD k 0)) ++ ⟨#[32]⟩) := by
            show _ = _
            rw [lits_next u k hkl, show (⟨#[32]⟩ : ByteArray) = strOf [32] from rfl, strOf_app, strOf_app]
            simp
          have zf : (strOf (Lib.itoa (u.getD k 0))).size ≤ 7 := itoa_short _ (by omega) (by omega)
          have C := refFig_any (u.getD k 0) (by omega) (by omega) wr
          generalize strOf (Lib.itoa (u.getD k 0)) = F at *
          generalize strOf (P ++ litsS (u.take k)) = S at *
          generalize u.getD k 0 = x at *
          have y1 : ¬ (9223372036854775807 < S.size + F.size) := by omega
          have y2 : ¬ (9223372036854775807 < S.size + F.size + 1) := by omega
          have HBz := Lib.hid hBz
          clear hx zf zs hll hBz
          go_wp2_with fail
          refine C.mono ?_; rintro e w4 ⟨rfl, hb4⟩
          have HB4 := Lib.hid (bnx HBz.out hb4)
          clear C hb4 p1 hc1 hc2
          go_wp2
          go_roundw
          case rel => exact ⟨k + 1, by omega, by go_num, by rw [HNT.out], HB4.out⟩
          case measure => simp [intOf]; omega
        · obtain rfl : k = u.length := by omega
          rw [List.take_length] at zs ⊢
          generalize strOf (P ++ litsS u) = S at *
          have y1 : ¬ (9223372036854775807 < S.size + 2) := by omega
          have HBz := Lib.hid (bnx HE.out hBz)
          clear hBz hll zs
          go_wp2
          go_roundw
          case rel => exact ⟨j + 1, by omega, by go_num, by rw [HNX.out], HBz.out⟩
          case measure => simp [intOf]; omega
    · obtain rfl : j = L.length := by omega
      rw [prP_all, HV.out]
      have HE := Lib.hid (bnx HB.out hE)
      clear hE
      go_wp2
      go_ret2
      exact ⟨rfl, HE.out⟩
end Go.Proofs.YtplcabecbofjpaaDoor
