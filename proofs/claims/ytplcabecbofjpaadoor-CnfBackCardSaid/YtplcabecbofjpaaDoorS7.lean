/-
  cnf.Print over the translated program.
-/
import Derived.Test.YtplcabecbofjpaaDoorProg
import Derived.WalkKit
import Derived.WalkSpells
import Derived.WalkLawsBesides
import Derived.Lib.Hide
import Derived.BigQuiet
import Derived.Deep.QuietTactic
import Derived.Deep.RegionWith
import Derived.Deep.RegionHeld3
import Derived.Test.YtplcabecbofjpaaDoorS6
import Derived.Deep.DeepCutAuto
set_option linter.unusedVariables false
namespace Go.Proofs.YtplcabecbofjpaaDoor
open Go.RowKit
/-- A formula's text. -/
def headS (N n : Int) : List UInt8 := [112, 32, 99, 110, 102, 32] ++ Lib.itoa N ++ [32] ++ Lib.itoa n ++ [10]
def bodyS (L : List (List Int)) : List UInt8 := L.flatMap tellS
def printS (N : Int) (L : List (List Int)) : List UInt8 := headS N L.length ++ bodyS L
theorem right_parts {N : Int} {L : List (List Int)} (h : rightF N L = true) : 0 ≤ N ∧ N ≤ 100000 ∧ L.length ≤ 20000 ∧ ∀ c ∈ L, c.length ≤ 1000 ∧ ∀ x ∈ c, x ≠ 0 ∧ -N ≤ x ∧ x ≤ N := by
  simp only [rightF, Bool.and_eq_true, decide_eq_true_eq, List.all_eq_true] at h
  obtain ⟨⟨⟨h1, h2⟩, h3⟩, h4⟩ := h
  refine ⟨h1, h2, h3, fun c hc => ?_⟩
  have := h4 c hc
  simp only [rightC, Bool.and_eq_true, decide_eq_true_eq, Bool.not_eq_true', List.any_eq_false] at this
  refine ⟨this.1, fun x hx => ?_⟩
  have h5 := this.2 x hx
  simp only [badL, Bool.or_eq_true, beq_iff_eq, decide_eq_true_eq, not_or] at h5
  omega
theorem takeC (l : List (List Int)) (i : Nat) (h : i < l.length) : l.take (i + 1) = l.take i ++ [l.getD i []] := by
  rw [List.take_succ_eq_append_getElem h]; simp [List.getD, h]
theorem bodyS_snoc (L : List (List Int)) (c : List Int) : bodyS (L ++ [c]) = bodyS L ++ tellS c := by simp [bodyS]
theorem bodyS_len : ∀ (L : List (List Int)), (∀ c ∈ L, c.length ≤ 1000 ∧ ∀ x ∈ c, -9223372036854775808 ≤ x ∧ x ≤ 9223372036854775807) → (bodyS L).length ≤ 22002 * L.length
  | [], _ => by simp [bodyS]
  | c :: L, h => by
    have h1 := litsS_len c (h c (by simp)).2
    have h3 := (h c (by simp)).1
    have h2 := bodyS_len L (fun y hy => h y (by simp [hy]))
    simp only [bodyS, List.flatMap_cons, List.length_append, List.length_cons, tellS, List.length_nil] at *; omega
set_option maxHeartbeats 1000000 in
theorem Print_no (A : Option Addr) (c : Nat) (N : Int) (L : List (List Int)) (w : World) (h : RC w w.heap.size A L) (hn : L.length ≤ maxLen) (hr : rightF N L = false) :
    Calls Tryd.prog 17 #[.agg #[.int .i64 N, .slice A L.length c]] w (RetV w (.tuple #[.string ⟨#[]⟩, .int .i64 1])) := by
  have hb := bal (Below.refl w.heap.size w) (.cells #[.int .i64 N, .slice A L.length c] 24)
  have C := Right_any A c N L _ (h.nx hb) hn
  rw [hr] at C
  have HB := Lib.hid hb
  clear h hb hr
  go_enter Tryd.func17, Tryd.ntmps17
  go_wp2_with fail
  refine C.mono ?_; rintro e w1 ⟨rfl, hb1⟩
  go_wp2
  go_ret2
  exact ⟨rfl, bnx HB.out hb1⟩
set_option maxHeartbeats 2000000 in
theorem Print_yes (A : Option Addr) (c : Nat) (N : Int) (L : List (List Int)) (w : World) (h : RC w w.heap.size A L) (hP : Pow w.heap.size w) (hr : rightF N L = true) :
    Calls Tryd.prog 17 #[.agg #[.int .i64 N, .slice A L.length c]] w (RetV w (.tuple #[.string ⟨(printS N L).toArray⟩, .int .i64 0])) := by
  have hn : L.length ≤ maxLen := by simp [rightF] at hr; unfold maxLen; omega
  have hb := bal (Below.refl w.heap.size w) (.cells #[.int .i64 N, .slice A L.length c] 24)
  have C := Right_any A c N L _ (h.nx hb) hn
  rw [hr] at C
  obtain ⟨cc0, cc1⟩ := box_cells w (.int .i64 N) (.slice A L.length c) 24
  have hs0 : w.heap.size < (w.alloc (.cells #[.int .i64 N, .slice A L.length c] 24)).heap.size := by simp
  have HB := Lib.hid hb
  have HR := Lib.hid h
  have HP := Lib.hid hP
  have Hr := Lib.hid hr
  clear h hb hr hP
  generalize hwb : w.alloc (.cells #[.int .i64 N, .slice A L.length c] 24) = wb at *
  have HWB := Lib.hid hwb
  clear hwb
  go_enter Tryd.func17, Tryd.ntmps17
  go_wp2_with fail
  rw [HWB.out]
  refine C.mono ?_; rintro e w1 ⟨rfl, hb1⟩
  have hB1 := bnx HB.out hb1
  have p0 := (hb1.cell (p := ⟨w.heap.size, 0, none⟩) hs0).trans cc0
  have p1 := (hb1.cell (p := ⟨w.heap.size, 1, none⟩) hs0).trans cc1
  have ps : w.heap.size < w1.heap.size := by have := hb1.size; omega
  clear C hb1 HB cc0 cc1 hs0
  go_wp2_with fail
  have hD0 := Bd.new w1
  have hA0 := bal (Below.refl w1.heap.size w1) (.cells #[.pointer none, .slice none 0 0] 88)
  have q0 := (hA0.cell (p := ⟨w.heap.size, 0, none⟩) ps).trans p0
  have q1 := (hA0.cell (p := ⟨w.heap.size, 1, none⟩) ps).trans p1
  generalize hw2 : w1.alloc (.cells #[.pointer none, .slice none 0 0] 88) = w2 at *
  have HW2 := Lib.hid hw2
  clear hw2 p0 p1
  obtain ⟨hN0, hN1, hL, hLits⟩ := right_parts Hr.out
  have HLits := Lib.hid hLits
  clear hLits
  obtain ⟨sN, hsN⟩ : ∃ s : ByteArray, s = ⟨(Lib.itoa N).toArray⟩ := ⟨_, rfl⟩
  obtain ⟨sL, hsL⟩ : ∃ s : ByteArray, s = ⟨(Lib.itoa (L.length : Int)).toArray⟩ := ⟨_, rfl⟩
  have zN : sN.size ≤ 21 := by rw [hsN]; show (Lib.itoa N).toArray.size ≤ _; rw [List.size_toArray]; exact Lib.itoa_length_le N (by omega) (by omega)
  have zL : sL.size ≤ 21 := by rw [hsL]; show (Lib.itoa (L.length : Int)).toArray.size ≤ _; rw [List.size_toArray]; exact Lib.itoa_length_le _ (by omega) (by omega)
  have CI := Lib.hid (fun (x : Int) (h0 : 0 ≤ x) (h1 : x ≤ 100000) (wx : World) (hx : Pow w.heap.size wx) => Itoa_any x (by omega) (by omega) w.heap.size wx hx)
  have CN : Hid (∀ wx, Pow w.heap.size wx → Calls Tryd.prog 48 #[.int .i64 N] wx (RetV wx (.string sN))) := by intro wx hx; rw [hsN]; exact CI.out N hN0 hN1 wx hx
  have CL : Hid (∀ wx, Pow w.heap.size wx → Calls Tryd.prog 48 #[.int .i64 (L.length : Int)] wx (RetV wx (.string sL))) := by intro wx hx; rw [hsL]; exact CI.out L.length (by omega) (by omega) wx hx
  have HS : Hid (headS N L.length = (⟨#[112, 32, 99, 110, 102, 32]⟩ ++ sN ++ ⟨#[32]⟩ ++ sL ++ ⟨#[10]⟩ : ByteArray).data.toList) := by
    show _ = _
    rw [hsN, hsL]; simp [headS]
  clear CI hsN hsL
  have CW : Hid (∀ wx, Bd wx w1.heap.size w1.heap.size [] → Calls Tryd.prog 47 #[.pointer (some ⟨w1.heap.size, 0, none⟩), .string (⟨#[112, 32, 99, 110, 102, 32]⟩ ++ sN ++ ⟨#[32]⟩ ++ sL ++ ⟨#[10]⟩)] wx (RetW wx w1.heap.size w1.heap.size (headS N L.length) (⟨#[112, 32, 99, 110, 102, 32]⟩ ++ sN ++ ⟨#[32]⟩ ++ sL ++ ⟨#[10]⟩ : ByteArray).size)) := by
    intro wx hx
    have hz : ([] : List UInt8).length + (⟨#[112, 32, 99, 110, 102, 32]⟩ ++ sN ++ ⟨#[32]⟩ ++ sL ++ ⟨#[10]⟩ : ByteArray).size ≤ 1099511627776 := by
      simp only [ByteArray.size_append, List.length_nil, show (⟨#[112, 32, 99, 110, 102, 32]⟩ : ByteArray).size = 6 from rfl, show (⟨#[32]⟩ : ByteArray).size = 1 from rfl, show (⟨#[10]⟩ : ByteArray).size = 1 from rfl]
      omega
    have := Write_any w1.heap.size w1.heap.size [] _ wx hx hz
    rw [← HS.out] at this
    exact this
  have z1 : ¬ 9223372036854775807 < 6 + sN.size := by omega
  have z2 : ¬ 9223372036854775807 < 6 + sN.size + 1 := by omega
  have z3 : ¬ 9223372036854775807 < 6 + sN.size + 1 + sL.size := by omega
  have z4 : ¬ 9223372036854775807 < 6 + sN.size + 1 + sL.size + 1 := by omega
  have y1 : ¬ 9223372036854775807 < (⟨#[112, 32, 99, 110, 102, 32]⟩ : ByteArray).size + sN.size := by show ¬ _ < 6 + _; omega
  have hU0 := (Below.refl w2.heap.size w2).drew
  have K0 : w2.drew.cell? ⟨w.heap.size, 0, none⟩ = some (.int .i64 N) ∧ w2.drew.cell? ⟨w.heap.size, 1, none⟩ = some (.slice A L.length c) := ⟨q0, q1⟩
  have hB2 := bnx hB1 hA0
  have ps2 : w.heap.size < w2.heap.size := by have := hA0.size; omega
  have P0 := HP.out.below (bnx hB2 hU0)
  have D0 := hD0.nx hU0
  clear q0 q1
  go_cut [21] (fun s21 wx => Bd wx w1.heap.size w1.heap.size (headS N L.length) ∧ Below w1.heap.size w1 wx)
  case first =>
    go_region_held3 (fun w' => w'.cell? ⟨w.heap.size, 0, none⟩ = some (.int .i64 N) ∧ w'.cell? ⟨w.heap.size, 1, none⟩ = some (.slice A L.length c))
      (first | exact K0 | exact K1 | exact K2 | exact K3)
      (first
        | (go_at_call 48; ((with_reducible refine (CN.out _ P0).mono ?_); rintro e u1 ⟨rfl, hu1⟩; have D1 := D0.nx hu1; have P1 := P0.below (hu1.mono (Nat.le_of_lt ps2)); have s1 : w.heap.size < u1.heap.size := Nat.lt_of_lt_of_le ps2 hu1.size; have K1 := And.intro ((hu1.cell (p := ⟨w.heap.size, 0, none⟩) ps2).trans K0.1) ((hu1.cell (p := ⟨w.heap.size, 1, none⟩) ps2).trans K0.2)))
        | (go_at_call 48; ((with_reducible refine (CL.out _ P1).mono ?_); rintro e u2 ⟨rfl, hu2⟩; have D2 := D1.nx hu2; have K2 := And.intro ((hu2.cell (p := ⟨w.heap.size, 0, none⟩) s1).trans K1.1) ((hu2.cell (p := ⟨w.heap.size, 1, none⟩) s1).trans K1.2)))
        | (go_at_call 47; ((with_reducible refine (CW.out _ D2).mono ?_); rintro e u3 ⟨rfl, D3, hu3⟩; have K3 := And.intro ((hu3.cell (p := ⟨w.heap.size, 0, none⟩) ps).trans K2.1) ((hu3.cell (p := ⟨w.heap.size, 1, none⟩) ps).trans K2.2))))
    all_goals (go_wp2_with fail; go_meet; exact ⟨D3, hA0.drew.trans ((hu1.mono (Nat.le_trans hA0.size (Nat.le_refl _))).trans ((hu2.mono (Nat.le_trans hA0.size hu1.size)).trans hu3))⟩)
  case rest =>
    obtain ⟨hD, hb⟩ := hcut
    have hB := hB1.trans (hb.mono (Nat.le_of_lt ps))
    have r0 := (hb.cell (p := ⟨w.heap.size, 0, none⟩) ps).trans ((hA0.cell (p := ⟨w.heap.size, 0, none⟩) ps).symm.trans K0.1)
    have r1 := (hb.cell (p := ⟨w.heap.size, 1, none⟩) ps).trans ((hA0.cell (p := ⟨w.heap.size, 1, none⟩) ps).symm.trans K0.2)
    have hz : (headS N L.length).length ≤ 100 := by
      rw [HS.out]; show (⟨#[112, 32, 99, 110, 102, 32]⟩ ++ sN ++ ⟨#[32]⟩ ++ sL ++ ⟨#[10]⟩ : ByteArray).data.toList.length ≤ 100
      rw [Array.length_toList]
      show (⟨#[112, 32, 99, 110, 102, 32]⟩ ++ sN ++ ⟨#[32]⟩ ++ sL ++ ⟨#[10]⟩ : ByteArray).size ≤ 100
      simp only [ByteArray.size_append, show (⟨#[112, 32, 99, 110, 102, 32]⟩ : ByteArray).size = 6 from rfl, show (⟨#[32]⟩ : ByteArray).size = 1 from rfl, show (⟨#[10]⟩ : ByteArray).size = 1 from rfl]
      omega
    clear HS CW CN CL D0 P0 K0 hU0 z1 z2 z3 z4 y1 zN zL hD0 hA0 HW2 ps2 hB2
    have HZ := Lib.hid hz
    clear hz hB
    go_wp2
    go_loopw [25] (fun i wr => ∃ j : Nat, j ≤ L.length ∧ i = .int .i64 j ∧ Bd wr w1.heap.size w1.heap.size (headS N L.length ++ bodyS (L.take j)) ∧ Below w1.heap.size w1 wr) (fun i _ => L.length - (intOf i).toNat)
    case atStart => exact ⟨0, Nat.zero_le _, rfl, by simpa [bodyS] using hD, hb⟩
    case round =>
      obtain ⟨j, hj, rfl, hD2, hb2⟩ := hrel
      have hB := hB1.trans (hb2.mono (Nat.le_of_lt ps))
      clear hD hb r0 r1
      by_cases hlt : j < L.length
      · obtain ⟨a1, A1, c1, rfl, _, hc1, r1, m1⟩ := (HR.out.below hB) j hlt
        obtain ⟨lu, lx⟩ := HLits.out (L.getD j []) (by simp [List.getD_eq_getElem?_getD, hlt])
        have hbl := bodyS_len (L.take j) (fun c hc => ⟨(HLits.out c (List.mem_of_mem_take hc)).1, fun x hx => by have := (HLits.out c (List.mem_of_mem_take hc)).2 x hx; omega⟩)
        rw [List.length_take] at hbl
        have hz := HZ.out
        have hm : (headS N L.length ++ bodyS (L.take j)).length ≤ 1000000000 := by rw [List.length_append]; omega
        have C := tell_any w1.heap.size w1.heap.size _ A1 c1 _ wr hD2 (r1.mono (Nat.le_of_lt ps)) ((HP.out.below hB).mono (Nat.le_of_lt ps)) (fun x hx => by have := lx x hx; omega) hm (by omega)
        have HE : Hid (headS N L.length ++ bodyS (L.take (j + 1)) = (headS N L.length ++ bodyS (L.take j)) ++ tellS (L.getD j [])) := by show _ = _; rw [takeC L j hlt, bodyS_snoc]; simp
        generalize headS N L.length ++ bodyS (L.take j) = m at *
        generalize L.getD j [] = u at *
        have HB := Lib.hid hb2
        clear hb2 hD2 r1 hbl hm hz hB lx
        go_wp2_with fail
        refine C.mono ?_; rintro e w3 ⟨rfl, hD3, hb3⟩
        have hB3 := HB.out.trans hb3
        clear C HB hb3
        go_wp2
        go_roundw
        case rel => exact ⟨j + 1, by omega, by go_num, by rw [HE.out]; exact hD3, hB3⟩
        case measure => simp [intOf]; omega
      · obtain rfl : j = L.length := by omega
        rw [List.take_length] at hD2
        have C := String_any w1.heap.size w1.heap.size _ wr hD2
        have HE : Hid (printS N L = headS N L.length ++ bodyS L) := rfl
        have HB := Lib.hid hB
        clear hD2 hB hb2
        generalize headS N L.length ++ bodyS L = m at *
        go_wp2_with fail
        refine C.mono ?_; rintro e w3 ⟨rfl, hb3⟩
        have hB3 := HB.out.trans (hb3.mono (Nat.le_of_lt ps))
        clear C HB hb3
        go_wp2
        go_ret2
        exact ⟨by rw [HE.out]; rfl, hB3⟩
theorem Print_any (A : Option Addr) (c : Nat) (N : Int) (L : List (List Int)) (w : World) (h : RC w w.heap.size A L) (hn : L.length ≤ maxLen) (hP : Pow w.heap.size w) :
    Calls Tryd.prog 17 #[.agg #[.int .i64 N, .slice A L.length c]] w (RetV w (if rightF N L then .tuple #[.string ⟨(printS N L).toArray⟩, .int .i64 0] else .tuple #[.string ⟨#[]⟩, .int .i64 1])) := by
  cases hr : rightF N L
  · exact Print_no A c N L w h hn hr
  · exact Print_yes A c N L w h hP hr
end Go.Proofs.YtplcabecbofjpaaDoor
