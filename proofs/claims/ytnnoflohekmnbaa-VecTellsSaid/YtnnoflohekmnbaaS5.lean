/-
  Texts of bits as numbers: mathematics. Right and Small, whatever they are handed. The reference's text of a vector. The reference's Make.
-/
import Derived.Test.YtnnoflohekmnbaaProg
import Derived.WalkKit
import Derived.WalkSpells
import Derived.WalkLawsBesides
import Derived.LoopN
import Derived.IntWalk
import Derived.Lib.Hide
import Derived.Laws.BitsAllLaws
import Derived.Laws.Externs
import Derived.BigQuiet
import Derived.BigRegion
import Derived.Deep.QuietTactic
import Derived.Deep.RegionWith
import Derived.Deep.RegionHeld3
import Derived.StillTailTactics
import Derived.RegionTactic
import Derived.ChangeAlike
import Derived.Test.YtnnoflohekmnbaaC6
import Derived.Test.YtnnoflohekmnbaaC7
import Derived.Test.YtnnoflohekmnbaaR0
import Derived.Test.YtnnoflohekmnbaaB5
import Derived.Test.YtnnoflohekmnbaaD1
import Derived.Test.YtnnoflohekmnbaaN8
import Derived.Laws.Concat
import Derived.Test.YtnnoflohekmnbaaN2
import Derived.Test.YtnnoflohekmnbaaN7
import Derived.Test.YtnnoflohekmnbaaR1
set_option linter.unusedVariables false
/- Texts of bits as numbers: mathematics. -/
namespace Go.Proofs.Ytnnoflohekmnbaa
open Go.RowKit
/-- The bits of a text, the lowest first. -/
def bitsR (l : List UInt8) : List Bool := l.reverse.map (fun c => c == 49)
theorem bitsR_len (l : List UInt8) : (bitsR l).length = l.length := by simp [bitsR]
theorem bitsR_cons (c : UInt8) (t : List UInt8) : bitsR (c :: t) = bitsR t ++ [c == 49] := by simp [bitsR]
theorem mkR_or : ∀ (l : List UInt8) (acc : Nat), mkR acc l = acc ||| nb (bitsR l)
  | [], acc => by simp [mkR, bitsR, nb]
  | c :: t, acc => by
    have hl : nb (bitsR t) < 2 ^ t.length := by have := nb_lt (bitsR t); rwa [bitsR_len] at this
    rw [bitsR_cons, nb_snoc, bitsR_len, mkR]
    by_cases h : c = 49
    · rw [if_pos h, mkR_or t, show (c == 49) = true by simp [h], show bn true = 1 from rfl, Nat.mul_one, Nat.add_comm, ← Nat.mul_one (2 ^ t.length), Nat.two_pow_add_eq_or_of_lt hl, Nat.mul_one, Nat.or_assoc]
    · rw [if_neg h, mkR_or t, show (c == 49) = false by simp [h], show bn false = 0 from rfl, Nat.mul_zero, Nat.add_zero]
theorem mkR_nb (l : List UInt8) : mkR 0 l % 2 ^ l.length = nb (bitsR l) := by
  rw [mkR_or, Nat.zero_or]
  exact Nat.mod_eq_of_lt (by have := nb_lt (bitsR l); rwa [bitsR_len] at this)
theorem mkBad_yes : ∀ (l : List UInt8) (i : Nat), i < l.length → l.getD i 0 ≠ 48 → l.getD i 0 ≠ 49 → mkBad l = true
  | [], i, h, _, _ => by simp at h
  | c :: t, 0, _, h1, h2 => mkBad_no c t (by simpa using h1) (by simpa using h2)
  | c :: t, i + 1, h, h1, h2 => by
    rw [mkBad]
    split
    · exact mkBad_yes t i (by simpa using h) (by simpa using h1) (by simpa using h2)
    · rfl
theorem mkBad_none : ∀ (l : List UInt8), (∀ i, i < l.length → l.getD i 0 = 48 ∨ l.getD i 0 = 49) → mkBad l = false
  | [], _ => rfl
  | c :: t, h => by
    rw [mkBad, if_pos (by have := h 0 (by simp); simpa using this)]
    exact mkBad_none t (fun i hi => by have := h (i + 1) (by simpa using hi); simpa using this)
theorem bitsR_at (l : List UInt8) (i : Nat) (h : i < l.length) : (bitsR l).take (l.length - i) = (bitsR l).take (l.length - (i + 1)) ++ [l.getD i 0 == 49] := by
  have e : l.length - i = (l.length - (i + 1)) + 1 := by omega
  rw [e, take_succ_ _ _ (by rw [bitsR_len]; omega)]
  have e2 : (bitsR l).getD (l.length - (i + 1)) false = (l.getD i 0 == 49) := by
    have h2 : l.length - (i + 1) < l.length := by omega
    simp only [bitsR, List.getD_eq_getElem?_getD, List.getElem?_map]
    rw [List.getElem?_reverse h2, show l.length - 1 - (l.length - (i + 1)) = i by omega, List.getElem?_eq_getElem h]
    rfl
  rw [e2]
/-- The last j signs of a vector's text. -/
def txP (N j : Nat) : List UInt8 := (List.range j).reverse.map (fun p => if N.testBit p then 49 else 48)
theorem txP_len (N j : Nat) : (txP N j).length = j := by simp [txP]
theorem txP_next (N j : Nat) : txP N (j + 1) = (if N.testBit j then 49 else 48) :: txP N j := by simp [txP, List.range_succ]
theorem txP_full (N W : Nat) : txP N W = txL N W W := by
  refine List.ext_getElem (by rw [txP_len, txL_len]) fun i h1 h2 => ?_
  rw [txP_len] at h1
  simp only [txP, txL, List.getElem_map, List.getElem_reverse, List.getElem_range, List.length_range]
  rw [if_pos (show W ≤ i + W by omega)]
end Go.Proofs.Ytnnoflohekmnbaa
/- Right and Small, whatever they are handed. -/
namespace Go.Proofs.Ytnnoflohekmnbaa
open Go.RowKit
theorem rightB_no {W : Int} {l : List Nat} (h : rightB W l = false) (h1 : 1 ≤ W) (h2 : W ≤ 128) (hk : (l.length : Int) = (W + 63) / 64) : W % 64 ≠ 0 ∧ 2 ^ (W % 64).toNat ≤ l.getD (l.length - 1) 0 := by
  unfold rightB at h
  rw [decide_eq_true h1, decide_eq_true h2, decide_eq_true hk] at h
  simp only [Bool.true_and, Bool.or_eq_false_iff, beq_eq_false_iff_ne, decide_eq_false_iff_not, Nat.not_lt] at h
  exact h
theorem Right_any (A : Option Addr) (c : Nat) (l : List Nat) (W : Int) (w : World) (h : R64 w w.heap.size A l) (hl : ∀ x ∈ l, x < 18446744073709551616) (hc : l.length ≤ c) (hc2 : c ≤ maxLen) :
    Calls Try.prog 15 #[.agg #[.int .i64 W, .slice A l.length c]] w (RetV w (.bool (rightB W l))) := by
  cases hr : rightB W l with
  | true =>
    obtain ⟨ad, V, rfl, rfl, hk, hv⟩ := right_vc h hl hc hc2 hr
    rw [hk]
    exact Right_yes hv
  | false =>
    by_cases h1 : 1 ≤ W
    · by_cases h2 : W ≤ 128
      · obtain ⟨V, rfl⟩ := Int.eq_ofNat_of_zero_le (show 0 ≤ W by omega)
        by_cases hk : (l.length : Int) = ((V : Int) + 63) / 64
        · obtain ⟨h0, ho⟩ := rightB_no hr h1 h2 hk
          have hV : ((V : Int) % 64).toNat = V % 64 := by omega
          rw [hV] at ho
          by_cases h6 : V ≤ 64
          · have hn : l.length = 1 := by omega
            obtain ⟨x, rfl⟩ : ∃ x, l = [x] := by
              match l, hn with
              | [x], _ => exact ⟨x, rfl⟩
            obtain ⟨ad, rfl, hb, hc0⟩ := h.at_ 0 (by simp)
            rw [add_zero_] at hc0
            refine Right_one_no ad c V x w (by omega) h6 (hl x (by simp)) hc0 hb ?_
            unfold ovB
            rw [show min 64 (V - 64 * 0) = V % 64 by omega]
            exact decide_eq_true (by simpa using ho)
          · have hn : l.length = 2 := by omega
            obtain ⟨x, y, rfl⟩ : ∃ x y, l = [x, y] := by
              match l, hn with
              | [x, y], _ => exact ⟨x, y, rfl⟩
            obtain ⟨ad, rfl, hb, hc0⟩ := h.at_ 0 (by simp)
            obtain ⟨ad', e, _, hc1⟩ := h.at_ 1 (by simp)
            cases e
            rw [add_zero_] at hc0
            have hx := hl x (by simp)
            refine Right_two_no1 ad c V x y w (by omega) (by omega) hx (hl y (by simp)) hc0 hc1 hb ?_ ?_
            · unfold ovB
              rw [show min 64 (V - 64 * 0) = 64 by omega, two64]
              exact decide_eq_false (by omega)
            · unfold ovB
              rw [show min 64 (V - 64 * 1) = V % 64 by omega]
              exact decide_eq_true (by simpa using ho)
        · exact Right_len A l.length c V w (by omega) (by omega) (by unfold lm; omega)
      · exact Right_high _ W w (by omega)
    · exact Right_low _ W w (by omega)
theorem refSmall_any (A : Option Addr) (k c : Nat) (W : Int) (w : World) {b : Bool} (hb : decide (k ≤ 4) = b) : Calls Try.prog 11 #[.agg #[.int .i64 W, .slice A k c]] w (RetV w (.bool b)) := by
  have d1 : decide ((k : Int) ≤ 4) = b := by rw [← hb]; exact decide_eq_decide.mpr (by omega)
  clear hb
  go_enter Try.func11, Try.ntmps11
  go_wp2
  go_ret
  exact ⟨rfl, bal (Below.refl _ _) _⟩
end Go.Proofs.Ytnnoflohekmnbaa
/- The reference's text of a vector. -/
namespace Go.Proofs.Ytnnoflohekmnbaa
open Go.RowKit
theorem txt_eq (W N : Nat) : (⟨(txP N W).toArray⟩ : ByteArray) = txt W N := by rw [txP_full]; rfl
set_option maxRecDepth 100000 in
set_option maxHeartbeats 800000 in
theorem refText_any {w : World} {ad : Addr} {c W N : Nat} (h : Vc w w.heap.size ad c W N) :
    Calls Try.prog 20 #[.agg #[.int .i64 W, .slice (some ad) (lm W) c]] w (RetV w (.string (txt W N))) := by
  have h2 := h.w2
  have hB0 := bal (Below.refl w.heap.size w) (.cells #[.int .i64 W, .slice (some ad) (lm W) c] 24)
  have hc0 : (w.alloc (.cells #[.int .i64 W, .slice (some ad) (lm W) c] 24)).cell? ⟨w.heap.size, 0, none⟩ = some (.int .i64 W) := by go_simp
  have hc1 : (w.alloc (.cells #[.int .i64 W, .slice (some ad) (lm W) c] 24)).cell? ⟨w.heap.size, 1, none⟩ = some (.slice (some ad) (lm W) c) := by go_simp
  have hs0 : w.heap.size < (w.alloc (.cells #[.int .i64 W, .slice (some ad) (lm W) c] 24)).heap.size := by simp
  have HV := Lib.hid (h.nx hB0)
  generalize hw1 : w.alloc (.cells #[.int .i64 W, .slice (some ad) (lm W) c] 24) = w1 at *
  have HW1 := Lib.hid hw1
  clear hw1 h
  go_enter Try.func20, Try.ntmps20
  go_wp2
  rw [HW1.out]
  go_loopw [3, 4] (fun v i wr => ∃ (j : Nat), j ≤ W ∧ i = .int .i64 j ∧ v = .string ⟨(txP N j).toArray⟩ ∧ Below w1.heap.size w1 wr) (fun _ i _ => W - (intOf i).toNat)
  case atStart => exact ⟨0, Nat.zero_le _, rfl, rfl, Below.refl _ _⟩
  case round =>
    obtain ⟨j, hj, rfl, rfl, hb⟩ := hrel
    have p0 := (hb.cell (p := ⟨w.heap.size, 0, none⟩) hs0).trans hc0
    have p1 := (hb.cell (p := ⟨w.heap.size, 1, none⟩) hs0).trans hc1
    have ps : w.heap.size < wr.heap.size := by have := hb.size; omega
    by_cases hlt : j < W
    · have C := refBit_any (HV.out.nx hb) (j : Int)
      rw [show tb N (j : Int) = N.testBit j by unfold tb; rw [if_neg (by omega)]; rfl] at C
      have HE := Lib.hid (txP_next N j)
      have HL := Lib.hid (txP_len N j)
      have hol : ((txP N j).length : Int) ≤ 8388608 := by rw [txP_len]; omega
      generalize txP N j = o at *
      have HB := Lib.hid hb
      clear hb
      cases hx : N.testBit j with
      | true =>
        rw [hx] at C
        have hadd : ∀ wx, (Op.stringOp .add ⟨#[49]⟩ ⟨o.toArray⟩).run Try.prog wx = .ok (.string ⟨(49 :: o).toArray⟩) wx := fun wx => run_string_add_lists wx [49] o (by decide) hol
        clear hol
        have HX := Lib.hid hx
        clear hx
        go_wp2_with fail
        refine C.mono ?_; rintro e w2 ⟨rfl, hb2⟩
        have hB2 := bnxB HB.out hb2
        clear C HB hb2 p0 p1
        go_wp2
        go_roundw
        case rel => exact ⟨j + 1, by omega, by go_num, by rw [HE.out, HX.out]; rfl, hB2⟩
        case measure => simp [intOf]; omega
      | false =>
        rw [hx] at C
        have hadd : ∀ wx, (Op.stringOp .add ⟨#[48]⟩ ⟨o.toArray⟩).run Try.prog wx = .ok (.string ⟨(48 :: o).toArray⟩) wx := fun wx => run_string_add_lists wx [48] o (by decide) hol
        clear hol
        have HX := Lib.hid hx
        clear hx
        go_wp2_with fail
        refine C.mono ?_; rintro e w2 ⟨rfl, hb2⟩
        have hB2 := bnxB HB.out hb2
        clear C HB hb2 p0 p1
        go_wp2
        go_roundw
        case rel => exact ⟨j + 1, by omega, by go_num, by rw [HE.out, HX.out]; rfl, hB2⟩
        case measure => simp [intOf]; omega
    · obtain rfl : j = W := by omega
      go_wp2
      go_ret
      exact ⟨by rw [txt_eq]; rfl, bnxB hB0 hb⟩
end Go.Proofs.Ytnnoflohekmnbaa
/- The reference's Make. -/
namespace Go.Proofs.Ytnnoflohekmnbaa
open Go.RowKit
set_option maxHeartbeats 400000 in
theorem refMake_len (s : ByteArray) (w : World) (hc : s.size < 1 ∨ 128 < s.size) : Calls Try.prog 13 #[.string s] w (RetErr w 2) := by
  have hc : decide ((s.size : Int) < 1) = true ∨ (decide ((s.size : Int) < 1) = false ∧ decide ((128 : Int) < s.size) = true) := by
    by_cases h : s.size < 1
    · exact .inl (decide_eq_true (by omega))
    · exact .inr ⟨decide_eq_false (by omega), decide_eq_true (by omega)⟩
  rcases hc with d1 | ⟨d1, d2⟩
  all_goals
    go_enter Try.func13, Try.ntmps13
    go_wp2
    refine bodyPost_ret (v := .tuple #[.agg #[.int .i64 0, .slice none 0 0], .int .i64 2]) (by simp [results, Try.results13, go_sem]) rfl ⟨rfl, ?_⟩
    repeat (first | exact Below.refl _ _ | refine below_drewN ?_ _ | refine bal ?_ _)
/-- The frame of the reference's Make. -/
structure MkF (w wr : World) : Prop where
  bel : Below w.heap.size w wr
  sz : w.heap.size + 1 ≤ wr.heap.size
  fr : Duo wr w.heap.size (.int .i64 0) (.slice none 0 0)
theorem MkF.first (w : World) : MkF w (w.alloc (.cells #[.int .i64 0, .slice none 0 0] 24)) :=
  ⟨bal (Below.refl _ _) _, by simp, by refine ⟨?_, ?_, ?_, ?_⟩ <;> go_simp⟩
theorem MkF.nx {w wr w1 : World} (h : MkF w wr) (hb : Below wr.heap.size wr w1) : MkF w w1 :=
  ⟨bnxB h.bel hb, by have := hb.size; have := h.sz; omega, h.fr.below hb (by have := h.sz; omega)⟩
theorem MkF.parts {w wr : World} (h : MkF w wr) : (wr.cell? ⟨w.heap.size, 0, none⟩ = some (.int .i64 0) ∧ wr.cell? ⟨w.heap.size, 1, none⟩ = some (.slice none 0 0) ∧ wr.frozen? ⟨w.heap.size, 0, none⟩ = false ∧ wr.frozen? ⟨w.heap.size, 1, none⟩ = false) ∧ w.heap.size < wr.heap.size := ⟨h.fr, by have := h.sz; omega⟩
/-- Where the loop of the reference's Make stands: n signs are left. -/
structure MkL (w1 wr : World) (l : List UInt8) (v : Value) (n : Nat) : Prop where
  le : n ≤ l.length
  own : OwnB wr w1.heap.size v ((bitsR l).take (l.length - n))
  bel : Below w1.heap.size w1 wr
  ok : ∀ m, n ≤ m → m < l.length → l.getD m 0 = 48 ∨ l.getD m 0 = 49
set_option maxRecDepth 100000 in
set_option maxHeartbeats 2000000 in
theorem refMake_walk (s : ByteArray) (w : World) (h1 : 1 ≤ s.size) (h2 : s.size ≤ 128) :
    Calls Try.prog 13 #[.string s] w fun e w' => (mkBad s.data.toList = true ∧ RetErr w 2 e w') ∨ (mkBad s.data.toList = false ∧ RetVE w s.size (nb (bitsR s.data.toList)) e w') := by
  have d1 : decide ((s.size : Int) < 1) = false := decide_eq_false (by omega)
  have d2 : decide ((128 : Int) < s.size) = false := decide_eq_false (by omega)
  have HZ : Hid (s.data.toList.length = s.size) := by show _ = _; rw [Array.length_toList]; rfl
  have H0 := Lib.hid (MkF.first w)
  have hB0 := bal (Below.refl w.heap.size w) (.cells #[.int .i64 0, .slice none 0 0] 24)
  obtain ⟨w1, hw1⟩ : ∃ w1, Hid (w.alloc (.cells #[.int .i64 0, .slice none 0 0] 24) = w1) := ⟨_, rfl⟩
  have HF : Hid (MkF w w1) := by rw [← hw1.out]; exact H0.out
  go_enter Try.func13, Try.ntmps13
  go_wp2
  go_loopw [4, 5] (fun v t wr => ∃ (z : Int) (n : Nat), t = .int .i64 z ∧ z = (n : Int) - 1 ∧ MkL w1 wr s.data.toList v n) (fun _ t _ => (intOf t + 1).toNat)
  case atStart =>
    refine ⟨_, s.size, rfl, rfl, ⟨by rw [HZ.out]; exact Nat.le_refl _, ?_, ?_, fun m hm hm2 => by rw [HZ.out] at hm2; omega⟩⟩
    · rw [HZ.out, Nat.sub_self]; exact OwnB.nil _ _
    · rw [hw1.out]; exact Below.refl _ _
  case round =>
    obtain ⟨z, n, rfl, hz, L⟩ := hrel
    obtain ⟨⟨p1, p2, p3, p4⟩, ps⟩ := (HF.out.nx L.bel).parts
    rcases n with _ | m
    rotate_left
    · skip
      obtain rfl : z = (m : Int) := by omega
      have hm : m < s.size := by have := L.le; rw [HZ.out] at this; omega
      have hix := fun wx => str_at s m hm wx
      have hm128 : m < 128 := by omega
      have HM := Lib.hid (show m < s.data.toList.length by rw [HZ.out]; exact hm)
      have HT := Lib.hid (bitsR_at s.data.toList m HM.out)
      have HTl : Hid (((bitsR s.data.toList).take (s.data.toList.length - (m + 1))).length ≤ 128) := by show _ ≤ _; rw [List.length_take]; rw [HZ.out]; omega
      have HL := Lib.hid L
      have HO := Lib.hid L.own
      have HB := Lib.hid L.bel
      clear L hz
      generalize hv : s.data.toList.getD m 0 = v at *
      have HV := Lib.hid hv
      clear hv
      generalize (bitsR s.data.toList).take (s.data.toList.length - (m + 1)) = o at *
      by_cases c48 : v = 48
      · subst c48
        go_wp2_with (first
          | (at_builtin; refine wpB1 rfl (.tmp 33) (.tmp 38) rfl _ o rfl HO.out false rfl HB.out ?c1 ?_))
        case c1 => have := HTl.out; omega
        intro v' w3 hown' hb'
        go_wp2
        go_roundw
        case rel =>
          refine ⟨_, m, rfl, rfl, ⟨Nat.le_of_lt HM.out, ?_, hb', ?_⟩⟩
          · rw [HT.out]; exact hown'
          · intro q hq hq2
            by_cases hqm : q = m
            · subst hqm; rw [HV.out]; exact .inl rfl
            · exact HL.out.ok q (by omega) hq2
        case measure => simp [intOf]
      · by_cases c49 : v = 49
        · subst c49
          go_wp2_with (first
            | (at_builtin; refine wpB1 rfl (.tmp 33) (.tmp 38) rfl _ o rfl HO.out true rfl HB.out ?c1 ?_))
          case c1 => have := HTl.out; omega
          intro v' w3 hown' hb'
          go_wp2
          go_roundw
          case rel =>
            refine ⟨_, m, rfl, rfl, ⟨Nat.le_of_lt HM.out, ?_, hb', ?_⟩⟩
            · rw [HT.out]; exact hown'
            · intro q hq hq2
              by_cases hqm : q = m
              · subst hqm; rw [HV.out]; exact .inr rfl
              · exact HL.out.ok q (by omega) hq2
          case measure => simp [intOf]
        · have HN : Hid (mkBad s.data.toList = true) := mkBad_yes _ m HM.out (by rw [HV.out]; exact c48) (by rw [HV.out]; exact c49)
          have e48 : ((v.toNat : Int) != 48) = true := by
            rw [bne_iff_ne]; intro e; apply c48; apply UInt8.toNat_inj.1; show v.toNat = 48; omega
          have e49 : ((v.toNat : Int) != 49) = true := by
            rw [bne_iff_ne]; intro e; apply c49; apply UInt8.toNat_inj.1; show v.toNat = 49; omega
          have hF := HF.out.nx HB.out
          clear c48 c49
          go_wp2
          refine bodyPost_ret (v := .tuple #[.agg #[.int .i64 0, .slice none 0 0], .int .i64 2]) (by simp [results, Try.results13, go_sem, *]) rfl (Or.inl ⟨HN.out, rfl, ?_⟩)
          exact (hF.bel.setCell (by simp) _).setCell (by simp) _
    · skip
      obtain rfl : z = -1 := by omega
      have HN : Hid (mkBad s.data.toList = false) := mkBad_none _ (fun i hi => L.ok i (Nat.zero_le _) hi)
      have hF1 := Lib.hid (HF.out.nx L.bel)
      have ho := L.own
      rw [Nat.sub_zero, List.take_of_length_le (by rw [bitsR_len]; exact Nat.le_refl _)] at ho
      have hl : (bitsR s.data.toList).length = s.size := by rw [bitsR_len, HZ.out]
      obtain ⟨A1, c1, rfl, hr, _⟩ := ho.val
      have C2 := refOf_l A1 c1 s.size (bitsR s.data.toList) wr hr hl h1 h2
      rw [hl]
      clear L ho hr hz
      go_wp2_with fail
      refine C2.mono ?_
      rintro e w4 ⟨ad4, c4, rfl, hv4, hf4, hb4⟩
      have hF4 := hF1.out.nx hb4
      clear p1 p2 p3 p4 C2
      obtain ⟨⟨p1, p2, p3, p4⟩, pz⟩ := hF4.parts
      go_wp2
      refine bodyPost_ret (v := .tuple #[.agg #[.int .i64 (s.size : Int), .slice (some ad4) (lm s.size) c4], .int .i64 0]) (by simp [results, Try.results13, go_sem, *]) rfl (Or.inr ⟨HN.out, ?_⟩)
      exact RetVE.mk (W := s.size) hv4 hF4.bel (Nat.le_refl _) (by have := hF1.out.sz; omega)
/-- Make tells what the reference's Make tells. -/
theorem make_both (s : ByteArray) : ∃ (R : Option (Nat × Nat)) (x : Int), (∀ w, Calls Try.prog 12 #[.string s] w (RetR w R x)) ∧ ∀ w, Calls Try.prog 13 #[.string s] w (RetR w R x) := by
  by_cases hs : s.size < 1 ∨ 128 < s.size
  · exact ⟨none, 2, fun w => (Make_len s w hs).mono fun e w' h => h.r, fun w => (refMake_len s w hs).mono fun e w' h => h.r⟩
  · have h1 : 1 ≤ s.size := by omega
    have h2 : s.size ≤ 128 := by omega
    cases hb : mkBad s.data.toList with
    | true =>
      refine ⟨none, 2, fun w => (Make_bad s w h1 h2 hb).mono fun e w' h => h.r, fun w => (refMake_walk s w h1 h2).mono fun e w' h => ?_⟩
      rcases h with ⟨_, h⟩ | ⟨h, _⟩
      · exact h.r
      · rw [hb] at h; cases h
    | false =>
      have e : mkR 0 s.data.toList % 2 ^ s.size = nb (bitsR s.data.toList) := by
        have := mkR_nb s.data.toList
        rwa [show s.data.toList.length = s.size by rw [Array.length_toList]; rfl] at this
      refine ⟨some (s.size, nb (bitsR s.data.toList)), 0, fun w => (Make_ok s w h1 h2 hb).mono fun e' w' h => (e ▸ h).r, fun w => (refMake_walk s w h1 h2).mono fun e w' h => ?_⟩
      rcases h with ⟨h, _⟩ | ⟨_, h⟩
      · rw [hb] at h; cases h
      · exact h.r
end Go.Proofs.Ytnnoflohekmnbaa
