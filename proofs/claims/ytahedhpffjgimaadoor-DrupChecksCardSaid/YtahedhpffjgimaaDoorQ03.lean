/-
  strings.Builder over the translated program: what is written is kept.
  cnf.tell over the translated program: the text of a row of literals.
  cnf.Print over the translated program.
-/
import Derived.Test.YtahedhpffjgimaaDoorProg
import Derived.WalkKit
import Derived.WalkSpells
import Derived.WalkLawsBesides
import Derived.Lib.Hide
import Derived.BigQuiet
import Derived.Deep.QuietTactic
import Derived.Deep.RegionWith
import Derived.Deep.RegionHeld3
import Derived.Test.YtahedhpffjgimaaDoorQ02
import Derived.Laws.Externs
import Derived.Lib.Builder
import Derived.Lib.AppendStr
import Derived.Lib.UnsafeStr
import Derived.Lib.Walk
import Derived.Lib.Slices
import Derived.WalkSmall
import Derived.Lib.ItoaLen
import Derived.Deep.DeepCutAuto
set_option linter.unusedVariables false
/- strings.Builder over the translated program: what is written is kept. -/
namespace Go.Proofs.YtahedhpffjgimaaDoor
open Go.RowKit
set_option maxHeartbeats 1000000 in
set_option maxRecDepth 100000 in
theorem copyCheck_used (b : Nat) (w : World) (h0 : w.cell? ⟨b, 0, none⟩ = some (.pointer (some ⟨b, 0, none⟩))) :
    Calls Tryd.prog 70 #[.pointer (some ⟨b, 0, none⟩)] w (RetS w (.tuple #[])) := by
  obtain ⟨j, hj, hjs⟩ := Option.map_eq_some_iff.1 Tryd.Builder_Extra_169.sizeBuilder
  go_enter Tryd.func70, Tryd.ntmps70
  go_wp2
  rw [Lib.run_neq_ptr_same w _ Tryd.underlying84 hj]
  go_wp2
  go_end0
  exact ⟨rfl, rfl⟩
set_option maxHeartbeats 1000000 in
set_option maxRecDepth 100000 in
theorem copyCheck_fresh (b : Nat) (w : World) (h0 : w.cell? ⟨b, 0, none⟩ = some (.pointer none)) (hsh : w.shape? b = some (86, 2)) (hfz : w.frozen? ⟨b, 0, none⟩ = false) :
    Calls Tryd.prog 70 #[.pointer (some ⟨b, 0, none⟩)] w (RetS (w.setCell ⟨b, 0, none⟩ (.pointer (some ⟨b, 0, none⟩))) (.tuple #[])) := by
  obtain ⟨j, hj, hjs⟩ := Option.map_eq_some_iff.1 Tryd.Builder_Extra_169.sizeBuilder
  go_enter Tryd.func70, Tryd.ntmps70
  go_wp2
  rw [Lib.run_to_unsafe w ⟨b, 0, none⟩ Tryd.underlying84 Tryd.underlying134 hj (by rw [hjs]; decide) hsh (Nat.zero_lt_succ 1)]
  simp only [Result.andThen]
  rw [Oper.upon_value]
  go_wp2
  rw [run_callFunc_extern Tryd.func84 (by kernel_rfl) (by kernel_rfl) (by kernel_rfl) (e := Extern.AbiNoEscape.same) (by kernel_rfl)]
  rw [Lib.run_noEscape]
  simp only [Result.andThen]
  rw [Oper.upon_value]
  go_wp2
  rw [Lib.run_from_unsafe w ⟨b, 0, none⟩ Tryd.underlying134 Tryd.underlying84 hj hsh Tryd.Builder_Extra_169.liesBuilder]
  simp only [Result.andThen]
  rw [Oper.upon_value]
  go_wp2
  go_end0
  exact ⟨rfl, rfl⟩
/-- A builder at b, of the blocks from B on, holds the bytes l. -/
structure Bd (w : World) (B b : Nat) (l : List UInt8) : Prop where
  is : Lib.IsBuilder 86 5 B b (Lib.byteCells l) w
  sz : B ≤ w.heap.size
theorem BAt.nx {w w' : World} {B b : Nat} {p : Value} {bs : List Value} (h : Lib.BuilderAt 86 5 B b p bs w) (hb : Below w.heap.size w w') : Lib.BuilderAt 86 5 B b p bs w' := by
  obtain ⟨h1, v, h2, h3, h4⟩ := h
  have hlt : b < w.heap.size := by
    rcases Nat.lt_or_ge b w.heap.size with h' | h'
    · exact h'
    · simp [Array.getElem?_eq_none h'] at h2
  refine ⟨h1, v, (hb.block b hlt).trans h2, World.ownsRow.kept h3 (row := none) ⟨hb.os, hb.tape, hb.output, hb.size, fun k hk _ => hb.block k hk⟩ ?_, h4⟩
  cases hv : v.ownBlock with
  | none => exact .inl rfl
  | some k => exact .inr (by simp)
theorem Bd.nx {w w' : World} {B b : Nat} {l : List UInt8} (h : Bd w B b l) (hb : Below w.heap.size w w') : Bd w' B b l :=
  ⟨h.is.elim (fun x => .inl (BAt.nx x hb)) (fun x => .inr (BAt.nx x hb)), by have := h.sz; have := hb.size; omega⟩
theorem Bd.new (w : World) : Bd (w.alloc (.cells #[.pointer none, .slice none 0 0] 86)) w.heap.size w.heap.size [] := by
  refine ⟨.inl ⟨Nat.le_refl _, _, (MapKept.heap_alloc w (.cells #[.pointer none, .slice none 0 0] 86)).1, World.ownsRow_nil _ _ _ _, by simp [Value.ownBlock]⟩, by simp⟩
theorem copyCheck_any (B b : Nat) (bs : List Value) (w : World) (h : Lib.IsBuilder 86 5 B b bs w) :
    Calls Tryd.prog 70 #[.pointer (some ⟨b, 0, none⟩)] w fun e w' => e = .returned (.tuple #[]) ∧ Lib.BuilderAt 86 5 B b (.pointer (some ⟨b, 0, none⟩)) bs w' ∧ Below B w w' := by
  rcases h with h | h
  · refine (copyCheck_fresh b w h.cell0 h.shape h.frozen0).mono ?_
    rintro e w' ⟨rfl, rfl⟩
    exact ⟨rfl, h.used _, (Below.refl B w).setCell (p := ⟨b, 0, none⟩) h.1 _⟩
  · refine (copyCheck_used b w h.cell0).mono ?_
    rintro e w' ⟨rfl, rfl⟩
    exact ⟨rfl, h, Below.refl B _⟩
theorem u8_info : (Tryd.prog.info? 5).map (fun i => (i.zero, i.size, i.bytes)) = some (some (.int .u8 0), 1, 1) := by kernel_rfl
/-- What WriteString leaves. -/
def RetW (w0 : World) (B b : Nat) (l : List UInt8) (n : Nat) (e : Ending) (w' : World) : Prop := e = .returned (.tuple #[.int .i64 n, .nilIface]) ∧ Bd w' B b l ∧ Below B w0 w'
set_option maxHeartbeats 1000000 in
set_option maxRecDepth 100000 in
theorem Write_any (B b : Nat) (l : List UInt8) (s : ByteArray) (w : World) (h : Bd w B b l) (hlen : l.length + s.size ≤ 1099511627776) :
    Calls Tryd.prog 48 #[.pointer (some ⟨b, 0, none⟩), .string s] w (RetW w B b (l ++ s.data.toList) s.size) := by
  obtain ⟨i0, hi, hz0, hz1, hz2⟩ := info_parts u8_info
  have hBw := h.sz
  have C := copyCheck_any B b _ w h.is
  have hcl : (Lib.byteCells l).length = l.length := Lib.byteCells_length l
  have hl2 : (Lib.byteCells l).length + s.size ≤ 1099511627776 := by rw [hcl]; exact hlen
  have HF : Hid (Lib.byteCells (l ++ s.data.toList) = Lib.byteCells l ++ Lib.strCells s) := by show _ = _; rw [Lib.byteCells_append, Lib.strCells_eq]
  generalize Lib.byteCells l = bs at *
  clear h hcl
  go_enter Tryd.func48, Tryd.ntmps48
  go_wp2_with fail
  refine C.mono ?_
  rintro e w1 ⟨rfl, h1, hb1⟩
  obtain ⟨hB, v, hbk, hown, hne⟩ := h1
  have c0 : w1.cell? ⟨b, 0, none⟩ = some (.pointer (some ⟨b, 0, none⟩)) := by rw [Lib.cell_of_heap hbk]; rfl
  have c1 : w1.cell? ⟨b, 1, none⟩ = some v := by rw [Lib.cell_of_heap hbk]; rfl
  go_wp2_with (at_builtin; refine Lib.wpList_append_own_string _ rfl _ _ 35 9 rfl B 5 i0 Tryd.underlying35 Tryd.underlying9 hi hz0 hz1 hz2 _ _ _ rfl hown s rfl ?c3 ?c4 ?c5 ?_)
  case c3 => unfold maxLen; omega
  case c4 => omega
  case c5 => have := hb1.size; omega
  intro v' w2 hown' hgrow _
  have hlt : b < w1.heap.size := by
    rcases Nat.lt_or_ge b w1.heap.size with h' | h'
    · exact h'
    · simp [Array.getElem?_eq_none h'] at hbk
  have hb2 : w2.heap[b]? = some (.cells #[.pointer (some ⟨b, 0, none⟩), v] 86 (0, 0)) := by
    rw [hgrow.block b hlt (fun e => hne e.symm)]
    exact hbk
  have d0 : w2.cell? ⟨b, 0, none⟩ = some (.pointer (some ⟨b, 0, none⟩)) := by rw [Lib.cell_of_heap hb2]; rfl
  have d1 : w2.cell? ⟨b, 1, none⟩ = some v := by rw [Lib.cell_of_heap hb2]; rfl
  have f1 : w2.frozen? ⟨b, 1, none⟩ = false := Lib.frozen_of_heap hb2 1
  obtain ⟨ao, n', cap, rfl⟩ : ∃ ao n' cap, v' = .slice ao n' cap := by
    rcases hown'.2 with ⟨hv, _⟩ | ⟨g, cap, cur, hv, _⟩
    · exact ⟨_, _, _, hv⟩
    · exact ⟨_, _, _, hv⟩
  go_wp2
  go_ret2
  refine ⟨rfl, ⟨.inr ?_, ?_⟩, ?_⟩
  · rw [HF.out]
    exact Lib.BuilderAt.put (T := 86) (e := 5) hB hb2 (bs' := bs ++ Lib.strCells s) (by simpa [Lib.strCells_length] using hown') (by decide)
  · have := hb1.size; have := hgrow.size; simp; omega
  · exact (hb1.grown hgrow (by have := hb1.size; omega) (fun k hk => (hown.lt k hk).1)).setCell (p := ⟨b, 1, none⟩) hB _
theorem String_any (B b : Nat) (l : List UInt8) (w : World) (h : Bd w B b l) :
    Calls Tryd.prog 50 #[.pointer (some ⟨b, 0, none⟩)] w fun e w' => e = .returned (.string ⟨l.toArray⟩) ∧ Below B w w' := Tryd.Builder_String_any B b l w h.is h.sz
/-- The table of powers of ten, as the program's text lays it, in a block below B. -/
def Pow (B : Nat) (w : World) : Prop := Lib.TabIs Tryd.prog w "internal/strconv.uint64pow10" .u64 Lib.pow10Tab ∧ ∃ g, Tryd.prog.globalNamed "internal/strconv.uint64pow10" = some g ∧ g < B
theorem Pow.below {B : Nat} {w w' : World} (h : Pow B w) (hb : Below B w w') : Pow B w' := by
  obtain ⟨h1, g, hg, hB⟩ := h
  exact ⟨var?_below hb hg hB h1, g, hg, hB⟩
theorem Pow.mono {B B' : Nat} {w : World} (h : Pow B w) (hb : B ≤ B') : Pow B' w := by
  obtain ⟨h1, g, hg, hB⟩ := h
  exact ⟨h1, g, hg, by omega⟩
theorem Pow.nx {w w' : World} (h : Pow w.heap.size w) (hb : Below w.heap.size w w') : Pow w'.heap.size w' := (h.below hb).mono hb.size
theorem below_gr (w : World) (q : Nat) (os : Array Obj) : Below w.heap.size w (Sort.grow (w.drewN q) os) :=
  ⟨rfl, rfl, rfl, by simp [Sort.grow, World.drewN], fun k hk => by
    show (w.heap ++ os)[k]? = w.heap[k]?
    rw [Array.getElem?_append_left hk]⟩
theorem Itoa_any (n : Int) (h0 : -9223372036854775808 ≤ n) (h1 : n ≤ 9223372036854775807) (B : Nat) (w : World) (h : Pow B w) :
    Calls Tryd.prog 56 #[.int .i64 n] w (RetV w (.string ⟨(Lib.itoa n).toArray⟩)) :=
  (Tryd.strconv_Itoa n h0 h1 w h.1).mono fun e w' ⟨he, k, os, hw⟩ => ⟨he, by rw [hw]; exact below_gr w k os⟩
end Go.Proofs.YtahedhpffjgimaaDoor
/- cnf.tell over the translated program: the text of a row of literals. -/
namespace Go.Proofs.YtahedhpffjgimaaDoor
open Go.RowKit
/-- The text of one literal, and of a row of them with what ends it. -/
def litS (x : Int) : List UInt8 := Lib.itoa x ++ [32]
def litsS (c : List Int) : List UInt8 := c.flatMap litS
def tellS (c : List Int) : List UInt8 := litsS c ++ [48, 10]
theorem litS_len (x : Int) (h0 : -9223372036854775808 ≤ x) (h1 : x ≤ 9223372036854775807) : (litS x).length ≤ 22 := by
  have := Lib.itoa_length_le x h0 h1
  simp only [litS, List.length_append, List.length_cons, List.length_nil]; omega
theorem litsS_len : ∀ (c : List Int), (∀ x ∈ c, -9223372036854775808 ≤ x ∧ x ≤ 9223372036854775807) → (litsS c).length ≤ 22 * c.length
  | [], _ => by simp [litsS]
  | x :: c, h => by
    have h1 := litS_len x (h x (by simp)).1 (h x (by simp)).2
    have h2 := litsS_len c (fun y hy => h y (by simp [hy]))
    simp only [litsS, List.flatMap_cons, List.length_append, List.length_cons] at *; omega
theorem litsS_snoc (c : List Int) (x : Int) : litsS (c ++ [x]) = litsS c ++ litS x := by simp [litsS]
theorem takeI (l : List Int) (i : Nat) (h : i < l.length) : l.take (i + 1) = l.take i ++ [l.getD i 0] := by
  rw [List.take_succ_eq_append_getElem h]; simp [List.getD, h]
/-- What a call that writes leaves. -/
def RetT (w0 : World) (B b : Nat) (l : List UInt8) (e : Ending) (w' : World) : Prop := e = .returned (.tuple #[]) ∧ Bd w' B b l ∧ Below B w0 w'
theorem btr {B : Nat} {w w1 w2 : World} (h : Below B w w1) (hb : Below w1.heap.size w1 w2) (hs : B ≤ w1.heap.size) : Below B w w2 := h.trans (hb.mono hs)
set_option maxHeartbeats 1000000 in
theorem tell_any (B b : Nat) (l : List UInt8) (A : Option Addr) (c : Nat) (lits : List Int) (w : World) (h : Bd w B b l) (hr : RI w B A lits) (hP : Pow B w) (hx : ∀ x ∈ lits, -9223372036854775808 ≤ x ∧ x ≤ 9223372036854775807) (hl : l.length ≤ 1000000000) (hc : lits.length ≤ 1000000) :
    Calls Tryd.prog 49 #[.pointer (some ⟨b, 0, none⟩), .slice A lits.length c] w (RetT w B b (l ++ tellS lits)) := by
  have HX := Lib.hid hx
  have HR := Lib.hid hr
  have HP := Lib.hid hP
  have HL := Lib.hid hl
  clear hx hr hP hl
  go_enter Tryd.func49, Tryd.ntmps49
  go_wp2
  go_loopw [8] (fun i wr => ∃ j : Nat, j ≤ lits.length ∧ i = .int .i64 j ∧ Bd wr B b (l ++ litsS (lits.take j)) ∧ Below B w wr) (fun i _ => lits.length - (intOf i).toNat)
  case atStart => exact ⟨0, Nat.zero_le _, rfl, by simpa [litsS] using h, Below.refl _ _⟩
  case round =>
    obtain ⟨j, hj, rfl, hbd, hB⟩ := hrel
    have hlen := litsS_len (lits.take j) (fun x hx => HX.out x (List.mem_of_mem_take hx))
    rw [List.length_take] at hlen
    have hll := HL.out
    have hsz := hbd.sz
    by_cases hlt : j < lits.length
    · obtain ⟨ad, rfl, hbk, hcell⟩ := (HR.out.below hB) j hlt
      have htk := takeI lits j hlt
      obtain ⟨x0, x1⟩ := HX.out (lits.getD j 0) (by simp [List.getD_eq_getElem?_getD, hlt])
      generalize lits.getD j 0 = x at *
      have hil := Lib.itoa_length_le x x0 x1
      have C := Itoa_any x x0 x1 B wr (HP.out.below hB)
      have HE : Hid (l ++ litsS (lits.take (j + 1)) = (l ++ litsS (lits.take j)) ++ Lib.itoa x ++ [32]) := by show _ = _; rw [htk, litsS_snoc]; simp [litS]
      have hm : (l ++ litsS (lits.take j)).length ≤ 2000000000 := by rw [List.length_append]; omega
      generalize l ++ litsS (lits.take j) = m at *
      have HB := Lib.hid hB
      have HD := Lib.hid hbd
      clear hB hbd htk hlen h
      go_wp2_with fail
      refine C.mono ?_; rintro e w1 ⟨rfl, hb1⟩
      have hD1 := HD.out.nx hb1
      have hB1 := btr HB.out hb1 hsz
      have C2 := Write_any B b m ⟨(Lib.itoa x).toArray⟩ w1 hD1 (by show _ + (Lib.itoa x).toArray.size ≤ _; rw [List.size_toArray]; omega)
      clear C HD HB hb1
      have HB1 := Lib.hid hB1
      have hs1 := hD1.sz
      clear hB1 hD1
      go_wp2_with fail
      refine C2.mono ?_; rintro e w2 ⟨rfl, hD2, hb2⟩
      have hB2 := HB1.out.trans hb2
      have hm2 : (m ++ (Lib.itoa x).toArray.toList).length + (⟨#[32]⟩ : ByteArray).size ≤ 1099511627776 := by
        rw [List.length_append, show (⟨#[32]⟩ : ByteArray).size = 1 from rfl]; simp; omega
      have C3 := Write_any B b (m ++ (Lib.itoa x).toArray.toList) ⟨#[32]⟩ w2 hD2 hm2
      clear C2 HB1 hb2 hm2 hD2
      have HB2 := Lib.hid hB2
      clear hB2
      go_wp2_with fail
      refine C3.mono ?_; rintro e w3 ⟨rfl, hD3, hb3⟩
      have hB3 := HB2.out.trans hb3
      clear C3 HB2 hb3
      go_wp2
      go_roundw
      case rel => exact ⟨j + 1, by omega, by go_num, by rw [HE.out]; simpa using hD3, hB3⟩
      case measure => simp [intOf]; omega
    · obtain rfl : j = lits.length := by omega
      rw [List.take_length] at hbd hlen
      have C := Write_any B b (l ++ litsS lits) ⟨#[48, 10]⟩ wr hbd (by rw [List.length_append, show (⟨#[48, 10]⟩ : ByteArray).size = 2 from rfl]; omega)
      have HE : Hid (l ++ tellS lits = (l ++ litsS lits) ++ [48, 10]) := by show _ = _; simp [tellS]
      generalize l ++ litsS lits = m at *
      have HB := Lib.hid hB
      clear hB hbd h hlen
      go_wp2_with fail
      refine C.mono ?_; rintro e w1 ⟨rfl, hD1, hb1⟩
      have hB1 := HB.out.trans hb1
      clear C HB hb1
      go_wp2
      go_end0
      exact ⟨rfl, by rw [HE.out]; exact hD1, hB1⟩
end Go.Proofs.YtahedhpffjgimaaDoor
/- cnf.Print over the translated program. -/
namespace Go.Proofs.YtahedhpffjgimaaDoor
open Go.RowKit
/-- A formula's text. -/
def headS (N n : Int) : List UInt8 := [112, 32, 99, 110, 102, 32] ++ Lib.itoa N ++ [32] ++ Lib.itoa n ++ [10]
def bodyS (L : List (List Int)) : List UInt8 := L.flatMap tellS
def printS (N : Int) (L : List (List Int)) : List UInt8 := headS N L.length ++ bodyS L
theorem right_parts {N : Int} {L : List (List Int)} (h : rightF N L = true) : 0 ≤ N ∧ N ≤ 100000 ∧ L.length ≤ 20000 ∧ ∀ c ∈ L, c.length ≤ 1000 ∧ ∀ x ∈ c, x ≠ 0 ∧ -N ≤ x ∧ x ≤ N := by
  simp only [rightF, Bool.and_eq_true, decide_eq_true_eq, List.all_eq_true] at h
  obtain ⟨⟨⟨h1, h2⟩, h3⟩, h4⟩ := h
  refine ⟨h1, h2, h3, fun c hc => ?_⟩
  have := h4 c hc
  simp only [rightC, Bool.and_eq_true, decide_eq_true_eq, Bool.not_eq_true', List.any_eq_false] at this
  refine ⟨this.1, fun x hx => ?_⟩
  have h5 := this.2 x hx
  simp only [badL, Bool.or_eq_true, beq_iff_eq, decide_eq_true_eq, not_or] at h5
  omega
theorem takeC (l : List (List Int)) (i : Nat) (h : i < l.length) : l.take (i + 1) = l.take i ++ [l.getD i []] := by
  rw [List.take_succ_eq_append_getElem h]; simp [List.getD, h]
theorem bodyS_snoc (L : List (List Int)) (c : List Int) : bodyS (L ++ [c]) = bodyS L ++ tellS c := by simp [bodyS]
theorem bodyS_len : ∀ (L : List (List Int)), (∀ c ∈ L, c.length ≤ 1000 ∧ ∀ x ∈ c, -9223372036854775808 ≤ x ∧ x ≤ 9223372036854775807) → (bodyS L).length ≤ 22002 * L.length
  | [], _ => by simp [bodyS]
  | c :: L, h => by
    have h1 := litsS_len c (h c (by simp)).2
    have h3 := (h c (by simp)).1
    have h2 := bodyS_len L (fun y hy => h y (by simp [hy]))
    simp only [bodyS, List.flatMap_cons, List.length_append, List.length_cons, tellS, List.length_nil] at *; omega
set_option maxHeartbeats 1000000 in
theorem Print_no (A : Option Addr) (c : Nat) (N : Int) (L : List (List Int)) (w : World) (h : RC w w.heap.size A L) (hn : L.length ≤ maxLen) (hr : rightF N L = false) :
    Calls Tryd.prog 31 #[.agg #[.int .i64 N, .slice A L.length c]] w (RetV w (.tuple #[.string ⟨#[]⟩, .int .i64 1])) := by
  have hb := bal (Below.refl w.heap.size w) (.cells #[.int .i64 N, .slice A L.length c] 24)
  have C := Right_any A c N L _ (h.nx hb) hn
  rw [hr] at C
  have HB := Lib.hid hb
  clear h hb hr
  go_enter Tryd.func31, Tryd.ntmps31
  go_wp2_with fail
  refine C.mono ?_; rintro e w1 ⟨rfl, hb1⟩
  go_wp2
  go_ret2
  exact ⟨rfl, bnx HB.out hb1⟩
set_option maxHeartbeats 2000000 in
theorem Print_yes (A : Option Addr) (c : Nat) (N : Int) (L : List (List Int)) (w : World) (h : RC w w.heap.size A L) (hP : Pow w.heap.size w) (hr : rightF N L = true) :
    Calls Tryd.prog 31 #[.agg #[.int .i64 N, .slice A L.length c]] w (RetV w (.tuple #[.string ⟨(printS N L).toArray⟩, .int .i64 0])) := by
  have hn : L.length ≤ maxLen := by simp [rightF] at hr; unfold maxLen; omega
  have hb := bal (Below.refl w.heap.size w) (.cells #[.int .i64 N, .slice A L.length c] 24)
  have C := Right_any A c N L _ (h.nx hb) hn
  rw [hr] at C
  obtain ⟨cc0, cc1⟩ := box_cells w (.int .i64 N) (.slice A L.length c) 24
  have hs0 : w.heap.size < (w.alloc (.cells #[.int .i64 N, .slice A L.length c] 24)).heap.size := by simp
  have HB := Lib.hid hb
  have HR := Lib.hid h
  have HP := Lib.hid hP
  have Hr := Lib.hid hr
  clear h hb hr hP
  generalize hwb : w.alloc (.cells #[.int .i64 N, .slice A L.length c] 24) = wb at *
  have HWB := Lib.hid hwb
  clear hwb
  go_enter Tryd.func31, Tryd.ntmps31
  go_wp2_with fail
  rw [HWB.out]
  refine C.mono ?_; rintro e w1 ⟨rfl, hb1⟩
  have hB1 := bnx HB.out hb1
  have p0 := (hb1.cell (p := ⟨w.heap.size, 0, none⟩) hs0).trans cc0
  have p1 := (hb1.cell (p := ⟨w.heap.size, 1, none⟩) hs0).trans cc1
  have ps : w.heap.size < w1.heap.size := by have := hb1.size; omega
  clear C hb1 HB cc0 cc1 hs0
  go_wp2_with fail
  have hD0 := Bd.new w1
  have hA0 := bal (Below.refl w1.heap.size w1) (.cells #[.pointer none, .slice none 0 0] 86)
  have q0 := (hA0.cell (p := ⟨w.heap.size, 0, none⟩) ps).trans p0
  have q1 := (hA0.cell (p := ⟨w.heap.size, 1, none⟩) ps).trans p1
  generalize hw2 : w1.alloc (.cells #[.pointer none, .slice none 0 0] 86) = w2 at *
  have HW2 := Lib.hid hw2
  clear hw2 p0 p1
  obtain ⟨hN0, hN1, hL, hLits⟩ := right_parts Hr.out
  have HLits := Lib.hid hLits
  clear hLits
  obtain ⟨sN, hsN⟩ : ∃ s : ByteArray, s = ⟨(Lib.itoa N).toArray⟩ := ⟨_, rfl⟩
  obtain ⟨sL, hsL⟩ : ∃ s : ByteArray, s = ⟨(Lib.itoa (L.length : Int)).toArray⟩ := ⟨_, rfl⟩
  have zN : sN.size ≤ 21 := by rw [hsN]; show (Lib.itoa N).toArray.size ≤ _; rw [List.size_toArray]; exact Lib.itoa_length_le N (by omega) (by omega)
  have zL : sL.size ≤ 21 := by rw [hsL]; show (Lib.itoa (L.length : Int)).toArray.size ≤ _; rw [List.size_toArray]; exact Lib.itoa_length_le _ (by omega) (by omega)
  have CI := Lib.hid (fun (x : Int) (h0 : 0 ≤ x) (h1 : x ≤ 100000) (wx : World) (hx : Pow w.heap.size wx) => Itoa_any x (by omega) (by omega) w.heap.size wx hx)
  have CN : Hid (∀ wx, Pow w.heap.size wx → Calls Tryd.prog 56 #[.int .i64 N] wx (RetV wx (.string sN))) := by intro wx hx; rw [hsN]; exact CI.out N hN0 hN1 wx hx
  have CL : Hid (∀ wx, Pow w.heap.size wx → Calls Tryd.prog 56 #[.int .i64 (L.length : Int)] wx (RetV wx (.string sL))) := by intro wx hx; rw [hsL]; exact CI.out L.length (by omega) (by omega) wx hx
  have HS : Hid (headS N L.length = (⟨#[112, 32, 99, 110, 102, 32]⟩ ++ sN ++ ⟨#[32]⟩ ++ sL ++ ⟨#[10]⟩ : ByteArray).data.toList) := by
    show _ = _
    rw [hsN, hsL]; simp [headS]
  clear CI hsN hsL
  have CW : Hid (∀ wx, Bd wx w1.heap.size w1.heap.size [] → Calls Tryd.prog 48 #[.pointer (some ⟨w1.heap.size, 0, none⟩), .string (⟨#[112, 32, 99, 110, 102, 32]⟩ ++ sN ++ ⟨#[32]⟩ ++ sL ++ ⟨#[10]⟩)] wx (RetW wx w1.heap.size w1.heap.size (headS N L.length) (⟨#[112, 32, 99, 110, 102, 32]⟩ ++ sN ++ ⟨#[32]⟩ ++ sL ++ ⟨#[10]⟩ : ByteArray).size)) := by
    intro wx hx
    have hz : ([] : List UInt8).length + (⟨#[112, 32, 99, 110, 102, 32]⟩ ++ sN ++ ⟨#[32]⟩ ++ sL ++ ⟨#[10]⟩ : ByteArray).size ≤ 1099511627776 := by
      simp only [ByteArray.size_append, List.length_nil, show (⟨#[112, 32, 99, 110, 102, 32]⟩ : ByteArray).size = 6 from rfl, show (⟨#[32]⟩ : ByteArray).size = 1 from rfl, show (⟨#[10]⟩ : ByteArray).size = 1 from rfl]
      omega
    have := Write_any w1.heap.size w1.heap.size [] _ wx hx hz
    rw [← HS.out] at this
    exact this
  have z1 : ¬ 9223372036854775807 < 6 + sN.size := by omega
  have z2 : ¬ 9223372036854775807 < 6 + sN.size + 1 := by omega
  have z3 : ¬ 9223372036854775807 < 6 + sN.size + 1 + sL.size := by omega
  have z4 : ¬ 9223372036854775807 < 6 + sN.size + 1 + sL.size + 1 := by omega
  have y1 : ¬ 9223372036854775807 < (⟨#[112, 32, 99, 110, 102, 32]⟩ : ByteArray).size + sN.size := by show ¬ _ < 6 + _; omega
  have hU0 := (Below.refl w2.heap.size w2).drew
  have K0 : w2.drew.cell? ⟨w.heap.size, 0, none⟩ = some (.int .i64 N) ∧ w2.drew.cell? ⟨w.heap.size, 1, none⟩ = some (.slice A L.length c) := ⟨q0, q1⟩
  have hB2 := bnx hB1 hA0
  have ps2 : w.heap.size < w2.heap.size := by have := hA0.size; omega
  have P0 := HP.out.below (bnx hB2 hU0)
  have D0 := hD0.nx hU0
  clear q0 q1
  go_cut [21] (fun s21 wx => Bd wx w1.heap.size w1.heap.size (headS N L.length) ∧ Below w1.heap.size w1 wx)
  case first =>
    go_region_held3 (fun w' => w'.cell? ⟨w.heap.size, 0, none⟩ = some (.int .i64 N) ∧ w'.cell? ⟨w.heap.size, 1, none⟩ = some (.slice A L.length c))
      (first | exact K0 | exact K1 | exact K2 | exact K3)
      (first
        | (go_at_call 56; ((with_reducible refine (CN.out _ P0).mono ?_); rintro e u1 ⟨rfl, hu1⟩; have D1 := D0.nx hu1; have P1 := P0.below (hu1.mono (Nat.le_of_lt ps2)); have s1 : w.heap.size < u1.heap.size := Nat.lt_of_lt_of_le ps2 hu1.size; have K1 := And.intro ((hu1.cell (p := ⟨w.heap.size, 0, none⟩) ps2).trans K0.1) ((hu1.cell (p := ⟨w.heap.size, 1, none⟩) ps2).trans K0.2)))
        | (go_at_call 56; ((with_reducible refine (CL.out _ P1).mono ?_); rintro e u2 ⟨rfl, hu2⟩; have D2 := D1.nx hu2; have K2 := And.intro ((hu2.cell (p := ⟨w.heap.size, 0, none⟩) s1).trans K1.1) ((hu2.cell (p := ⟨w.heap.size, 1, none⟩) s1).trans K1.2)))
        | (go_at_call 48; ((with_reducible refine (CW.out _ D2).mono ?_); rintro e u3 ⟨rfl, D3, hu3⟩; have K3 := And.intro ((hu3.cell (p := ⟨w.heap.size, 0, none⟩) ps).trans K2.1) ((hu3.cell (p := ⟨w.heap.size, 1, none⟩) ps).trans K2.2))))
    all_goals (go_wp2_with fail; go_meet; exact ⟨D3, hA0.drew.trans ((hu1.mono (Nat.le_trans hA0.size (Nat.le_refl _))).trans ((hu2.mono (Nat.le_trans hA0.size hu1.size)).trans hu3))⟩)
  case rest =>
    obtain ⟨hD, hb⟩ := hcut
    have hB := hB1.trans (hb.mono (Nat.le_of_lt ps))
    have r0 := (hb.cell (p := ⟨w.heap.size, 0, none⟩) ps).trans ((hA0.cell (p := ⟨w.heap.size, 0, none⟩) ps).symm.trans K0.1)
    have r1 := (hb.cell (p := ⟨w.heap.size, 1, none⟩) ps).trans ((hA0.cell (p := ⟨w.heap.size, 1, none⟩) ps).symm.trans K0.2)
    have hz : (headS N L.length).length ≤ 100 := by
      rw [HS.out]; show (⟨#[112, 32, 99, 110, 102, 32]⟩ ++ sN ++ ⟨#[32]⟩ ++ sL ++ ⟨#[10]⟩ : ByteArray).data.toList.length ≤ 100
      rw [Array.length_toList]
      show (⟨#[112, 32, 99, 110, 102, 32]⟩ ++ sN ++ ⟨#[32]⟩ ++ sL ++ ⟨#[10]⟩ : ByteArray).size ≤ 100
      simp only [ByteArray.size_append, show (⟨#[112, 32, 99, 110, 102, 32]⟩ : ByteArray).size = 6 from rfl, show (⟨#[32]⟩ : ByteArray).size = 1 from rfl, show (⟨#[10]⟩ : ByteArray).size = 1 from rfl]
      omega
    clear HS CW CN CL D0 P0 K0 hU0 z1 z2 z3 z4 y1 zN zL hD0 hA0 HW2 ps2 hB2
    have HZ := Lib.hid hz
    clear hz hB
    go_wp2
    go_loopw [25] (fun i wr => ∃ j : Nat, j ≤ L.length ∧ i = .int .i64 j ∧ Bd wr w1.heap.size w1.heap.size (headS N L.length ++ bodyS (L.take j)) ∧ Below w1.heap.size w1 wr) (fun i _ => L.length - (intOf i).toNat)
    case atStart => exact ⟨0, Nat.zero_le _, rfl, by simpa [bodyS] using hD, hb⟩
    case round =>
      obtain ⟨j, hj, rfl, hD2, hb2⟩ := hrel
      have hB := hB1.trans (hb2.mono (Nat.le_of_lt ps))
      clear hD hb r0 r1
      by_cases hlt : j < L.length
      · obtain ⟨a1, A1, c1, rfl, _, hc1, r1, m1⟩ := (HR.out.below hB) j hlt
        obtain ⟨lu, lx⟩ := HLits.out (L.getD j []) (by simp [List.getD_eq_getElem?_getD, hlt])
        have hbl := bodyS_len (L.take j) (fun c hc => ⟨(HLits.out c (List.mem_of_mem_take hc)).1, fun x hx => by have := (HLits.out c (List.mem_of_mem_take hc)).2 x hx; omega⟩)
        rw [List.length_take] at hbl
        have hz := HZ.out
        have hm : (headS N L.length ++ bodyS (L.take j)).length ≤ 1000000000 := by rw [List.length_append]; omega
        have C := tell_any w1.heap.size w1.heap.size _ A1 c1 _ wr hD2 (r1.mono (Nat.le_of_lt ps)) ((HP.out.below hB).mono (Nat.le_of_lt ps)) (fun x hx => by have := lx x hx; omega) hm (by omega)
        have HE : Hid (headS N L.length ++ bodyS (L.take (j + 1)) = (headS N L.length ++ bodyS (L.take j)) ++ tellS (L.getD j [])) := by show _ = _; rw [takeC L j hlt, bodyS_snoc]; simp
        generalize headS N L.length ++ bodyS (L.take j) = m at *
        generalize L.getD j [] = u at *
        have HB := Lib.hid hb2
        clear hb2 hD2 r1 hbl hm hz hB lx
        go_wp2_with fail
        refine C.mono ?_; rintro e w3 ⟨rfl, hD3, hb3⟩
        have hB3 := HB.out.trans hb3
        clear C HB hb3
        go_wp2
        go_roundw
        case rel => exact ⟨j + 1, by omega, by go_num, by rw [HE.out]; exact hD3, hB3⟩
        case measure => simp [intOf]; omega
      · obtain rfl : j = L.length := by omega
        rw [List.take_length] at hD2
        have C := String_any w1.heap.size w1.heap.size _ wr hD2
        have HE : Hid (printS N L = headS N L.length ++ bodyS L) := rfl
        have HB := Lib.hid hB
        clear hD2 hB hb2
        generalize headS N L.length ++ bodyS L = m at *
        go_wp2_with fail
        refine C.mono ?_; rintro e w3 ⟨rfl, hb3⟩
        have hB3 := HB.out.trans (hb3.mono (Nat.le_of_lt ps))
        clear C HB hb3
        go_wp2
        go_ret2
        exact ⟨by rw [HE.out]; rfl, hB3⟩
theorem Print_any (A : Option Addr) (c : Nat) (N : Int) (L : List (List Int)) (w : World) (h : RC w w.heap.size A L) (hn : L.length ≤ maxLen) (hP : Pow w.heap.size w) :
    Calls Tryd.prog 31 #[.agg #[.int .i64 N, .slice A L.length c]] w (RetV w (if rightF N L then .tuple #[.string ⟨(printS N L).toArray⟩, .int .i64 0] else .tuple #[.string ⟨#[]⟩, .int .i64 1])) := by
  cases hr : rightF N L
  · exact Print_no A c N L w h hn hr
  · exact Print_yes A c N L w h hP hr
end Go.Proofs.YtahedhpffjgimaaDoor
