/-
  The statements' common head (shown, the document's examples) over the translated program: it returns true, and nothing that was there is changed.
-/
import Derived.Test.YtnnoflohekmnbaaProg
import Derived.WalkKit
import Derived.WalkSpells
import Derived.WalkLawsBesides
import Derived.LoopN
import Derived.IntWalk
import Derived.Lib.Hide
import Derived.Test.YtnnoflohekmnbaaD1
import Derived.Laws.BitsAllLaws
import Derived.Laws.Externs
import Derived.BigQuiet
import Derived.BigRegion
import Derived.Deep.QuietTactic
import Derived.Deep.RegionWith
import Derived.Deep.RegionHeld3
import Derived.StillTailTactics
import Derived.RegionTactic
import Derived.ChangeAlike
set_option linter.unusedVariables false
namespace Go.Proofs.Ytnnoflohekmnbaa
open Go.RowKit
/-- A vector in a variable of its own: at g. -/
structure Va (wr : World) (g : Nat) (ad : Addr) (c k W N : Nat) (x0 : Value) : Prop where
  d : Duo wr g x0 (.slice (some ad) k c)
  v : Vc wr wr.heap.size ad c W N
theorem Va.nx {wr w1 : World} {g : Nat} {ad : Addr} {c k W N : Nat} {x0 : Value} (h : Va wr g ad c k W N x0) (hb : Below wr.heap.size wr w1) : Va w1 g ad c k W N x0 :=
  ⟨h.d.below hb (World.block_lt_of_cell? wr _ h.d.1), h.v.nx hb⟩
theorem Va.new {w1 : World} {ad : Addr} {c W N : Nat} (h : Vc w1 w1.heap.size ad c W N) (k : Nat) (x0 : Value) : Va (w1.alloc (.cells #[x0, .slice (some ad) k c] 24)) w1.heap.size ad c k W N x0 :=
  ⟨by refine ⟨?_, ?_, ?_, ?_⟩ <;> go_simp, h.nx (bal (Below.refl _ _) _)⟩
theorem Va.parts {wr : World} {g : Nat} {ad : Addr} {c k W N : Nat} {x0 : Value} (h : Va wr g ad c k W N x0) : wr.cell? ⟨g, 0, none⟩ = some x0 ∧ wr.cell? ⟨g, 1, none⟩ = some (.slice (some ad) k c) ∧ g < wr.heap.size :=
  ⟨h.d.1, h.d.2.1, World.block_lt_of_cell? wr _ h.d.1⟩
theorem bnx {a w w1 : World} (h : Below a.heap.size a w) (hb : Below w.heap.size w w1) : Below a.heap.size a w1 := h.trans (hb.mono h.size)
/-- A vector, with its numbers written out. -/
def RetVL (w0 : World) (x0 : Value) (k W N : Nat) (e : Ending) (w' : World) : Prop := ∃ ad c, e = .returned (.tuple #[.agg #[x0, .slice (some ad) k c], .int .i64 0]) ∧ Vc w' w'.heap.size ad c W N ∧ w0.heap.size ≤ ad.block ∧ Below w0.heap.size w0 w'
theorem Make_11 (w : World) : Calls Try.prog 12 #[.string ⟨#[49, 49]⟩] w (RetVL w (.int .i64 2) 1 2 3) := by
  have h := Make_ok ⟨#[49, 49]⟩ w (by decide) (by decide) (by decide)
  rw [show (⟨#[49, 49]⟩ : ByteArray).size = 2 from rfl, show mkR 0 (⟨#[49, 49]⟩ : ByteArray).data.toList % 2 ^ 2 = 3 by decide] at h
  exact h
theorem Make_01 (w : World) : Calls Try.prog 12 #[.string ⟨#[48, 49]⟩] w (RetVL w (.int .i64 2) 1 2 1) := by
  have h := Make_ok ⟨#[48, 49]⟩ w (by decide) (by decide) (by decide)
  rw [show (⟨#[48, 49]⟩ : ByteArray).size = 2 from rfl, show mkR 0 (⟨#[48, 49]⟩ : ByteArray).data.toList % 2 ^ 2 = 1 by decide] at h
  exact h
theorem Make_100 (w : World) : Calls Try.prog 12 #[.string ⟨#[49, 48, 48]⟩] w (RetVL w (.int .i64 3) 1 3 4) := by
  have h := Make_ok ⟨#[49, 48, 48]⟩ w (by decide) (by decide) (by decide)
  rw [show (⟨#[49, 48, 48]⟩ : ByteArray).size = 3 from rfl, show mkR 0 (⟨#[49, 48, 48]⟩ : ByteArray).data.toList % 2 ^ 3 = 4 by decide] at h
  exact h
theorem Make_001 (w : World) : Calls Try.prog 12 #[.string ⟨#[48, 48, 49]⟩] w (RetVL w (.int .i64 3) 1 3 1) := by
  have h := Make_ok ⟨#[48, 48, 49]⟩ w (by decide) (by decide) (by decide)
  rw [show (⟨#[48, 48, 49]⟩ : ByteArray).size = 3 from rfl, show mkR 0 (⟨#[48, 48, 49]⟩ : ByteArray).data.toList % 2 ^ 3 = 1 by decide] at h
  exact h
theorem Make_1 (w : World) : Calls Try.prog 12 #[.string ⟨#[49]⟩] w (RetVL w (.int .i64 1) 1 1 1) := by
  have h := Make_ok ⟨#[49]⟩ w (by decide) (by decide) (by decide)
  rw [show (⟨#[49]⟩ : ByteArray).size = 1 from rfl, show mkR 0 (⟨#[49]⟩ : ByteArray).data.toList % 2 ^ 1 = 1 by decide] at h
  exact h
theorem to_lit {w w' : World} {W N M : Nat} {e : Ending} (h : RetVE w W N e w') (hN : N = M) : RetVE w W M e w' := hN ▸ h
theorem shown_add {w : World} {ad ad' : Addr} {c c' : Nat} (h : Vc w w.heap.size ad c 2 3) (h' : Vc w w.heap.size ad' c' 2 1) : Calls Try.prog 24 #[.string ⟨#[97, 100, 100]⟩, .agg #[.int .i64 2, .slice (some ad) 1 c], .agg #[.int .i64 2, .slice (some ad') 1 c']] w (RetVL w (.int .i64 2) 1 2 0) :=
  (Bin_add h h').mono fun e w' hh => to_lit hh (by decide)
theorem shown_sra {w : World} {ad ad' : Addr} {c c' : Nat} (h : Vc w w.heap.size ad c 3 4) (h' : Vc w w.heap.size ad' c' 3 1) : Calls Try.prog 24 #[.string ⟨#[115, 114, 97]⟩, .agg #[.int .i64 3, .slice (some ad) 1 c], .agg #[.int .i64 3, .slice (some ad') 1 c']] w (RetVL w (.int .i64 3) 1 3 6) :=
  (Bin_sra h h').mono fun e w' hh => to_lit hh (by decide)
theorem shown_not {w : World} {ad : Addr} {c : Nat} (h : Vc w w.heap.size ad c 2 3) : Calls Try.prog 22 #[.string ⟨#[110, 111, 116]⟩, .agg #[.int .i64 2, .slice (some ad) 1 c]] w (RetVL w (.int .i64 2) 1 2 0) :=
  (Un_not h).mono fun e w' hh => to_lit hh (by decide)
theorem shown_slice {w : World} {ad : Addr} {c : Nat} (h : Vc w w.heap.size ad c 3 4) : Calls Try.prog 26 #[.agg #[.int .i64 3, .slice (some ad) 1 c], .int .i64 2, .int .i64 1] w (RetVL w (.int .i64 2) 1 2 2) :=
  (Slice_any h 2 1 (by omega) (by omega)).mono fun e w' hh => to_lit hh (by decide)
theorem shown_ext {w : World} {ad : Addr} {c : Nat} (h : Vc w w.heap.size ad c 3 4) : Calls Try.prog 28 #[.agg #[.int .i64 3, .slice (some ad) 1 c], .int .i64 1, .bool true] w (RetVL w (.int .i64 4) 1 4 12) :=
  (Ext_high h 1 (by omega) (by decide) _ (fun x y hl => hl)).mono fun e w' hh => to_lit hh (by decide)
theorem shown_ite {w : World} {ac ad ad' : Addr} {cc c c' : Nat} (h3 : Vc w w.heap.size ac cc 1 1) (h : Vc w w.heap.size ad c 2 3) (h' : Vc w w.heap.size ad' c' 2 1) : Calls Try.prog 30 #[.agg #[.int .i64 1, .slice (some ac) 1 cc], .agg #[.int .i64 2, .slice (some ad) 1 c], .agg #[.int .i64 2, .slice (some ad') 1 c']] w (RetVL w (.int .i64 2) 1 2 3) :=
  Ite_yes h3 h h' (by decide)
theorem shown_ts {w : World} {ad : Addr} {c : Nat} (h : Vc w w.heap.size ad c 2 0) : Calls Try.prog 19 #[.agg #[.int .i64 2, .slice (some ad) 1 c]] w (RetV w (.string ⟨#[48, 48]⟩)) := by
  have hh := Text_any h
  rw [show txt 2 0 = ⟨#[48, 48]⟩ from rfl] at hh
  exact hh
theorem shown_tr {w : World} {ad : Addr} {c : Nat} (h : Vc w w.heap.size ad c 3 6) : Calls Try.prog 19 #[.agg #[.int .i64 3, .slice (some ad) 1 c]] w (RetV w (.string ⟨#[49, 49, 48]⟩)) := by
  have hh := Text_any h
  rw [show txt 3 6 = ⟨#[49, 49, 48]⟩ from rfl] at hh
  exact hh
theorem shown_tx {w : World} {ad : Addr} {c : Nat} (h : Vc w w.heap.size ad c 2 2) : Calls Try.prog 19 #[.agg #[.int .i64 2, .slice (some ad) 1 c]] w (RetV w (.string ⟨#[49, 48]⟩)) := by
  have hh := Text_any h
  rw [show txt 2 2 = ⟨#[49, 48]⟩ from rfl] at hh
  exact hh
theorem shown_ty {w : World} {ad : Addr} {c : Nat} (h : Vc w w.heap.size ad c 4 12) : Calls Try.prog 19 #[.agg #[.int .i64 4, .slice (some ad) 1 c]] w (RetV w (.string ⟨#[49, 49, 48, 48]⟩)) := by
  have hh := Text_any h
  rw [show txt 4 12 = ⟨#[49, 49, 48, 48]⟩ from rfl] at hh
  exact hh
theorem shown_tz {w : World} {ad : Addr} {c : Nat} (h : Vc w w.heap.size ad c 2 3) : Calls Try.prog 19 #[.agg #[.int .i64 2, .slice (some ad) 1 c]] w (RetV w (.string ⟨#[49, 49]⟩)) := by
  have hh := Text_any h
  rw [show txt 2 3 = ⟨#[49, 49]⟩ from rfl] at hh
  exact hh
theorem shown_right {w : World} {ad : Addr} {c : Nat} (h : Vc w w.heap.size ad c 2 3) : Calls Try.prog 15 #[.agg #[.int .i64 2, .slice (some ad) 1 c]] w (RetV w (.bool true)) := Right_yes h
theorem shown_bit {w : World} {ad : Addr} {c : Nat} (h : Vc w w.heap.size ad c 2 3) : Calls Try.prog 17 #[.agg #[.int .i64 2, .slice (some ad) 1 c], .int .i64 1] w (RetV w (.bool true)) := Bit_any h 1
theorem shown_same {w : World} {ad : Addr} {c : Nat} (h : Vc w w.heap.size ad c 2 3) : Calls Try.prog 21 #[.agg #[.int .i64 2, .slice (some ad) 1 c], .agg #[.int .i64 2, .slice (some ad) 1 c]] w (RetV w (.bool true)) := Same_any h h
set_option maxRecDepth 100000 in
set_option maxHeartbeats 4000000 in
theorem shown_any (w : World) : Calls Try.prog 10 #[] w (RetV w (.bool true)) := by
  have hB : Below w.heap.size w w := Below.refl _ _
  go_enter Try.func10, Try.ntmps10
  go_wp2_with fail
  refine (Make_11 _).mono ?_
  rintro e w1 ⟨ad1, c1, rfl, hv1, hf1, hb1⟩
  replace hB := bnx hB hb1
  clear hb1 hf1
  have hn_a := Va.new hv1 1 (.int .i64 2)
  replace hB := bal hB (.cells #[.int .i64 2, .slice (some ad1) 1 c1] 24)
  clear hv1
  have h_a := hn_a
  clear hn_a
  go_wp2_with fail
  generalize w1.alloc (.cells #[.int .i64 2, .slice (some ad1) 1 c1] 24) = w1m at *
  generalize w1.heap.size = gw1 at *
  refine (Make_01 _).mono ?_
  rintro e w2 ⟨ad2, c2, rfl, hv2, hf2, hb2⟩
  replace h_a := h_a.nx hb2
  replace hB := bnx hB hb2
  obtain ⟨p_a1, p_a2, p_a3⟩ := h_a.parts
  clear hb2 hf2
  have hn_b := Va.new hv2 1 (.int .i64 2)
  replace h_a := h_a.nx (bal (Below.refl _ _) (.cells #[.int .i64 2, .slice (some ad2) 1 c2] 24))
  replace hB := bal hB (.cells #[.int .i64 2, .slice (some ad2) 1 c2] 24)
  clear hv2
  have h_b := hn_b
  clear hn_b
  go_wp2_with fail
  generalize w2.alloc (.cells #[.int .i64 2, .slice (some ad2) 1 c2] 24) = w2m at *
  generalize w2.heap.size = gw2 at *
  refine (shown_add h_a.v h_b.v).mono ?_
  rintro e w3 ⟨ad3, c3, rfl, hv3, hf3, hb3⟩
  clear p_a1 p_a2 p_a3
  replace h_a := h_a.nx hb3
  replace h_b := h_b.nx hb3
  replace hB := bnx hB hb3
  obtain ⟨p_a1, p_a2, p_a3⟩ := h_a.parts
  obtain ⟨p_b1, p_b2, p_b3⟩ := h_b.parts
  clear hb3 hf3
  have hn_s := Va.new hv3 1 (.int .i64 2)
  replace h_a := h_a.nx (bal (Below.refl _ _) (.cells #[.int .i64 2, .slice (some ad3) 1 c3] 24))
  replace h_b := h_b.nx (bal (Below.refl _ _) (.cells #[.int .i64 2, .slice (some ad3) 1 c3] 24))
  replace hB := bal hB (.cells #[.int .i64 2, .slice (some ad3) 1 c3] 24)
  clear hv3
  have h_s := hn_s
  clear hn_s
  go_wp2_with fail
  generalize w3.alloc (.cells #[.int .i64 2, .slice (some ad3) 1 c3] 24) = w3m at *
  generalize w3.heap.size = gw3 at *
  refine (Make_100 _).mono ?_
  rintro e w4 ⟨ad4, c4, rfl, hv4, hf4, hb4⟩
  clear p_a1 p_a2 p_a3 p_b1 p_b2 p_b3
  replace h_a := h_a.nx hb4
  replace h_b := h_b.nx hb4
  replace h_s := h_s.nx hb4
  replace hB := bnx hB hb4
  obtain ⟨p_a1, p_a2, p_a3⟩ := h_a.parts
  obtain ⟨p_b1, p_b2, p_b3⟩ := h_b.parts
  obtain ⟨p_s1, p_s2, p_s3⟩ := h_s.parts
  clear hb4 hf4
  have hn_c := Va.new hv4 1 (.int .i64 3)
  replace h_a := h_a.nx (bal (Below.refl _ _) (.cells #[.int .i64 3, .slice (some ad4) 1 c4] 24))
  replace h_b := h_b.nx (bal (Below.refl _ _) (.cells #[.int .i64 3, .slice (some ad4) 1 c4] 24))
  replace h_s := h_s.nx (bal (Below.refl _ _) (.cells #[.int .i64 3, .slice (some ad4) 1 c4] 24))
  replace hB := bal hB (.cells #[.int .i64 3, .slice (some ad4) 1 c4] 24)
  clear hv4
  have h_c := hn_c
  clear hn_c
  go_wp2_with fail
  generalize w4.alloc (.cells #[.int .i64 3, .slice (some ad4) 1 c4] 24) = w4m at *
  generalize w4.heap.size = gw4 at *
  refine (Make_001 _).mono ?_
  rintro e w5 ⟨ad5, c5, rfl, hv5, hf5, hb5⟩
  clear p_a1 p_a2 p_a3 p_b1 p_b2 p_b3 p_s1 p_s2 p_s3
  replace h_a := h_a.nx hb5
  replace h_b := h_b.nx hb5
  replace h_s := h_s.nx hb5
  replace h_c := h_c.nx hb5
  replace hB := bnx hB hb5
  obtain ⟨p_a1, p_a2, p_a3⟩ := h_a.parts
  obtain ⟨p_b1, p_b2, p_b3⟩ := h_b.parts
  obtain ⟨p_s1, p_s2, p_s3⟩ := h_s.parts
  obtain ⟨p_c1, p_c2, p_c3⟩ := h_c.parts
  clear hb5 hf5
  have hn_d := Va.new hv5 1 (.int .i64 3)
  replace h_a := h_a.nx (bal (Below.refl _ _) (.cells #[.int .i64 3, .slice (some ad5) 1 c5] 24))
  replace h_b := h_b.nx (bal (Below.refl _ _) (.cells #[.int .i64 3, .slice (some ad5) 1 c5] 24))
  replace h_s := h_s.nx (bal (Below.refl _ _) (.cells #[.int .i64 3, .slice (some ad5) 1 c5] 24))
  replace h_c := h_c.nx (bal (Below.refl _ _) (.cells #[.int .i64 3, .slice (some ad5) 1 c5] 24))
  replace hB := bal hB (.cells #[.int .i64 3, .slice (some ad5) 1 c5] 24)
  clear hv5
  have h_d := hn_d
  clear hn_d
  go_wp2_with fail
  generalize w5.alloc (.cells #[.int .i64 3, .slice (some ad5) 1 c5] 24) = w5m at *
  generalize w5.heap.size = gw5 at *
  refine (shown_sra h_c.v h_d.v).mono ?_
  rintro e w6 ⟨ad6, c6, rfl, hv6, hf6, hb6⟩
  clear p_a1 p_a2 p_a3 p_b1 p_b2 p_b3 p_s1 p_s2 p_s3 p_c1 p_c2 p_c3
  replace h_a := h_a.nx hb6
  replace h_b := h_b.nx hb6
  replace h_s := h_s.nx hb6
  replace h_c := h_c.nx hb6
  replace h_d := h_d.nx hb6
  replace hB := bnx hB hb6
  obtain ⟨p_a1, p_a2, p_a3⟩ := h_a.parts
  obtain ⟨p_b1, p_b2, p_b3⟩ := h_b.parts
  obtain ⟨p_s1, p_s2, p_s3⟩ := h_s.parts
  obtain ⟨p_c1, p_c2, p_c3⟩ := h_c.parts
  obtain ⟨p_d1, p_d2, p_d3⟩ := h_d.parts
  clear hb6 hf6
  have hn_r := Va.new hv6 1 (.int .i64 3)
  replace h_a := h_a.nx (bal (Below.refl _ _) (.cells #[.int .i64 3, .slice (some ad6) 1 c6] 24))
  replace h_b := h_b.nx (bal (Below.refl _ _) (.cells #[.int .i64 3, .slice (some ad6) 1 c6] 24))
  replace h_s := h_s.nx (bal (Below.refl _ _) (.cells #[.int .i64 3, .slice (some ad6) 1 c6] 24))
  replace h_c := h_c.nx (bal (Below.refl _ _) (.cells #[.int .i64 3, .slice (some ad6) 1 c6] 24))
  replace h_d := h_d.nx (bal (Below.refl _ _) (.cells #[.int .i64 3, .slice (some ad6) 1 c6] 24))
  replace hB := bal hB (.cells #[.int .i64 3, .slice (some ad6) 1 c6] 24)
  clear hv6
  have h_r := hn_r
  clear hn_r
  go_wp2_with fail
  generalize w6.alloc (.cells #[.int .i64 3, .slice (some ad6) 1 c6] 24) = w6m at *
  generalize w6.heap.size = gw6 at *
  refine (shown_not h_a.v).mono ?_
  rintro e w7 ⟨ad7, c7, rfl, hv7, hf7, hb7⟩
  clear p_a1 p_a2 p_a3 p_b1 p_b2 p_b3 p_s1 p_s2 p_s3 p_c1 p_c2 p_c3 p_d1 p_d2 p_d3
  replace h_a := h_a.nx hb7
  replace h_b := h_b.nx hb7
  replace h_s := h_s.nx hb7
  replace h_c := h_c.nx hb7
  replace h_d := h_d.nx hb7
  replace h_r := h_r.nx hb7
  replace hB := bnx hB hb7
  obtain ⟨p_a1, p_a2, p_a3⟩ := h_a.parts
  obtain ⟨p_b1, p_b2, p_b3⟩ := h_b.parts
  obtain ⟨p_s1, p_s2, p_s3⟩ := h_s.parts
  obtain ⟨p_c1, p_c2, p_c3⟩ := h_c.parts
  obtain ⟨p_d1, p_d2, p_d3⟩ := h_d.parts
  obtain ⟨p_r1, p_r2, p_r3⟩ := h_r.parts
  clear hb7 hf7
  have hn_n := Va.new hv7 1 (.int .i64 2)
  replace h_a := h_a.nx (bal (Below.refl _ _) (.cells #[.int .i64 2, .slice (some ad7) 1 c7] 24))
  replace h_b := h_b.nx (bal (Below.refl _ _) (.cells #[.int .i64 2, .slice (some ad7) 1 c7] 24))
  replace h_s := h_s.nx (bal (Below.refl _ _) (.cells #[.int .i64 2, .slice (some ad7) 1 c7] 24))
  replace h_c := h_c.nx (bal (Below.refl _ _) (.cells #[.int .i64 2, .slice (some ad7) 1 c7] 24))
  replace h_d := h_d.nx (bal (Below.refl _ _) (.cells #[.int .i64 2, .slice (some ad7) 1 c7] 24))
  replace h_r := h_r.nx (bal (Below.refl _ _) (.cells #[.int .i64 2, .slice (some ad7) 1 c7] 24))
  replace hB := bal hB (.cells #[.int .i64 2, .slice (some ad7) 1 c7] 24)
  clear hv7
  have h_n := hn_n
  clear hn_n
  go_wp2_with fail
  generalize w7.alloc (.cells #[.int .i64 2, .slice (some ad7) 1 c7] 24) = w7m at *
  generalize w7.heap.size = gw7 at *
  refine (shown_slice h_c.v).mono ?_
  rintro e w8 ⟨ad8, c8, rfl, hv8, hf8, hb8⟩
  clear p_a1 p_a2 p_a3 p_b1 p_b2 p_b3 p_s1 p_s2 p_s3 p_c1 p_c2 p_c3 p_d1 p_d2 p_d3 p_r1 p_r2 p_r3
  replace h_a := h_a.nx hb8
  replace h_b := h_b.nx hb8
  replace h_s := h_s.nx hb8
  replace h_c := h_c.nx hb8
  replace h_d := h_d.nx hb8
  replace h_r := h_r.nx hb8
  replace h_n := h_n.nx hb8
  replace hB := bnx hB hb8
  obtain ⟨p_a1, p_a2, p_a3⟩ := h_a.parts
  obtain ⟨p_b1, p_b2, p_b3⟩ := h_b.parts
  obtain ⟨p_s1, p_s2, p_s3⟩ := h_s.parts
  obtain ⟨p_c1, p_c2, p_c3⟩ := h_c.parts
  obtain ⟨p_d1, p_d2, p_d3⟩ := h_d.parts
  obtain ⟨p_r1, p_r2, p_r3⟩ := h_r.parts
  obtain ⟨p_n1, p_n2, p_n3⟩ := h_n.parts
  clear hb8 hf8
  have hn_x := Va.new hv8 1 (.int .i64 2)
  replace h_a := h_a.nx (bal (Below.refl _ _) (.cells #[.int .i64 2, .slice (some ad8) 1 c8] 24))
  replace h_b := h_b.nx (bal (Below.refl _ _) (.cells #[.int .i64 2, .slice (some ad8) 1 c8] 24))
  replace h_s := h_s.nx (bal (Below.refl _ _) (.cells #[.int .i64 2, .slice (some ad8) 1 c8] 24))
  replace h_c := h_c.nx (bal (Below.refl _ _) (.cells #[.int .i64 2, .slice (some ad8) 1 c8] 24))
  replace h_d := h_d.nx (bal (Below.refl _ _) (.cells #[.int .i64 2, .slice (some ad8) 1 c8] 24))
  replace h_r := h_r.nx (bal (Below.refl _ _) (.cells #[.int .i64 2, .slice (some ad8) 1 c8] 24))
  replace h_n := h_n.nx (bal (Below.refl _ _) (.cells #[.int .i64 2, .slice (some ad8) 1 c8] 24))
  replace hB := bal hB (.cells #[.int .i64 2, .slice (some ad8) 1 c8] 24)
  clear hv8
  have h_x := hn_x
  clear hn_x
  go_wp2_with fail
  generalize w8.alloc (.cells #[.int .i64 2, .slice (some ad8) 1 c8] 24) = w8m at *
  generalize w8.heap.size = gw8 at *
  refine (shown_ext h_c.v).mono ?_
  rintro e w9 ⟨ad9, c9, rfl, hv9, hf9, hb9⟩
  clear p_a1 p_a2 p_a3 p_b1 p_b2 p_b3 p_s1 p_s2 p_s3 p_c1 p_c2 p_c3 p_d1 p_d2 p_d3 p_r1 p_r2 p_r3 p_n1 p_n2 p_n3
  replace h_a := h_a.nx hb9
  replace h_b := h_b.nx hb9
  replace h_s := h_s.nx hb9
  replace h_c := h_c.nx hb9
  replace h_d := h_d.nx hb9
  replace h_r := h_r.nx hb9
  replace h_n := h_n.nx hb9
  replace h_x := h_x.nx hb9
  replace hB := bnx hB hb9
  obtain ⟨p_a1, p_a2, p_a3⟩ := h_a.parts
  obtain ⟨p_b1, p_b2, p_b3⟩ := h_b.parts
  obtain ⟨p_s1, p_s2, p_s3⟩ := h_s.parts
  obtain ⟨p_c1, p_c2, p_c3⟩ := h_c.parts
  obtain ⟨p_d1, p_d2, p_d3⟩ := h_d.parts
  obtain ⟨p_r1, p_r2, p_r3⟩ := h_r.parts
  obtain ⟨p_n1, p_n2, p_n3⟩ := h_n.parts
  obtain ⟨p_x1, p_x2, p_x3⟩ := h_x.parts
  clear hb9 hf9
  have hn_y := Va.new hv9 1 (.int .i64 4)
  replace h_a := h_a.nx (bal (Below.refl _ _) (.cells #[.int .i64 4, .slice (some ad9) 1 c9] 24))
  replace h_b := h_b.nx (bal (Below.refl _ _) (.cells #[.int .i64 4, .slice (some ad9) 1 c9] 24))
  replace h_s := h_s.nx (bal (Below.refl _ _) (.cells #[.int .i64 4, .slice (some ad9) 1 c9] 24))
  replace h_c := h_c.nx (bal (Below.refl _ _) (.cells #[.int .i64 4, .slice (some ad9) 1 c9] 24))
  replace h_d := h_d.nx (bal (Below.refl _ _) (.cells #[.int .i64 4, .slice (some ad9) 1 c9] 24))
  replace h_r := h_r.nx (bal (Below.refl _ _) (.cells #[.int .i64 4, .slice (some ad9) 1 c9] 24))
  replace h_n := h_n.nx (bal (Below.refl _ _) (.cells #[.int .i64 4, .slice (some ad9) 1 c9] 24))
  replace h_x := h_x.nx (bal (Below.refl _ _) (.cells #[.int .i64 4, .slice (some ad9) 1 c9] 24))
  replace hB := bal hB (.cells #[.int .i64 4, .slice (some ad9) 1 c9] 24)
  clear hv9
  have h_y := hn_y
  clear hn_y
  go_wp2_with fail
  generalize w9.alloc (.cells #[.int .i64 4, .slice (some ad9) 1 c9] 24) = w9m at *
  generalize w9.heap.size = gw9 at *
  refine (Make_1 _).mono ?_
  rintro e w10 ⟨ad10, c10, rfl, hv10, hf10, hb10⟩
  clear p_a1 p_a2 p_a3 p_b1 p_b2 p_b3 p_s1 p_s2 p_s3 p_c1 p_c2 p_c3 p_d1 p_d2 p_d3 p_r1 p_r2 p_r3 p_n1 p_n2 p_n3 p_x1 p_x2 p_x3
  replace h_a := h_a.nx hb10
  replace h_b := h_b.nx hb10
  replace h_s := h_s.nx hb10
  replace h_c := h_c.nx hb10
  replace h_d := h_d.nx hb10
  replace h_r := h_r.nx hb10
  replace h_n := h_n.nx hb10
  replace h_x := h_x.nx hb10
  replace h_y := h_y.nx hb10
  replace hB := bnx hB hb10
  obtain ⟨p_a1, p_a2, p_a3⟩ := h_a.parts
  obtain ⟨p_b1, p_b2, p_b3⟩ := h_b.parts
  obtain ⟨p_s1, p_s2, p_s3⟩ := h_s.parts
  obtain ⟨p_c1, p_c2, p_c3⟩ := h_c.parts
  obtain ⟨p_d1, p_d2, p_d3⟩ := h_d.parts
  obtain ⟨p_r1, p_r2, p_r3⟩ := h_r.parts
  obtain ⟨p_n1, p_n2, p_n3⟩ := h_n.parts
  obtain ⟨p_x1, p_x2, p_x3⟩ := h_x.parts
  obtain ⟨p_y1, p_y2, p_y3⟩ := h_y.parts
  clear hb10 hf10
  have hn_one := Va.new hv10 1 (.int .i64 1)
  replace h_a := h_a.nx (bal (Below.refl _ _) (.cells #[.int .i64 1, .slice (some ad10) 1 c10] 24))
  replace h_b := h_b.nx (bal (Below.refl _ _) (.cells #[.int .i64 1, .slice (some ad10) 1 c10] 24))
  replace h_s := h_s.nx (bal (Below.refl _ _) (.cells #[.int .i64 1, .slice (some ad10) 1 c10] 24))
  replace h_c := h_c.nx (bal (Below.refl _ _) (.cells #[.int .i64 1, .slice (some ad10) 1 c10] 24))
  replace h_d := h_d.nx (bal (Below.refl _ _) (.cells #[.int .i64 1, .slice (some ad10) 1 c10] 24))
  replace h_r := h_r.nx (bal (Below.refl _ _) (.cells #[.int .i64 1, .slice (some ad10) 1 c10] 24))
  replace h_n := h_n.nx (bal (Below.refl _ _) (.cells #[.int .i64 1, .slice (some ad10) 1 c10] 24))
  replace h_x := h_x.nx (bal (Below.refl _ _) (.cells #[.int .i64 1, .slice (some ad10) 1 c10] 24))
  replace h_y := h_y.nx (bal (Below.refl _ _) (.cells #[.int .i64 1, .slice (some ad10) 1 c10] 24))
  replace hB := bal hB (.cells #[.int .i64 1, .slice (some ad10) 1 c10] 24)
  clear hv10
  have h_one := hn_one
  clear hn_one
  go_wp2_with fail
  generalize w10.alloc (.cells #[.int .i64 1, .slice (some ad10) 1 c10] 24) = w10m at *
  generalize w10.heap.size = gw10 at *
  refine (shown_ite h_one.v h_a.v h_b.v).mono ?_
  rintro e w11 ⟨ad11, c11, rfl, hv11, hf11, hb11⟩
  clear p_a1 p_a2 p_a3 p_b1 p_b2 p_b3 p_s1 p_s2 p_s3 p_c1 p_c2 p_c3 p_d1 p_d2 p_d3 p_r1 p_r2 p_r3 p_n1 p_n2 p_n3 p_x1 p_x2 p_x3 p_y1 p_y2 p_y3
  replace h_a := h_a.nx hb11
  replace h_b := h_b.nx hb11
  replace h_s := h_s.nx hb11
  replace h_c := h_c.nx hb11
  replace h_d := h_d.nx hb11
  replace h_r := h_r.nx hb11
  replace h_n := h_n.nx hb11
  replace h_x := h_x.nx hb11
  replace h_y := h_y.nx hb11
  replace h_one := h_one.nx hb11
  replace hB := bnx hB hb11
  obtain ⟨p_a1, p_a2, p_a3⟩ := h_a.parts
  obtain ⟨p_b1, p_b2, p_b3⟩ := h_b.parts
  obtain ⟨p_s1, p_s2, p_s3⟩ := h_s.parts
  obtain ⟨p_c1, p_c2, p_c3⟩ := h_c.parts
  obtain ⟨p_d1, p_d2, p_d3⟩ := h_d.parts
  obtain ⟨p_r1, p_r2, p_r3⟩ := h_r.parts
  obtain ⟨p_n1, p_n2, p_n3⟩ := h_n.parts
  obtain ⟨p_x1, p_x2, p_x3⟩ := h_x.parts
  obtain ⟨p_y1, p_y2, p_y3⟩ := h_y.parts
  obtain ⟨p_one1, p_one2, p_one3⟩ := h_one.parts
  clear hb11 hf11
  have hn_z := Va.new hv11 1 (.int .i64 2)
  replace h_a := h_a.nx (bal (Below.refl _ _) (.cells #[.int .i64 2, .slice (some ad11) 1 c11] 24))
  replace h_b := h_b.nx (bal (Below.refl _ _) (.cells #[.int .i64 2, .slice (some ad11) 1 c11] 24))
  replace h_s := h_s.nx (bal (Below.refl _ _) (.cells #[.int .i64 2, .slice (some ad11) 1 c11] 24))
  replace h_c := h_c.nx (bal (Below.refl _ _) (.cells #[.int .i64 2, .slice (some ad11) 1 c11] 24))
  replace h_d := h_d.nx (bal (Below.refl _ _) (.cells #[.int .i64 2, .slice (some ad11) 1 c11] 24))
  replace h_r := h_r.nx (bal (Below.refl _ _) (.cells #[.int .i64 2, .slice (some ad11) 1 c11] 24))
  replace h_n := h_n.nx (bal (Below.refl _ _) (.cells #[.int .i64 2, .slice (some ad11) 1 c11] 24))
  replace h_x := h_x.nx (bal (Below.refl _ _) (.cells #[.int .i64 2, .slice (some ad11) 1 c11] 24))
  replace h_y := h_y.nx (bal (Below.refl _ _) (.cells #[.int .i64 2, .slice (some ad11) 1 c11] 24))
  replace h_one := h_one.nx (bal (Below.refl _ _) (.cells #[.int .i64 2, .slice (some ad11) 1 c11] 24))
  replace hB := bal hB (.cells #[.int .i64 2, .slice (some ad11) 1 c11] 24)
  clear hv11
  have h_z := hn_z
  clear hn_z
  go_wp2_with fail
  generalize w11.alloc (.cells #[.int .i64 2, .slice (some ad11) 1 c11] 24) = w11m at *
  generalize w11.heap.size = gw11 at *
  refine (shown_ts h_s.v).mono ?_
  rintro e w12 ⟨rfl, hb12⟩
  clear p_a1 p_a2 p_a3 p_b1 p_b2 p_b3 p_s1 p_s2 p_s3 p_c1 p_c2 p_c3 p_d1 p_d2 p_d3 p_r1 p_r2 p_r3 p_n1 p_n2 p_n3 p_x1 p_x2 p_x3 p_y1 p_y2 p_y3 p_one1 p_one2 p_one3
  replace h_a := h_a.nx hb12
  replace h_b := h_b.nx hb12
  replace h_s := h_s.nx hb12
  replace h_c := h_c.nx hb12
  replace h_d := h_d.nx hb12
  replace h_r := h_r.nx hb12
  replace h_n := h_n.nx hb12
  replace h_x := h_x.nx hb12
  replace h_y := h_y.nx hb12
  replace h_one := h_one.nx hb12
  replace h_z := h_z.nx hb12
  replace hB := bnx hB hb12
  obtain ⟨p_a1, p_a2, p_a3⟩ := h_a.parts
  obtain ⟨p_b1, p_b2, p_b3⟩ := h_b.parts
  obtain ⟨p_s1, p_s2, p_s3⟩ := h_s.parts
  obtain ⟨p_c1, p_c2, p_c3⟩ := h_c.parts
  obtain ⟨p_d1, p_d2, p_d3⟩ := h_d.parts
  obtain ⟨p_r1, p_r2, p_r3⟩ := h_r.parts
  obtain ⟨p_n1, p_n2, p_n3⟩ := h_n.parts
  obtain ⟨p_x1, p_x2, p_x3⟩ := h_x.parts
  obtain ⟨p_y1, p_y2, p_y3⟩ := h_y.parts
  obtain ⟨p_one1, p_one2, p_one3⟩ := h_one.parts
  obtain ⟨p_z1, p_z2, p_z3⟩ := h_z.parts
  clear hb12
  go_wp2_with fail
  refine (shown_ts h_n.v).mono ?_
  rintro e w13 ⟨rfl, hb13⟩
  clear p_a1 p_a2 p_a3 p_b1 p_b2 p_b3 p_s1 p_s2 p_s3 p_c1 p_c2 p_c3 p_d1 p_d2 p_d3 p_r1 p_r2 p_r3 p_n1 p_n2 p_n3 p_x1 p_x2 p_x3 p_y1 p_y2 p_y3 p_one1 p_one2 p_one3 p_z1 p_z2 p_z3
  replace h_a := h_a.nx hb13
  replace h_b := h_b.nx hb13
  replace h_s := h_s.nx hb13
  replace h_c := h_c.nx hb13
  replace h_d := h_d.nx hb13
  replace h_r := h_r.nx hb13
  replace h_n := h_n.nx hb13
  replace h_x := h_x.nx hb13
  replace h_y := h_y.nx hb13
  replace h_one := h_one.nx hb13
  replace h_z := h_z.nx hb13
  replace hB := bnx hB hb13
  obtain ⟨p_a1, p_a2, p_a3⟩ := h_a.parts
  obtain ⟨p_b1, p_b2, p_b3⟩ := h_b.parts
  obtain ⟨p_s1, p_s2, p_s3⟩ := h_s.parts
  obtain ⟨p_c1, p_c2, p_c3⟩ := h_c.parts
  obtain ⟨p_d1, p_d2, p_d3⟩ := h_d.parts
  obtain ⟨p_r1, p_r2, p_r3⟩ := h_r.parts
  obtain ⟨p_n1, p_n2, p_n3⟩ := h_n.parts
  obtain ⟨p_x1, p_x2, p_x3⟩ := h_x.parts
  obtain ⟨p_y1, p_y2, p_y3⟩ := h_y.parts
  obtain ⟨p_one1, p_one2, p_one3⟩ := h_one.parts
  obtain ⟨p_z1, p_z2, p_z3⟩ := h_z.parts
  clear hb13
  go_wp2_with fail
  refine (shown_tr h_r.v).mono ?_
  rintro e w14 ⟨rfl, hb14⟩
  clear p_a1 p_a2 p_a3 p_b1 p_b2 p_b3 p_s1 p_s2 p_s3 p_c1 p_c2 p_c3 p_d1 p_d2 p_d3 p_r1 p_r2 p_r3 p_n1 p_n2 p_n3 p_x1 p_x2 p_x3 p_y1 p_y2 p_y3 p_one1 p_one2 p_one3 p_z1 p_z2 p_z3
  replace h_a := h_a.nx hb14
  replace h_b := h_b.nx hb14
  replace h_s := h_s.nx hb14
  replace h_c := h_c.nx hb14
  replace h_d := h_d.nx hb14
  replace h_r := h_r.nx hb14
  replace h_n := h_n.nx hb14
  replace h_x := h_x.nx hb14
  replace h_y := h_y.nx hb14
  replace h_one := h_one.nx hb14
  replace h_z := h_z.nx hb14
  replace hB := bnx hB hb14
  obtain ⟨p_a1, p_a2, p_a3⟩ := h_a.parts
  obtain ⟨p_b1, p_b2, p_b3⟩ := h_b.parts
  obtain ⟨p_s1, p_s2, p_s3⟩ := h_s.parts
  obtain ⟨p_c1, p_c2, p_c3⟩ := h_c.parts
  obtain ⟨p_d1, p_d2, p_d3⟩ := h_d.parts
  obtain ⟨p_r1, p_r2, p_r3⟩ := h_r.parts
  obtain ⟨p_n1, p_n2, p_n3⟩ := h_n.parts
  obtain ⟨p_x1, p_x2, p_x3⟩ := h_x.parts
  obtain ⟨p_y1, p_y2, p_y3⟩ := h_y.parts
  obtain ⟨p_one1, p_one2, p_one3⟩ := h_one.parts
  obtain ⟨p_z1, p_z2, p_z3⟩ := h_z.parts
  clear hb14
  go_wp2_with fail
  refine (shown_tx h_x.v).mono ?_
  rintro e w15 ⟨rfl, hb15⟩
  clear p_a1 p_a2 p_a3 p_b1 p_b2 p_b3 p_s1 p_s2 p_s3 p_c1 p_c2 p_c3 p_d1 p_d2 p_d3 p_r1 p_r2 p_r3 p_n1 p_n2 p_n3 p_x1 p_x2 p_x3 p_y1 p_y2 p_y3 p_one1 p_one2 p_one3 p_z1 p_z2 p_z3
  replace h_a := h_a.nx hb15
  replace h_b := h_b.nx hb15
  replace h_s := h_s.nx hb15
  replace h_c := h_c.nx hb15
  replace h_d := h_d.nx hb15
  replace h_r := h_r.nx hb15
  replace h_n := h_n.nx hb15
  replace h_x := h_x.nx hb15
  replace h_y := h_y.nx hb15
  replace h_one := h_one.nx hb15
  replace h_z := h_z.nx hb15
  replace hB := bnx hB hb15
  obtain ⟨p_a1, p_a2, p_a3⟩ := h_a.parts
  obtain ⟨p_b1, p_b2, p_b3⟩ := h_b.parts
  obtain ⟨p_s1, p_s2, p_s3⟩ := h_s.parts
  obtain ⟨p_c1, p_c2, p_c3⟩ := h_c.parts
  obtain ⟨p_d1, p_d2, p_d3⟩ := h_d.parts
  obtain ⟨p_r1, p_r2, p_r3⟩ := h_r.parts
  obtain ⟨p_n1, p_n2, p_n3⟩ := h_n.parts
  obtain ⟨p_x1, p_x2, p_x3⟩ := h_x.parts
  obtain ⟨p_y1, p_y2, p_y3⟩ := h_y.parts
  obtain ⟨p_one1, p_one2, p_one3⟩ := h_one.parts
  obtain ⟨p_z1, p_z2, p_z3⟩ := h_z.parts
  clear hb15
  go_wp2_with fail
  refine (shown_ty h_y.v).mono ?_
  rintro e w16 ⟨rfl, hb16⟩
  clear p_a1 p_a2 p_a3 p_b1 p_b2 p_b3 p_s1 p_s2 p_s3 p_c1 p_c2 p_c3 p_d1 p_d2 p_d3 p_r1 p_r2 p_r3 p_n1 p_n2 p_n3 p_x1 p_x2 p_x3 p_y1 p_y2 p_y3 p_one1 p_one2 p_one3 p_z1 p_z2 p_z3
  replace h_a := h_a.nx hb16
  replace h_b := h_b.nx hb16
  replace h_s := h_s.nx hb16
  replace h_c := h_c.nx hb16
  replace h_d := h_d.nx hb16
  replace h_r := h_r.nx hb16
  replace h_n := h_n.nx hb16
  replace h_x := h_x.nx hb16
  replace h_y := h_y.nx hb16
  replace h_one := h_one.nx hb16
  replace h_z := h_z.nx hb16
  replace hB := bnx hB hb16
  obtain ⟨p_a1, p_a2, p_a3⟩ := h_a.parts
  obtain ⟨p_b1, p_b2, p_b3⟩ := h_b.parts
  obtain ⟨p_s1, p_s2, p_s3⟩ := h_s.parts
  obtain ⟨p_c1, p_c2, p_c3⟩ := h_c.parts
  obtain ⟨p_d1, p_d2, p_d3⟩ := h_d.parts
  obtain ⟨p_r1, p_r2, p_r3⟩ := h_r.parts
  obtain ⟨p_n1, p_n2, p_n3⟩ := h_n.parts
  obtain ⟨p_x1, p_x2, p_x3⟩ := h_x.parts
  obtain ⟨p_y1, p_y2, p_y3⟩ := h_y.parts
  obtain ⟨p_one1, p_one2, p_one3⟩ := h_one.parts
  obtain ⟨p_z1, p_z2, p_z3⟩ := h_z.parts
  clear hb16
  go_wp2_with fail
  refine (shown_tz h_z.v).mono ?_
  rintro e w17 ⟨rfl, hb17⟩
  clear p_a1 p_a2 p_a3 p_b1 p_b2 p_b3 p_s1 p_s2 p_s3 p_c1 p_c2 p_c3 p_d1 p_d2 p_d3 p_r1 p_r2 p_r3 p_n1 p_n2 p_n3 p_x1 p_x2 p_x3 p_y1 p_y2 p_y3 p_one1 p_one2 p_one3 p_z1 p_z2 p_z3
  replace h_a := h_a.nx hb17
  replace h_b := h_b.nx hb17
  replace h_s := h_s.nx hb17
  replace h_c := h_c.nx hb17
  replace h_d := h_d.nx hb17
  replace h_r := h_r.nx hb17
  replace h_n := h_n.nx hb17
  replace h_x := h_x.nx hb17
  replace h_y := h_y.nx hb17
  replace h_one := h_one.nx hb17
  replace h_z := h_z.nx hb17
  replace hB := bnx hB hb17
  obtain ⟨p_a1, p_a2, p_a3⟩ := h_a.parts
  obtain ⟨p_b1, p_b2, p_b3⟩ := h_b.parts
  obtain ⟨p_s1, p_s2, p_s3⟩ := h_s.parts
  obtain ⟨p_c1, p_c2, p_c3⟩ := h_c.parts
  obtain ⟨p_d1, p_d2, p_d3⟩ := h_d.parts
  obtain ⟨p_r1, p_r2, p_r3⟩ := h_r.parts
  obtain ⟨p_n1, p_n2, p_n3⟩ := h_n.parts
  obtain ⟨p_x1, p_x2, p_x3⟩ := h_x.parts
  obtain ⟨p_y1, p_y2, p_y3⟩ := h_y.parts
  obtain ⟨p_one1, p_one2, p_one3⟩ := h_one.parts
  obtain ⟨p_z1, p_z2, p_z3⟩ := h_z.parts
  clear hb17
  go_wp2_with fail
  refine (shown_right h_a.v).mono ?_
  rintro e w18 ⟨rfl, hb18⟩
  clear p_a1 p_a2 p_a3 p_b1 p_b2 p_b3 p_s1 p_s2 p_s3 p_c1 p_c2 p_c3 p_d1 p_d2 p_d3 p_r1 p_r2 p_r3 p_n1 p_n2 p_n3 p_x1 p_x2 p_x3 p_y1 p_y2 p_y3 p_one1 p_one2 p_one3 p_z1 p_z2 p_z3
  replace h_a := h_a.nx hb18
  replace h_b := h_b.nx hb18
  replace h_s := h_s.nx hb18
  replace h_c := h_c.nx hb18
  replace h_d := h_d.nx hb18
  replace h_r := h_r.nx hb18
  replace h_n := h_n.nx hb18
  replace h_x := h_x.nx hb18
  replace h_y := h_y.nx hb18
  replace h_one := h_one.nx hb18
  replace h_z := h_z.nx hb18
  replace hB := bnx hB hb18
  obtain ⟨p_a1, p_a2, p_a3⟩ := h_a.parts
  obtain ⟨p_b1, p_b2, p_b3⟩ := h_b.parts
  obtain ⟨p_s1, p_s2, p_s3⟩ := h_s.parts
  obtain ⟨p_c1, p_c2, p_c3⟩ := h_c.parts
  obtain ⟨p_d1, p_d2, p_d3⟩ := h_d.parts
  obtain ⟨p_r1, p_r2, p_r3⟩ := h_r.parts
  obtain ⟨p_n1, p_n2, p_n3⟩ := h_n.parts
  obtain ⟨p_x1, p_x2, p_x3⟩ := h_x.parts
  obtain ⟨p_y1, p_y2, p_y3⟩ := h_y.parts
  obtain ⟨p_one1, p_one2, p_one3⟩ := h_one.parts
  obtain ⟨p_z1, p_z2, p_z3⟩ := h_z.parts
  clear hb18
  go_wp2_with fail
  refine (shown_bit h_a.v).mono ?_
  rintro e w19 ⟨rfl, hb19⟩
  clear p_a1 p_a2 p_a3 p_b1 p_b2 p_b3 p_s1 p_s2 p_s3 p_c1 p_c2 p_c3 p_d1 p_d2 p_d3 p_r1 p_r2 p_r3 p_n1 p_n2 p_n3 p_x1 p_x2 p_x3 p_y1 p_y2 p_y3 p_one1 p_one2 p_one3 p_z1 p_z2 p_z3
  replace h_a := h_a.nx hb19
  replace h_b := h_b.nx hb19
  replace h_s := h_s.nx hb19
  replace h_c := h_c.nx hb19
  replace h_d := h_d.nx hb19
  replace h_r := h_r.nx hb19
  replace h_n := h_n.nx hb19
  replace h_x := h_x.nx hb19
  replace h_y := h_y.nx hb19
  replace h_one := h_one.nx hb19
  replace h_z := h_z.nx hb19
  replace hB := bnx hB hb19
  obtain ⟨p_a1, p_a2, p_a3⟩ := h_a.parts
  obtain ⟨p_b1, p_b2, p_b3⟩ := h_b.parts
  obtain ⟨p_s1, p_s2, p_s3⟩ := h_s.parts
  obtain ⟨p_c1, p_c2, p_c3⟩ := h_c.parts
  obtain ⟨p_d1, p_d2, p_d3⟩ := h_d.parts
  obtain ⟨p_r1, p_r2, p_r3⟩ := h_r.parts
  obtain ⟨p_n1, p_n2, p_n3⟩ := h_n.parts
  obtain ⟨p_x1, p_x2, p_x3⟩ := h_x.parts
  obtain ⟨p_y1, p_y2, p_y3⟩ := h_y.parts
  obtain ⟨p_one1, p_one2, p_one3⟩ := h_one.parts
  obtain ⟨p_z1, p_z2, p_z3⟩ := h_z.parts
  clear hb19
  go_wp2_with fail
  refine (shown_same h_a.v).mono ?_
  rintro e w20 ⟨rfl, hb20⟩
  clear p_a1 p_a2 p_a3 p_b1 p_b2 p_b3 p_s1 p_s2 p_s3 p_c1 p_c2 p_c3 p_d1 p_d2 p_d3 p_r1 p_r2 p_r3 p_n1 p_n2 p_n3 p_x1 p_x2 p_x3 p_y1 p_y2 p_y3 p_one1 p_one2 p_one3 p_z1 p_z2 p_z3
  replace h_a := h_a.nx hb20
  replace h_b := h_b.nx hb20
  replace h_s := h_s.nx hb20
  replace h_c := h_c.nx hb20
  replace h_d := h_d.nx hb20
  replace h_r := h_r.nx hb20
  replace h_n := h_n.nx hb20
  replace h_x := h_x.nx hb20
  replace h_y := h_y.nx hb20
  replace h_one := h_one.nx hb20
  replace h_z := h_z.nx hb20
  replace hB := bnx hB hb20
  obtain ⟨p_a1, p_a2, p_a3⟩ := h_a.parts
  obtain ⟨p_b1, p_b2, p_b3⟩ := h_b.parts
  obtain ⟨p_s1, p_s2, p_s3⟩ := h_s.parts
  obtain ⟨p_c1, p_c2, p_c3⟩ := h_c.parts
  obtain ⟨p_d1, p_d2, p_d3⟩ := h_d.parts
  obtain ⟨p_r1, p_r2, p_r3⟩ := h_r.parts
  obtain ⟨p_n1, p_n2, p_n3⟩ := h_n.parts
  obtain ⟨p_x1, p_x2, p_x3⟩ := h_x.parts
  obtain ⟨p_y1, p_y2, p_y3⟩ := h_y.parts
  obtain ⟨p_one1, p_one2, p_one3⟩ := h_one.parts
  obtain ⟨p_z1, p_z2, p_z3⟩ := h_z.parts
  clear hb20
  go_wp2
  go_ret
  exact ⟨rfl, hB⟩
end Go.Proofs.Ytnnoflohekmnbaa
