/-
  vec.Un over the translated program, at the ops that there are. Nothing is assumed.
-/
import Derived.Test.YtnnoflohekmnbaaProg
import Derived.WalkKit
import Derived.WalkSpells
import Derived.WalkLawsBesides
import Derived.LoopN
import Derived.IntWalk
import Derived.Lib.Hide
import Derived.Test.YtnnoflohekmnbaaB15
import Derived.Laws.BitsAllLaws
import Derived.Laws.Externs
import Derived.BigQuiet
import Derived.BigRegion
import Derived.Deep.QuietTactic
import Derived.Deep.RegionWith
import Derived.Deep.RegionHeld3
import Derived.StillTailTactics
import Derived.RegionTactic
import Derived.ChangeAlike
set_option linter.unusedVariables false
namespace Go.Proofs.Ytnnoflohekmnbaa
open Go.RowKit
/-- A call that tells a right vector, and no error. -/
def RetVE (w0 : World) (W N : Nat) (e : Ending) (w' : World) : Prop := ∃ ad c, e = .returned (.tuple #[.agg #[.int .i64 W, .slice (some ad) (lm W) c], .int .i64 0]) ∧ Vc w' w'.heap.size ad c W N ∧ w0.heap.size ≤ ad.block ∧ Below w0.heap.size w0 w'
/-- A call that tells an error, and no vector. -/
def RetErr (w0 : World) (k : Int) (e : Ending) (w' : World) : Prop := e = .returned (.tuple #[.agg #[.int .i64 0, .slice none 0 0], .int .i64 k]) ∧ Below w0.heap.size w0 w'
theorem Right_k {w : World} {ad : Addr} {c W N k : Nat} (hk : lm W = k) (h : Vc w w.heap.size ad c W N) : Calls Try.prog 15 #[.agg #[.int .i64 W, .slice (some ad) k c]] w (RetV w (.bool true)) := by
  subst hk; exact Right_yes h
theorem zero73 (w : World) : (zeroValue 73).run Try.prog w = .ok .nilFunc w := by kernel_rfl
theorem zero84 (w : World) : (zeroValue 84).run Try.prog w = .ok .nilFunc w := by kernel_rfl
theorem RetVE.mk {w w2 : World} {W N c g : Nat} {ad : Addr} (hv : Vc w2 w2.heap.size ad c W N) (hb : Below w.heap.size w w2) (hg : w.heap.size ≤ g) (hf : g < ad.block) {r0 r1 : Value} :
    RetVE w W N (.returned (.tuple #[.agg #[.int .i64 W, .slice (some ad) (lm W) c], .int .i64 0])) ((w2.setCell ⟨g, 0, none⟩ r0).setCell ⟨g, 1, none⟩ r1) :=
  ⟨ad, c, rfl, by have := hv.stored (g := g) (by omega) r0 r1; simpa using this, by omega, (hb.setCell (by simp; omega) _).setCell (by simp; omega) _⟩
set_option maxRecDepth 100000 in
set_option maxHeartbeats 1000000 in
theorem Un_wnot {w : World} {ad : Addr} {c W N Y : Nat} (h : Vc w w.heap.size ad c W N) (HC : Hid (∀ wx, Vc wx wx.heap.size ad c W N → ∀ g, wx.cell? ⟨g, 0, none⟩ = some (.func (.func 55) #[] #[]) → Calls Try.prog 88 #[.agg #[.int .i64 W, .slice (some ad) (lm W) c], .pointer (some ⟨g, 0, none⟩)] wx (RetVec wx W Y))) :
    Calls Try.prog 22 #[.string ⟨#[110, 111, 116]⟩, .agg #[.int .i64 W, .slice (some ad) (lm W) c]] w (RetVE w W Y) := by
  have hF0 := Lib.hid (Fr2.first w (.int .i64 W) (.slice (some ad) (lm W) c) (.int .i64 0) (.slice none 0 0) 24 24)
  have hV0 := Lib.hid (h.nx (Fr2.first w (.int .i64 W) (.slice (some ad) (lm W) c) (.int .i64 0) (.slice none 0 0) 24 24).bel)
  generalize hk : lm W = k at *
  have HK := Lib.hid hk
  clear h hk
  go_enter Try.func22, Try.ntmps22
  go_wp2_with fail
  refine (unary_any _).mono ?_
  rintro e w1 ⟨r, v0, v1, v2, v3, rfl, hM, hE, hr, hb1⟩
  have hF1 := hF0.out.nx hb1
  have hV1 := hV0.out.nx hb1
  obtain ⟨g, hg, hc⟩ := hE (v0, 88, 55) (by simp)
  simp only at hg hc
  subst hg
  have hlk := run_get 75 73 Try.underlying75 hM ⟨#[110, 111, 116]⟩ _ rfl
  simp only at hlk
  obtain ⟨⟨p1, p2⟩, ⟨p3, p4, p5, p6⟩, hz⟩ := hF1.parts
  clear hb1 hM hE hr
  go_wp2_with fail
  refine (Right_k HK.out hV1).mono ?_
  rintro e w2 ⟨rfl, hb2⟩
  have hF2 := hF1.nx hb2
  have hV2 := hV1.nx hb2
  have hc2 := (hb2.cell (World.block_lt_of_cell? w1 _ hc)).trans hc
  clear p1 p2 p3 p4 p5 p6 hz hlk hc hb2
  obtain ⟨⟨p1, p2⟩, ⟨p3, p4, p5, p6⟩, hz⟩ := hF2.parts
  go_wp2_with fail
  refine (HC.out w2 hV2 g hc2).mono ?_
  rintro e w3 ⟨ad3, c3, rfl, hv3, hf3, hb3⟩
  have hF3 := hF2.nx hb3
  clear p1 p2 p3 p4 p5 p6 hz
  obtain ⟨⟨p1, p2⟩, ⟨p3, p4, p5, p6⟩, hz⟩ := hF3.parts
  go_wp2
  refine bodyPost_ret (v := .tuple #[.agg #[.int .i64 (W : Int), .slice (some ad3) (lm W) c3], .int .i64 0]) (by simp [results, Try.results22, go_sem, *]) rfl ?_
  exact RetVE.mk (W := W) hv3 hF3.bel (by omega) (by have := hF2.sz; omega)
theorem Un_not {w : World} {ad : Addr} {c W N : Nat} (h : Vc w w.heap.size ad c W N) :
    Calls Try.prog 22 #[.string ⟨#[110, 111, 116]⟩, .agg #[.int .i64 W, .slice (some ad) (lm W) c]] w (RetVE w W ((2 ^ 128 - 1 - N) % 2 ^ W)) :=
  Un_wnot h (fun wx hv g hg => ofOne_not hv g hg)
set_option maxRecDepth 100000 in
set_option maxHeartbeats 1000000 in
theorem Un_winc {w : World} {ad : Addr} {c W N Y : Nat} (h : Vc w w.heap.size ad c W N) (HC : Hid (∀ wx, Vc wx wx.heap.size ad c W N → ∀ g, wx.cell? ⟨g, 0, none⟩ = some (.func (.func 58) #[] #[]) → Calls Try.prog 88 #[.agg #[.int .i64 W, .slice (some ad) (lm W) c], .pointer (some ⟨g, 0, none⟩)] wx (RetVec wx W Y))) :
    Calls Try.prog 22 #[.string ⟨#[105, 110, 99]⟩, .agg #[.int .i64 W, .slice (some ad) (lm W) c]] w (RetVE w W Y) := by
  have hF0 := Lib.hid (Fr2.first w (.int .i64 W) (.slice (some ad) (lm W) c) (.int .i64 0) (.slice none 0 0) 24 24)
  have hV0 := Lib.hid (h.nx (Fr2.first w (.int .i64 W) (.slice (some ad) (lm W) c) (.int .i64 0) (.slice none 0 0) 24 24).bel)
  generalize hk : lm W = k at *
  have HK := Lib.hid hk
  clear h hk
  go_enter Try.func22, Try.ntmps22
  go_wp2_with fail
  refine (unary_any _).mono ?_
  rintro e w1 ⟨r, v0, v1, v2, v3, rfl, hM, hE, hr, hb1⟩
  have hF1 := hF0.out.nx hb1
  have hV1 := hV0.out.nx hb1
  obtain ⟨g, hg, hc⟩ := hE (v1, 88, 58) (by simp)
  simp only at hg hc
  subst hg
  have hlk := run_get 75 73 Try.underlying75 hM ⟨#[105, 110, 99]⟩ _ rfl
  simp only at hlk
  obtain ⟨⟨p1, p2⟩, ⟨p3, p4, p5, p6⟩, hz⟩ := hF1.parts
  clear hb1 hM hE hr
  go_wp2_with fail
  refine (Right_k HK.out hV1).mono ?_
  rintro e w2 ⟨rfl, hb2⟩
  have hF2 := hF1.nx hb2
  have hV2 := hV1.nx hb2
  have hc2 := (hb2.cell (World.block_lt_of_cell? w1 _ hc)).trans hc
  clear p1 p2 p3 p4 p5 p6 hz hlk hc hb2
  obtain ⟨⟨p1, p2⟩, ⟨p3, p4, p5, p6⟩, hz⟩ := hF2.parts
  go_wp2_with fail
  refine (HC.out w2 hV2 g hc2).mono ?_
  rintro e w3 ⟨ad3, c3, rfl, hv3, hf3, hb3⟩
  have hF3 := hF2.nx hb3
  clear p1 p2 p3 p4 p5 p6 hz
  obtain ⟨⟨p1, p2⟩, ⟨p3, p4, p5, p6⟩, hz⟩ := hF3.parts
  go_wp2
  refine bodyPost_ret (v := .tuple #[.agg #[.int .i64 (W : Int), .slice (some ad3) (lm W) c3], .int .i64 0]) (by simp [results, Try.results22, go_sem, *]) rfl ?_
  exact RetVE.mk (W := W) hv3 hF3.bel (by omega) (by have := hF2.sz; omega)
theorem Un_inc {w : World} {ad : Addr} {c W N : Nat} (h : Vc w w.heap.size ad c W N) :
    Calls Try.prog 22 #[.string ⟨#[105, 110, 99]⟩, .agg #[.int .i64 W, .slice (some ad) (lm W) c]] w (RetVE w W ((N + 1) % 2 ^ 128 % 2 ^ W)) :=
  Un_winc h (fun wx hv g hg => ofOne_inc hv g hg)
set_option maxRecDepth 100000 in
set_option maxHeartbeats 1000000 in
theorem Un_wdec {w : World} {ad : Addr} {c W N Y : Nat} (h : Vc w w.heap.size ad c W N) (HC : Hid (∀ wx, Vc wx wx.heap.size ad c W N → ∀ g, wx.cell? ⟨g, 0, none⟩ = some (.func (.func 60) #[] #[]) → Calls Try.prog 88 #[.agg #[.int .i64 W, .slice (some ad) (lm W) c], .pointer (some ⟨g, 0, none⟩)] wx (RetVec wx W Y))) :
    Calls Try.prog 22 #[.string ⟨#[100, 101, 99]⟩, .agg #[.int .i64 W, .slice (some ad) (lm W) c]] w (RetVE w W Y) := by
  have hF0 := Lib.hid (Fr2.first w (.int .i64 W) (.slice (some ad) (lm W) c) (.int .i64 0) (.slice none 0 0) 24 24)
  have hV0 := Lib.hid (h.nx (Fr2.first w (.int .i64 W) (.slice (some ad) (lm W) c) (.int .i64 0) (.slice none 0 0) 24 24).bel)
  generalize hk : lm W = k at *
  have HK := Lib.hid hk
  clear h hk
  go_enter Try.func22, Try.ntmps22
  go_wp2_with fail
  refine (unary_any _).mono ?_
  rintro e w1 ⟨r, v0, v1, v2, v3, rfl, hM, hE, hr, hb1⟩
  have hF1 := hF0.out.nx hb1
  have hV1 := hV0.out.nx hb1
  obtain ⟨g, hg, hc⟩ := hE (v2, 88, 60) (by simp)
  simp only at hg hc
  subst hg
  have hlk := run_get 75 73 Try.underlying75 hM ⟨#[100, 101, 99]⟩ _ rfl
  simp only at hlk
  obtain ⟨⟨p1, p2⟩, ⟨p3, p4, p5, p6⟩, hz⟩ := hF1.parts
  clear hb1 hM hE hr
  go_wp2_with fail
  refine (Right_k HK.out hV1).mono ?_
  rintro e w2 ⟨rfl, hb2⟩
  have hF2 := hF1.nx hb2
  have hV2 := hV1.nx hb2
  have hc2 := (hb2.cell (World.block_lt_of_cell? w1 _ hc)).trans hc
  clear p1 p2 p3 p4 p5 p6 hz hlk hc hb2
  obtain ⟨⟨p1, p2⟩, ⟨p3, p4, p5, p6⟩, hz⟩ := hF2.parts
  go_wp2_with fail
  refine (HC.out w2 hV2 g hc2).mono ?_
  rintro e w3 ⟨ad3, c3, rfl, hv3, hf3, hb3⟩
  have hF3 := hF2.nx hb3
  clear p1 p2 p3 p4 p5 p6 hz
  obtain ⟨⟨p1, p2⟩, ⟨p3, p4, p5, p6⟩, hz⟩ := hF3.parts
  go_wp2
  refine bodyPost_ret (v := .tuple #[.agg #[.int .i64 (W : Int), .slice (some ad3) (lm W) c3], .int .i64 0]) (by simp [results, Try.results22, go_sem, *]) rfl ?_
  exact RetVE.mk (W := W) hv3 hF3.bel (by omega) (by have := hF2.sz; omega)
theorem Un_dec {w : World} {ad : Addr} {c W N : Nat} (h : Vc w w.heap.size ad c W N) :
    Calls Try.prog 22 #[.string ⟨#[100, 101, 99]⟩, .agg #[.int .i64 W, .slice (some ad) (lm W) c]] w (RetVE w W (sb N 1 % 2 ^ W)) :=
  Un_wdec h (fun wx hv g hg => ofOne_dec hv g hg)
set_option maxRecDepth 100000 in
set_option maxHeartbeats 1000000 in
theorem Un_wneg {w : World} {ad : Addr} {c W N Y : Nat} (h : Vc w w.heap.size ad c W N) (HC : Hid (∀ wx, Vc wx wx.heap.size ad c W N → ∀ g, wx.cell? ⟨g, 0, none⟩ = some (.func (.func 62) #[] #[]) → Calls Try.prog 88 #[.agg #[.int .i64 W, .slice (some ad) (lm W) c], .pointer (some ⟨g, 0, none⟩)] wx (RetVec wx W Y))) :
    Calls Try.prog 22 #[.string ⟨#[110, 101, 103]⟩, .agg #[.int .i64 W, .slice (some ad) (lm W) c]] w (RetVE w W Y) := by
  have hF0 := Lib.hid (Fr2.first w (.int .i64 W) (.slice (some ad) (lm W) c) (.int .i64 0) (.slice none 0 0) 24 24)
  have hV0 := Lib.hid (h.nx (Fr2.first w (.int .i64 W) (.slice (some ad) (lm W) c) (.int .i64 0) (.slice none 0 0) 24 24).bel)
  generalize hk : lm W = k at *
  have HK := Lib.hid hk
  clear h hk
  go_enter Try.func22, Try.ntmps22
  go_wp2_with fail
  refine (unary_any _).mono ?_
  rintro e w1 ⟨r, v0, v1, v2, v3, rfl, hM, hE, hr, hb1⟩
  have hF1 := hF0.out.nx hb1
  have hV1 := hV0.out.nx hb1
  obtain ⟨g, hg, hc⟩ := hE (v3, 88, 62) (by simp)
  simp only at hg hc
  subst hg
  have hlk := run_get 75 73 Try.underlying75 hM ⟨#[110, 101, 103]⟩ _ rfl
  simp only at hlk
  obtain ⟨⟨p1, p2⟩, ⟨p3, p4, p5, p6⟩, hz⟩ := hF1.parts
  clear hb1 hM hE hr
  go_wp2_with fail
  refine (Right_k HK.out hV1).mono ?_
  rintro e w2 ⟨rfl, hb2⟩
  have hF2 := hF1.nx hb2
  have hV2 := hV1.nx hb2
  have hc2 := (hb2.cell (World.block_lt_of_cell? w1 _ hc)).trans hc
  clear p1 p2 p3 p4 p5 p6 hz hlk hc hb2
  obtain ⟨⟨p1, p2⟩, ⟨p3, p4, p5, p6⟩, hz⟩ := hF2.parts
  go_wp2_with fail
  refine (HC.out w2 hV2 g hc2).mono ?_
  rintro e w3 ⟨ad3, c3, rfl, hv3, hf3, hb3⟩
  have hF3 := hF2.nx hb3
  clear p1 p2 p3 p4 p5 p6 hz
  obtain ⟨⟨p1, p2⟩, ⟨p3, p4, p5, p6⟩, hz⟩ := hF3.parts
  go_wp2
  refine bodyPost_ret (v := .tuple #[.agg #[.int .i64 (W : Int), .slice (some ad3) (lm W) c3], .int .i64 0]) (by simp [results, Try.results22, go_sem, *]) rfl ?_
  exact RetVE.mk (W := W) hv3 hF3.bel (by omega) (by have := hF2.sz; omega)
theorem Un_neg {w : World} {ad : Addr} {c W N : Nat} (h : Vc w w.heap.size ad c W N) :
    Calls Try.prog 22 #[.string ⟨#[110, 101, 103]⟩, .agg #[.int .i64 W, .slice (some ad) (lm W) c]] w (RetVE w W (sb 0 N % 2 ^ W)) :=
  Un_wneg h (fun wx hv g hg => ofOne_neg hv g hg)
set_option maxRecDepth 100000 in
set_option maxHeartbeats 1000000 in
theorem Un_wredand {w : World} {ad : Addr} {c W N Y : Nat} (h : Vc w w.heap.size ad c W N) (HC : Hid (∀ wx, Vc wx wx.heap.size ad c W N → Calls Try.prog 63 #[.agg #[.int .i64 W, .slice (some ad) (lm W) c]] wx (RetBit wx Y))) :
    Calls Try.prog 22 #[.string ⟨#[114, 101, 100, 97, 110, 100]⟩, .agg #[.int .i64 W, .slice (some ad) (lm W) c]] w (RetVE w 1 Y) := by
  have hF0 := Lib.hid (Fr2.first w (.int .i64 W) (.slice (some ad) (lm W) c) (.int .i64 0) (.slice none 0 0) 24 24)
  have hV0 := Lib.hid (h.nx (Fr2.first w (.int .i64 W) (.slice (some ad) (lm W) c) (.int .i64 0) (.slice none 0 0) 24 24).bel)
  generalize hk : lm W = k at *
  have HK := Lib.hid hk
  clear h hk
  go_enter Try.func22, Try.ntmps22
  go_wp2_with fail
  refine (unary_any _).mono ?_
  rintro e w1 ⟨r, v0, v1, v2, v3, rfl, hM, hE, hr, hb1⟩
  have hF1 := hF0.out.nx hb1
  have hV1 := hV0.out.nx hb1
  have hlk := run_get 75 73 Try.underlying75 hM ⟨#[114, 101, 100, 97, 110, 100]⟩ _ rfl
  simp only at hlk
  obtain ⟨⟨p1, p2⟩, ⟨p3, p4, p5, p6⟩, hz⟩ := hF1.parts
  clear hb1 hM hE hr
  go_wp2_with fail
  refine (Right_k HK.out hV1).mono ?_
  rintro e w2 ⟨rfl, hb2⟩
  have hF2 := hF1.nx hb2
  have hV2 := hV1.nx hb2
  clear p1 p2 p3 p4 p5 p6 hz hlk hb2
  obtain ⟨⟨p1, p2⟩, ⟨p3, p4, p5, p6⟩, hz⟩ := hF2.parts
  go_wp2_with fail
  refine (HC.out w2 hV2).mono ?_
  rintro e w3 ⟨ad3, c3, rfl, hv3, hf3, hb3⟩
  have hF3 := hF2.nx hb3
  clear p1 p2 p3 p4 p5 p6 hz
  obtain ⟨⟨p1, p2⟩, ⟨p3, p4, p5, p6⟩, hz⟩ := hF3.parts
  go_wp2
  refine bodyPost_ret (v := .tuple #[.agg #[.int .i64 1, .slice (some ad3) 1 c3], .int .i64 0]) (by simp [results, Try.results22, go_sem, *]) rfl ?_
  exact RetVE.mk (W := 1) hv3 hF3.bel (by omega) (by have := hF2.sz; omega)
theorem Un_redand {w : World} {ad : Addr} {c W N : Nat} (h : Vc w w.heap.size ad c W N) :
    Calls Try.prog 22 #[.string ⟨#[114, 101, 100, 97, 110, 100]⟩, .agg #[.int .i64 W, .slice (some ad) (lm W) c]] w (RetVE w 1 (bn (N == 2 ^ W - 1))) :=
  Un_wredand h (fun wx hv  => redand_any hv)
set_option maxRecDepth 100000 in
set_option maxHeartbeats 1000000 in
theorem Un_wredor {w : World} {ad : Addr} {c W N Y : Nat} (h : Vc w w.heap.size ad c W N) (HC : Hid (∀ wx, Vc wx wx.heap.size ad c W N → Calls Try.prog 65 #[.agg #[.int .i64 W, .slice (some ad) (lm W) c]] wx (RetBit wx Y))) :
    Calls Try.prog 22 #[.string ⟨#[114, 101, 100, 111, 114]⟩, .agg #[.int .i64 W, .slice (some ad) (lm W) c]] w (RetVE w 1 Y) := by
  have hF0 := Lib.hid (Fr2.first w (.int .i64 W) (.slice (some ad) (lm W) c) (.int .i64 0) (.slice none 0 0) 24 24)
  have hV0 := Lib.hid (h.nx (Fr2.first w (.int .i64 W) (.slice (some ad) (lm W) c) (.int .i64 0) (.slice none 0 0) 24 24).bel)
  generalize hk : lm W = k at *
  have HK := Lib.hid hk
  clear h hk
  go_enter Try.func22, Try.ntmps22
  go_wp2_with fail
  refine (unary_any _).mono ?_
  rintro e w1 ⟨r, v0, v1, v2, v3, rfl, hM, hE, hr, hb1⟩
  have hF1 := hF0.out.nx hb1
  have hV1 := hV0.out.nx hb1
  have hlk := run_get 75 73 Try.underlying75 hM ⟨#[114, 101, 100, 111, 114]⟩ _ rfl
  simp only at hlk
  obtain ⟨⟨p1, p2⟩, ⟨p3, p4, p5, p6⟩, hz⟩ := hF1.parts
  clear hb1 hM hE hr
  go_wp2_with fail
  refine (Right_k HK.out hV1).mono ?_
  rintro e w2 ⟨rfl, hb2⟩
  have hF2 := hF1.nx hb2
  have hV2 := hV1.nx hb2
  clear p1 p2 p3 p4 p5 p6 hz hlk hb2
  obtain ⟨⟨p1, p2⟩, ⟨p3, p4, p5, p6⟩, hz⟩ := hF2.parts
  go_wp2_with fail
  refine (HC.out w2 hV2).mono ?_
  rintro e w3 ⟨ad3, c3, rfl, hv3, hf3, hb3⟩
  have hF3 := hF2.nx hb3
  clear p1 p2 p3 p4 p5 p6 hz
  obtain ⟨⟨p1, p2⟩, ⟨p3, p4, p5, p6⟩, hz⟩ := hF3.parts
  go_wp2
  refine bodyPost_ret (v := .tuple #[.agg #[.int .i64 1, .slice (some ad3) 1 c3], .int .i64 0]) (by simp [results, Try.results22, go_sem, *]) rfl ?_
  exact RetVE.mk (W := 1) hv3 hF3.bel (by omega) (by have := hF2.sz; omega)
theorem Un_redor {w : World} {ad : Addr} {c W N : Nat} (h : Vc w w.heap.size ad c W N) :
    Calls Try.prog 22 #[.string ⟨#[114, 101, 100, 111, 114]⟩, .agg #[.int .i64 W, .slice (some ad) (lm W) c]] w (RetVE w 1 (bn (N != 0))) :=
  Un_wredor h (fun wx hv  => redor_any hv)
set_option maxRecDepth 100000 in
set_option maxHeartbeats 1000000 in
theorem Un_wredxor {w : World} {ad : Addr} {c W N Y : Nat} (h : Vc w w.heap.size ad c W N) (HC : Hid (∀ wx, Vc wx wx.heap.size ad c W N → Calls Try.prog 66 #[.agg #[.int .i64 W, .slice (some ad) (lm W) c]] wx (RetBit wx Y))) :
    Calls Try.prog 22 #[.string ⟨#[114, 101, 100, 120, 111, 114]⟩, .agg #[.int .i64 W, .slice (some ad) (lm W) c]] w (RetVE w 1 Y) := by
  have hF0 := Lib.hid (Fr2.first w (.int .i64 W) (.slice (some ad) (lm W) c) (.int .i64 0) (.slice none 0 0) 24 24)
  have hV0 := Lib.hid (h.nx (Fr2.first w (.int .i64 W) (.slice (some ad) (lm W) c) (.int .i64 0) (.slice none 0 0) 24 24).bel)
  generalize hk : lm W = k at *
  have HK := Lib.hid hk
  clear h hk
  go_enter Try.func22, Try.ntmps22
  go_wp2_with fail
  refine (unary_any _).mono ?_
  rintro e w1 ⟨r, v0, v1, v2, v3, rfl, hM, hE, hr, hb1⟩
  have hF1 := hF0.out.nx hb1
  have hV1 := hV0.out.nx hb1
  have hlk := run_get 75 73 Try.underlying75 hM ⟨#[114, 101, 100, 120, 111, 114]⟩ _ rfl
  simp only at hlk
  obtain ⟨⟨p1, p2⟩, ⟨p3, p4, p5, p6⟩, hz⟩ := hF1.parts
  clear hb1 hM hE hr
  go_wp2_with fail
  refine (Right_k HK.out hV1).mono ?_
  rintro e w2 ⟨rfl, hb2⟩
  have hF2 := hF1.nx hb2
  have hV2 := hV1.nx hb2
  clear p1 p2 p3 p4 p5 p6 hz hlk hb2
  obtain ⟨⟨p1, p2⟩, ⟨p3, p4, p5, p6⟩, hz⟩ := hF2.parts
  go_wp2_with fail
  refine (HC.out w2 hV2).mono ?_
  rintro e w3 ⟨ad3, c3, rfl, hv3, hf3, hb3⟩
  have hF3 := hF2.nx hb3
  clear p1 p2 p3 p4 p5 p6 hz
  obtain ⟨⟨p1, p2⟩, ⟨p3, p4, p5, p6⟩, hz⟩ := hF3.parts
  go_wp2
  refine bodyPost_ret (v := .tuple #[.agg #[.int .i64 1, .slice (some ad3) 1 c3], .int .i64 0]) (by simp [results, Try.results22, go_sem, *]) rfl ?_
  exact RetVE.mk (W := 1) hv3 hF3.bel (by omega) (by have := hF2.sz; omega)
theorem Un_redxor {w : World} {ad : Addr} {c W N : Nat} (h : Vc w w.heap.size ad c W N) :
    Calls Try.prog 22 #[.string ⟨#[114, 101, 100, 120, 111, 114]⟩, .agg #[.int .i64 W, .slice (some ad) (lm W) c]] w (RetVE w 1 (bn (pc 128 N % 2 == 1))) :=
  Un_wredxor h (fun wx hv  => redxor_any hv)
end Go.Proofs.Ytnnoflohekmnbaa
