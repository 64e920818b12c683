/-
  DrupBack, walked.
-/
import Derived.Test.YtahedhpffjgimaaDoorProg
import Derived.WalkKit
import Derived.WalkSpells
import Derived.WalkLawsBesides
import Derived.Lib.Hide
import Derived.BigQuiet
import Derived.Deep.QuietTactic
import Derived.Deep.RegionWith
import Derived.Deep.RegionHeld3
import Derived.Test.YtahedhpffjgimaaDoorQ21
import Derived.Test.YtahedhpffjgimaaDoorQ23
import Derived.IntWalk
set_option linter.unusedVariables false
namespace Go.Proofs.YtahedhpffjgimaaDoor
open Go.RowKit
open Go.Lib Go.Sort
theorem el34 : Tryd.prog.elem 34 = 54 := by kernel_rfl
theorem u34 : Tryd.prog.underlying 34 = some (.slice (Tryd.prog.elem 34)) := by kernel_rfl
theorem cut34 (w : World) (A : Option Addr) (n c k : Nat) (t : Int) (ht : t = (k : Int)) (hk : k ≤ c) :
    (Instr.slice 34 (.slice A n c) none (some (.int .i64 t)) none).run Tryd.prog w = .ok (.slice A k c) w := by
  have hs : (sizeOf 54).run Tryd.prog w = .ok 2 w := by kernel_rfl
  subst ht
  rw [run_slice_h w 34 A n c u34 .i64 k (by omega) (by omega), el34, hs]
  rcases A with _ | a <;> simp [Result.andThen, sliced, Addr.add]
theorem RS.take {w : World} {B : Nat} {A : Option Addr} {P : List Stp} (h : RS w B A P) (k : Nat) : RS w B A (P.take k) := by
  intro i hi
  have hi' : i < k ∧ i < P.length := by simp at hi; omega
  have e : (P.take k).getD i (true, []) = P.getD i (true, []) := by simp [List.getD_eq_getElem?_getD, List.getElem?_take_of_lt hi'.1]
  rw [e]
  exact h i hi'.2
theorem dparse_bytes (w : World) (S : ByteArray) (n : Int) (l : List UInt8) (hS : S = strOf l) (hl : l.length ≤ 30000) (h0 : 0 ≤ n) (h1 : n ≤ 100000) :
    Calls Tryd.prog 21 #[.slice (some ⟨w.heap.size, 0, none⟩) S.size (grownCap w S.size 0 5), .int .i64 n] (Lib.bytesWorld w 5 S) (fun e w' => ∃ v, e = .returned (.tuple #[v, .int .i64 ((parseD n l).2.1 : Int), .int .i64 (parseD n l).2.2]) ∧ (∃ A c, v = .slice A (parseD n l).1.length c ∧ RS w' w'.heap.size A (parseD n l).1) ∧ Below w.heap.size w w') := by
  subst hS
  obtain ⟨b1, b2, b3⟩ := bytes_read w (strOf l)
  have := PParse_any (some ⟨w.heap.size, 0, none⟩) (grownCap w l.length 0 5) n l (Lib.bytesWorld w 5 (strOf l)) (by rw [b3]; exact b1) (grownCap_ge _ _ _ _) (grownCap_le_maxLen _ _ _ _ (by unfold maxLen; omega)) hl h0 h1
  rw [strOf_size]
  refine this.mono ?_
  rintro e w' ⟨v, rfl, ho, hb⟩
  obtain ⟨A, c, rfl, hr, _⟩ := ho.val
  exact ⟨_, rfl, ⟨A, c, rfl, hr⟩, bnx b2 hb⟩
theorem dparse_any (A : Option Addr) (c : Nat) (n : Int) (l : List UInt8) (w : World) (h : Rd w w.heap.size A l) (hn : l.length ≤ c) (hc : c ≤ maxLen) (hl : l.length ≤ 30000) (h0 : 0 ≤ n) (h1 : n ≤ 100000) :
    Calls Tryd.prog 21 #[.slice A l.length c, .int .i64 n] w (fun e w' => ∃ v, e = .returned (.tuple #[v, .int .i64 ((parseD n l).2.1 : Int), .int .i64 (parseD n l).2.2]) ∧ (∃ A c, v = .slice A (parseD n l).1.length c ∧ RS w' w'.heap.size A (parseD n l).1) ∧ Below w.heap.size w w') := by
  refine (PParse_any A c n l w h hn hc hl h0 h1).mono ?_
  rintro e w' ⟨v, rfl, ho, hb⟩
  obtain ⟨A, c, rfl, hr, _⟩ := ho.val
  exact ⟨_, rfl, ⟨A, c, rfl, hr⟩, hb⟩
theorem printP_ge : ∀ (P : List Stp), 2 * P.length ≤ (printP P).length
  | [] => by simp
  | s :: P => by
    have := printP_ge P
    have h5 : 2 ≤ (stepS s).length := by unfold stepS tellS; split <;> simp <;> omega
    have e : printP (s :: P) = stepS s ++ printP P := rfl
    rw [e, List.length_append, List.length_cons]; omega
theorem back_okp {P : List Stp} {n : Int} (h : rightP n P = true) (hp : (printP P).length ≤ 2000) : Okp P := by
  have h6 := printP_ge P
  obtain ⟨h0, h1, _, h3⟩ := rightP_parts h
  exact ⟨by omega, fun s hs => ⟨(h3 s hs).1, fun x hx => by have := (h3 s hs).2 x hx; omega⟩⟩
theorem parseD_bad (n : Int) (l : List UInt8) (h : (parseD n l).2.2 ≠ 0) : (parseD n l).1 = [] := rdP_err n _ _ h
theorem mayD_small {n : Int} {L : List (List Int)} {P : List Stp} (h : mayD n L P = true) : smallP 20 P = true := by
  simp only [mayD, Bool.and_eq_true] at h
  exact h.1.2
set_option maxHeartbeats 4000000 in
set_option maxRecDepth 100000 in
theorem back_out (LA PA Ab : Option Addr) (k kp kb : Nat) (n : Int) (L : List (List Int)) (P : List Stp) (l : List UInt8) (w : World) (hst : Start w LA PA k kp n L P) (hl : l.length ≤ maxLen) (h : mayD n L P = false ∨ (mayD n L P = true ∧ 2000 < l.length)) :
    Calls Tryd.prog 7 #[.slice PA P.length kp, .slice Ab l.length kb, .agg #[.int .i64 n, .slice LA L.length k]] w (RetV w (.bool true)) := by
  unfold maxLen at hl
  have F0 := FW.first w LA k n L
  have C1 := hst.c1 _ F0.bel
  have HS := Lib.hid hst
  have HF := Lib.hid F0
  clear hst F0
  rcases h with h | ⟨h, hne⟩
  · go_enter Tryd.func7, Tryd.ntmps7
    go_wp2_with fail
    refine C1.mono ?_; rintro e w1 ⟨rfl, hb⟩
    have F1 := Lib.hid (HF.out.nx hb)
    have p0 := F1.out.f0
    have p1 := F1.out.f1
    have c2 := HS.out.c2 _ F1.out.bel
    rw [h] at c2
    clear C1 hb h
    go_wp2_with fail
    refine c2.mono ?_; rintro e w2 ⟨rfl, hb⟩
    have HB := Lib.hid (F1.out.nx hb).bel
    clear c2 hb
    go_wp2
    go_ret
    exact ⟨rfl, HB.out⟩
  · have dn : decide (2000 < l.length) = true := decide_eq_true hne
    have dn' : decide ((2000 : Int) < l.length) = true := decide_eq_true (by omega)
    clear hne
    go_enter Tryd.func7, Tryd.ntmps7
    go_wp2_with fail
    refine C1.mono ?_; rintro e w1 ⟨rfl, hb⟩
    have F1 := Lib.hid (HF.out.nx hb)
    have p0 := F1.out.f0
    have p1 := F1.out.f1
    have c2 := HS.out.c2 _ F1.out.bel
    rw [h] at c2
    clear C1 hb h
    go_wp2_with fail
    refine c2.mono ?_; rintro e w2 ⟨rfl, hb⟩
    have F2 := Lib.hid (F1.out.nx hb)
    clear c2 hb p0 p1
    go_wp2
    go_ret
    exact ⟨rfl, F2.out.bel⟩
set_option maxHeartbeats 8000000 in
set_option maxRecDepth 100000 in
theorem back_in (LA PA Ab : Option Addr) (k kp kb : Nat) (n : Int) (L : List (List Int)) (P : List Stp) (l : List UInt8) (w : World) (hst : Start w LA PA k kp n L P) (hL : RCk w w.heap.size LA L) (hP : RS w w.heap.size PA P) (hB : Rd w w.heap.size Ab l) (hlk : l.length ≤ kb) (hkm : kb ≤ maxLen) (hpk : P.length ≤ kp) (hW : Pow w.heap.size w) (hm : mayD n L P = true) (hl : l.length ≤ 2000) :
    Calls Tryd.prog 7 #[.slice PA P.length kp, .slice Ab l.length kb, .agg #[.int .i64 n, .slice LA L.length k]] w (RetV w (.bool true)) := by
  obtain ⟨_, hpl, hn0, hn1⟩ := may_len hm
  obtain ⟨g1, g2, g3⟩ := may_gd hm
  obtain ⟨_, _, _, _, _, _, _, hr⟩ := mayD_parts hm
  have hsm := mayD_small hm
  have hok := apart_okp hr (by omega)
  have hst2 := small_text hr hsm
  have hpp := parseD_print hr
  have d1 : decide (2000 < l.length) = false := decide_eq_false (by omega)
  have d1' : decide ((2000 : Int) < l.length) = false := decide_eq_false (by omega)
  have F0 := FW.first w LA k n L
  generalize hw0 : w.alloc (.cells #[.int .i64 n, .slice LA L.length k] 24) = w0 at *
  have b0 := F0.bel
  have C1 := hst.c1 _ b0
  have C2 : Hid (∀ wx, Below w0.heap.size w0 wx → Calls Tryd.prog 25 #[.agg #[.int .i64 n, .slice LA L.length k], .slice PA P.length kp] wx (RetV wx (.bool true))) := Lib.hid fun wx hx => by have := hst.c2 wx (bnx b0 hx); rwa [hm] at this
  have kc := fun (wx : World) (S : ByteArray) => Lib.run_convert_string_bytes (P := Tryd.prog) wx 9 35 5 S Tryd.underlying9 Tryd.underlying35 Tryd.underlying5
  have HW0 := Lib.hid hw0
  have HB0 := Lib.hid b0
  have HFF := Lib.hid F0
  have H0 := Lib.hid (And.intro (hL.nx b0) (And.intro (hP.nx b0) (And.intro ((hB.below b0).mono b0.size) (hW.nx b0))))
  have HL := Lib.hid (And.intro hlk hkm)
  have HG := Lib.hid (And.intro g1 (And.intro g2 g3))
  have HO := Lib.hid hok
  have HR := Lib.hid hr
  have HPP := Lib.hid hpp
  have HS2 := Lib.hid hst2
  have HN := Lib.hid (And.intro hn0 hn1)
  have HPK := Lib.hid hpk
  clear hst hL hP hB hm hr hok hsm hpp hst2 g1 g2 g3 hlk hkm hW hw0 b0 F0 hn0 hn1 hpk
  go_enter Tryd.func7, Tryd.ntmps7
  go_wp2_with fail
  rw [HW0.out]
  refine C1.mono ?_; rintro e w1 ⟨rfl, hb⟩
  have H1 := Lib.hid hb
  have F1 := HFF.out.nx hb
  have p0 := F1.f0
  have p1 := F1.f1
  have c2 := C2.out _ hb
  clear C1 hb F1
  go_wp2_with fail
  refine c2.mono ?_; rintro e w2 ⟨rfl, hb⟩
  have H2 := Lib.hid (bnx H1.out hb)
  have F2 := HFF.out.nx H2.out
  have q0 := F2.f0
  have q1 := F2.f1
  have c3 := PPrint_any PA kp P w2 (H0.out.2.1.nx H2.out) (H0.out.2.2.2.nx H2.out) HO.out
  obtain ⟨S, hS⟩ : ∃ S : ByteArray, (⟨(printP P).toArray⟩ : ByteArray) = S := ⟨_, rfl⟩
  rw [hS] at c3
  have hss : S.size = (printP P).length := by rw [← hS]; rfl
  have hsl : S.size ≤ 10000 := by rw [hss]; exact HS2.out
  have HS := Lib.hid hS
  have HSS := Lib.hid hss
  clear c2 hb p0 p1 F2 hS hss
  go_wp2_with fail
  refine c3.mono ?_; rintro e w3 ⟨rfl, hb⟩
  have H3 := Lib.hid (bnx H2.out hb)
  have F3 := HFF.out.nx H3.out
  have p0 := F3.f0
  have p1 := F3.f1
  have hws : w.heap.size < w3.heap.size := by
    have h1 := H3.out.size
    have h2 : w0.heap.size = w.heap.size + 1 := by rw [← HW0.out]; simp
    omega
  have p0' := ((bytes_read w3 S).2.1.cell (p := ⟨w.heap.size, 0, none⟩) hws).trans p0
  have C4 := dparse_bytes w3 S n (printP P) HS.out.symm (by have := HS2.out; omega) HN.out.1 (by have := HN.out.2; omega)
  rw [HPP.out] at C4
  simp only at C4
  rw [← HSS.out] at C4
  have kc3 := kc w3 S
  have hp1 : P.length ≤ 20 := hpl
  clear c3 hb q0 q1 F3
  go_wp2_with fail
  refine C4.mono ?_; rintro e w4 ⟨v4, rfl, ⟨A4, c4, rfl, r4⟩, hb⟩
  have H4 := Lib.hid (bnx H3.out hb)
  have HR4 := Lib.hid r4
  have F4 := HFF.out.nx H4.out
  have q0 := F4.f0
  have q1 := F4.f1
  have C5 := dparse_any Ab kb n l w4 ((H0.out.2.2.1.below H4.out).mono H4.out.size) HL.out.1 HL.out.2 (by omega) HN.out.1 (by have := HN.out.2; omega)
  obtain ⟨Q, hQ⟩ : ∃ Q, (parseD n l).1 = Q := ⟨_, rfl⟩
  obtain ⟨K, hK⟩ : ∃ K, (parseD n l).2.1 = K := ⟨_, rfl⟩
  obtain ⟨E, hE⟩ : ∃ E, (parseD n l).2.2 = E := ⟨_, rfl⟩
  have hKl : K ≤ l.length := by rw [← hK]; exact rdP_len n l.length l
  have hbad : E ≠ 0 → Q = [] := fun h => by rw [← hQ]; exact parseD_bad n l (by rw [hE]; exact h)
  have hgd : E = 0 → rightP n Q = true ∧ printP Q = l ∧ K = l.length := fun h => by
    have := parseD_back (n := n) (l := l) HN.out.1 (by have := HN.out.2; omega) (by omega) (by rw [hE]; exact h)
    rw [hQ, hK] at this
    exact this
  rw [hQ, hK, hE] at C5
  have HQ := Lib.hid (And.intro hbad hgd)
  clear C4 hb p0 p1 p0' kc3 F4 hQ hK hE hbad hgd kc r4
  go_wp2_with fail
  refine C5.mono ?_; rintro e w5 ⟨v5, rfl, ⟨A5, c5, rfl, r5⟩, hb⟩
  have H5 := Lib.hid (bnx H4.out hb)
  have HR5 := Lib.hid r5
  have F5 := HFF.out.nx H5.out
  have p0 := F5.f0
  have p1 := F5.f1
  have C6 := refPSame_any PA A4 kp c4 P P w5 (H0.out.2.1.nx H5.out) (HR4.out.nx hb) (by unfold maxLen; omega) (by unfold maxLen; omega)
  rw [sameP_self] at C6
  have dz : decide ((K : Int) < 0) = false := decide_eq_false (by omega)
  have dl : decide ((l.length : Int) < K) = false := decide_eq_false (by omega)
  have dl' : decide (l.length < K) = false := decide_eq_false (by omega)
  clear C5 hb q0 q1 F5 r5
  go_wp2_with fail
  refine C6.mono ?_; rintro e w6 ⟨rfl, hb⟩
  have H6 := Lib.hid (bnx H5.out hb)
  have F6 := HFF.out.nx H6.out
  have q0 := F6.f0
  have q1 := F6.f1
  have R6 := Lib.hid (HR5.out.nx hb)
  obtain ⟨I, hI⟩ : ∃ I, (checkQ (setsOf L) 0 P).1 = I := ⟨_, rfl⟩
  obtain ⟨G, hG⟩ : ∃ G, (checkQ (setsOf L) 0 P).2 = G := ⟨_, rfl⟩
  have hck := checkQ_ok P (setsOf L) 0
  rw [hI, hG] at hck
  have HCK := Lib.hid hck
  have C7 : Hid (∀ wx, Below w0.heap.size w0 wx → Calls Tryd.prog 26 #[.agg #[.int .i64 n, .slice LA L.length k], .slice PA P.length kp] wx (RetV wx (.tuple #[.int .i64 (I : Int), .int .i64 G]))) := Lib.hid fun wx hx => by
    have := Check_any LA PA k kp n L P wx (H0.out.1.nx hx) (H0.out.2.1.nx hx) HG.out.1 HG.out.2.1 HG.out.2.2
    unfold RetII at this
    rw [hI, hG] at this
    exact this
  have C8 : Hid (∀ i wx, i < P.length → checkQ (setsOf L) 0 (P.take (i + 1)) = (0 + i, 0) → Below w0.heap.size w0 wx → Calls Tryd.prog 26 #[.agg #[.int .i64 n, .slice LA L.length k], .slice PA (i + 1) kp] wx (RetV wx (.tuple #[.int .i64 (i : Int), .int .i64 0]))) := Lib.hid fun i wx hi hq hx => by
    have hl2 : (P.take (i + 1)).length = i + 1 := by simp; omega
    have := Check_any LA PA k kp n L (P.take (i + 1)) wx (H0.out.1.nx hx) ((H0.out.2.1.nx hx).take (i + 1)) HG.out.1 (by rw [hl2]; have := HG.out.2.1; omega) (fun s hs => HG.out.2.2 s (List.mem_of_mem_take hs))
    unfold RetII at this
    rw [hq, hl2] at this
    simp only [Nat.zero_add] at this
    exact this
  clear C6 hb p0 p1 F6 hI hG hck dz dl dl'
  by_cases h0 : E = 0
  · obtain ⟨hrq, hpq, hk⟩ := HQ.out.2 h0
    subst h0
    subst hk
    have hokq := back_okp hrq (by rw [hpq]; exact hl)
    have Tq : (⟨(printP Q).toArray⟩ : ByteArray) = ⟨l.toArray⟩ := by rw [hpq]
    have D1 : Hid (∀ wx, Below w6.heap.size w6 wx → Calls Tryd.prog 23 #[.slice A5 Q.length c5] wx (RetV wx (.string ⟨l.toArray⟩))) := Lib.hid fun wx hx => by
      have := PPrint_any A5 c5 Q wx (R6.out.nx hx) (H0.out.2.2.2.nx (bnx H6.out hx)) hokq
      rwa [Tq] at this
    have D2 : Hid (∀ wx, Below w6.heap.size w6 wx → Calls Tryd.prog 18 #[.int .i64 n, .slice A5 Q.length c5] wx (RetV wx (.bool true))) := Lib.hid fun wx hx => by
      have := refPRight_any A5 c5 n Q wx (R6.out.nx hx) (by have := hokq.1; unfold maxLen; omega)
      rwa [hrq] at this
    have HKK : Hid (∀ wx, Below w6.heap.size w6 wx → wx.cell? ⟨w.heap.size, 0, none⟩ = some (.int .i64 n) ∧ (convert 35 9 (.slice Ab l.length kb)).run Tryd.prog wx = .ok (.string ⟨l.toArray⟩) wx) := Lib.hid fun wx hx => ⟨(HFF.out.nx (bnx H6.out hx)).f0, conv_str Ab l.length kb l w0.heap.size wx (H0.out.2.2.1.below (bnx H6.out hx)) rfl⟩
    have hU := (Below.refl w6.heap.size w6).drew
    have K0 := HKK.out _ hU
    have HEr := Lib.hid H6.out
    clear hrq hpq hokq Tq q1
    go_wp2_with fail
    refine wp_region_noPanic ?_
    refine wp_region_held_drew (S := (fun w' => w'.cell? ⟨w.heap.size, 0, none⟩ = some (.int .i64 n) ∧ (convert 35 9 (.slice Ab l.length kb)).run Tryd.prog w' = .ok (.string ⟨l.toArray⟩) w')) (by kernel_rfl) ?_ (fun hHeld => ?_)
    · exact K0
    refine wpAnyH_take (i := 0) (oi := { dst := some 73, op := Op.move (Operand.tmp 14), type := 41, pos := "law.go:96", after := #[], guard := none }) (v := ?_) rfl (by kernel_rfl) (by kernel_rfl) (by kernel_rfl) (fun _ _ _ h => h) (Or.inl ⟨by rfl, ?_⟩) (by assumption) ?_
    rotate_left
    · intro w hSw
      (try dsimp only at hSw)
      go_simp
      try with_reducible rfl
    try simp only [Act.put, List.setIfInBounds_toArray, List.set_cons_zero, List.set_cons_succ]
    refine wpAnyH_take (i := 1) (oi := { dst := some 74, op := Op.binOp BinOp.eql 41 (Operand.tmp 73) (Operand.const (Value.int IntKind.i64 0)) 41, type := 4, pos := "law.go:96", after := #[{ on := 0, ground := Ground.data }], guard := none }) (v := ?_) rfl (by kernel_rfl) (by kernel_rfl) (by kernel_rfl) (fun _ _ _ h => h) (Or.inl ⟨by rfl, ?_⟩) (by assumption) ?_
    rotate_left
    · intro w hSw
      (try dsimp only at hSw)
      go_simp
      try with_reducible rfl
    try simp only [Act.put, List.setIfInBounds_toArray, List.set_cons_zero, List.set_cons_succ]
    refine wpAnyH_take (i := 2) (oi := { dst := some 75, op := Op.move (Operand.tmp 74), type := 4, pos := "law.go:96", after := #[{ on := 1, ground := Ground.data }], guard := none }) (v := ?_) rfl (by kernel_rfl) (by kernel_rfl) (by kernel_rfl) (fun _ _ _ h => h) (Or.inl ⟨by rfl, ?_⟩) (by assumption) ?_
    rotate_left
    · intro w hSw
      (try dsimp only at hSw)
      go_simp
      try with_reducible rfl
    try simp only [Act.put, List.setIfInBounds_toArray, List.set_cons_zero, List.set_cons_succ]
    refine wpAnyH_take (i := 3) (oi := { dst := some 76, op := Op.move (Operand.tmp 12), type := 34, pos := "law.go:96", after := #[{ on := 2, ground := Ground.guard }], guard := some (2, true) }) (v := ?_) rfl (by kernel_rfl) (by kernel_rfl) (by kernel_rfl) (fun _ _ _ h => h) (Or.inl ⟨by rfl, ?_⟩) (by assumption) ?_
    rotate_left
    · intro w hSw
      (try dsimp only at hSw)
      go_simp
      try with_reducible rfl
    try simp only [Act.put, List.setIfInBounds_toArray, List.set_cons_zero, List.set_cons_succ]
    refine wpAnyH_take (i := 5) (oi := { dst := some 78, op := Op.move (Operand.tmp 1), type := 35, pos := "law.go:96", after := #[{ on := 2, ground := Ground.guard }], guard := some (2, true) }) (v := ?_) rfl (by kernel_rfl) (by kernel_rfl) (by kernel_rfl) (fun _ _ _ h => h) (Or.inl ⟨by rfl, ?_⟩) (by assumption) ?_
    rotate_left
    · intro w hSw
      (try dsimp only at hSw)
      go_simp
      try with_reducible rfl
    try simp only [Act.put, List.setIfInBounds_toArray, List.set_cons_zero, List.set_cons_succ]
    refine wpAnyH_take (i := 6) (oi := { dst := some 79, op := Op.convert 35 9 (Operand.tmp 78), type := 9, pos := "law.go:96", after := #[{ on := 5, ground := Ground.data }, { on := 2, ground := Ground.guard }], guard := some (2, true) }) (v := ?_) rfl (by kernel_rfl) (by kernel_rfl) (by kernel_rfl) (fun _ _ _ h => h) (Or.inl ⟨by rfl, ?_⟩) (by assumption) ?_
    rotate_left
    · intro w hSw
      (try dsimp only at hSw)
      go_simp
      try with_reducible rfl
    try simp only [Act.put, List.setIfInBounds_toArray, List.set_cons_zero, List.set_cons_succ]
    refine wpAnyH_ready (rs := [4]) (by kernel_rfl) (by simp) ?_
    refine AllReadyH.cons (o := { dst := some 77, op := Op.call { callee := Callee.value (Operand.func 23), args := #[Operand.tmp 76], argTypes := #[34] }, type := 9, pos := "law.go:96", after := #[{ on := 3, ground := Ground.data }, { on := 2, ground := Ground.chain }, { on := 2, ground := Ground.guard }], guard := some (2, true) }) rfl (fun K hK => ?_) AllReadyH.nil
    go_simp
    with_reducible refine (D1.out _ hU).mono ?_
    rintro e u1 ⟨rfl, hu1⟩
    have U1 := bnx hU hu1
    have K1 := HKK.out _ U1
    go_wp2_with fail
    refine hK.out _ _ ?_ (fun hHeld => ?_)
    · exact K1
    clear hK K
    try simp only [Act.put, List.setIfInBounds_toArray, List.set_cons_zero, List.set_cons_succ]
    refine wpAnyH_take (i := 7) (oi := { dst := some 80, op := Op.binOp BinOp.neq 9 (Operand.tmp 77) (Operand.tmp 79) 9, type := 4, pos := "law.go:96", after := #[{ on := 4, ground := Ground.data }, { on := 6, ground := Ground.data }, { on := 2, ground := Ground.guard }], guard := some (2, true) }) (v := ?_) rfl (by kernel_rfl) (by kernel_rfl) (by kernel_rfl) (fun _ _ _ h => h) (Or.inl ⟨by rfl, ?_⟩) (by assumption) ?_
    rotate_left
    · intro w hSw
      (try dsimp only at hSw)
      go_simp
      try with_reducible rfl
    try simp only [Act.put, List.setIfInBounds_toArray, List.set_cons_zero, List.set_cons_succ]
    refine wpAnyH_take (i := 8) (oi := { dst := some 81, op := Op.move (Operand.tmp 80), type := 4, pos := "law.go:96", after := #[{ on := 7, ground := Ground.data }, { on := 4, ground := Ground.chain }, { on := 2, ground := Ground.guard }], guard := some (2, true) }) (v := ?_) rfl (by kernel_rfl) (by kernel_rfl) (by kernel_rfl) (fun _ _ _ h => h) (Or.inl ⟨by rfl, ?_⟩) (by assumption) ?_
    rotate_left
    · intro w hSw
      (try dsimp only at hSw)
      go_simp
      try with_reducible rfl
    try simp only [Act.put, List.setIfInBounds_toArray, List.set_cons_zero, List.set_cons_succ]
    refine wpAnyH_take (i := 9) (oi := { dst := some 82, op := Op.move (Operand.tmp 13), type := 3, pos := "law.go:96", after := #[{ on := 8, ground := Ground.guard }], guard := some (8, false) }) (v := ?_) rfl (by kernel_rfl) (by kernel_rfl) (by kernel_rfl) (fun _ _ _ h => h) (Or.inl ⟨by rfl, ?_⟩) (by assumption) ?_
    rotate_left
    · intro w hSw
      (try dsimp only at hSw)
      go_simp
      try with_reducible rfl
    try simp only [Act.put, List.setIfInBounds_toArray, List.set_cons_zero, List.set_cons_succ]
    refine wpAnyH_take (i := 10) (oi := { dst := some 83, op := Op.move (Operand.tmp 1), type := 35, pos := "law.go:96", after := #[{ on := 8, ground := Ground.guard }], guard := some (8, false) }) (v := ?_) rfl (by kernel_rfl) (by kernel_rfl) (by kernel_rfl) (fun _ _ _ h => h) (Or.inl ⟨by rfl, ?_⟩) (by assumption) ?_
    rotate_left
    · intro w hSw
      (try dsimp only at hSw)
      go_simp
      try with_reducible rfl
    try simp only [Act.put, List.setIfInBounds_toArray, List.set_cons_zero, List.set_cons_succ]
    refine wpAnyH_take (i := 11) (oi := { dst := some 84, op := Op.call { callee := Callee.builtin Builtin.len, args := #[Operand.tmp 83], argTypes := #[35] }, type := 3, pos := "law.go:96", after := #[{ on := 10, ground := Ground.data }, { on := 8, ground := Ground.guard }], guard := some (8, false) }) (v := ?_) rfl (by kernel_rfl) (by kernel_rfl) (by kernel_rfl) (fun _ _ _ h => h) (Or.inl ⟨by rfl, ?_⟩) (by assumption) ?_
    rotate_left
    · intro w hSw
      (try dsimp only at hSw)
      go_simp
      try with_reducible rfl
    try simp only [Act.put, List.setIfInBounds_toArray, List.set_cons_zero, List.set_cons_succ]
    refine wpAnyH_take (i := 12) (oi := { dst := some 85, op := Op.binOp BinOp.neq 3 (Operand.tmp 82) (Operand.tmp 84) 3, type := 4, pos := "law.go:96", after := #[{ on := 9, ground := Ground.data }, { on := 11, ground := Ground.data }, { on := 8, ground := Ground.guard }], guard := some (8, false) }) (v := ?_) rfl (by kernel_rfl) (by kernel_rfl) (by kernel_rfl) (fun _ _ _ h => h) (Or.inl ⟨by rfl, ?_⟩) (by assumption) ?_
    rotate_left
    · intro w hSw
      (try dsimp only at hSw)
      go_simp
      try with_reducible rfl
    try simp only [Act.put, List.setIfInBounds_toArray, List.set_cons_zero, List.set_cons_succ]
    refine wpAnyH_take (i := 13) (oi := { dst := some 86, op := Op.pick (Operand.tmp 81) (Operand.const (Value.bool true)) (Operand.tmp 85), type := 4, pos := "law.go:96", after := #[{ on := 8, ground := Ground.data }, { on := 12, ground := Ground.data }, { on := 2, ground := Ground.guard }], guard := some (2, true) }) (v := ?_) rfl (by kernel_rfl) (by kernel_rfl) (by kernel_rfl) (fun _ _ _ h => h) (Or.inl ⟨by rfl, ?_⟩) (by assumption) ?_
    rotate_left
    · intro w hSw
      (try dsimp only at hSw)
      go_simp
      try with_reducible rfl
    try simp only [Act.put, List.setIfInBounds_toArray, List.set_cons_zero, List.set_cons_succ]
    refine wpAnyH_take (i := 14) (oi := { dst := some 87, op := Op.move (Operand.tmp 86), type := 4, pos := "law.go:96", after := #[{ on := 13, ground := Ground.data }, { on := 8, ground := Ground.chain }, { on := 2, ground := Ground.guard }], guard := some (2, true) }) (v := ?_) rfl (by kernel_rfl) (by kernel_rfl) (by kernel_rfl) (fun _ _ _ h => h) (Or.inl ⟨by rfl, ?_⟩) (by assumption) ?_
    rotate_left
    · intro w hSw
      (try dsimp only at hSw)
      go_simp
      try with_reducible rfl
    try simp only [Act.put, List.setIfInBounds_toArray, List.set_cons_zero, List.set_cons_succ]
    refine wpAnyH_take (i := 15) (oi := { dst := some 88, op := Op.fieldAddr 24 (Operand.tmp 5) 0, type := 0, pos := "law.go:96", after := #[{ on := 14, ground := Ground.guard }], guard := some (14, false) }) (v := ?_) rfl (by kernel_rfl) (by kernel_rfl) (by kernel_rfl) (fun _ _ _ h => h) (Or.inl ⟨by rfl, ?_⟩) (by assumption) ?_
    rotate_left
    · intro w hSw
      (try dsimp only at hSw)
      go_simp
      try with_reducible rfl
    try simp only [Act.put, List.setIfInBounds_toArray, List.set_cons_zero, List.set_cons_succ]
    refine wpAnyH_take (i := 16) (oi := { dst := some 89, op := Op.load 3 (Operand.tmp 88), type := 3, pos := "law.go:96", after := #[{ on := 15, ground := Ground.data }, { on := 14, ground := Ground.guard }], guard := some (14, false) }) (v := ?_) rfl (by kernel_rfl) (by kernel_rfl) (by kernel_rfl) (fun _ _ _ h => h) (Or.inl ⟨by rfl, ?_⟩) (by assumption) ?_
    rotate_left
    · intro w hSw
      (try dsimp only at hSw)
      go_simp
      try with_reducible rfl
    try simp only [Act.put, List.setIfInBounds_toArray, List.set_cons_zero, List.set_cons_succ]
    refine wpAnyH_take (i := 17) (oi := { dst := some 90, op := Op.move (Operand.tmp 12), type := 34, pos := "law.go:96", after := #[{ on := 14, ground := Ground.guard }], guard := some (14, false) }) (v := ?_) rfl (by kernel_rfl) (by kernel_rfl) (by kernel_rfl) (fun _ _ _ h => h) (Or.inl ⟨by rfl, ?_⟩) (by assumption) ?_
    rotate_left
    · intro w hSw
      (try dsimp only at hSw)
      go_simp
      try with_reducible rfl
    try simp only [Act.put, List.setIfInBounds_toArray, List.set_cons_zero, List.set_cons_succ]
    refine wpAnyH_ready (rs := [18]) (by kernel_rfl) (by simp) ?_
    refine AllReadyH.cons (o := { dst := some 91, op := Op.call { callee := Callee.value (Operand.func 18), args := #[Operand.tmp 89, Operand.tmp 90], argTypes := #[3, 34] }, type := 4, pos := "law.go:96", after := #[{ on := 16, ground := Ground.data }, { on := 17, ground := Ground.data }, { on := 14, ground := Ground.chain }, { on := 14, ground := Ground.guard }], guard := some (14, false) }) rfl (fun K hK => ?_) AllReadyH.nil
    go_simp
    with_reducible refine (D2.out _ U1).mono ?_
    rintro e u2 ⟨rfl, hu2⟩
    have U2 := bnx U1 hu2
    have K2 := HKK.out _ U2
    go_wp2_with fail
    refine hK.out _ _ ?_ (fun hHeld => ?_)
    · exact K2
    clear hK K
    try simp only [Act.put, List.setIfInBounds_toArray, List.set_cons_zero, List.set_cons_succ]
    refine wpAnyH_take (i := 19) (oi := { dst := some 92, op := Op.unOp UnOp.not 4 (Operand.tmp 91), type := 4, pos := "law.go:96", after := #[{ on := 18, ground := Ground.data }, { on := 14, ground := Ground.guard }], guard := some (14, false) }) (v := ?_) rfl (by kernel_rfl) (by kernel_rfl) (by kernel_rfl) (fun _ _ _ h => h) (Or.inl ⟨by rfl, ?_⟩) (by assumption) ?_
    rotate_left
    · intro w hSw
      (try dsimp only at hSw)
      go_simp
      try with_reducible rfl
    try simp only [Act.put, List.setIfInBounds_toArray, List.set_cons_zero, List.set_cons_succ]
    refine wpAnyH_take (i := 20) (oi := { dst := some 93, op := Op.pick (Operand.tmp 87) (Operand.const (Value.bool true)) (Operand.tmp 92), type := 4, pos := "law.go:96", after := #[{ on := 14, ground := Ground.data }, { on := 19, ground := Ground.data }, { on := 2, ground := Ground.guard }], guard := some (2, true) }) (v := ?_) rfl (by kernel_rfl) (by kernel_rfl) (by kernel_rfl) (fun _ _ _ h => h) (Or.inl ⟨by rfl, ?_⟩) (by assumption) ?_
    rotate_left
    · intro w hSw
      (try dsimp only at hSw)
      go_simp
      try with_reducible rfl
    try simp only [Act.put, List.setIfInBounds_toArray, List.set_cons_zero, List.set_cons_succ]
    refine wpAnyH_take (i := 21) (oi := { dst := some 94, op := Op.pick (Operand.tmp 75) (Operand.tmp 93) (Operand.const (Value.bool false)), type := 4, pos := "law.go:96", after := #[{ on := 2, ground := Ground.data }, { on := 20, ground := Ground.data }], guard := none }) (v := ?_) rfl (by kernel_rfl) (by kernel_rfl) (by kernel_rfl) (fun _ _ _ h => h) (Or.inl ⟨by rfl, ?_⟩) (by assumption) ?_
    rotate_left
    · intro w hSw
      (try dsimp only at hSw)
      go_simp
      try with_reducible rfl
    try simp only [Act.put, List.setIfInBounds_toArray, List.set_cons_zero, List.set_cons_succ]
    refine wpAnyH_take (i := 22) (oi := { dst := some 95, op := Op.move (Operand.tmp 94), type := 4, pos := "law.go:96", after := #[{ on := 21, ground := Ground.data }, { on := 18, ground := Ground.chain }], guard := none }) (v := ?_) rfl (by kernel_rfl) (by kernel_rfl) (by kernel_rfl) (fun _ _ _ h => h) (Or.inl ⟨by rfl, ?_⟩) (by assumption) ?_
    rotate_left
    · intro w hSw
      (try dsimp only at hSw)
      go_simp
      try with_reducible rfl
    try simp only [Act.put, List.setIfInBounds_toArray, List.set_cons_zero, List.set_cons_succ]
    refine wpAnyH_take (i := 23) (oi := { dst := some 96, op := Op.move (Operand.tmp 14), type := 41, pos := "law.go:96", after := #[{ on := 22, ground := Ground.guard }], guard := some (22, false) }) (v := ?_) rfl (by kernel_rfl) (by kernel_rfl) (by kernel_rfl) (fun _ _ _ h => h) (Or.inl ⟨by rfl, ?_⟩) (by assumption) ?_
    rotate_left
    · intro w hSw
      (try dsimp only at hSw)
      go_simp
      try with_reducible rfl
    try simp only [Act.put, List.setIfInBounds_toArray, List.set_cons_zero, List.set_cons_succ]
    refine wpAnyH_take (i := 24) (oi := { dst := some 97, op := Op.binOp BinOp.neq 41 (Operand.tmp 96) (Operand.const (Value.int IntKind.i64 0)) 41, type := 4, pos := "law.go:96", after := #[{ on := 23, ground := Ground.data }, { on := 22, ground := Ground.guard }], guard := some (22, false) }) (v := ?_) rfl (by kernel_rfl) (by kernel_rfl) (by kernel_rfl) (fun _ _ _ h => h) (Or.inl ⟨by rfl, ?_⟩) (by assumption) ?_
    rotate_left
    · intro w hSw
      (try dsimp only at hSw)
      go_simp
      try with_reducible rfl
    try simp only [Act.put, List.setIfInBounds_toArray, List.set_cons_zero, List.set_cons_succ]
    refine wpAnyH_take (i := 25) (oi := { dst := some 98, op := Op.move (Operand.tmp 97), type := 4, pos := "law.go:96", after := #[{ on := 24, ground := Ground.data }, { on := 22, ground := Ground.chain }, { on := 22, ground := Ground.guard }], guard := some (22, false) }) (v := ?_) rfl (by kernel_rfl) (by kernel_rfl) (by kernel_rfl) (fun _ _ _ h => h) (Or.inl ⟨by rfl, ?_⟩) (by assumption) ?_
    rotate_left
    · intro w hSw
      (try dsimp only at hSw)
      go_simp
      try with_reducible rfl
    try simp only [Act.put, List.setIfInBounds_toArray, List.set_cons_zero, List.set_cons_succ]
    refine wpAnyH_take (i := 26) (oi := { dst := some 99, op := Op.move (Operand.tmp 12), type := 34, pos := "law.go:96", after := #[{ on := 25, ground := Ground.guard }], guard := some (25, true) }) (v := undef) rfl (by kernel_rfl) (by kernel_rfl) (by kernel_rfl) (fun _ _ _ h => h) (Or.inr ⟨by rfl, rfl⟩) (by assumption) ?_
    try simp only [Act.put, List.setIfInBounds_toArray, List.set_cons_zero, List.set_cons_succ]
    refine wpAnyH_take (i := 27) (oi := { dst := some 100, op := Op.call { callee := Callee.builtin Builtin.len, args := #[Operand.tmp 99], argTypes := #[34] }, type := 3, pos := "law.go:96", after := #[{ on := 26, ground := Ground.data }, { on := 25, ground := Ground.guard }], guard := some (25, true) }) (v := undef) rfl (by kernel_rfl) (by kernel_rfl) (by kernel_rfl) (fun _ _ _ h => h) (Or.inr ⟨by rfl, rfl⟩) (by assumption) ?_
    try simp only [Act.put, List.setIfInBounds_toArray, List.set_cons_zero, List.set_cons_succ]
    refine wpAnyH_take (i := 28) (oi := { dst := some 101, op := Op.binOp BinOp.neq 3 (Operand.tmp 100) (Operand.const (Value.int IntKind.i64 0)) 3, type := 4, pos := "law.go:96", after := #[{ on := 27, ground := Ground.data }, { on := 25, ground := Ground.guard }], guard := some (25, true) }) (v := undef) rfl (by kernel_rfl) (by kernel_rfl) (by kernel_rfl) (fun _ _ _ h => h) (Or.inr ⟨by rfl, rfl⟩) (by assumption) ?_
    try simp only [Act.put, List.setIfInBounds_toArray, List.set_cons_zero, List.set_cons_succ]
    refine wpAnyH_take (i := 29) (oi := { dst := some 102, op := Op.pick (Operand.tmp 98) (Operand.tmp 101) (Operand.const (Value.bool false)), type := 4, pos := "law.go:96", after := #[{ on := 25, ground := Ground.data }, { on := 28, ground := Ground.data }, { on := 22, ground := Ground.guard }], guard := some (22, false) }) (v := ?_) rfl (by kernel_rfl) (by kernel_rfl) (by kernel_rfl) (fun _ _ _ h => h) (Or.inl ⟨by rfl, ?_⟩) (by assumption) ?_
    rotate_left
    · intro w hSw
      (try dsimp only at hSw)
      go_simp
      try with_reducible rfl
    try simp only [Act.put, List.setIfInBounds_toArray, List.set_cons_zero, List.set_cons_succ]
    refine wpAnyH_take (i := 30) (oi := { dst := some 103, op := Op.pick (Operand.tmp 95) (Operand.const (Value.bool true)) (Operand.tmp 102), type := 4, pos := "law.go:96", after := #[{ on := 22, ground := Ground.data }, { on := 29, ground := Ground.data }], guard := none }) (v := ?_) rfl (by kernel_rfl) (by kernel_rfl) (by kernel_rfl) (fun _ _ _ h => h) (Or.inl ⟨by rfl, ?_⟩) (by assumption) ?_
    rotate_left
    · intro w hSw
      (try dsimp only at hSw)
      go_simp
      try with_reducible rfl
    try simp only [Act.put, List.setIfInBounds_toArray, List.set_cons_zero, List.set_cons_succ]
    refine wpAnyH_done (by kernel_rfl) ?_ _
    refine NoPanic.normal ?_
    have HX := Lib.hid (bnx HEr.out U2)
    clear K0 K1 K2 HKK D1 D2 hU hu1 hu2 U1 U2 HEr
    by_cases hg : G = 0
    · obtain ⟨i, hi, hIi, hPi, hQi⟩ := HCK.out hg
      have hIi' : I = i := by omega
      subst hIi'
      obtain ⟨ad, A1, c1, rfl, hab, hc0, hc1, _, _, _⟩ := H0.out.2.1 I hi
      rw [hPi] at hc0 hc1
      simp only [List.length_nil] at hc0 hc1
      subst hg
      have HC := Lib.hid (And.intro hc0 hc1)
      have HAB := Lib.hid hab
      have c7 := C7.out _ HX.out
      have F7 := HFF.out.nx HX.out
      have q0 := F7.f0
      have q1 := F7.f1
      have HQi := Lib.hid hQi
      have HI := Lib.hid hi
      clear hc0 hc1 hab hIi hPi hQi HCK C7 F7
      go_wp2_with fail
      refine c7.mono ?_; rintro e w7 ⟨rfl, hb⟩
      have H7 := Lib.hid (bnx HX.out hb)
      have F7 := HFF.out.nx H7.out
      have p0 := F7.f0
      have p1 := F7.f1
      clear c7 hb q0 q1 F7
      have hI2 : I < P.length := HI.out
      have D8 : Hid (∀ wx, Below w7.heap.size w7 wx → Calls Tryd.prog 26 #[.agg #[.int .i64 n, .slice LA L.length k], .slice (some ad) (I + 1) kp] wx (RetV wx (.tuple #[.int .i64 (I : Int), .int .i64 0]))) := Lib.hid fun wx hx => C8.out I wx HI.out HQi.out (bnx H7.out hx)
      have HKK : Hid (∀ wx, Below w7.heap.size w7 wx → wx.cell? ⟨w.heap.size, 0, none⟩ = some (.int .i64 n) ∧ wx.cell? ⟨w.heap.size, 1, none⟩ = some (.slice LA L.length k)) := Lib.hid fun wx hx => ⟨(HFF.out.nx (bnx H7.out hx)).f0, (HFF.out.nx (bnx H7.out hx)).f1⟩
      have hU := (Below.refl w7.heap.size w7).drew
      have K0 := HKK.out _ hU
      have kcut := fun wx => cut34 wx (some ad) P.length kp (I + 1) ((I : Int) + 1) (by omega) (by have := HPK.out; omega)
      have hwr : IntKind.i64.wrap ((I : Int) + 1) = (I : Int) + 1 := IntWalk.i64_in _ (by omega)
      clear C8
      go_wp2_with fail
      first
        | (
        go_region_held3 (fun w' => w'.cell? ⟨w.heap.size, 0, none⟩ = some (.int .i64 n) ∧ w'.cell? ⟨w.heap.size, 1, none⟩ = some (.slice LA L.length k))
          (first | exact K0 | exact K1)
          (first
            | (go_at_call 26; ((with_reducible refine (D8.out _ hU).mono ?_); rintro e u3 ⟨rfl, hu3⟩; have U3 := bnx hU hu3; have K1 := HKK.out _ U3))))
        | fail
      have H8 := Lib.hid (bnx H7.out U3)
      have x0 := (H8.out.cell (p := ad.add (I * 2)) (by rw [block_add]; exact HAB.out)).trans HC.out.1
      have x1 := (H8.out.cell (p := ⟨(ad.add (I * 2)).block, (ad.add (I * 2)).off + 1, none⟩) (by show (ad.add (I * 2)).block < _; rw [block_add]; exact HAB.out)).trans HC.out.2
      have H9 := Lib.hid (bnx HB0.out H8.out)
      clear K0 K1 HKK D8 hU hu3 U3 kcut hwr
      go_wp2
      go_ret
      exact ⟨rfl, H9.out⟩
    · have de : (G != 0) = true := by simp [hg]
      have c7 := C7.out _ HX.out
      have F7 := HFF.out.nx HX.out
      have q0 := F7.f0
      have q1 := F7.f1
      have HE := Lib.hid hg
      clear hg F7 C7 C8
      go_wp2_with fail
      refine c7.mono ?_; rintro e w7 ⟨rfl, hb⟩
      have H7 := Lib.hid (bnx HB0.out (bnx HX.out hb))
      clear c7 hb q0 q1
      go_wp2
      go_ret
      exact ⟨rfl, H7.out⟩
  · have hq := HQ.out.1 h0
    subst hq
    have de : (E == 0) = false := beq_eq_false_iff_ne.2 h0
    have de' : (E != 0) = true := by simp [h0]
    have K1 := Lib.hid h0
    clear h0
    go_wp2_with fail
    go_quiet (fail)
    have HX := Lib.hid (bnx H6.out (drw nq))
    by_cases hg : G = 0
    · obtain ⟨i, hi, hIi, hPi, hQi⟩ := HCK.out hg
      have hIi' : I = i := by omega
      subst hIi'
      obtain ⟨ad, A1, c1, rfl, hab, hc0, hc1, _, _, _⟩ := H0.out.2.1 I hi
      rw [hPi] at hc0 hc1
      simp only [List.length_nil] at hc0 hc1
      subst hg
      have HC := Lib.hid (And.intro hc0 hc1)
      have HAB := Lib.hid hab
      have c7 := C7.out _ HX.out
      have F7 := HFF.out.nx HX.out
      have q0 := F7.f0
      have q1 := F7.f1
      have HQi := Lib.hid hQi
      have HI := Lib.hid hi
      clear hc0 hc1 hab hIi hPi hQi HCK C7 F7
      go_wp2_with fail
      refine c7.mono ?_; rintro e w7 ⟨rfl, hb⟩
      have H7 := Lib.hid (bnx HX.out hb)
      have F7 := HFF.out.nx H7.out
      have p0 := F7.f0
      have p1 := F7.f1
      clear c7 hb q0 q1 F7
      have hI2 : I < P.length := HI.out
      have D8 : Hid (∀ wx, Below w7.heap.size w7 wx → Calls Tryd.prog 26 #[.agg #[.int .i64 n, .slice LA L.length k], .slice (some ad) (I + 1) kp] wx (RetV wx (.tuple #[.int .i64 (I : Int), .int .i64 0]))) := Lib.hid fun wx hx => C8.out I wx HI.out HQi.out (bnx H7.out hx)
      have HKK : Hid (∀ wx, Below w7.heap.size w7 wx → wx.cell? ⟨w.heap.size, 0, none⟩ = some (.int .i64 n) ∧ wx.cell? ⟨w.heap.size, 1, none⟩ = some (.slice LA L.length k)) := Lib.hid fun wx hx => ⟨(HFF.out.nx (bnx H7.out hx)).f0, (HFF.out.nx (bnx H7.out hx)).f1⟩
      have hU := (Below.refl w7.heap.size w7).drew
      have K0 := HKK.out _ hU
      have kcut := fun wx => cut34 wx (some ad) P.length kp (I + 1) ((I : Int) + 1) (by omega) (by have := HPK.out; omega)
      have hwr : IntKind.i64.wrap ((I : Int) + 1) = (I : Int) + 1 := IntWalk.i64_in _ (by omega)
      clear C8
      go_wp2_with fail
      first
        | (
        go_region_held3 (fun w' => w'.cell? ⟨w.heap.size, 0, none⟩ = some (.int .i64 n) ∧ w'.cell? ⟨w.heap.size, 1, none⟩ = some (.slice LA L.length k))
          (first | exact K0 | exact K1)
          (first
            | (go_at_call 26; ((with_reducible refine (D8.out _ hU).mono ?_); rintro e u3 ⟨rfl, hu3⟩; have U3 := bnx hU hu3; have K1 := HKK.out _ U3))))
        | fail
      have H8 := Lib.hid (bnx H7.out U3)
      have x0 := (H8.out.cell (p := ad.add (I * 2)) (by rw [block_add]; exact HAB.out)).trans HC.out.1
      have x1 := (H8.out.cell (p := ⟨(ad.add (I * 2)).block, (ad.add (I * 2)).off + 1, none⟩) (by show (ad.add (I * 2)).block < _; rw [block_add]; exact HAB.out)).trans HC.out.2
      have H9 := Lib.hid (bnx HB0.out H8.out)
      clear K0 K1 HKK D8 hU hu3 U3 kcut hwr
      go_wp2
      go_ret
      exact ⟨rfl, H9.out⟩
    · have de : (G != 0) = true := by simp [hg]
      have c7 := C7.out _ HX.out
      have F7 := HFF.out.nx HX.out
      have q0 := F7.f0
      have q1 := F7.f1
      have HE := Lib.hid hg
      clear hg F7 C7 C8
      go_wp2_with fail
      refine c7.mono ?_; rintro e w7 ⟨rfl, hb⟩
      have H7 := Lib.hid (bnx HB0.out (bnx HX.out hb))
      clear c7 hb q0 q1
      go_wp2
      go_ret
      exact ⟨rfl, H7.out⟩
theorem back_any (LA PA Ab : Option Addr) (k kp kb : Nat) (n : Int) (L : List (List Int)) (P : List Stp) (l : List UInt8) (w : World) (hL : RCk w w.heap.size LA L) (hP : RS w w.heap.size PA P) (hB : Rd w w.heap.size Ab l) (hl : L.length ≤ maxLen) (hp : P.length ≤ maxLen) (hlk : l.length ≤ kb) (hkm : kb ≤ maxLen) (hpk : P.length ≤ kp) (hW : Pow w.heap.size w) :
    Calls Tryd.prog 7 #[.slice PA P.length kp, .slice Ab l.length kb, .agg #[.int .i64 n, .slice LA L.length k]] w (RetV w (.bool true)) := by
  have hst := Start.mk' w LA PA k kp n L P hL hP hl hp hW
  cases hm : mayD n L P
  · exact back_out LA PA Ab k kp kb n L P l w hst (by omega) (.inl hm)
  · by_cases e : 2000 < l.length
    · exact back_out LA PA Ab k kp kb n L P l w hst (by omega) (.inr ⟨hm, e⟩)
    · exact back_in LA PA Ab k kp kb n L P l w hst hL hP hB hlk hkm hpk hW hm (by omega)
end Go.Proofs.YtahedhpffjgimaaDoor
