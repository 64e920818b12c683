/-
  Arguments that are structs, opened. Nothing is assumed.
  Which proofs are the same, the reference's way.
  Texts of bytes.
  A text with bytes behind.
  Bytes behind a text's bytes, none too.
  DrupApart, walked.
-/
import Derived.Test.YtahedhpffjgimaaDoorProg
import Derived.WalkKit
import Derived.WalkSpells
import Derived.WalkLawsBesides
import Derived.Lib.Hide
import Derived.BigQuiet
import Derived.Deep.QuietTactic
import Derived.Deep.RegionWith
import Derived.Deep.RegionHeld3
import Derived.Test.YtahedhpffjgimaaDoorQ11
import Derived.Test.YtahedhpffjgimaaDoorQ21
import Derived.ProofKit
import Derived.OpenShut
import Derived.PinnedBridge
import Derived.Lib.SmallJoins
import Derived.Deep.DeepHandedRow
import Derived.Test.YtahedhpffjgimaaDoorQ19
import Derived.Test.YtahedhpffjgimaaDoorQ08
import Derived.Test.YtahedhpffjgimaaDoorQ18
import Derived.Deep.AppendSrc
import Derived.Test.YtahedhpffjgimaaDoorQ22
set_option linter.unusedVariables false
/- Arguments that are structs, opened. Nothing is assumed. -/
namespace Go.Proofs.YtahedhpffjgimaaDoor
open Go.RowKit
open Go.Shelf Go.ChangeShapes Go.WideShapes Go.ChangeAt Go.RowKit Go.Lib Go.Joins
theorem cells24 : Tryd.prog.cellsOf 24 = 2 := by kernel_rfl
theorem cells25 : Tryd.prog.cellsOf 25 = 1 := by kernel_rfl
theorem cells34 : Tryd.prog.cellsOf 34 = 1 := by kernel_rfl
theorem cells35 : Tryd.prog.cellsOf 35 = 1 := by kernel_rfl
set_option maxRecDepth 100000 in
theorem opened60 {H : Type} {enc : TypeId × Value → H} {W : World} {r : Reach} {b0 : Nat} {v : Value} {d : DataW H} {p : List MemPlace} (hv : Value.okWide Tryd.prog W r b0 60 v) (h : DataW.Trod enc Tryd.prog W 0 (fun _ => true) true 60 v d p) :
    ∃ (x : Int) (Ap Aq Ab : Option Addr) (cp cq cb : Nat) (P Q : List Stp) (l : List UInt8), v = .agg #[.slice Ap P.length cp, .slice Aq Q.length cq, .int .i64 x, .slice Ab l.length cb] ∧ RS W W.heap.size Ap P ∧ RS W W.heap.size Aq Q ∧ Rd W W.heap.size Ab l ∧ P.length ≤ maxLen ∧ Q.length ≤ maxLen ∧ l.length ≤ cb ∧ cb ≤ maxLen ∧ ((Ap = none → cp = 0) ∧ (Aq = none → cq = 0)) := by
  obtain ⟨cs, rfl, hsz⟩ := okWide_struct Tryd.underlying60 hv
  obtain ⟨l⟩ := cs
  match l, hsz.trans (show Tryd.prog.cellsOf 60 = 4 by kernel_rfl) with
  | [c0, c1, c2, c3], _ =>
    obtain ⟨fuel, hf⟩ := h
    obtain ⟨y0, y1, y2, y3, n, hx, _, h0, h1, h2, h3⟩ := trod_struct4 Tryd.underlying60 hf
    simp only [cells34, cells35, cells3, Value.cells] at h0 h1 h2 h3
    have h0' : DataW.trod enc Tryd.prog W 0 (fun _ => true) true n 34 [c0] = some y0 := h0
    have h1' : DataW.trod enc Tryd.prog W 0 (fun _ => true) true n 34 [c1] = some y1 := h1
    have h2' : DataW.trod enc Tryd.prog W 0 (fun _ => true) true n 3 [c2] = some y2 := h2
    have h3' : DataW.trod enc Tryd.prog W 0 (fun _ => true) true n 35 [c3] = some y3 := h3
    obtain ⟨Ap, cp, P, rfl, r1, n1, m1, z1⟩ := opened34 h0'
    obtain ⟨Aq, cq, Q, rfl, r2, n2, m2, z2⟩ := opened34 h1'
    obtain ⟨x, e1, _, wk⟩ := DataW.trod_int Tryd.underlying3 h2'
    obtain ⟨Ab, cb, u, rfl, r3, n3, m3, _⟩ := opened35 h3'
    simp at e1
    subst e1
    exact ⟨x, Ap, Aq, Ab, cp, cq, cb, P, Q, u, rfl, r1, r2, r3, by omega, by omega, n3, m3, z1, z2⟩
set_option maxRecDepth 100000 in
theorem opened37 {H : Type} {enc : TypeId × Value → H} {W : World} {r : Reach} {b0 : Nat} {v : Value} {d : DataW H} {p : List MemPlace} (hv : Value.okWide Tryd.prog W r b0 37 v) (h : DataW.Trod enc Tryd.prog W 0 (fun _ => true) true 37 v d p) :
    ∃ (x : Int) (Ap Aq Ab : Option Addr) (cp cq cb : Nat) (P Q : List Stp) (l : List UInt8), v = .agg #[.slice Ap P.length cp, .slice Aq Q.length cq, .slice Ab l.length cb, .int .i64 x] ∧ RS W W.heap.size Ap P ∧ RS W W.heap.size Aq Q ∧ Rd W W.heap.size Ab l ∧ P.length ≤ maxLen ∧ Q.length ≤ maxLen ∧ l.length ≤ cb ∧ cb ≤ maxLen := by
  obtain ⟨cs, rfl, hsz⟩ := okWide_struct Tryd.underlying37 hv
  obtain ⟨l⟩ := cs
  match l, hsz.trans (show Tryd.prog.cellsOf 37 = 4 by kernel_rfl) with
  | [c0, c1, c2, c3], _ =>
    obtain ⟨fuel, hf⟩ := h
    obtain ⟨y0, y1, y2, y3, n, hx, _, h0, h1, h2, h3⟩ := trod_struct4 Tryd.underlying37 hf
    simp only [cells34, cells35, cells3, Value.cells] at h0 h1 h2 h3
    have h0' : DataW.trod enc Tryd.prog W 0 (fun _ => true) true n 34 [c0] = some y0 := h0
    have h1' : DataW.trod enc Tryd.prog W 0 (fun _ => true) true n 34 [c1] = some y1 := h1
    have h2' : DataW.trod enc Tryd.prog W 0 (fun _ => true) true n 35 [c2] = some y2 := h2
    have h3' : DataW.trod enc Tryd.prog W 0 (fun _ => true) true n 3 [c3] = some y3 := h3
    obtain ⟨Ap, cp, P, rfl, r1, n1, m1, z1⟩ := opened34 h0'
    obtain ⟨Aq, cq, Q, rfl, r2, n2, m2, z2⟩ := opened34 h1'
    obtain ⟨Ab, cb, u, rfl, r3, n3, m3, _⟩ := opened35 h2'
    obtain ⟨x, e1, _, wk⟩ := DataW.trod_int Tryd.underlying3 h3'
    simp at e1
    subst e1
    exact ⟨x, Ap, Aq, Ab, cp, cq, cb, P, Q, u, rfl, r1, r2, r3, by omega, by omega, n3, m3⟩
end Go.Proofs.YtahedhpffjgimaaDoor
/- Which proofs are the same, the reference's way. -/
namespace Go.Proofs.YtahedhpffjgimaaDoor
open Go.RowKit
open Go.Lib Go.Sort
set_option maxHeartbeats 4000000 in
set_option maxRecDepth 100000 in
theorem refPSame_any (PA QA : Option Addr) (kp kq : Nat) (P Q : List Stp) (w : World) (hP : RS w w.heap.size PA P) (hQ : RS w w.heap.size QA Q) (hn : P.length ≤ maxLen) (hn' : Q.length ≤ maxLen) :
    Calls Tryd.prog 20 #[.slice PA P.length kp, .slice QA Q.length kq] w (RetV w (.bool (sameP P Q))) := by
  unfold maxLen at hn hn'
  by_cases hl : P.length = Q.length
  · have hne : ((P.length : Int) != (Q.length : Int)) = false := by simp [hl]
    obtain ⟨T, hT⟩ : ∃ T, sameP P Q = T := ⟨_, rfl⟩
    rw [hT]
    have HT : Hid (sameP (P.drop 0) (Q.drop 0) = T) := hT
    have HP := Lib.hid hP
    have HQ := Lib.hid hQ
    have HL := Lib.hid hl
    clear hT hP hQ hl
    go_enter Tryd.func20, Tryd.ntmps20
    go_wp2
    go_loopw [5] (fun i wr => ∃ j : Nat, j ≤ P.length ∧ i = .int .i64 j ∧ Below w.heap.size w wr ∧ Hid (sameP (P.drop j) (Q.drop j) = T)) (fun i _ => P.length - (intOf i).toNat)
    case atStart => exact ⟨0, Nat.zero_le _, rfl, Below.refl _ _, HT⟩
    case round =>
      obtain ⟨j, hj, rfl, hb, HJ⟩ := hrel
      by_cases hlt : j < P.length
      · have hltq : j < Q.length := by rw [← HL.out]; exact hlt
        obtain ⟨ad, A1, c1, rfl, hab, hc0, hc1, hr, hlc, hcm⟩ := HP.out j hlt
        obtain ⟨ad', A1', c1', rfl, hab', hc0', hc1', hr', hlc', hcm'⟩ := HQ.out j hltq
        have k0 := (hb.cell (p := ad.add (j * 2)) (by rw [block_add]; exact hab)).trans hc0
        have k1 := (hb.cell (p := ⟨(ad.add (j * 2)).block, (ad.add (j * 2)).off + 1, none⟩) (by show (ad.add (j * 2)).block < _; rw [block_add]; exact hab)).trans hc1
        have k0' := (hb.cell (p := ad'.add (j * 2)) (by rw [block_add]; exact hab')).trans hc0'
        have k1' := (hb.cell (p := ⟨(ad'.add (j * 2)).block, (ad'.add (j * 2)).off + 1, none⟩) (by show (ad'.add (j * 2)).block < _; rw [block_add]; exact hab')).trans hc1'
        have hlt1 : (j : Int) < P.length := by omega
        have hlt2 : (j : Int) < Q.length := by omega
        have e := HJ.out
        rw [dropS P j hlt, dropS Q j hltq, sameP] at e
        have hrr := (hr.below hb).mono hb.size
        have hrr' := (hr'.below hb).mono hb.size
        obtain ⟨ub, hub⟩ : ∃ ub, P.getD j (true, []) = ub := ⟨_, rfl⟩
        obtain ⟨ub', hub'⟩ : ∃ ub, Q.getD j (true, []) = ub := ⟨_, rfl⟩
        rw [hub] at k0 k1 hlc hrr e
        rw [hub'] at k0' k1' hlc' hrr' e
        obtain ⟨d, u⟩ := ub
        obtain ⟨d', u'⟩ := ub'
        simp only at k0 k1 hlc hrr k0' k1' hlc' hrr'
        have C := Lib.hid (fun q => Ints_q A1 A1' c1 c1' u u' (wr.drewN q) hrr hrr' (by omega) (by omega))
        have HB2 := Lib.hid hb
        clear hc0 hc1 hr hc0' hc1' hr' hrr hrr' hb hub hub' HJ HT
        unfold sameS at e
        simp only at e
        cases hu : (u == u')
        · rw [hu] at C e
          have HE : Hid (false = T) := by show _ = _; rw [← e, Bool.and_false, Bool.false_and]
          clear e hu
          go_wp2_with fail
          go_quiet ((go_at_call 42; exact Calls.quiet_of (C.out _)))
          go_wp2
          go_quiet (fail)
          go_wp2
          go_ret
          exact ⟨by rw [← HE.out]; rfl, by first | exact bnx HB2.out (Rd.drw _) | exact bnx (bnx HB2.out (Rd.drw _)) (Rd.drw _) | exact HB2.out⟩
        · rw [hu] at C e
          by_cases hd : d = d'
          · subst hd
            have hdd : (d == d) = true := by simp
            have hdn : (d != d) = false := by simp
            have HE : Hid (sameP (P.drop (j + 1)) (Q.drop (j + 1)) = T) := by show _ = _; rw [← e, hdd, Bool.true_and, Bool.true_and]
            clear e hu
            go_wp2_with fail
            go_quiet ((go_at_call 42; exact Calls.quiet_of (C.out _)))
            go_wp2
            go_quiet (fail)
            go_wp2
            go_roundw
            case rel => exact ⟨j + 1, by omega, by go_num, by first | exact bnx HB2.out (Rd.drw _) | exact bnx (bnx HB2.out (Rd.drw _)) (Rd.drw _) | exact HB2.out, HE⟩
            case measure => simp [intOf]; omega
          · have hdd : (d == d') = false := by simpa using hd
            have hdn : (d != d') = true := by simpa using hd
            have HE : Hid (false = T) := by show _ = _; rw [← e, hdd, Bool.false_and, Bool.false_and]
            clear e hu
            go_wp2_with fail
            go_quiet ((go_at_call 42; exact Calls.quiet_of (C.out _)))
            go_wp2
            go_quiet (fail)
            go_wp2
            go_ret
            exact ⟨by rw [← HE.out]; rfl, by first | exact bnx HB2.out (Rd.drw _) | exact bnx (bnx HB2.out (Rd.drw _)) (Rd.drw _) | exact HB2.out⟩
      · have e := HJ.out
        rw [List.drop_of_length_le (by omega), List.drop_of_length_le (by have := HL.out; omega), sameP] at e
        have HE : Hid (true = T) := e
        have HB := Lib.hid hb
        clear e HJ HT HP HQ hb
        go_wp2
        go_ret
        exact ⟨by rw [← HE.out]; rfl, HB.out⟩
  · have hne : ((P.length : Int) != (Q.length : Int)) = true := by simp; omega
    rw [sameP_len hl]
    clear hl hP hQ
    go_enter Tryd.func20, Tryd.ntmps20
    go_wp2
    go_ret
    exact ⟨rfl, Below.refl _ _⟩
end Go.Proofs.YtahedhpffjgimaaDoor
/- Texts of bytes. -/
namespace Go.Proofs.YtahedhpffjgimaaDoor
open Go.RowKit
/-- A list as a text. -/
def strOf (l : List UInt8) : ByteArray := ⟨l.toArray⟩
theorem strOf_size (l : List UInt8) : (strOf l).size = l.length := rfl
theorem strOf_data (l : List UInt8) : (strOf l).data.toList = l := rfl
theorem parse_bytes (w : World) (S : ByteArray) (l : List UInt8) (hS : S = strOf l) (hl : l.length ≤ 100000) :
    Calls Tryd.prog 32 #[.slice (some ⟨w.heap.size, 0, none⟩) S.size (grownCap w S.size 0 5)] (Lib.bytesWorld w 5 S) (RetP w (parseS l).1.1 (parseS l).1.2 (parseS l).2.1 (parseS l).2.2) := by
  subst hS
  obtain ⟨b1, b2, b3⟩ := bytes_read w (strOf l)
  have := Parse_any (some ⟨w.heap.size, 0, none⟩) (grownCap w l.length 0 5) l (Lib.bytesWorld w 5 (strOf l)) (by rw [b3]; exact b1) (grownCap_ge _ _ _ _) (grownCap_le_maxLen _ _ _ _ (by unfold maxLen; omega))
  rw [strOf_size]
  exact this.mono fun e w' ⟨A, c, h1, h2, h3, h4⟩ => ⟨A, c, h1, h2, h3, bnx b2 h4⟩
theorem model_bytes (w : World) (S : ByteArray) (l : List UInt8) (n : Nat) (hS : S = strOf l) (hl : l.length ≤ 100000) (hn : n ≤ 100000) (hP : Pow w.heap.size w) :
    Calls Tryd.prog 33 #[.slice (some ⟨w.heap.size, 0, none⟩) S.size (grownCap w S.size 0 5), .int .i64 n] (Lib.bytesWorld w 5 S) (RetM w (parseM l n).1 (parseM l n).2.1 (parseM l n).2.2) := by
  subst hS
  obtain ⟨b1, b2, b3⟩ := bytes_read w (strOf l)
  have := ParseModel_any (some ⟨w.heap.size, 0, none⟩) (grownCap w l.length 0 5) n l (Lib.bytesWorld w 5 (strOf l)) (by rw [b3]; exact b1) (grownCap_ge _ _ _ _) (grownCap_le_maxLen _ _ _ _ (by unfold maxLen; omega)) hn (hP.nx b2)
  rw [strOf_size]
  exact this.mono fun e w' ⟨A, c, h1, h2, h3, h4⟩ => ⟨A, c, h1, h2, h3, bnx b2 h4⟩
theorem sameF_self (N : Int) (L : List (List Int)) : sameF N N L L = true := by simp [sameF]
theorem parse_err (l : List UInt8) : (parseS l).2.2 = 0 ∨ ((parseS l).2.2 != 0) = true := by
  by_cases h : (parseS l).2.2 = 0
  · exact .inl h
  · exact .inr (by simp [h])
end Go.Proofs.YtahedhpffjgimaaDoor
/- A text with bytes behind. -/
namespace Go.Proofs.YtahedhpffjgimaaDoor
open Go.RowKit
theorem bel_setCells {B b : Nat} {a : World} (hb : B ≤ b) : ∀ (vs : List Value) (o : Nat) (w : World), Below B a w → Below B a (w.setCells b o vs)
  | [], _, _, h => h
  | v :: vs, o, w, h => bel_setCells hb vs (o + 1) _ (h.setCell (p := ⟨b, o, none⟩) hb v)
def u8s (l : List UInt8) : List Value := l.map fun b => Value.int .u8 (b.toNat : Int)
theorem u8s_at (l : List UInt8) (i : Nat) (h : i < l.length) : (u8s l)[i]? = some (.int .u8 ((l.getD i 0).toNat : Int)) := by
  simp [u8s, List.getD_eq_getElem?_getD, h]
theorem u8s_len (l : List UInt8) : (u8s l).length = l.length := by simp [u8s]
theorem src_of {w : World} {B : Nat} {a : Addr} {c : Nat} {l : List UInt8} (h : Rd w B (some a) l) : Src Tryd.prog 1 35 (.slice (some a) l.length c) l.length (u8s l) w := by
  refine Src.ofSlice w Tryd.underlying35 a l.length c (u8s l) (by rw [u8s_len]; omega) ?_ ?_
  · intro j u hu
    have hj : j < l.length := by have := (List.getElem?_eq_some_iff.1 hu).1; rwa [u8s_len] at this
    obtain ⟨a', e, _, hc⟩ := h j hj
    injection e with e
    subst e
    rw [hc]
    rw [u8s_at l j hj] at hu
    exact hu
  · intro u hu
    obtain ⟨b, _, rfl⟩ := List.mem_map.1 hu
    rfl
/-- Bytes behind a text's bytes. -/
theorem bytes_more (w : World) (S : ByteArray) (A : Option Addr) (c : Nat) (l : List UInt8) (ty : TypeId) (h : Rd w w.heap.size A l) (hl : l ≠ []) (hk : l.length ≤ 1000) (hS : S.size ≤ 100000) :
    ∃ A' c' w', (Builtin.append_ #[35, 35] ty #[.slice (some ⟨w.heap.size, 0, none⟩) S.size (grownCap w S.size 0 5), .slice A l.length c]).run Tryd.prog (Lib.bytesWorld w 5 S) = .ok (.slice A' (S.size + l.length) c') w' ∧
      Rd w' w'.heap.size A' (S.data.toList ++ l) ∧ Below w.heap.size w w' ∧ S.size + l.length ≤ c' ∧ c' ≤ maxLen := by
  obtain ⟨i0, hi0, hz0, hz1, hz2⟩ := info_parts u8_info
  have hpos : 0 < l.length := List.length_pos_iff.2 hl
  obtain ⟨a, rfl, hab, _⟩ := h 0 hpos
  obtain ⟨b1, b2, b3⟩ := bytes_read w S
  have hsz : S.data.toList.length = S.size := by simp
  have hr : Rd (Lib.bytesWorld w 5 S) (Lib.bytesWorld w 5 S).heap.size (some a) l := (h.below b2).mono b2.size
  have hsrc := src_of (c := c) hr
  have hg0 := grownCap_ge w S.size 0 5
  have hgm : grownCap w S.size 0 5 ≤ maxLen := grownCap_le_maxLen _ _ _ _ (by unfold maxLen; omega)
  have hnew := Lib.bytesWorld_at_new w 5 S
  have hcs : (Lib.bytesCells w 5 S).size = grownCap w S.size 0 5 := by simp [Lib.bytesCells]; omega
  by_cases hroom : S.size + l.length ≤ grownCap w S.size 0 5
  · have hc : ∀ j, j < (u8s l).length → ((Lib.bytesWorld w 5 S).cell? ⟨w.heap.size, 0 + S.size * i0.size + j, none⟩).isSome = true := by
      intro j hj
      rw [u8s_len] at hj
      have : 0 + S.size * i0.size + j < (Lib.bytesCells w 5 S).size := by rw [hz1, hcs]; omega
      simp [World.cell?, hnew]
      omega
    have hf : ∀ j, j < (u8s l).length → (Lib.bytesWorld w 5 S).frozen? ⟨w.heap.size, 0 + S.size * i0.size + j, none⟩ = false := by
      intro j hj
      rw [u8s_len] at hj
      have : 0 + S.size * i0.size + j < (Lib.bytesCells w 5 S).size := by rw [hz1, hcs]; omega
      simp only [World.frozen?, hnew, Bool.and_eq_false_iff, decide_eq_false_iff_not]
      left
      omega
    have hrun := run_append_room_src (P := Tryd.prog) (w := Lib.bytesWorld w 5 S) 35 35 ty 5 i0 Tryd.underlying35 hi0 w.heap.size 0 S.size (grownCap w S.size 0 5) _ l.length (u8s l) (by rw [hz1]; exact hsrc) hroom hc hf
    have hb : Below w.heap.size w ((Lib.bytesWorld w 5 S).setCells w.heap.size (0 + S.size * i0.size) (u8s l)) := bel_setCells (Nat.le_refl _) _ _ _ b2
    have hbs : Below w.heap.size (Lib.bytesWorld w 5 S) ((Lib.bytesWorld w 5 S).setCells w.heap.size (0 + S.size * i0.size) (u8s l)) := bel_setCells (Nat.le_refl _) _ _ _ (Below.refl _ _)
    refine ⟨_, _, _, hrun, ?_, hb, hroom, hgm⟩
    have hin := World.cell?_setCells_in w.heap.size (u8s l) (0 + S.size * i0.size) (Lib.bytesWorld w 5 S) hc
    have hout := World.cell?_setCells_out w.heap.size (u8s l) (0 + S.size * i0.size) (Lib.bytesWorld w 5 S)
    rw [hz1] at hin hout hbs ⊢
    intro i hi
    refine ⟨_, rfl, by have := hbs.size; simp only; omega, ?_⟩
    rw [add_loc]
    rw [List.length_append, hsz] at hi
    by_cases h1 : i < S.size
    · rw [hout ⟨w.heap.size, i, none⟩ (fun _ _ => .inl (by simp only; omega)), Lib.bytesWorld_cell w 5 S i h1]
      have eg : (S.data.toList ++ l).getD i 0 = S.data.toList.getD i 0 := by simp [List.getD_eq_getElem?_getD, List.getElem?_append, h1]
      rw [eg]
    · have h2 : i - S.size < l.length := by omega
      have := hin (i - S.size) (by rw [u8s_len]; exact h2)
      rw [show 0 + S.size * 1 + (i - S.size) = i by omega] at this
      rw [this]
      have e2 := u8s_at l (i - S.size) h2
      rw [List.getElem?_eq_getElem (by rw [u8s_len]; exact h2)] at e2
      rw [e2]
      have eg : (S.data.toList ++ l).getD i 0 = l.getD (i - S.size) 0 := by simp [List.getD_eq_getElem?_getD, List.getElem?_append, h1]
      rw [eg]
  · have hold : (Builtin.firstCells i0.size S.size (.slice (some ⟨w.heap.size, 0, none⟩) S.size (grownCap w S.size 0 5))).run Tryd.prog (Lib.bytesWorld w 5 S).drew = .ok (u8s S.data.toList).toArray (Lib.bytesWorld w 5 S).drew := by
      refine run_firstCells_some _ _ _ _ _ _ _ (by rw [u8s_len, hz1]; simp) ?_
      intro j u hu
      have hj : j < S.data.toList.length := by have := (List.getElem?_eq_some_iff.1 hu).1; rwa [u8s_len] at this
      rw [u8s_at _ j hj] at hu
      rw [add_loc]
      have := Lib.bytesWorld_cell w 5 S j (by rwa [hsz] at hj)
      rw [← hu]
      simpa using this
    have hrun := run_append_grow_src (P := Tryd.prog) (w := Lib.bytesWorld w 5 S) 35 35 ty 5 i0 _ Tryd.underlying35 hi0 hz0 (some ⟨w.heap.size, 0, none⟩) S.size (grownCap w S.size 0 5) _ hold _ l.length (u8s l) (by rw [hz1]; exact hsrc) (by omega) (by omega) (by rw [hz2]; exact growslice_fits (by omega) (by omega))
    refine ⟨_, _, _, hrun, ?_, bal b2.drew _, grownCap_ge _ _ _ _, grownCap_le_maxLen _ _ _ _ (by unfold maxLen; omega)⟩
    intro i hi
    refine ⟨_, rfl, by simp, ?_⟩
    rw [add_loc]
    have e0 : u8s S.data.toList ++ u8s l = u8s (S.data.toList ++ l) := by simp [u8s]
    have e1 := heap_alloc_new (Lib.bytesWorld w 5 S).drew (.cells ((u8s S.data.toList ++ u8s l).toArray ++ Builtin.zeroCells (Value.int .u8 0).cells (grownCap (Lib.bytesWorld w 5 S) (S.size + l.length) (grownCap w S.size 0 5) 5 - (S.size + l.length))) 5)
    have e2 : (Lib.bytesWorld w 5 S).drew.heap.size = (Lib.bytesWorld w 5 S).heap.size := rfl
    rw [e2] at e1
    simp only [World.cell?, e1]
    rw [e0, Array.getElem?_append_left (by rw [List.size_toArray, u8s_len]; exact hi)]
    rw [List.getElem?_toArray, u8s_at _ i hi]
    rfl
/-- 'append' whose run is known. -/
theorem wp_app {ops : Array Oper} {rest : List Oper} {o : Oper} {a : Act} {w : World} {Q : Exit → Act → World → Prop} (hg : o.guard = none) (s x : Operand) (t : TypeId) (hop : o.op = .call { callee := .builtin .append, args := #[s, x], argTypes := #[t, t] })
    (v u : Value) (hs : a.eval s = v) (hx : a.eval x = u) {v' : Value} {w' : World} (hrun : (Builtin.append_ #[t, t] o.type #[v, u]).run Tryd.prog w = .ok v' w') (hK : wpList Tryd.prog ops Q rest (a.put o.dst v') w') : wpList Tryd.prog ops Q (o :: rest) a w := by
  refine wpList_plain hg fun K hK' => ?_
  unfold Oper.wp
  simp [execOp, hop, resolve, invoke, builtin, hs, hx, hrun, Result.andThen]
  exact hK' _ _ hK
end Go.Proofs.YtahedhpffjgimaaDoor
/- Bytes behind a text's bytes, none too. -/
namespace Go.Proofs.YtahedhpffjgimaaDoor
open Go.RowKit
open Go.Lib Go.Sort
theorem bytes_more_any (w : World) (S : ByteArray) (A : Option Addr) (c : Nat) (l : List UInt8) (ty : TypeId) (h : Rd w w.heap.size A l) (hk : l.length ≤ 1000) (hS : S.size ≤ 100000) :
    ∃ A' c' w', (Builtin.append_ #[35, 35] ty #[.slice (some ⟨w.heap.size, 0, none⟩) S.size (grownCap w S.size 0 5), .slice A l.length c]).run Tryd.prog (Lib.bytesWorld w 5 S) = .ok (.slice A' (S.size + l.length) c') w' ∧
      Rd w' w'.heap.size A' (S.data.toList ++ l) ∧ Below w.heap.size w w' ∧ S.size + l.length ≤ c' ∧ c' ≤ maxLen := by
  by_cases hl : l = []
  · subst hl
    obtain ⟨i0, hi0, hz0, hz1, hz2⟩ := info_parts u8_info
    obtain ⟨b1, b2, b3⟩ := bytes_read w S
    have hg0 := grownCap_ge w S.size 0 5
    have hgm : grownCap w S.size 0 5 ≤ maxLen := grownCap_le_maxLen _ _ _ _ (by unfold maxLen; omega)
    have hsrc : Src Tryd.prog i0.size 35 (.slice A 0 c) 0 [] (Lib.bytesWorld w 5 S) := by
      cases A with
      | none => exact Src.ofNil _ Tryd.underlying35 c
      | some a => exact Src.ofSlice _ Tryd.underlying35 a 0 c [] (by simp) (fun j u hj => by simp at hj) (fun u hu => by simp at hu)
    have hrun := run_append_room_src (P := Tryd.prog) (w := Lib.bytesWorld w 5 S) 35 35 ty 5 i0 Tryd.underlying35 hi0 w.heap.size 0 S.size (grownCap w S.size 0 5) _ 0 [] hsrc (by omega) (fun j hj => by simp at hj) (fun j hj => by simp at hj)
    refine ⟨_, _, _, hrun, ?_, b2, by simp; omega, hgm⟩
    rw [List.append_nil]
    show Rd (Lib.bytesWorld w 5 S) (Lib.bytesWorld w 5 S).heap.size _ _
    rw [b3]; exact b1
  · exact bytes_more w S A c l ty h hl hk hS
end Go.Proofs.YtahedhpffjgimaaDoor
/- DrupApart, walked. -/
namespace Go.Proofs.YtahedhpffjgimaaDoor
open Go.RowKit
open Go.Lib Go.Sort
theorem toList_of (l : List UInt8) : (⟨l.toArray⟩ : ByteArray).toList = l := by
  rw [toList_data]
theorem apart_okp {P : List Stp} {n : Int} (h : rightP n P = true) (hp : P.length ≤ 40) : Okp P := by
  obtain ⟨h0, h1, _, h3⟩ := rightP_parts h
  exact ⟨by omega, fun s hs => ⟨(h3 s hs).1, fun x hx => by have := (h3 s hs).2 x hx; omega⟩⟩
theorem small_text {P : List Stp} {n : Int} (h : rightP n P = true) (hs : smallP 20 P = true) : (printP P).length ≤ 10000 := by
  obtain ⟨h0, h1, _, h3⟩ := rightP_parts h
  obtain ⟨a1, a2⟩ := smallP_parts hs
  have : ∀ (Q : List Stp), (∀ s ∈ Q, s.2.length ≤ 20 ∧ ∀ x ∈ s.2, -9223372036854775808 ≤ x ∧ x ≤ 9223372036854775807) → (printP Q).length ≤ 444 * Q.length := by
    intro Q
    induction Q with
    | nil => simp [printP]
    | cons s Q ih =>
      intro hQ
      have h1 := ih (fun s hs => hQ s (by simp [hs]))
      have h2 := litsS_len s.2 (hQ s (by simp)).2
      have h4 := (hQ s (by simp)).1
      have h5 : (stepS s).length ≤ 444 := by unfold stepS tellS; split <;> simp <;> omega
      have e : printP (s :: Q) = stepS s ++ printP Q := rfl
      rw [e, List.length_append, List.length_cons]; omega
  have := this P (fun s hs => ⟨by have := a2 s hs; omega, fun x hx => by have := (h3 s hs).2 x hx; omega⟩)
  omega
set_option maxHeartbeats 8000000 in
set_option maxRecDepth 100000 in
theorem apart_any (Ap Aq Ab : Option Addr) (cp cq cb : Nat) (n : Int) (P Q : List Stp) (l : List UInt8) (w : World) (hP : RS w w.heap.size Ap P) (hQ : RS w w.heap.size Aq Q) (hB : Rd w w.heap.size Ab l) (l1 : P.length ≤ maxLen) (l2 : Q.length ≤ maxLen) (l3 : l.length ≤ cb) (l4 : cb ≤ maxLen) (z : (Ap = none → cp = 0) ∧ (Aq = none → cq = 0)) (hW : Pow w.heap.size w) :
    Calls Tryd.prog 9 #[.agg #[.slice Ap P.length cp, .slice Aq Q.length cq, .int .i64 n, .slice Ab l.length cb]] w (RetV w (.bool true)) := by
  have b0 := bal (Below.refl w.heap.size w) (.cells #[.slice Ap P.length cp, .slice Aq Q.length cq, .int .i64 n, .slice Ab l.length cb] 60)
  generalize hw0 : w.alloc (.cells #[.slice Ap P.length cp, .slice Aq Q.length cq, .int .i64 n, .slice Ab l.length cb] 60) = w0 at b0
  have C1 := dshown_any w0 (hW.nx b0)
  have H0 := Lib.hid (And.intro (hP.nx b0) (And.intro (hQ.nx b0) ((hB.below b0).mono b0.size)))
  have HL := Lib.hid (And.intro l1 (And.intro l2 (And.intro l3 l4)))
  have HZ := Lib.hid z
  have HPW := Lib.hid (hW.nx b0)
  have HW0 := Lib.hid hw0
  have HB0 := Lib.hid b0
  have l4' : l.length ≤ 9223372036854775807 := by unfold maxLen at l4; omega
  clear hP hQ hB hW hw0 b0 l1 l2 l3 l4 z
  go_enter Tryd.func9, Tryd.ntmps9
  go_wp2_with fail
  rw [HW0.out]
  refine C1.mono ?_; rintro e w1 ⟨rfl, hb⟩
  have H1 := Lib.hid hb
  clear C1 hb
  by_cases hn0 : n < 0
  · have d1 : decide (n < 0) = true := decide_eq_true hn0
    have HE := Lib.hid (bnx HB0.out H1.out)
    clear hn0
    go_wp2
    go_ret
    exact ⟨rfl, HE.out⟩
  have d1 : decide (n < 0) = false := decide_eq_false hn0
  by_cases hn1 : 1000 < n
  · have d2 : decide (1000 < n) = true := decide_eq_true hn1
    have HE := Lib.hid (bnx HB0.out H1.out)
    clear hn0 hn1
    go_wp2
    go_ret
    exact ⟨rfl, HE.out⟩
  have d2 : decide (1000 < n) = false := decide_eq_false hn1
  have HN : Hid (0 ≤ n ∧ n ≤ 1000) := Lib.hid (by omega)
  clear hn0 hn1
  have c2 := refSmall_any Ap cp 20 P w1 (H0.out.1.nx H1.out) HL.out.1
  cases hs1 : smallP 20 P
  · rw [hs1] at c2
    go_wp2_with fail
    refine c2.mono ?_; rintro e w2 ⟨rfl, rfl⟩
    have HE := Lib.hid (bnx HB0.out H1.out)
    clear c2
    go_wp2
    go_ret
    exact ⟨rfl, HE.out⟩
  rw [hs1] at c2
  go_wp2_with fail
  refine c2.mono ?_; rintro e w2 ⟨rfl, rfl⟩
  have c3 := refSmall_any Aq cq 20 Q w1 (H0.out.2.1.nx H1.out) HL.out.2.1
  clear c2
  cases hs2 : smallP 20 Q
  · rw [hs2] at c3
    go_wp2_with fail
    refine c3.mono ?_; rintro e w3 ⟨rfl, rfl⟩
    have HE := Lib.hid (bnx HB0.out H1.out)
    clear c3
    go_wp2
    go_ret
    exact ⟨rfl, HE.out⟩
  rw [hs2] at c3
  go_wp2_with fail
  refine c3.mono ?_; rintro e w3 ⟨rfl, rfl⟩
  have c4 := refPRight_any Ap cp n P w1 (H0.out.1.nx H1.out) HL.out.1
  clear c3
  cases hr1 : rightP n P
  · rw [hr1] at c4
    go_wp2_with fail
    refine c4.mono ?_; rintro e w4 ⟨rfl, hb⟩
    have HE := Lib.hid (bnx HB0.out (bnx H1.out hb))
    clear c4 hb
    go_wp2
    go_ret
    exact ⟨rfl, HE.out⟩
  rw [hr1] at c4
  go_wp2_with fail
  refine c4.mono ?_; rintro e w4 ⟨rfl, hb⟩
  have H4 := Lib.hid (bnx H1.out hb)
  have c5 := refPRight_any Aq cq n Q w4 (H0.out.2.1.nx H4.out) HL.out.2.1
  clear c4 hb H1
  cases hr2 : rightP n Q
  · rw [hr2] at c5
    go_wp2_with fail
    refine c5.mono ?_; rintro e w5 ⟨rfl, hb⟩
    have HE := Lib.hid (bnx HB0.out (bnx H4.out hb))
    clear c5 hb
    go_wp2
    go_ret
    exact ⟨rfl, HE.out⟩
  rw [hr2] at c5
  go_wp2_with fail
  refine c5.mono ?_; rintro e w5 ⟨rfl, hb⟩
  have H5 := Lib.hid (bnx H4.out hb)
  clear c5 hb H4
  by_cases hl : 500 < l.length
  · have d3 : decide (500 < l.length) = true := decide_eq_true hl
    have d3' : decide ((500 : Int) < l.length) = true := decide_eq_true (by omega)
    have HE := Lib.hid (bnx HB0.out H5.out)
    clear hl
    go_wp2
    go_ret
    exact ⟨rfl, HE.out⟩
  have d3 : decide (500 < l.length) = false := decide_eq_false hl
  have d3' : decide ((500 : Int) < l.length) = false := decide_eq_false (by omega)
  have hl5 : l.length ≤ 500 := by omega
  have hpl : P.length ≤ 20 := by have := (smallP_parts hs1).1; omega
  have hql : Q.length ≤ 20 := by have := (smallP_parts hs2).1; omega
  have HR := Lib.hid (And.intro hr1 (And.intro hr2 (And.intro hs1 hs2)))
  have c6 := PPrint_any Ap cp P w5 (H0.out.1.nx H5.out) (HPW.out.nx H5.out) (apart_okp hr1 (by omega))
  obtain ⟨S, hS⟩ : ∃ S : ByteArray, (⟨(printP P).toArray⟩ : ByteArray) = S := ⟨_, rfl⟩
  obtain ⟨T, hT⟩ : ∃ T : ByteArray, (⟨(printP Q).toArray⟩ : ByteArray) = T := ⟨_, rfl⟩
  rw [hS] at c6
  have HS := Lib.hid hS
  have HT := Lib.hid hT
  clear hl hr1 hr2 hs1 hs2 hS hT
  go_wp2_with fail
  refine c6.mono ?_; rintro e w6 ⟨rfl, hb⟩
  have H6 := Lib.hid (bnx H5.out hb)
  have c7 := PPrint_any Aq cq Q w6 (H0.out.2.1.nx H6.out) (HPW.out.nx H6.out) (apart_okp HR.out.2.1 (by omega))
  rw [HT.out] at c7
  clear c6 hb H5
  go_wp2_with fail
  refine c7.mono ?_; rintro e w7 ⟨rfl, hb⟩
  have H7 := Lib.hid (bnx H6.out hb)
  have hB7 := bal H7.out (.cells #[] 54)
  have hOE : OwnE (w7.alloc (.cells #[] 54)) w0.heap.size (.slice (some ⟨w7.heap.size, 0, none⟩) 0 0) [] := ⟨[], World.ownsRow_lit (size := 2) (e := 54) (base := w0.heap.size) w7 #[] 0 H7.out.size (by simp [maxLen]) (by simp), by simp, fun i hi => absurd hi (by simp)⟩
  clear c7 hb H6
  go_wp2_with (first | (at_builtin; refine wpEs (z := w0) rfl (.tmp 64) (.tmp 65) rfl _ [] rfl hOE Ap cp P rfl H0.out.1 HZ.out.1 hB7 (by simp) (by omega) ?_) | fail)
  intro v8 w8 hO8 hb8
  clear hOE hB7 H7
  go_wp2_with (first | (at_builtin; refine wpEs (z := w0) rfl (.tmp 66) (.tmp 67) rfl v8 P rfl hO8 Aq cq Q rfl H0.out.2.1 HZ.out.2 hb8 (by omega) (by omega) ?_) | fail)
  intro v9 w9 hO9 hb9
  have H9 := Lib.hid hb9
  have HO9 := Lib.hid hO9
  clear hO9 hb9 hO8 hb8
  have hsd : S.data.toList = printP P := by rw [← HS.out]
  have htd : T.data.toList = printP Q := by rw [← HT.out]
  have hss : S.size = (printP P).length := by rw [← hsd]; simp
  have hts : T.size = (printP Q).length := by rw [← htd]; simp
  have hsl : S.size ≤ 10000 := by rw [hss]; exact small_text HR.out.1 HR.out.2.2.1
  have htl : T.size ≤ 10000 := by rw [hts]; exact small_text HR.out.2.1 HR.out.2.2.2
  obtain ⟨K, hK⟩ : ∃ K, (parseD n l).2.1 = K := ⟨_, rfl⟩
  obtain ⟨E, hE⟩ : ∃ E, (parseD n l).2.2 = E := ⟨_, rfl⟩
  have hKl : K ≤ l.length := by rw [← hK]; exact rdP_len n l.length l
  obtain ⟨pb1, pb2⟩ := parseD_both HR.out.1 l
  rw [hK] at pb1
  rw [hE] at pb2
  have kc9 := Lib.run_convert_string_bytes (P := Tryd.prog) w9 9 35 5 S Tryd.underlying9 Tryd.underlying35 Tryd.underlying5
  obtain ⟨A10, c10, w10, hrun, r10, hb10, n10, m10⟩ := bytes_more_any w9 S Ab cb l 35 ((H0.out.2.2.below H9.out).mono H9.out.size) (by omega) (by omega)
  have C10 : Calls Tryd.prog 21 #[.slice A10 (S.size + l.length) c10, .int .i64 n] w10 (fun e w' => ∃ v, e = .returned (.tuple #[v, .int .i64 ((S.size + K : Nat) : Int), .int .i64 E]) ∧ Below w10.heap.size w10 w') := by
    have := PParse_any A10 c10 n (S.data.toList ++ l) w10 r10 (by rw [List.length_append]; simpa using n10) m10 (by rw [List.length_append]; simp; omega) HN.out.1 (by have := HN.out.2; omega)
    rw [show (S.data.toList ++ l).length = S.size + l.length by simp] at this
    refine this.mono ?_
    rintro e w' ⟨v, rfl, _, hb⟩
    exact ⟨v, by rw [hsd, pb1, pb2, hss], hb⟩
  have HSD := Lib.hid hsd
  have HTD := Lib.hid htd
  clear hsd htd hss hts
  have HRUN := Lib.hid hrun
  have H10 := Lib.hid (bnx H9.out hb10)
  have HO10 := Lib.hid (HO9.out.old hb10 H9.out.size)
  clear hrun r10 hb10 n10 m10 pb1 pb2 H9 HO9
  go_wp2_with (at_builtin; refine wp_app rfl (.tmp 71) (.tmp 72) 35 rfl _ _ rfl rfl HRUN.out ?_)
  clear kc9 HRUN
  go_wp2_with fail
  refine C10.mono ?_; rintro e w11 ⟨v11, rfl, hb⟩
  have H11 := Lib.hid (bnx H10.out hb)
  have HO11 := Lib.hid (HO10.out.old hb H10.out.size)
  have C11 : Calls Tryd.prog 21 #[.slice Ab l.length cb, .int .i64 n] w11 (fun e w' => ∃ v, e = .returned (.tuple #[v, .int .i64 (K : Int), .int .i64 E]) ∧ Below w11.heap.size w11 w') := by
    have := PParse_any Ab cb n l w11 ((H0.out.2.2.below H11.out).mono H11.out.size) HL.out.2.2.1 HL.out.2.2.2 (by omega) HN.out.1 (by have := HN.out.2; omega)
    refine this.mono ?_
    rintro e w' ⟨v, rfl, _, hb⟩
    exact ⟨v, by rw [hK, hE], hb⟩
  clear C10 hb H10 HO10 hK hE
  go_wp2_with fail
  refine C11.mono ?_; rintro e w12 ⟨v12, rfl, hb⟩
  have H12 := Lib.hid (bnx H11.out hb)
  have HO12 := Lib.hid (HO11.out.old hb H11.out.size)
  have hst : (S.toList == T.toList) = sameP P Q := by
    rw [toList_data, toList_data, HSD.out, HTD.out, Bool.eq_iff_iff, beq_iff_eq, sameP_iff]
    exact printP_apart HR.out.1 HR.out.2.1
  have C12 := refPSame_any Ap Aq cp cq P Q w12 (H0.out.1.nx H12.out) (H0.out.2.1.nx H12.out) HL.out.1 HL.out.2.1
  clear C11 hb H11 HO11
  generalize sameP P Q = bs at *
  go_wp2_with fail
  refine C12.mono ?_; rintro e w13 ⟨rfl, hb⟩
  have H13 := Lib.hid (bnx H12.out hb)
  have HO13 := Lib.hid (HO12.out.old hb H12.out.size)
  obtain ⟨A9, k9, hv9, hr9⟩ := HO13.out.val H13.out.size
  have hpq : (P ++ Q).length = P.length + Q.length := by simp
  have C13 := PPrint_any A9 k9 (P ++ Q) w13 hr9 (HPW.out.nx H13.out) (by
    have a := apart_okp HR.out.1 (by omega)
    have b := apart_okp HR.out.2.1 (by omega)
    exact ⟨by simp; omega, fun s hs => (List.mem_append.1 hs).elim (a.2 s) (b.2 s)⟩)
  obtain ⟨U, hU⟩ : ∃ U : ByteArray, (⟨(printP (P ++ Q)).toArray⟩ : ByteArray) = U := ⟨_, rfl⟩
  rw [hU, hpq] at C13
  rw [hpq] at hv9
  have hut : (U.toList == (S ++ T).toList) = true := by
    rw [toList_data, toList_data, ← hU]
    have : (S ++ T).data.toList = S.data.toList ++ T.data.toList := by simp
    rw [this, HSD.out, HTD.out, printP_app]
    simp
  have hno : ¬ 9223372036854775807 < S.size + T.size := by omega
  have hee : (E == E) = true := by simp
  have hkb : K ≤ 500 := by omega
  subst hv9
  clear C12 hb H12 HO12 HO13 hr9 hU hpq
  go_wp2_with fail
  refine C13.mono ?_; rintro e w14 ⟨rfl, hb⟩
  have H14 := Lib.hid (bnx HB0.out (bnx H13.out hb))
  clear C13 hb H13
  have hbb : (bs == bs) = true := by simp
  go_wp2
  go_ret
  exact ⟨rfl, H14.out⟩
end Go.Proofs.YtahedhpffjgimaaDoor
