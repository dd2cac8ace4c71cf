import Derived.Test.YthabfakbdfaciaaGreatOB15
import Derived.Test.YthabfakbdfaciaaGreatOB11
import Derived.Test.YthabfakbdfaciaaGreatOB9
namespace Go.Proofs.YthabfakbdfaciaaGreat
namespace Nt
set_option maxRecDepth 100000
set_option linter.unusedSimpArgs false
set_option linter.unusedVariables false
set_option maxHeartbeats 16000000
section
open Go.ChangeShapes Go.RowKit
theorem kv_ne {m n : Nd} (h : m.op ≠ n.op) : kvl m ≠ kvl n := fun e => by
  unfold kvl kcs at e
  injection e with e
  have := congrArg (fun a => a[0]?) e
  simp at this
  exact h this
theorem kv_name {m n : Nd} (h : m.nm ≠ n.nm) : kvl m ≠ kvl n := fun e => by
  unfold kvl kcs at e
  injection e with e
  have := congrArg (fun a => a[2]?) e
  simp at this
  exact h this
theorem kv_args {m n : Nd} (h : pk (m.ar.map Int.toNat) ≠ pk (n.ar.map Int.toNat)) : kvl m ≠ kvl n := fun e => by
  unfold kvl kcs at e
  injection e with e
  have := congrArg (fun a => a[6]?) e
  simp at this
  exact h this
section
variable {X : List Nat} {B0 : Nat} {w0 w : World} {q N : Nat} {so fu : List (ByteArray × Nat)} {ty : List Fn} {ns : List Nd}
theorem two_rx (w : World) (a b : Int) (h : B0 ≤ w.heap.size) : Rx (w.heap.size :: X) B0 (w.alloc (.cells #[.int .i64 a, .int .i64 b] 3)) (some ⟨w.heap.size, 0, none⟩) (zs [a, b]) := by
  have hB : Bk w.heap.size #[.int .i64 a, .int .i64 b] 3 (w.alloc (.cells #[.int .i64 a, .int .i64 b] 3)) := Bk.new _ _ _
  refine .inr ⟨_, _, rfl, .inl (by simp), hB.lt, fun j v hj => ?_⟩
  rw [Nat.zero_add]
  refine hB.cell ?_
  rw [← Array.getElem?_toList]
  exact hj
theorem one_rx (w : World) (a : Int) (h : B0 ≤ w.heap.size) : Rx (w.heap.size :: X) B0 (w.alloc (.cells #[.int .i64 a] 3)) (some ⟨w.heap.size, 0, none⟩) (zs [a]) := by
  have hB : Bk w.heap.size #[.int .i64 a] 3 (w.alloc (.cells #[.int .i64 a] 3)) := Bk.new _ _ _
  refine .inr ⟨_, _, rfl, .inl (by simp), hB.lt, fun j v hj => ?_⟩
  rw [Nat.zero_add]
  refine hB.cell ?_
  rw [← Array.getElem?_toList]
  exact hj
end
theorem bel_dn (w : World) (n : Nat) : Below w.heap.size w (w.drewN n) := ((Off.refl [] w).drewN n).below (Nat.le_refl _) (by simp)
theorem declared_t (w : World) : Calls Tryz.prog 22 #[] w fun e w' => e = .returned (.slice (some ⟨w.heap.size + 3, 0, none⟩) 10 10) ∧ Dl [w.heap.size, w.heap.size + 1, w.heap.size + 2, w.heap.size + 3] w' (w.heap.size + 3) ∧ w.heap.size + 3 < w'.heap.size ∧ Below w.heap.size w w' := by
  obtain ⟨w1, h1⟩ : ∃ W, W = w.alloc (.cells #[.int .i64 1] 3) := ⟨_, rfl⟩
  obtain ⟨w2, h2⟩ : ∃ W, W = w1.alloc (.cells #[.int .i64 2, .int .i64 1] 3) := ⟨_, rfl⟩
  obtain ⟨w3, h3⟩ : ∃ W, W = w2.alloc (.cells #[.int .i64 2] 3) := ⟨_, rfl⟩
  obtain ⟨w4, h4⟩ : ∃ W, W = w3.alloc (.cells #[.string ⟨#[120]⟩, .slice none 0 0, .int .i64 1, .string ⟨#[121]⟩, .slice none 0 0, .int .i64 1, .string ⟨#[122]⟩, .slice none 0 0, .int .i64 1, .string ⟨#[112]⟩, .slice none 0 0, .int .i64 0, .string ⟨#[113]⟩, .slice none 0 0, .int .i64 0, .string ⟨#[97]⟩, .slice none 0 0, .int .i64 2, .string ⟨#[98]⟩, .slice none 0 0, .int .i64 2, .string ⟨#[102]⟩, .slice (some ⟨w.heap.size, 0, none⟩) 1 1, .int .i64 1, .string ⟨#[103]⟩, .slice (some ⟨w.heap.size + 1, 0, none⟩) 2 2, .int .i64 2, .string ⟨#[104]⟩, .slice (some ⟨w.heap.size + 2, 0, none⟩) 1 1, .int .i64 0] 59) := ⟨_, rfl⟩
  have s1 : w1.heap.size = w.heap.size + 1 := by rw [h1]; simp
  have s2 : w2.heap.size = w.heap.size + 2 := by rw [h2]; simp [s1]
  have s3 : w3.heap.size = w.heap.size + 3 := by rw [h3]; simp [s2]
  have s4 : w4.heap.size = w.heap.size + 4 := by rw [h4]; simp [s3]
  have b1 : Bk w.heap.size #[.int .i64 1] 3 w4 := by
    rw [h4, h3, h2, h1]; exact (((Bk.new _ _ w).al _).al _).al _
  have b2 : Bk (w.heap.size + 1) #[.int .i64 2, .int .i64 1] 3 w4 := by
    rw [h4, h3, h2, ← s1]; exact ((Bk.new _ _ w1).al _).al _
  have b3 : Bk (w.heap.size + 2) #[.int .i64 2] 3 w4 := by
    rw [h4, h3, ← s2]; exact (Bk.new _ _ w2).al _
  have b4 := Bk.new #[.string ⟨#[120]⟩, .slice none 0 0, .int .i64 1, .string ⟨#[121]⟩, .slice none 0 0, .int .i64 1, .string ⟨#[122]⟩, .slice none 0 0, .int .i64 1, .string ⟨#[112]⟩, .slice none 0 0, .int .i64 0, .string ⟨#[113]⟩, .slice none 0 0, .int .i64 0, .string ⟨#[97]⟩, .slice none 0 0, .int .i64 2, .string ⟨#[98]⟩, .slice none 0 0, .int .i64 2, .string ⟨#[102]⟩, .slice (some ⟨w.heap.size, 0, none⟩) 1 1, .int .i64 1, .string ⟨#[103]⟩, .slice (some ⟨w.heap.size + 1, 0, none⟩) 2 2, .int .i64 2, .string ⟨#[104]⟩, .slice (some ⟨w.heap.size + 2, 0, none⟩) 1 1, .int .i64 0] 59 w3
  rw [s3, ← h4] at b4
  have hb : Below w.heap.size w w4 := by
    rw [h4, h3, h2, h1]
    exact (((bel_al w _).alloc (by simp) _).alloc (by simp; omega) _).alloc (by simp; omega) _
  have key : Dl [w.heap.size, w.heap.size + 1, w.heap.size + 2, w.heap.size + 3] w4 (w.heap.size + 3) := by
    intro i hi
    have hi' : i < 10 := hi
    match i, hi' with
    | 0, _ => exact ⟨_, _, b4.cell rfl, b4.cell rfl, b4.cell rfl, .inl rfl, fun _ => rfl⟩
    | 1, _ => exact ⟨_, _, b4.cell rfl, b4.cell rfl, b4.cell rfl, .inl rfl, fun _ => rfl⟩
    | 2, _ => exact ⟨_, _, b4.cell rfl, b4.cell rfl, b4.cell rfl, .inl rfl, fun _ => rfl⟩
    | 3, _ => exact ⟨_, _, b4.cell rfl, b4.cell rfl, b4.cell rfl, .inl rfl, fun _ => rfl⟩
    | 4, _ => exact ⟨_, _, b4.cell rfl, b4.cell rfl, b4.cell rfl, .inl rfl, fun _ => rfl⟩
    | 5, _ => exact ⟨_, _, b4.cell rfl, b4.cell rfl, b4.cell rfl, .inl rfl, fun _ => rfl⟩
    | 6, _ => exact ⟨_, _, b4.cell rfl, b4.cell rfl, b4.cell rfl, .inl rfl, fun _ => rfl⟩
    | 7, _ =>
      refine ⟨_, _, b4.cell rfl, b4.cell rfl, b4.cell rfl, .inr ⟨_, _, rfl, by simp, fun j hj => ?_⟩, fun h => by cases h⟩
      have : j = 0 := by have : j < 1 := hj; omega
      subst this
      exact b1.cell rfl
    | 8, _ =>
      refine ⟨_, _, b4.cell rfl, b4.cell rfl, b4.cell rfl, .inr ⟨_, _, rfl, by simp, fun j hj => ?_⟩, fun h => by cases h⟩
      have : j = 0 ∨ j = 1 := by have : j < 2 := hj; omega
      rcases this with rfl | rfl
      · exact b2.cell rfl
      · exact b2.cell rfl
    | 9, _ =>
      refine ⟨_, _, b4.cell rfl, b4.cell rfl, b4.cell rfl, .inr ⟨_, _, rfl, by simp, fun j hj => ?_⟩, fun h => by cases h⟩
      have : j = 0 := by have : j < 1 := hj; omega
      subst this
      exact b3.cell rfl
  have hend := hide (And.intro key (And.intro (show w.heap.size + 3 < w4.heap.size by omega) hb))
  rw [h4, h3, h2, h1] at hend
  clear key hb b1 b2 b3 b4 s1 s2 s3 s4 h1 h2 h3 h4
  go_enter Tryz.func22, Tryz.ntmps22
  go_wp2
  go_ret
  exact ⟨rfl, hend.out⟩
theorem tables_t (w : World) : Calls Tryz.prog 27 #[] w fun e w' => ∃ q z, e = .returned (.tuple #[.pointer (some ⟨q, 0, none⟩), .pointer (some ⟨z, 0, none⟩)]) ∧ Tt [] w.heap.size w w' q 0 so0 (fuN 10) dcl [] := by
  obtain ⟨B, hB⟩ : ∃ B, B = w.heap.size := ⟨_, rfl⟩
  have c0 : Calls Tryz.prog 19 #[] w fun e w' => e = .returned (.pointer (some ⟨w.heap.size, 0, none⟩)) ∧ Jd [] w.heap.size w (w'.alloc (.cells #[.slice none 0 0, .slice none 0 0, .slice none 0 0] 49)) w.heap.size w'.heap.size 0 [] [] [] [] [] [w.heap.size] :=
    (new_any (X := []) w (by simp)).mono fun e w' ⟨he, h1, h2⟩ => ⟨he, Jd.start h1 (Nat.le_refl _) h2⟩
  rw [← hB] at c0 ⊢
  replace c0 := hide c0
  clear hB
  have c1 : ∀ (p r : Nat) (T : List Nat) (W : World), Jd [] B w W p r 0 [] [] [] [] [] T → Calls Tryz.prog 20 #[.pointer (some ⟨p, 0, none⟩), .string ⟨#[85]⟩] W fun e w' => (∃ v, e = .returned v) ∧ ∃ T', Jd [] B w w' p r 1 so0 [] [] [] [] T' := fun p r T W h =>
    (sort_yes p T 0 0 [] [] [] ⟨#[85]⟩ W h.tb (by decide) (by decide) (by decide)).mono fun e w' ⟨he, T', t1, t2, t3⟩ => ⟨⟨_, he⟩, T', (h.code t1 t2 t3).1⟩
  have c2 : ∀ (p r : Nat) (T : List Nat) (W : World), Jd [] B w W p r 1 so0 [] [] [] [] T → Calls Tryz.prog 21 #[.pointer (some ⟨r, 0, none⟩), .string ⟨#[85]⟩] W fun e w' => (∃ v, e = .returned v) ∧ Jd [] B w w' p r 1 so0 [] [] [nmU] [] T := fun p r T W h => by
    obtain ⟨AN, cN, AF, cF, vL, hr⟩ := h.rf
    exact (ref_sort (so := []) hr h.tb.lt (by decide) ⟨#[85]⟩ (by decide) (by decide)).mono fun e w' ⟨he, ⟨AN', cN', h1⟩, h2⟩ => ⟨⟨_, he⟩, (h.ref ⟨AN', cN', AF, cF, vL, h1⟩ h2).1⟩
  have c3 : ∀ (p r : Nat) (T : List Nat) (W : World), Jd [] B w W p r 1 so0 [] [] [nmU] [] T → Calls Tryz.prog 22 #[] W fun e w' => e = .returned (.slice (some ⟨W.heap.size + 3, 0, none⟩) 10 10) ∧ ∃ G, W.heap.size + 3 ∈ G ∧ Dl G w' (W.heap.size + 3) ∧ Jd G B w w' p r 1 so0 [] [] [nmU] [] T := fun p r T W h =>
    (declared_t W).mono fun e w' ⟨he, h1, h2, h3⟩ => ⟨he, _, by simp, h1, h.turn h3 (fun b hb => by simp at hb; omega)⟩
  have c4 : ∀ (p r g i : Nat) (G T : List Nat) (W : World) (hi : i < dcl.length), Jd G B w W p r (1 + i) so0 (fuN i) (dcl.take i) [nmU] (dcl.take i) T → Dl G W g → g ∈ G → ∃ A c, W.cell? ⟨g, i * 3, none⟩ = some (.string dcl[i].nm) ∧ W.cell? ⟨g, i * 3 + 1, none⟩ = some (.slice A dcl[i].ar.length c) ∧ W.cell? ⟨g, i * 3 + 2, none⟩ = some (.int .i64 dcl[i].rs) ∧
      Calls Tryz.prog 23 #[.pointer (some ⟨p, 0, none⟩), .agg #[.string dcl[i].nm, .slice A dcl[i].ar.length c, .int .i64 dcl[i].rs]] W fun e w' => (∃ v, e = .returned v) ∧ ∃ T', Jd G B w w' p r (1 + i + 1) so0 (fuN (i + 1)) (dcl.take (i + 1)) [nmU] (dcl.take i) T' ∧ Dl G w' g := fun p r g i G T W hi h hD hg => by
    obtain ⟨A, c, k0, k1, k2, k3, k4⟩ := hD i hi
    obtain ⟨q1, q2, q3, q4, q5⟩ := dcl_at hi
    have hX : ∀ b ∈ G, b < W.heap.size ∧ b ∉ T := fun b hb => h.tb.xs b (List.mem_cons_of_mem _ hb)
    refine ⟨A, c, k0, k1, k2, (fun_yes p T (1 + i) 0 so0 (fuN i) (dcl.take i) dcl[i].nm A dcl[i].ar c dcl[i].rs W h.tb (k3.ir hX) q1 q2 (Nat.le_trans (Nat.le_of_eq q4) (by decide)) (by rw [dcl_len] at hi; omega) (by unfold fuN; rw [List.length_map, List.length_take]; rw [dcl_len] at *; omega)).mono fun e w' ⟨he, T', t1, t2, t3⟩ => ?_⟩
    obtain ⟨J, S⟩ := h.code t1 t2 t3
    rw [fuN_next hi, take_next hi]
    exact ⟨⟨_, he⟩, T', J, hD.same hg S⟩
  have c5 : ∀ (p r g i : Nat) (G T : List Nat) (W : World) (hi : i < dcl.length), Jd G B w W p r (1 + i + 1) so0 (fuN (i + 1)) (dcl.take (i + 1)) [nmU] (dcl.take i) T → Dl G W g → g ∈ G → ∃ A c, W.cell? ⟨g, i * 3, none⟩ = some (.string dcl[i].nm) ∧ W.cell? ⟨g, i * 3 + 1, none⟩ = some (.slice A dcl[i].ar.length c) ∧ W.cell? ⟨g, i * 3 + 2, none⟩ = some (.int .i64 dcl[i].rs) ∧
      Calls Tryz.prog 24 #[.pointer (some ⟨r, 0, none⟩), .agg #[.string dcl[i].nm, .slice A dcl[i].ar.length c, .int .i64 dcl[i].rs]] W fun e w' => (∃ v, e = .returned v) ∧ Jd G B w w' p r (1 + (i + 1)) so0 (fuN (i + 1)) (dcl.take (i + 1)) [nmU] (dcl.take (i + 1)) T ∧ Dl G w' g := fun p r g i G T W hi h hD hg => by
    obtain ⟨A, c, k0, k1, k2, k3, k4⟩ := hD i hi
    obtain ⟨q1, q2, q3, q4, q5⟩ := dcl_at hi
    obtain ⟨AN, cN, AF, cF, vL, hr⟩ := h.rf
    have hX : ∀ b ∈ G, b < W.heap.size ∧ b ∉ ([] : List Nat) := fun b hb => ⟨(h.tb.xs b (List.mem_cons_of_mem _ hb)).1, by simp⟩
    refine ⟨A, c, k0, k1, k2, (ref_fun hr h.tb.lt (by decide) (by rw [List.length_take]; rw [dcl_len] at *; omega) dcl[i].nm A dcl[i].ar c dcl[i].rs (k3.ir hX) k4 (Nat.le_trans (Nat.le_of_eq q4) (by decide)) q3 q5 q2).mono fun e w' ⟨he, ⟨AF', cF', h1⟩, h2⟩ => ?_⟩
    obtain ⟨J, S⟩ := h.ref ⟨AN, cN, AF', cF', vL, h1⟩ h2
    have J' : Jd G B w w' p r (1 + i + 1) so0 (fuN (i + 1)) (dcl.take (i + 1)) [nmU] (dcl.take i ++ [dcl[i]]) T := J
    rw [← take_next hi] at J'
    exact ⟨⟨_, he⟩, by rw [← Nat.add_assoc]; exact J', hD.same hg S⟩
  have c6 : ∀ (p r : Nat) (G T : List Nat) (W : World), Jd G B w W p r 11 so0 (fuN 10) (dcl.take 10) [nmU] (dcl.take 10) T → Calls Tryz.prog 54 #[.pointer (some ⟨p, 0, none⟩)] W fun e w' => ∃ q, e = .returned (.pointer (some ⟨q, 0, none⟩)) ∧ ∀ o, Tt [] B w (w'.alloc o) q 0 so0 (fuN 10) dcl [] := fun p r G T W h =>
    (tt_new (h.tw (by decide))).mono fun e w' ⟨he, h1, h2⟩ => ⟨_, he, fun o => (h1.less (Y := []) (by simp)).al o⟩
  replace c1 := hide c1; replace c2 := hide c2; replace c3 := hide c3; replace c4 := hide c4; replace c5 := hide c5; replace c6 := hide c6
  go_enter Tryz.func27, Tryz.ntmps27
  go_wp2_with (first
    | (go_at_call 19; (with_reducible refine c0.out.mono ?_); rintro e w1 ⟨rfl, J1⟩; replace J1 := hide J1)
    | (go_at_call 20; (with_reducible refine (c1.out _ _ _ _ J1.out).mono ?_); rintro e w2 ⟨⟨v2, rfl⟩, T2, J2⟩; replace J2 := hide J2)
    | (go_at_call 21; (with_reducible refine (c2.out _ _ _ _ J2.out).mono ?_); rintro e w3 ⟨⟨v3, rfl⟩, J3⟩; replace J3 := hide J3)
    | (go_at_call 22; (with_reducible refine (c3.out _ _ _ _ J3.out).mono ?_); rintro e w4 ⟨rfl, G, hG, D4, J4⟩; replace J4 := hide J4; replace D4 := hide D4; replace hG := hide hG))
  generalize w3.heap.size + 3 = g at *
  generalize w1.heap.size = r at *
  go_loopw [5] (fun ii wr => ∃ (i : Nat) (T : List Nat), i ≤ 10 ∧ ii = .int .i64 (i : Int) ∧ Jd G B w wr B r (1 + i) so0 (fuN i) (dcl.take i) [nmU] (dcl.take i) T ∧ Dl G wr g) (fun ii _ => 10 - (intOf ii).toNat)
  case atStart => exact ⟨0, _, Nat.zero_le _, rfl, J4.out, D4.out⟩
  case round =>
    obtain ⟨i, T, hi, rfl, J, D⟩ := hrel
    by_cases hlt : i < 10
    · obtain ⟨A, c, k0, k1, k2, hf1⟩ := c4.out _ _ _ _ _ _ _ hlt J D hG.out
      replace J := hide J
      replace D := hide D
      replace hf1 := hide hf1
      have hid : i < dcl.length := hlt
      generalize hdn : dcl[i].nm = nm at *
      generalize hda : dcl[i].ar.length = an at *
      generalize hdr : dcl[i].rs = rs at *
      replace hdn := hide hdn; replace hda := hide hda; replace hdr := hide hdr
      go_wp2_with (first
        | (go_at_call 23; (with_reducible refine (hf1.out).mono ?_); rintro e w5 ⟨⟨v5, rfl⟩, T5, J5, D5⟩; obtain ⟨A6, c6', y0, y1, y2, hf2⟩ := c5.out _ _ _ _ _ _ _ hid J5 D5 hG.out; rw [hdn.out] at y0 hf2; rw [hda.out] at y1 hf2; rw [hdr.out] at y2 hf2; replace hf2 := hide hf2; replace J5 := hide J5; replace D5 := hide D5)
        | (go_at_call 24; (with_reducible refine (hf2.out).mono ?_); rintro e w6 ⟨⟨v6, rfl⟩, J6, D6⟩; replace J6 := hide J6; replace D6 := hide D6))
      go_roundw
      case rel => exact ⟨i + 1, T5, hlt, rfl, J6.out, D6.out⟩
      case measure => simp only [intOf]; omega
    · have hi10 : i = 10 := by omega
      subst hi10
      replace J := hide J
      replace D := hide D
      go_wp2_with (go_at_call 54; (with_reducible refine (c6.out _ _ _ _ _ J.out).mono ?_); rintro e w7 ⟨q, rfl, hT⟩; replace hT := hide hT)
      go_ret2
      exact ⟨q, _, rfl, hT.out _⟩
section
variable {X : List Nat} {B0 : Nat} {w0 w : World} {q N : Nat} {so fu : List (ByteArray × Nat)} {ty : List Fn} {ns : List Nd}
theorem mk_con (h : Tt X B0 w0 w q N so fu ty ns) (hN : N ≤ 100000) (s : ByteArray) (hs : s.size ≤ 200) (i : Nat) (hi : i < ty.length) (hx : ty[i].nm = s) (h0 : ty[i].ar = []) (hr : 0 ≤ ty[i].rs ∧ ty[i].rs ≤ 100000000) (hlen : ns.length < 16384) (hnew : ∀ m ∈ ns, kvl m ≠ kvl ⟨12, s, false, [], [], [], ty[i].rs, 0⟩) :
    Calls Tryz.prog 28 (mkArgs q 12 s false none 0 0 none 0 0 none 0 0) w fun ee w' => ee = .returned (.tuple #[.int .i64 (ns.length : Int), .int .i64 0]) ∧ Tt X B0 w0 w' q (N + 1) so fu ty (ns ++ [⟨12, s, false, [], [], [], ty[i].rs, 0⟩]) ∧ Same X w w' := by
  obtain ⟨A, c, hv⟩ := tt_vw (h.al (.cells #[.bool false, .slice none 0 0, .slice none 0 0] 28)) (by omega)
  have hw := wf_app _ q c A ns.length hv.sl s none none 0 0 none [] 0 [] (.inl rfl) (by decide)
  refine (mk_put (R := fun W w' => Tt X B0 w0 w' q (N + 1) so fu ty (ns ++ [⟨12, s, false, [], [], [], ty[i].rs, 0⟩]) ∧ Same X W w') hw ty[i].rs (fun W hb => ?_) (ns.length : Int) 0 (fun W hb => ?_)).mono fun ee w' ⟨he, W, hb, k1, k2⟩ => ⟨he, k1, (Same.of_below hb (fun b hb => h.lt hb)).trans k2⟩
  · refine (sorted_app_t ?_)
    exact app_t (h.next hb) s (by unfold maxLen; omega) i hi (by rw [hx]) h0 none 0
  · exact tt_put (h.next hb) 12 s false [] [] [] _ none none none 0 0 0 .nil .nil .nil (by simp) (by simp) ⟨(show (1 : Int) ≤ 12 ∧ (12 : Int) ≤ 20 from by decide), hs, by simp, by simp, by simp, hr, (show 0 ≤ wOf ns 12 [] [] ∧ wOf ns 12 [] [] ≤ 2 from by rw [show wOf ns 12 [] [] = 0 from rfl]; decide)⟩ (by simp) hnew hN hlen (by decide)
theorem mk_num (h : Tt X B0 w0 w q N so fu ty ns) (hN : N ≤ 100000) (hns : ns ≠ []) (p : Pt) (hp : p.Ok) (aP : p.At w) (hlen : ns.length < 16384) (hnew : ∀ m ∈ ns, kvl m ≠ kvl ⟨11, ⟨#[]⟩, p.s, p.xs, p.ys, [], 1, 0⟩) :
    Calls Tryz.prog 28 (mkArgs q 11 ⟨#[]⟩ p.s p.A p.xs.length p.a p.B p.ys.length p.b none 0 0) w fun ee w' => ee = .returned (.tuple #[.int .i64 (ns.length : Int), .int .i64 0]) ∧ Tt X B0 w0 w' q (N + 1) so fu ty (ns ++ [⟨11, ⟨#[]⟩, p.s, p.xs, p.ys, [], 1, wOf ns 11 p.xs []⟩]) ∧ Same X w w' := by
  have hv := hp.valid
  unfold Pt.ok at hv
  have fw := hp.few
  have fx : p.xs.length ≤ 64 := by rw [hp.x]; exact hp.f.1
  have fy : p.ys.length ≤ 64 := by rw [hp.y]; exact hp.f.2
  have lx : ∀ x ∈ p.xs, x < 18446744073709551616 := fun x hx => by have := fw.lx x hx; rwa [LB_eq] at this
  have ly : ∀ x ∈ p.ys, x < 18446744073709551616 := fun x hx => by have := fw.ly x hx; rwa [LB_eq] at this
  obtain ⟨A0, cc, hvw⟩ := tt_vw (h.al (.cells #[.bool p.s, .slice p.A p.xs.length p.a, .slice p.B p.ys.length p.b] 28)) (by omega)
  have hw := wf_num _ q cc A0 ns.length hvw.sl p.s p.xs p.ys p.A p.B p.a p.b (aP.1.alloc _) (aP.2.alloc _) fw.lx fw.ly fx fy hv none [] 0 [] (.inl rfl) (by decide)
  refine (mk_put (R := fun W' w' => Tt X B0 w0 w' q (N + 1) so fu ty (ns ++ [⟨11, ⟨#[]⟩, p.s, p.xs, p.ys, [], 1, wOf ns 11 p.xs []⟩]) ∧ Same X W' w') hw 1 (fun W' hb' => ?_) (ns.length : Int) 0 (fun W' hb' => ?_)).mono fun ee w' ⟨he, W', hb', k1, k2⟩ => ⟨he, k1, (Same.of_below hb' (fun b hb => h.lt hb)).trans k2⟩
  · exact op_so h hN 11 (by decide) (by decide) (by decide) ⟨#[]⟩ none [] 0 (.inl rfl) (by decide) (by decide) (by decide) (by simp) W' hb'
  · have hwf : 0 ≤ wOf ns 11 p.xs [] ∧ wOf ns 11 p.xs [] ≤ 2 := by
      unfold wOf
      rw [if_pos rfl]
      split <;> decide
    exact tt_putS (h.next hb') hns 11 ⟨#[]⟩ p.s p.xs p.ys [] 1 p.A p.B none p.a p.b 0 (Rw.of_sl (kp' hb' aP.1) (by simp)) (Rw.of_sl (kp' hb' aP.2) (by simp)) .nil lx ly ⟨(show (1 : Int) ≤ 11 ∧ (11 : Int) ≤ 20 from by decide), (show (⟨#[]⟩ : ByteArray).size ≤ 200 from by decide), fx, fy, by simp, (show (0 : Int) ≤ 1 ∧ (1 : Int) ≤ 100000000 from by decide), hwf⟩ (by simp) hnew hN hlen (by decide)
theorem app1_t (h : Tt X B0 w0 w q N so fu ty ns) (hN : N ≤ 100000) (s : ByteArray) (hs : s.size ≤ maxLen) (i : Nat) (hi : i < ty.length) (hx : ty[i].nm.data.toList = s.data.toList) (r : Int) (h0 : ty[i].ar = [r]) (C : Option Addr) (a : Int) (e : Nat) (hC : Ir [] w C [a]) (ha : 0 ≤ a ∧ a < (ns.length : Int)) (hr : soAt ns a = r) :
    Calls Tryz.prog 79 #[.pointer (some ⟨q, 0, none⟩), .string s, .slice C 1 e] w fun ee w' => ee = .returned (.tuple #[.int .i64 ty[i].rs, .bool true]) ∧ Below w.heap.size w w' := by
  obtain ⟨A9, c9, hv⟩ := tt_vw h (by omega)
  obtain ⟨p, T, v, m1, m2, h1, h2, h3⟩ := h
  have hf := tw_find h2 s hs (by decide) i hi hx
  rw [h0] at hf
  have a0 : w.cell? ⟨q, 0, none⟩ = some (.pointer (some ⟨p, 0, none⟩)) := h1.bk.cell rfl
  generalize ty[i].nm = nmi at *
  generalize ty[i].rs = rs at *
  obtain ⟨g, j, rfl, rfl, hj, hso, _⟩ := hv.get ha.1 ha.2
  rw [hr] at hso
  have a1 := hv.sl
  rcases hC with hC | ⟨bc, oc, rfl, _, _, hC⟩
  · cases hC
  have k0 : w.cell? ⟨bc, oc + 0, none⟩ = some (.int .i64 (j : Int)) := hC 0 (by simp)
  rw [Nat.add_zero] at k0
  have hle := hv.le
  have hst : ∀ (w1 : World) (A1 : Option Addr) (c1 : Nat), (∀ S : List Nat, (∀ b ∈ S, b < w.heap.size) → Ir S w1 A1 [r]) → Below w.heap.size w w1 → ∃ b o, A1 = some ⟨b, o, none⟩ ∧ Below w.heap.size w (w1.alloc (.cells #[.string nmi, .slice A1 1 c1, .int .i64 rs] 59)) ∧
      (w1.alloc (.cells #[.string nmi, .slice A1 1 c1, .int .i64 rs] 59)).cell? ⟨b, o, none⟩ = some (.int .i64 r) ∧ (w1.alloc (.cells #[.string nmi, .slice A1 1 c1, .int .i64 rs] 59)).cell? ⟨q, 1, none⟩ = some (.slice (some ⟨g, 0, none⟩) ns.length c9) ∧
      (w1.alloc (.cells #[.string nmi, .slice A1 1 c1, .int .i64 rs] 59)).cell? ⟨g, j * 8 + 6, none⟩ = some (.int .i64 r) ∧ (w1.alloc (.cells #[.string nmi, .slice A1 1 c1, .int .i64 rs] 59)).cell? ⟨bc, oc, none⟩ = some (.int .i64 (j : Int)) ∧
      (w1.alloc (.cells #[.string nmi, .slice A1 1 c1, .int .i64 rs] 59)).cell? ⟨w1.heap.size, 1, none⟩ = some (.slice A1 1 c1) ∧ (w1.alloc (.cells #[.string nmi, .slice A1 1 c1, .int .i64 rs] 59)).cell? ⟨w1.heap.size, 2, none⟩ = some (.int .i64 rs) := fun w1 A1 c1 hI hb => by
    rcases hI [] (by simp) with h | ⟨b, o, rfl, _, _, hc⟩
    · cases h
    have hb2 : Below w.heap.size w (w1.alloc (.cells #[.string nmi, .slice (some ⟨b, o, none⟩) 1 c1, .int .i64 rs] 59)) := hb.trans ((bel_al w1 _).mono hb.size)
    have k := hc 0 (by simp)
    rw [Nat.add_zero] at k
    exact ⟨b, o, rfl, hb2, cell_next (bel_al w1 _) k, cell_next hb2 a1, cell_next hb2 hso, cell_next hb2 k0, (Bk.new _ _ w1).cell rfl, (Bk.new _ _ w1).cell rfl⟩
  clear h1 h2 h3 h0 hx hs hC hv hr hi ha
  generalize ns.length = n at *
  replace hf := hide hf
  replace hst := hide hst
  clear a1 hso k0
  have hjn : (j : Int) < (n : Int) := by omega
  go_enter Tryz.func79, Tryz.ntmps79
  go_wp2_with (go_at_call 102; (with_reducible refine hf.out.mono ?_); rintro ee w1 ⟨A1, c1, rfl, hI, hb1⟩; obtain ⟨b1, o1, rfl, hb, y0, y1, y2, y3, y4, y5⟩ := hst.out w1 A1 c1 hI hb1; replace hb := hide hb; clear hI hb1)
  generalize w1.alloc (.cells #[.string nmi, .slice (some ⟨b1, o1, none⟩) 1 c1, .int .i64 rs] 59) = W2 at *
  go_loopw [33] (fun i wr => (i = .int .i64 0 ∨ i = .int .i64 1) ∧ ∃ nd, wr = W2.drewN nd) (fun i _ => 2 - (intOf i).toNat)
  case atStart => exact ⟨.inl rfl, 0, rfl⟩
  case round =>
    obtain ⟨rfl | rfl, nd, rfl⟩ := hrel
    · go_wp2
      go_quiet (fail)
      go_wp2
      go_roundw
      case rel => exact ⟨.inr rfl, _, by first | rfl | (rw [World.drewN_drewN])⟩
      case measure => simp [intOf]
    · go_wp2
      go_ret2
      exact ⟨rfl, hb.out.trans ((bel_dn W2 nd).mono hb.out.size)⟩
theorem mk_app1 (h : Tt X B0 w0 w q N so fu ty ns) (hN : N ≤ 100000) (s : ByteArray) (hs : s.size ≤ 200) (i : Nat) (hi : i < ty.length) (hx : ty[i].nm = s) (r : Int) (h0 : ty[i].ar = [r]) (hr : 0 ≤ ty[i].rs ∧ ty[i].rs ≤ 100000000) (C : Option Addr) (a : Int) (e : Nat) (hC : Rx X B0 w C (zs [a])) (ha : 0 ≤ a ∧ a < (ns.length : Int)) (hso : soAt ns a = r) (hlen : ns.length < 16384) (hnew : ∀ m ∈ ns, kvl m ≠ kvl ⟨12, s, false, [], [], [a], ty[i].rs, 0⟩) :
    Calls Tryz.prog 28 (mkArgs q 12 s false none 0 0 none 0 0 C 1 e) w fun ee w' => ee = .returned (.tuple #[.int .i64 (ns.length : Int), .int .i64 0]) ∧ Tt X B0 w0 w' q (N + 1) so fu ty (ns ++ [⟨12, s, false, [], [], [a], ty[i].rs, 0⟩]) ∧ Same X w w' := by
  obtain ⟨A, c, hv⟩ := tt_vw (h.al (.cells #[.bool false, .slice none 0 0, .slice none 0 0] 28)) (by omega)
  have hin : ∀ x ∈ ([a] : List Int), 0 ≤ x ∧ x < (ns.length : Int) := by intro x hx; simp at hx; subst hx; exact ha
  have hw := wf_app _ q c A ns.length hv.sl s none none 0 0 C [a] e [] (hC.ir.al _) (by simp)
  rw [hall_true hin] at hw
  refine (mk_put (R := fun W w' => Tt X B0 w0 w' q (N + 1) so fu ty (ns ++ [⟨12, s, false, [], [], [a], ty[i].rs, 0⟩]) ∧ Same X W w') hw ty[i].rs (fun W hb => ?_) (ns.length : Int) 0 (fun W hb => ?_)).mono fun ee w' ⟨he, W, hb, k1, k2⟩ => ⟨he, k1, (Same.of_below hb (fun b hb => h.lt hb)).trans k2⟩
  · refine (sorted_app_t ?_)
    exact app1_t (h.next hb) hN s (by unfold maxLen; omega) i hi (by rw [hx]) r h0 C a e (hC.ir.off (T' := []) (Off.of_below hb []) (by simp) (by simp)) ha hso
  · exact tt_put (h.next hb) 12 s false [] [] [a] _ none none C 0 0 e .nil .nil (hC.next hb) (by simp) (by simp) ⟨(show (1 : Int) ≤ 12 ∧ (12 : Int) ≤ 20 from by decide), hs, by simp, by simp, by simp, hr, (show 0 ≤ wOf ns 12 [] [a] ∧ wOf ns 12 [] [a] ≤ 2 from by rw [show wOf ns 12 [] [a] = 0 from rfl]; decide)⟩ hin hnew hN hlen (fun h => absurd h (by decide))
end
end
section
open Go.ChangeShapes Go.RowKit
theorem fitL {q : Rat} (h1 : qn q < LB) (h2 : qd q < LB) : fitq q := ⟨Nat.le_trans (ln_le (k := 1) (by rw [Nat.pow_one]; exact h1)) (by decide), Nat.le_trans (ln_le (k := 1) (by rw [Nat.pow_one]; exact h2)) (by decide)⟩
def cq (q : Rat) : CV := (1, false, (qs q, digs (qn q), digs (qd q)), 0)
def tv (b : Bool) : CV := (0, b, (false, [], []), 0)
theorem cq_of {r : Pt} {q : Rat} (h : r.Ok) (hq : r.q = q) : (nmV r).cn = cq q := by
  unfold Vl.cn nmV Pt.con cq
  dsimp only
  rw [h.s, h.x, h.y, hq]
theorem digs_inj' {a b : Nat} (h : digs a = digs b) : a = b := by rw [← val_digs a, ← val_digs b, h]
theorem of_cq {v : Vl} {q : Rat} (h : v.cn = cq q) (f : fitq q) : v.p.Ok ∧ v.p.q = q ∧ v.so = 1 ∧ v.bo = false ∧ v.el = 0 := by
  unfold Vl.cn cq Pt.con at h
  injection h with h1 h
  injection h with h2 h
  injection h with h3 h4
  injection h3 with h5 h3
  injection h3 with h6 h7
  have hq : v.p.q = q := by
    unfold Pt.q
    rw [h5, h6, h7, val_digs, val_digs, qmk_self]
  exact ⟨⟨by rw [hq]; exact h5, by rw [hq]; exact h6, by rw [hq]; exact h7, by rw [hq]; exact f⟩, hq, h1, h2, h4⟩
theorem cq_inj {q r : Rat} (h : cq q = cq r) : q = r := by
  unfold cq at h
  injection h with h1 h
  injection h with h2 h
  injection h with h3 h4
  injection h3 with h5 h3
  injection h3 with h6 h7
  rw [← qmk_self q, ← qmk_self r, h5, digs_inj' h6, digs_inj' h7]
theorem vsame_cq {a b : Vl} {q r : Rat} (ha : a.cn = cq q) (hb : b.cn = cq r) : vsame a b = decide (q = r) := by
  have h1 : a.so = 1 := congrArg (fun x => x.1) ha
  have h2 : b.so = 1 := congrArg (fun x => x.1) hb
  have h3 : a.p.con = (qs q, digs (qn q), digs (qd q)) := congrArg (fun x => x.2.2.1) ha
  have h4 : b.p.con = (qs r, digs (qn r), digs (qd r)) := congrArg (fun x => x.2.2.1) hb
  unfold vsame
  rw [h1, h2, h3, h4]
  simp only [decide_true, Bool.true_and]
  rw [if_neg (by decide), if_pos trivial]
  refine decide_eq_decide.2 ⟨fun h => ?_, fun h => by rw [h]⟩
  refine cq_inj ?_
  unfold cq
  rw [h]
theorem one_of {vs : List Vl} {x : CV} (h : vs.map Vl.cn = [x]) : ∃ a, vs = [a] ∧ a.cn = x := by
  match vs, h with
  | [a], h => exact ⟨a, rfl, by simpa using h⟩
theorem two_of {vs : List Vl} {x y : CV} (h : vs.map Vl.cn = [x, y]) : ∃ a b, vs = [a, b] ∧ a.cn = x ∧ b.cn = y := by
  match vs, h with
  | [a, b], h => exact ⟨a, b, rfl, by simpa using h⟩
theorem three_of {vs : List Vl} {x y z : CV} (h : vs.map Vl.cn = [x, y, z]) : ∃ a b c, vs = [a, b, c] ∧ a.cn = x ∧ b.cn = y ∧ c.cn = z := by
  match vs, h with
  | [a, b, c], h => exact ⟨a, b, c, rfl, by simpa using h⟩
theorem cons_of {vs : List Vl} {q : Rat} {l : List Rat} (h : vs.map (fun v => v.p.q) = q :: l) : ∃ a vs', vs = a :: vs' ∧ a.p.q = q ∧ vs'.map (fun v => v.p.q) = l := by
  match vs, h with
  | a :: vs', h => exact ⟨a, vs', rfl, by simpa using h⟩
section
variable {tbs : List Tr} {n : Nd}
theorem mt_con (h12 : n.op = 12) (hs : n.nm.size ≤ maxLen) (t : Tr) (ht : findT tbs n.nm.data.toList = some t) (hl : t.l = []) (c : CV) (hc : t.e.cn = c) : MadeTo tbs n [] c := by
  intro W g tm N An Bn Cn ka kb ke C kc vs hg hm hT hA hB hcs hC hf hk1 hk2
  obtain rfl : vs = [] := by simpa using hcs
  obtain ⟨aT, fT⟩ := hT t (findT_mem ht).1
  have h := made_app (so := n.so) (ng := n.ng) (An := An) (Bn := Bn) (Cn := Cn) (n1 := n.nu.length) (n2 := n.de.length) (n3 := n.ar.length) (ka := ka) (kb := kb) (ke := ke) hg hm hs t ht aT fT C kc [] hC hf (by simp)
  rw [hl, show applyL [] [] t.e = t.e from rfl, hc] at h
  unfold nv
  rw [h12]
  exact h
theorem mt_app1 (h12 : n.op = 12) (hs : n.nm.size ≤ maxLen) (t : Tr) (ht : findT tbs n.nm.data.toList = some t) (x c : CV) (hc : ∀ v : Vl, v.cn = x → (applyL t.l [v] t.e).cn = c) : MadeTo tbs n [x] c := by
  intro W g tm N An Bn Cn ka kb ke C kc vs hg hm hT hA hB hcs hC hf hk1 hk2
  obtain ⟨v, rfl, hv⟩ := one_of hcs
  obtain ⟨aT, fT⟩ := hT t (findT_mem ht).1
  have h := made_app (so := n.so) (ng := n.ng) (An := An) (Bn := Bn) (Cn := Cn) (n1 := n.nu.length) (n2 := n.de.length) (n3 := n.ar.length) (ka := ka) (kb := kb) (ke := ke) hg hm hs t ht aT fT C kc [v] hC hf (by simp)
  rw [hc v hv] at h
  unfold nv
  rw [h12]
  exact h
theorem mt_num (h11 : n.op = 11) (q : Rat) (f : fitq q) (hs : n.ng = qs q) (hx : n.nu = digs (qn q)) (hy : n.de = digs (qd q)) : MadeTo tbs n [] (cq q) := by
  intro W g tm N An Bn Cn ka kb ke C kc vs hg hm hT hA hB hcs hC hf hk1 hk2
  have h := made_num (so := n.so) (nm := n.nm) (ng := n.ng) (Cn := Cn) (n3 := n.ar.length) (ka := ka) (kb := kb) (ke := ke) hA hB (by rw [hx]; exact limbs_digs _) (by rw [hy]; exact limbs_digs _) (by rw [hx]; exact f.1) (by rw [hy]; exact f.2) g C vs.length kc rfl rfl
  unfold nv
  rw [h11]
  rw [show (1, false, (n.ng, n.nu, n.de), 0) = cq q by unfold cq; rw [hs, hx, hy]] at h
  exact h
theorem map_cq {vs : List Vl} {qs' : List Rat} (h : vs.map Vl.cn = qs'.map cq) (f : ∀ q ∈ qs', fitq q) : vs.map (fun v => v.p.q) = qs' ∧ ∀ v ∈ vs, v.p.Ok := by
  induction vs generalizing qs' with
  | nil =>
    have : qs' = [] := by simpa using h.symm
    subst this
    exact ⟨rfl, by simp⟩
  | cons v vs ih =>
    cases qs' with
    | nil => simp at h
    | cons q qs' =>
      simp only [List.map_cons, List.cons.injEq] at h
      obtain ⟨h1, h2⟩ := ih h.2 (fun q hq => f q (by simp [hq]))
      obtain ⟨k1, k2, _⟩ := of_cq h.1 (f q (by simp))
      refine ⟨by simp [h1, k2], fun u hu => ?_⟩
      rcases List.mem_cons.1 hu with rfl | hu
      · exact k1
      · exact h2 u hu
def gQ (op : Int) (q : Rat) (l : List Rat) : Rat := l.foldl (opQ op) q
theorem gQ_eq (op : Int) (q : Rat) (l : List Vl) : fQ op q l = gQ op q (l.map fun v => v.p.q) := by
  unfold fQ gQ
  rw [List.foldl_map]
theorem mt_reck (hop : n.op = 13 ∨ n.op = 14 ∨ n.op = 15 ∨ n.op = 16) (q : Rat) (l : List Rat) (n1 : 1 ≤ l.length) (nl : l.length ≤ 1000) (f : fitq q ∧ ∀ r ∈ l, fitq r) (hf : ∀ i ≤ l.length, fitq (gQ n.op q (l.take i))) (h0 : n.op = 16 → ∀ r ∈ l, r ≠ 0) : MadeTo tbs n ((q :: l).map cq) (cq (gQ n.op q l)) := by
  intro W g tm N An Bn Cn ka kb ke C kc vs hg hm hT hA hB hcs hC hfew hk1 hk2
  obtain ⟨k1, k2⟩ := map_cq hcs (by intro r hr; rcases List.mem_cons.1 hr with rfl | hr; exact f.1; exact f.2 r hr)
  obtain ⟨a, vs', rfl, k3⟩ := cons_of k1
  replace k1 := k3
  have hlen : vs'.length = l.length := by rw [← k1.2]; simp
  have hf' : ∀ i ≤ vs'.length, fitq (fQ n.op a.p.q (vs'.take i)) := fun i hi => by
    rw [gQ_eq, List.map_take, k1.1, k1.2]
    exact hf i (by omega)
  have hres : fQ n.op a.p.q vs' = gQ n.op q l := by rw [gQ_eq, k1.1, k1.2]
  have h := made_reck (so := n.so) (nm := n.nm) (ng := n.ng) (An := An) (Bn := Bn) (Cn := Cn) (n1 := n.nu.length) (n2 := n.de.length) (n3 := n.ar.length) (ka := ka) (kb := kb) (ke := ke) hop g C (vs'.length + 1) kc (gQ n.op q l) (fun W1 hb => by
    have hC1 := hC.next hb
    rw [← hres]
    rcases hop with e | e | e | e
    · rw [e] at hf' ⊢; exact reckoned13_v C kc a vs' W1 hC1 k2 (by omega) (by omega) hk1 hk2 hf'
    · rw [e] at hf' ⊢; exact reckoned14_v C kc a vs' W1 hC1 k2 (by omega) (by omega) hk1 hk2 hf'
    · rw [e] at hf' ⊢; exact reckoned15_v C kc a vs' W1 hC1 k2 (by omega) (by omega) hk1 hk2 hf'
    · have h0' := h0 e
      rw [e] at hf' ⊢
      exact reckoned16_v C kc a vs' W1 hC1 k2 (by omega) (by omega) hk1 hk2 hf' (fun v hv => h0' _ (by rw [← k1.2]; exact List.mem_map.2 ⟨v, hv, rfl⟩)))
  unfold nv
  exact h
theorem mt_sub1 (hop : n.op = 14) (q r : Rat) (f : fitq q) (hr : 0 - q = r) (fr : fitq r) : MadeTo tbs n [cq q] (cq r) := by
  intro W g tm N An Bn Cn ka kb ke C kc vs hg hm hT hA hB hcs hC hfew hk1 hk2
  obtain ⟨a, rfl, ha⟩ := one_of hcs
  obtain ⟨k1, k2, _⟩ := of_cq ha f
  have h := made_reck (so := n.so) (nm := n.nm) (ng := n.ng) (An := An) (Bn := Bn) (Cn := Cn) (n1 := n.nu.length) (n2 := n.de.length) (n3 := n.ar.length) (ka := ka) (kb := kb) (ke := ke) (op := 14) (.inr (.inl rfl)) g C 1 kc r (fun W1 hb => reckoned1_v C kc a W1 (hC.next hb) k1 r (by rw [k2]; exact hr) fr)
  unfold nv
  rw [hop]
  exact h
theorem mt_holds (hop : n.op < 10 ∨ 16 < n.op) (cs : List CV) (b : Bool) (hH : ∀ (vs : List Vl), vs.map Vl.cn = cs → ∀ (W : World) (C : Option Addr) (kc : Nat), Vs [] W C vs → (∀ v ∈ vs, v.Few) → vs.length ≤ kc → kc ≤ maxLen → Calls Tryz.prog 107 #[.int .i64 n.op, .slice C vs.length kc] W fun e w' => e = .returned (.bool b) ∧ Below W.heap.size W w') : MadeTo tbs n cs (tv b) := by
  intro W g tm N An Bn Cn ka kb ke C kc vs hg hm hT hA hB hcs hC hfew hk1 hk2
  unfold nv
  exact made_holds hop g C vs.length kc b (fun W1 hb => hH vs hcs W1 C kc (hC.next hb) hfew hk1 hk2)
def chainB (P : Int → Bool) : List Rat → Bool
  | a :: b :: l => P (cmpQ a b) && chainB P (b :: l)
  | _ => true
theorem chain_eq (P : Int → Bool) (l : List Vl) : eachB P l = chainB P (l.map fun v => v.p.q) := by
  induction l with
  | nil => rfl
  | cons a l ih => cases l with
    | nil => rfl
    | cons b l => 
      show (P (cmpQ a.p.q b.p.q) && eachB P (b :: l)) = (P (cmpQ a.p.q b.p.q) && chainB P ((b :: l).map fun v => v.p.q))
      rw [ih]
theorem mt_chain (P : Int → Bool) (hop : (n.op = 17 ∧ P = fun k => decide (k ≤ 0)) ∨ (n.op = 18 ∧ P = fun k => decide (k < 0)) ∨ (n.op = 19 ∧ P = fun k => decide (0 ≤ k)) ∨ (n.op = 20 ∧ P = fun k => decide (0 < k))) (q : Rat) (l : List Rat) (nl : l.length ≤ 1000) (f : ∀ r ∈ q :: l, fitq r) : MadeTo tbs n ((q :: l).map cq) (tv (chainB P (q :: l))) := by
  refine mt_holds (by omega) _ _ fun vs hcs W C kc hC hf hk1 hk2 => ?_
  obtain ⟨k1, k2⟩ := map_cq hcs f
  obtain ⟨a, vs', rfl, k3⟩ := cons_of k1
  have hlen : vs'.length = l.length := by have := congrArg List.length k1; simpa using this
  have hr : eachB P (a :: vs') = chainB P (q :: l) := by rw [chain_eq, k1]
  rcases hop with ⟨e, rfl⟩ | ⟨e, rfl⟩ | ⟨e, rfl⟩ | ⟨e, rfl⟩ <;> rw [e]
  · exact holds17_v C kc a vs' W hC k2 (by omega) hk1 hk2 _ hr
  · exact holds18_v C kc a vs' W hC k2 (by omega) hk1 hk2 _ hr
  · exact holds19_v C kc a vs' W hC k2 (by omega) hk1 hk2 _ hr
  · exact holds20_v C kc a vs' W hC k2 (by omega) hk1 hk2 _ hr
theorem mt_unq (hop : n.op = 9) (q r : Rat) : MadeTo tbs n [cq q, cq r] (tv (decide (q ≠ r))) := by
  refine mt_holds (by omega) _ _ fun vs hcs W C kc hC hf hk1 hk2 => ?_
  obtain ⟨a, b, rfl, ha, hb⟩ := two_of hcs
  rw [hop]
  have hvs' := vsame_cq hb ha
  exact holds9_v C kc [a, b] W hC hf (by simp) hk1 hk2 _ (by
    unfold noneSm noneK
    simp [List.range_succ, hvs']
    exact ⟨fun e => e.symm, fun e => e.symm⟩)
theorem mt_unq3 (hop : n.op = 9) (q r s : Rat) : MadeTo tbs n [cq q, cq r, cq s] (tv (decide (q ≠ r ∧ r ≠ s ∧ q ≠ s))) := by
  refine mt_holds (by omega) _ _ fun vs hcs W C kc hC hf hk1 hk2 => ?_
  obtain ⟨a, b, c, rfl, h1⟩ := three_of hcs
  rw [hop]
  have e1 := vsame_cq h1.2.1 h1.1
  have e2 := vsame_cq h1.2.2 h1.1
  have e3 := vsame_cq h1.2.2 h1.2.1
  exact holds9_v C kc [a, b, c] W hC hf (by simp) hk1 hk2 _ (by
    unfold noneSm noneK
    simp [List.range_succ, e1, e2, e3]
    rw [Bool.eq_iff_iff]
    simp
    constructor
    · rintro ⟨h1, h2, h3⟩
      exact ⟨fun e => h1 e.symm, fun e => h3 e.symm, fun e => h2 e.symm⟩
    · rintro ⟨h1, h2, h3⟩
      exact ⟨fun e => h1 e.symm, fun e => h3 e.symm, fun e => h2 e.symm⟩)
end
end
section
open Go.ChangeShapes Go.RowKit
theorem Bk.rl {α : Type} {R : Rt α} (hR : R.Ok) {g : Nat} {cur : Array Value} {t : TypeId} {W : World} {l : List α} (hB : Bk g cur t W) (hc : cur.toList = R.ecs l) {Z : List Nat} (hZ : g ∉ Z) : Rl R Z W (some ⟨g, 0, none⟩) l := by
  refine .inr ⟨g, 0, rfl, hZ, fun i hi j v hv => ?_⟩
  have hj : j < R.k := by rw [← hR.len l[i]]; exact (List.getElem?_eq_some_iff.1 hv).1
  rw [Nat.zero_add]
  refine hB.cell ?_
  rw [← Array.getElem?_toList, hc, hR.ecs_get l i j hi hj]
  exact hv
structure Nq (r : Pt) (q : Rat) (W : World) : Prop where
  q : r.q = q
  ok : r.Ok
  at_ : r.At W
theorem Nq.next {r : Pt} {q : Rat} {w w' : World} (h : Nq r q w) (hb : Below w.heap.size w w') : Nq r q w' := ⟨h.q, h.ok, ⟨kp' hb h.at_.1, kp' hb h.at_.2⟩⟩
theorem Nq.cn {r : Pt} {q : Rat} {w : World} (h : Nq r q w) : (nmV r).cn = cq q := cq_of h.ok h.q
theorem Nq.few {r : Pt} {q : Rat} {w : World} (h : Nq r q w) : (nmV r).Few := h.ok.few' _ rfl
theorem lnum_e (n d : Int) (q : Rat) (w : World) (n1 : -9223372036854775808 ≤ n) (n2 : n ≤ 9223372036854775807) (d1 : -9223372036854775808 ≤ d) (d2 : d ≤ 9223372036854775807) (d0 : d ≠ 0) (hq : qmk (isg n != isg d) n.natAbs d.natAbs = q) (f : fitq q) :
    Calls Tryz.prog 29 #[.int .i64 n, .int .i64 d] w fun e w' => ∃ r : Pt, e = .returned (.agg #[.int .i64 1, .bool false, .bool r.s, .slice r.A r.xs.length r.a, .slice r.B r.ys.length r.b, .int .i64 0]) ∧ Nq r q w' ∧ Below w.heap.size w w' :=
  (lnum_v n d q w n1 n2 d1 d2 d0 hq f).mono fun e w' ⟨r, he, h1, h2, h3, hb⟩ => ⟨r, he, ⟨h1, h2, h3⟩, hb⟩
theorem rof_e (n d : Int) (q : Rat) (w : World) (n1 : -9223372036854775808 ≤ n) (n2 : n ≤ 9223372036854775807) (d1 : -9223372036854775808 ≤ d) (d2 : d ≤ 9223372036854775807) (d0 : d ≠ 0) (hq : qmk (isg n != isg d) n.natAbs d.natAbs = q) (f : fitq q) :
    Calls Tryz.prog 32 #[.int .i64 n, .int .i64 d] w fun e w' => ∃ r : Pt, e = .returned (.agg #[.bool r.s, .slice r.A r.xs.length r.a, .slice r.B r.ys.length r.b]) ∧ Nq r q w' ∧ Below w.heap.size w w' :=
  (rof_q n d q w n1 n2 d1 d2 d0 hq).mono fun e w' h => by
    obtain ⟨r, he, h1, h2, h3, hb⟩ := RQ.newR' h f
    exact ⟨r, he, ⟨h1, h2, h3⟩, hb⟩
theorem mk_numq {X : List Nat} {B0 : Nat} {w0 w : World} {g N : Nat} {so fu : List (ByteArray × Nat)} {ty : List Fn} {ns : List Nd} (h : Tt X B0 w0 w g N so fu ty ns) (hN : N ≤ 100000) (hns : ns ≠ []) {r : Pt} {q : Rat} (hr : Nq r q w) (s : Bool) (xs ys : List Nat) (hs : qs q = s) (hx : digs (qn q) = xs) (hy : digs (qd q) = ys) (hlen : ns.length < 16384) (hnew : ∀ m ∈ ns, kvl m ≠ kvl ⟨11, ⟨#[]⟩, s, xs, ys, [], 1, 0⟩) :
    Calls Tryz.prog 28 #[.pointer (some ⟨g, 0, none⟩), .int .i64 11, .string ⟨#[]⟩, .agg #[.bool r.s, .slice r.A r.xs.length r.a, .slice r.B r.ys.length r.b], .slice none 0 0] w fun ee w' => ee = .returned (.tuple #[.int .i64 (ns.length : Int), .int .i64 0]) ∧ Tt X B0 w0 w' g (N + 1) so fu ty (ns ++ [⟨11, ⟨#[]⟩, s, xs, ys, [], 1, wOf ns 11 xs []⟩]) ∧ Same X w w' := by
  obtain rfl : r.s = s := by rw [hr.ok.s, hr.q, hs]
  obtain rfl : r.xs = xs := by rw [hr.ok.x, hr.q, hx]
  obtain rfl : r.ys = ys := by rw [hr.ok.y, hr.q, hy]
  exact mk_num h hN hns r hr.ok hr.at_ hlen hnew
theorem vs_one {W : World} {g : Nat} {v : Vl} {t : TypeId} (hB : Bk g #[.int .i64 v.so, .bool v.bo, .bool v.p.s, .slice v.p.A v.p.xs.length v.p.a, .slice v.p.B v.p.ys.length v.p.b, .int .i64 v.el] t W) (a : v.At W) {Z : List Nat} (hZ : g ∉ Z) : Vs Z W (some ⟨g, 0, none⟩) [v] :=
  ⟨hB.rl rV_ok rfl hZ, fun u hu => by rw [List.mem_singleton] at hu; subst hu; exact a⟩
def nX : Nd := ⟨12, ⟨#[120]⟩, false, [], [], [], 1, 0⟩
def nO : Nd := ⟨11, ⟨#[]⟩, false, [1], [1], [], 1, 2⟩
def nA : Nd := ⟨13, ⟨#[]⟩, false, [], [], [0, 1], 1, 0⟩
def nF : Nd := ⟨12, ⟨#[102]⟩, false, [], [], [2], 1, 0⟩
def tbX (r : Pt) : Tr := ⟨⟨#[120]⟩, none, [], 0, nmV r⟩
def tbF (g3 g7 : Nat) (r3 r7 r0 : Pt) : Tr := ⟨⟨#[102]⟩, some ⟨g7, 0, none⟩, [⟨some ⟨g3, 0, none⟩, [nmV r3], 1, nmV r7⟩], 1, nmV r0⟩
structure Ml (r2 r3 r7 r0 : Pt) (g3 g7 gt : Nat) (W : World) : Prop where
  n2 : Nq r2 2 W
  n3 : Nq r3 3 W
  n7 : Nq r7 7 W
  n0 : Nq r0 0 W
  b3 : Bk g3 #[.int .i64 1, .bool false, .bool r3.s, .slice r3.A r3.xs.length r3.a, .slice r3.B r3.ys.length r3.b, .int .i64 0] 30 W
  b7 : Bk g7 #[.slice (some ⟨g3, 0, none⟩) 1 1, .int .i64 1, .bool false, .bool r7.s, .slice r7.A r7.xs.length r7.a, .slice r7.B r7.ys.length r7.b, .int .i64 0] 76 W
  bt : Bk gt #[.string ⟨#[120]⟩, .slice none 0 0, .int .i64 1, .bool false, .bool r2.s, .slice r2.A r2.xs.length r2.a, .slice r2.B r2.ys.length r2.b, .int .i64 0, .string ⟨#[102]⟩, .slice (some ⟨g7, 0, none⟩) 1 1, .int .i64 1, .bool false, .bool r0.s, .slice r0.A r0.xs.length r0.a, .slice r0.B r0.ys.length r0.b, .int .i64 0] 37 W
section
variable {r2 r3 r7 r0 : Pt} {g3 g7 gt : Nat} {W W' : World}
theorem Ml.next (h : Ml r2 r3 r7 r0 g3 g7 gt W) (hb : Below W.heap.size W W') : Ml r2 r3 r7 r0 g3 g7 gt W' := ⟨h.n2.next hb, h.n3.next hb, h.n7.next hb, h.n0.next hb, h.b3.next hb, h.b7.next hb, h.bt.next hb⟩
theorem Ml.ts (h : Ml r2 r3 r7 r0 g3 g7 gt W) : Ts [] W (some ⟨gt, 0, none⟩) [tbX r2, tbF g3 g7 r3 r7 r0] := by
  refine ⟨h.bt.rl rT_ok rfl (by simp), fun t ht => ?_⟩
  simp only [List.mem_cons, List.not_mem_nil, or_false] at ht
  rcases ht with rfl | rfl
  · exact ⟨⟨.inl rfl, by simp [tbX]⟩, h.n2.at_⟩
  · refine ⟨⟨h.b7.rl rR_ok rfl (by simp), fun r hr => ?_⟩, h.n0.at_⟩
    simp only [tbF, List.mem_singleton] at hr
    subst hr
    exact ⟨vs_one (v := nmV r3) h.b3 h.n3.at_ (by simp), h.n7.at_⟩
theorem Ml.few (h : Ml r2 r3 r7 r0 g3 g7 gt W) : ∀ t ∈ [tbX r2, tbF g3 g7 r3 r7 r0], t.Few := by
  intro t ht
  simp only [List.mem_cons, List.not_mem_nil, or_false] at ht
  rcases ht with rfl | rfl
  · exact ⟨by simp [tbX], h.n2.few, by simp [tbX]⟩
  · refine ⟨fun r hr => ?_, h.n0.few, by simp [tbF]⟩
    simp only [tbF, List.mem_singleton] at hr
    subst hr
    exact ⟨fun v hv => by rw [List.mem_singleton] at hv; subst hv; exact h.n3.few, h.n7.few, by simp⟩
theorem one_three {a b : Vl} {x y : Rat} (ha : a.cn = cq x) (hb : b.cn = cq y) : sameL [a] [b] = decide (x = y) := by
  unfold sameL
  rw [vsame_cq ha hb]
  simp [sameL]
theorem Ml.ev (h : Ml r2 r3 r7 r0 g3 g7 gt W) : Ev [nX, nO, nA, nF] [tbX r2, tbF g3 g7 r3 r7 r0] (fun i => ([cq 2, cq 1, cq 3, cq 7] : List CV)[i]?) (fun i => ([1, 1, 3, 4] : List Nat).getD i 0) where
  in_ := fun i c hc => (List.getElem?_eq_some_iff.1 hc).1
  wt := fun i hi _ => by
    have hi' : i < 4 := hi
    match i, hi' with
    | 0, _ => exact (show 1 + (nX.ar.map (fun a => ([1, 1, 3, 4] : List Nat).getD a.toNat 0)).sum ≤ 1 from by decide)
    | 1, _ => exact (show 1 + (nO.ar.map (fun a => ([1, 1, 3, 4] : List Nat).getD a.toNat 0)).sum ≤ 1 from by decide)
    | 2, _ => exact (show 1 + (nA.ar.map (fun a => ([1, 1, 3, 4] : List Nat).getD a.toNat 0)).sum ≤ 3 from by decide)
    | 3, _ => exact (show 1 + (nF.ar.map (fun a => ([1, 1, 3, 4] : List Nat).getD a.toNat 0)).sum ≤ 4 from by decide)
  made := fun i c hi hc => by
    have hi' : i < 4 := hi
    match i, hi' with
    | 0, _ =>
      obtain rfl : cq 2 = c := by simpa using hc
      exact ⟨[], rfl, mt_con (n := nX) rfl (by decide) (tbX r2) rfl rfl _ h.n2.cn⟩
    | 1, _ =>
      obtain rfl : cq 1 = c := by simpa using hc
      exact ⟨[], rfl, mt_num (n := nO) rfl 1 (fitL (by decide +kernel) (by decide +kernel)) (by decide +kernel) (show [1] = _ by kernel_rfl) (show [1] = _ by kernel_rfl)⟩
    | 2, _ =>
      obtain rfl : cq 3 = c := by simpa using hc
      refine ⟨[cq 2, cq 1], rfl, ?_⟩
      have := mt_reck (tbs := [tbX r2, tbF g3 g7 r3 r7 r0]) (n := nA) (.inl rfl) 2 [1] (by decide) (by decide) ⟨fitL (by decide +kernel) (by decide +kernel), fun r hr => by rw [List.mem_singleton] at hr; subst hr; exact fitL (by decide +kernel) (by decide +kernel)⟩ (fun i hi => ?_) (fun h => by cases h)
      · rw [show gQ nA.op 2 [1] = 3 by decide +kernel] at this
        exact this
      · have : i = 0 ∨ i = 1 := by simp at hi; omega
        rcases this with rfl | rfl <;> exact fitL (by decide +kernel) (by decide +kernel)
    | 3, _ =>
      obtain rfl : cq 7 = c := by simpa using hc
      refine ⟨[cq 3], rfl, mt_app1 (n := nF) rfl (by decide) (tbF g3 g7 r3 r7 r0) rfl (cq 3) _ fun v hv => ?_⟩
      show (if sameL [nmV r3] [v] = true then nmV r7 else applyL [] [v] (nmV r0)).cn = _
      rw [if_pos (by rw [one_three h.n3.cn hv]; decide), h.n7.cn]
end
theorem bel_dr (U : World) : Below U.heap.size U U.drew := ((Off.refl [] U).drew).below (Nat.le_refl _) (by simp)
structure Vx (u : Vl) (c : CV) (W : World) : Prop where
  cn : u.cn = c
  at_ : u.At W
  few : u.Few
theorem Vx.next {u : Vl} {c : CV} {w w' : World} (h : Vx u c w) (hb : Below w.heap.size w w') : Vx u c w' := ⟨h.cn, h.at_.next hb, h.few⟩
theorem zero_e (W : World) : Calls Tryz.prog 17 #[.int .i64 1] W fun e w' => ∃ v : Vl, e = .returned (.agg #[.int .i64 v.so, .bool v.bo, .bool v.p.s, .slice v.p.A v.p.xs.length v.p.a, .slice v.p.B v.p.ys.length v.p.b, .int .i64 v.el]) ∧ Vx v (cq 0) w' ∧ Below W.heap.size W w' :=
  (zero_v 1 W).mono fun e w' ⟨v, e1, h1, h2, h3, h4, _, h6, h7, h8⟩ => ⟨v, e1, ⟨by
    obtain ⟨k1, k2⟩ := h4 rfl
    unfold Vl.cn cq Pt.con
    rw [h1, h2, h3, k2.s, k2.x, k2.y, k1], h6, h7⟩, h8⟩
theorem same_b (u : Vl) (r : Pt) (c : CV) (q : Rat) (W : World) (hu : Vx u c W) (hr : Nq r q W) (b : Bool) (hc : decide (c = cq q) = b) : Calls Tryz.prog 14 #[.agg #[.int .i64 u.so, .bool u.bo, .bool u.p.s, .slice u.p.A u.p.xs.length u.p.a, .slice u.p.B u.p.ys.length u.p.b, .int .i64 u.el], .agg #[.int .i64 1, .bool false, .bool r.s, .slice r.A r.xs.length r.a, .slice r.B r.ys.length r.b, .int .i64 0]] W fun e w' => e = .returned (.bool b) ∧ Below W.heap.size W w' :=
  lsame_v (a := u) (b := nmV r) hu.few hr.few W hu.at_ hr.at_ b (by rw [hu.cn, hr.cn]; exact hc)
theorem same_e (u : Vl) (r : Pt) (c : CV) (q : Rat) (W : World) (hu : Vx u c W) (hr : Nq r q W) (hc : c = cq q) : Calls Tryz.prog 14 #[.agg #[.int .i64 u.so, .bool u.bo, .bool u.p.s, .slice u.p.A u.p.xs.length u.p.a, .slice u.p.B u.p.ys.length u.p.b, .int .i64 u.el], .agg #[.int .i64 1, .bool false, .bool r.s, .slice r.A r.xs.length r.a, .slice r.B r.ys.length r.b, .int .i64 0]] W fun e w' => e = .returned (.bool true) ∧ Below W.heap.size W w' :=
  same_b u r c q W hu hr true (decide_eq_true hc)
theorem msame_e (r s : Pt) (q : Rat) (W : World) (hr : Nq r q W) (hs : Nq s q W) : Calls Tryz.prog 10 #[.agg #[.int .i64 1, .bool false, .bool r.s, .slice r.A r.xs.length r.a, .slice r.B r.ys.length r.b, .int .i64 0], .agg #[.int .i64 1, .bool false, .bool s.s, .slice s.A s.xs.length s.a, .slice s.B s.ys.length s.b, .int .i64 0]] W fun e w' => e = .returned (.bool true) ∧ Below W.heap.size W w' :=
  same_v (a := nmV r) (b := nmV s) hr.few hs.few W hr.at_ hs.at_ true (by rw [vsame_cq hr.cn hs.cn]; exact decide_eq_true rfl)
theorem msame_3 (r : Pt) (q : Rat) (W : World) (hr : Nq r q W) : Calls Tryz.prog 10 #[.agg #[.int .i64 1, .bool false, .bool r.s, .slice r.A r.xs.length r.a, .slice r.B r.ys.length r.b, .int .i64 0], .agg #[.int .i64 3, .bool false, .bool false, .slice none 0 0, .slice none 0 0, .int .i64 0]] W fun e w' => e = .returned (.bool false) ∧ Below W.heap.size W w' :=
  same_v (a := nmV r) (b := ⟨3, false, ⟨false, none, 0, [], none, 0, [], 0⟩, 0⟩) hr.few ⟨⟨by simp [Limbs], by simp [Limbs], by simp, by simp⟩, by simp, by simp⟩ W hr.at_ ⟨.inl rfl, .inl rfl⟩ false (by
    unfold vsame nmV
    simp)
theorem apply_e {Z : List Nat} {t : Tr} (h1 : t.l.map Rr.cn = [([cq 3], cq 7)]) (h2 : t.e.cn = cq 0) {W : World} (h3 : t.At Z W) (h4 : t.Few) (r : Pt) (hr : Nq r 1 W) (k : Nat) :
    Calls Tryz.prog 15 #[.agg #[.string t.nm, .slice t.A t.l.length t.c, .int .i64 t.e.so, .bool t.e.bo, .bool t.e.p.s, .slice t.e.p.A t.e.p.xs.length t.e.p.a, .slice t.e.p.B t.e.p.ys.length t.e.p.b, .int .i64 t.e.el], .slice (some ⟨W.heap.size, 0, none⟩) 1 k] (W.alloc (.cells #[.int .i64 1, .bool false, .bool r.s, .slice r.A r.xs.length r.a, .slice r.B r.ys.length r.b, .int .i64 0] 30)) fun e w' => ∃ v : Vl, e = .returned (.agg #[.int .i64 v.so, .bool v.bo, .bool v.p.s, .slice v.p.A v.p.xs.length v.p.a, .slice v.p.B v.p.ys.length v.p.b, .int .i64 v.el]) ∧ Vx v (cq 0) w' ∧ Below (W.alloc (.cells #[.int .i64 1, .bool false, .bool r.s, .slice r.A r.xs.length r.a, .slice r.B r.ys.length r.b, .int .i64 0] 30)).heap.size (W.alloc (.cells #[.int .i64 1, .bool false, .bool r.s, .slice r.A r.xs.length r.a, .slice r.B r.ys.length r.b, .int .i64 0] 30)) w' := by
  have hb : Below W.heap.size W (W.alloc (.cells #[.int .i64 1, .bool false, .bool r.s, .slice r.A r.xs.length r.a, .slice r.B r.ys.length r.b, .int .i64 0] 30)) := bl_al (.refl _ _) _
  refine (apply_v t (some ⟨W.heap.size, 0, none⟩) k [nmV r] _ (h3.next hb) h4 (vs_one (v := nmV r) (Z := []) (Bk.new _ _ W) ((hr.next hb).at_) (by simp)) (by intro v hv; rw [List.mem_singleton] at hv; subst hv; exact hr.few) (by simp)).mono fun e w' ⟨v, e1, e2, e3, e4, e5⟩ => ⟨v, e1, ⟨?_, e3, e4⟩, e5⟩
  rw [e2]
  obtain ⟨x, hl⟩ : ∃ x, t.l = [x] := List.length_eq_one_iff.1 (by simpa using congrArg List.length h1)
  rw [hl] at h1
  have hx : x.cn = ([cq 3], cq 7) := by simpa using h1
  have hx1 : x.l.map Vl.cn = [cq 3] := congrArg Prod.fst hx
  obtain ⟨y, hy, hyc⟩ := one_of hx1
  rw [hl]
  show (if sameL x.l [nmV r] = true then x.v else applyL [] [nmV r] t.e).cn = _
  rw [hy, one_three hyc hr.cn, if_neg (by decide +kernel)]
  exact h2
theorem awake10_any (w : World) : Calls Tryz.prog 9 #[] w fun e w' => e = .returned (.bool true) ∧ Below w.heap.size w w' := by
  have ht := tables_t w
  generalize hBd : w.heap.size = B at *
  replace hBd := hide hBd
  replace ht := hide ht
  have cx : ∀ q W, Tt [] B w W q 0 so0 (fuN 10) dcl [] → Calls Tryz.prog 28 #[.pointer (some ⟨q, 0, none⟩), .int .i64 12, .string ⟨#[120]⟩, .agg #[.bool false, .slice none 0 0, .slice none 0 0], .slice none 0 0] W fun e w' => e = .returned (.tuple #[.int .i64 0, .int .i64 0]) ∧ Tt [] B w w' q 1 so0 (fuN 10) dcl [nX] := fun q W h =>
    (mk_con h (by decide) ⟨#[120]⟩ (by decide) 0 (by decide) rfl rfl (by decide) (by decide) (by simp)).mono fun e w' ⟨he, h1, _⟩ => ⟨he, h1⟩
  have c1 : ∀ q W r, Tt [] B w W q 1 so0 (fuN 10) dcl [nX] → Nq r 1 W → Calls Tryz.prog 28 #[.pointer (some ⟨q, 0, none⟩), .int .i64 11, .string ⟨#[]⟩, .agg #[.bool r.s, .slice r.A r.xs.length r.a, .slice r.B r.ys.length r.b], .slice none 0 0] W fun e w' => e = .returned (.tuple #[.int .i64 1, .int .i64 0]) ∧ Tt [] B w w' q 2 so0 (fuN 10) dcl [nX, nO] := fun q W r h hr =>
    (mk_numq h (by decide) (by simp) hr false [1] [1] (by decide +kernel) (by kernel_rfl) (by kernel_rfl) (by decide) (by intro m hm; simp at hm; subst hm; exact kv_ne (by decide))).mono fun e w' ⟨he, h1, _⟩ => ⟨he, h1⟩
  have hin2 : ∀ a ∈ ([0, 1] : List Int), 0 ≤ a ∧ a < (([nX, nO] : List Nd).length : Int) := by decide
  have c2 : ∀ q W, Tt [] B w W q 2 so0 (fuN 10) dcl [nX, nO] → Calls Tryz.prog 28 #[.pointer (some ⟨q, 0, none⟩), .int .i64 13, .string ⟨#[]⟩, .agg #[.bool false, .slice none 0 0, .slice none 0 0], .slice (some ⟨W.heap.size, 0, none⟩) 2 2] (W.alloc (.cells #[.int .i64 0, .int .i64 1] 3)) fun e w' => e = .returned (.tuple #[.int .i64 2, .int .i64 0]) ∧ Tt [] B w w' q 3 so0 (fuN 10) dcl [nX, nO, nA] := fun q W h =>
    (mk_op_new (h.alloc _) (by decide) 13 (by decide) (by decide) (by decide) (by decide) _ [0, 1] 2 (two_rx W 0 1 h.base) (by decide) (by decide) (by decide) hin2 (by decide) (by decide) (by decide) (by decide) (by decide) (by intro m hm; simp at hm; rcases hm with rfl | rfl <;> exact kv_ne (by decide))).mono fun e w' ⟨he, h1, _⟩ => ⟨he, h1.less (by simp)⟩
  have c3 : ∀ q W, Tt [] B w W q 3 so0 (fuN 10) dcl [nX, nO, nA] → Calls Tryz.prog 28 #[.pointer (some ⟨q, 0, none⟩), .int .i64 12, .string ⟨#[102]⟩, .agg #[.bool false, .slice none 0 0, .slice none 0 0], .slice (some ⟨W.heap.size, 0, none⟩) 1 1] (W.alloc (.cells #[.int .i64 2] 3)) fun e w' => e = .returned (.tuple #[.int .i64 3, .int .i64 0]) ∧ Tt [] B w w' q 4 so0 (fuN 10) dcl [nX, nO, nA, nF] := fun q W h =>
    (mk_app1 (h.alloc _) (by decide) ⟨#[102]⟩ (by decide) 7 (by decide) rfl 1 rfl (by decide) _ 2 1 (one_rx W 2 h.base) (by decide) (by decide) (by decide) (by intro m hm; simp at hm; rcases hm with rfl | rfl | rfl; exact kv_name (by decide); exact kv_ne (by decide); exact kv_ne (by decide))).mono fun e w' ⟨he, h1, _⟩ => ⟨he, h1.less (by simp)⟩
  have O1 := hide (fun W => rof_e 1 1 1 W (by decide) (by decide) (by decide) (by decide) (by decide) (by first | rfl | decide +kernel) (fitL (by decide +kernel) (by decide +kernel)))
  have N2 := hide (fun W => lnum_e 2 1 2 W (by decide) (by decide) (by decide) (by decide) (by decide) (by first | rfl | decide +kernel) (fitL (by decide +kernel) (by decide +kernel)))
  have N3 := hide (fun W => lnum_e 3 1 3 W (by decide) (by decide) (by decide) (by decide) (by decide) (by first | rfl | decide +kernel) (fitL (by decide +kernel) (by decide +kernel)))
  have N7 := hide (fun W => lnum_e 7 1 7 W (by decide) (by decide) (by decide) (by decide) (by decide) (by first | rfl | decide +kernel) (fitL (by decide +kernel) (by decide +kernel)))
  have N0 := hide (fun W => lnum_e 0 1 0 W (by decide) (by decide) (by decide) (by decide) (by decide) (by first | rfl | decide +kernel) (fitL (by decide +kernel) (by decide +kernel)))
  have N1 := hide (fun W => lnum_e 1 1 1 W (by decide) (by decide) (by decide) (by decide) (by decide) (by first | rfl | decide +kernel) (fitL (by decide +kernel) (by decide +kernel)))
  have NH := hide (fun W => lnum_e 1 2 (1 / 2) W (by decide) (by decide) (by decide) (by decide) (by decide) (by first | rfl | decide +kernel) (fitL (by decide +kernel) (by decide +kernel)))
  have c4 : ∀ q W r2 r3 r7 r0 g3 g7 gt, Tt [] B w W q 4 so0 (fuN 10) dcl [nX, nO, nA, nF] → Ml r2 r3 r7 r0 g3 g7 gt W → Calls Tryz.prog 30 #[.pointer (some ⟨q, 0, none⟩), .agg #[.slice (some ⟨gt, 0, none⟩) 2 2], .int .i64 3] W fun e w' => ∃ u : Vl, e = .returned (.tuple #[.agg #[.int .i64 u.so, .bool u.bo, .bool u.p.s, .slice u.p.A u.p.xs.length u.p.a, .slice u.p.B u.p.ys.length u.p.b, .int .i64 u.el], .int .i64 0]) ∧ u.cn = cq 7 ∧ u.At w' ∧ u.Few ∧ Below W.heap.size W w' := fun q W r2 r3 r7 r0 g3 g7 gt h m =>
    (eval_any h (by decide) (some ⟨gt, 0, none⟩) 2 m.ts m.few (by simp) (by intro t ht; simp at ht; rcases ht with rfl | rfl <;> (show (1 : Nat) ≤ maxLen; decide)) m.ev 3 (cq 7) rfl (by decide)).mono fun e w' ⟨u, k, e1, ⟨e2, e3⟩, e4, e5, e6⟩ => by subst e3; exact ⟨u, e1, e2, e4, e5, e6⟩
  have c5 : ∀ q W, Tt [] B w W q 4 so0 (fuN 10) dcl [nX, nO, nA, nF] → Calls Tryz.prog 30 #[.pointer (some ⟨q, 0, none⟩), .agg #[.slice none 0 0], .int .i64 0] W fun e w' => ∃ u : Vl, e = .returned (.tuple #[.agg #[.int .i64 u.so, .bool u.bo, .bool u.p.s, .slice u.p.A u.p.xs.length u.p.a, .slice u.p.B u.p.ys.length u.p.b, .int .i64 u.el], .int .i64 5]) ∧ Below W.heap.size W w' := fun q W h =>
    (eval_none (tbs := []) (Z := []) h (by decide) none 0 ⟨.inl rfl, by simp⟩ (by simp) (by simp) (by simp) 0 (by decide) rfl rfl rfl).mono fun e w' ⟨u, k, e1, e2, e4, e5, e6⟩ => by subst e2; exact ⟨u, e1, e6⟩
  have c6 : ∀ q W gt, Tt [] B w W q 4 so0 (fuN 10) dcl [nX, nO, nA, nF] → Calls Tryz.prog 30 #[.pointer (some ⟨q, 0, none⟩), .agg #[.slice (some ⟨gt, 0, none⟩) 2 2], .int .i64 99] W fun e w' => e = .returned (.tuple #[.agg #[.int .i64 0, .bool false, .bool false, .slice none 0 0, .slice none 0 0, .int .i64 0], .int .i64 1]) ∧ Below W.heap.size W w' := fun q W gt h =>
    eval_no h (by decide) (some ⟨gt, 0, none⟩) 2 2 99 rfl
  have c7 : ∀ W r2 r3 r7 r0 g3 g7 gt, Ml r2 r3 r7 r0 g3 g7 gt W → Calls Tryz.prog 12 #[.agg #[.slice (some ⟨gt, 0, none⟩) 2 2], .string ⟨#[102]⟩] W fun e w' => ∃ t : Tr, e = .returned (.tuple #[.agg #[.string t.nm, .slice t.A t.l.length t.c, .int .i64 t.e.so, .bool t.e.bo, .bool t.e.p.s, .slice t.e.p.A t.e.p.xs.length t.e.p.a, .slice t.e.p.B t.e.p.ys.length t.e.p.b, .int .i64 t.e.el], .bool true]) ∧ t.l.map Rr.cn = [([cq 3], cq 7)] ∧ t.e.cn = cq 0 ∧ t.At [] w' ∧ t.Few ∧ Below W.heap.size W w' := fun W r2 r3 r7 r0 g3 g7 gt m =>
    (find_v (some ⟨gt, 0, none⟩) 2 [tbX r2, tbF g3 g7 r3 r7 r0] ⟨#[102]⟩ W m.ts m.few (by simp) _ rfl).mono fun e w' ⟨t, e1, _, e3, e4, e5, e6, e7⟩ => ⟨t, e1, e3.trans (by show [([(nmV r3).cn], (nmV r7).cn)] = _; rw [m.n3.cn, m.n7.cn]), e4.trans m.n0.cn, e5, e6, e7⟩
  replace cx := hide cx; replace c1 := hide c1; replace c2 := hide c2; replace c3 := hide c3; replace c4 := hide c4; replace c5 := hide c5; replace c6 := hide c6; replace c7 := hide c7
  clear hin2
  go_enter Tryz.func9, Tryz.ntmps9
  go_upto_region 9 with (first
    | (go_at_call 27; (with_reducible refine (ht.out).mono ?_); rintro e w1 ⟨q, z, rfl, T1⟩; replace T1 := hide T1)
    | (go_at_call 28; (with_reducible refine (cx.out _ _ T1.out).mono ?_); rintro e w2 ⟨rfl, T2⟩; replace T2 := hide T2; clear T1)
    | (go_at_call 32; (with_reducible refine (O1.out _).mono ?_); rintro e w3 ⟨p1, rfl, n1, hb⟩; have MN := hide (c1.out _ _ _ (T2.out.next hb) n1); clear T2 n1 hb)
    | (go_at_call 28; (with_reducible refine (MN.out).mono ?_); rintro e w4 ⟨rfl, T4⟩; replace T4 := hide T4; clear MN)
    | (go_at_call 28; (with_reducible refine (c2.out _ _ T4.out).mono ?_); rintro e w5 ⟨rfl, T5⟩; replace T5 := hide T5; clear T4)
    | (go_at_call 28; (with_reducible refine (c3.out _ _ T5.out).mono ?_); rintro e w6 ⟨rfl, T6⟩; replace T6 := hide T6; clear T5)
    | (go_at_call 29; (with_reducible refine (N2.out _).mono ?_); rintro e w7 ⟨r2, rfl, n2, hb⟩; have T7 := hide (T6.out.next hb); replace n2 := hide n2; clear T6 hb)
    | (go_at_call 29; (with_reducible refine (N3.out _).mono ?_); rintro e w8 ⟨r3, rfl, n3, hb⟩; have T8 := hide (T7.out.next hb); replace n2 := hide (n2.out.next hb); replace n3 := hide n3; clear T7 hb)
    | (go_at_call 29; (with_reducible refine (N7.out _).mono ?_); rintro e w9 ⟨r7, rfl, n7, hb⟩; have B3 := hide ((Bk.new #[.int .i64 1, .bool false, .bool r3.s, .slice r3.A r3.xs.length r3.a, .slice r3.B r3.ys.length r3.b, .int .i64 0] 30 w8).next hb); have g := bl_trans (bl_al (.refl _ _) (.cells #[.int .i64 1, .bool false, .bool r3.s, .slice r3.A r3.xs.length r3.a, .slice r3.B r3.ys.length r3.b, .int .i64 0] 30)) hb; have T9 := hide (T8.out.next g); replace n2 := hide (n2.out.next g); replace n3 := hide (n3.out.next g); replace n7 := hide n7; clear T8 hb g)
    | (go_at_call 29; (with_reducible refine (N0.out _).mono ?_); rintro e w10 ⟨r0, rfl, n0, hb⟩; have B7 := hide ((Bk.new #[.slice (some ⟨w8.heap.size, 0, none⟩) 1 1, .int .i64 1, .bool false, .bool r7.s, .slice r7.A r7.xs.length r7.a, .slice r7.B r7.ys.length r7.b, .int .i64 0] 76 w9).next hb); have g := bl_trans (bl_al (.refl _ _) (.cells #[.slice (some ⟨w8.heap.size, 0, none⟩) 1 1, .int .i64 1, .bool false, .bool r7.s, .slice r7.A r7.xs.length r7.a, .slice r7.B r7.ys.length r7.b, .int .i64 0] 76)) hb; replace B3 := hide (B3.out.next g); have T10 := hide (T9.out.next g); replace n2 := hide (n2.out.next g); replace n3 := hide (n3.out.next g); replace n7 := hide (n7.out.next g); replace n0 := hide n0; clear T9 hb g)
    | fail)
  have g9 : Below w10.heap.size w10 ((w10.alloc (.cells #[.string ⟨#[120]⟩, .slice none 0 0, .int .i64 1, .bool false, .bool r2.s, .slice r2.A r2.xs.length r2.a, .slice r2.B r2.ys.length r2.b, .int .i64 0, .string ⟨#[102]⟩, .slice (some ⟨w9.heap.size, 0, none⟩) 1 1, .int .i64 1, .bool false, .bool r0.s, .slice r0.A r0.xs.length r0.a, .slice r0.B r0.ys.length r0.b, .int .i64 0] 37)).alloc (.cells #[.slice (some ⟨w10.heap.size, 0, none⟩) 2 2] 24)) := bl_al (bl_al (.refl _ _) _) _
  have M9 : Hid (Ml r2 r3 r7 r0 w8.heap.size w9.heap.size w10.heap.size ((w10.alloc (.cells #[.string ⟨#[120]⟩, .slice none 0 0, .int .i64 1, .bool false, .bool r2.s, .slice r2.A r2.xs.length r2.a, .slice r2.B r2.ys.length r2.b, .int .i64 0, .string ⟨#[102]⟩, .slice (some ⟨w9.heap.size, 0, none⟩) 1 1, .int .i64 1, .bool false, .bool r0.s, .slice r0.A r0.xs.length r0.a, .slice r0.B r0.ys.length r0.b, .int .i64 0] 37)).alloc (.cells #[.slice (some ⟨w10.heap.size, 0, none⟩) 2 2] 24))) := hide ⟨n2.out.next g9, n3.out.next g9, n7.out.next g9, n0.out.next g9, B3.out.next g9, B7.out.next g9, (Bk.new _ _ w10).al _⟩
  have T9' := hide (T10.out.next g9)
  have x0 := (Bk.new1 #[.slice (some ⟨w10.heap.size, 0, none⟩) 2 2] 24 w10 (.cells #[.string ⟨#[120]⟩, .slice none 0 0, .int .i64 1, .bool false, .bool r2.s, .slice r2.A r2.xs.length r2.a, .slice r2.B r2.ys.length r2.b, .int .i64 0, .string ⟨#[102]⟩, .slice (some ⟨w9.heap.size, 0, none⟩) 1 1, .int .i64 1, .bool false, .bool r0.s, .slice r0.A r0.xs.length r0.a, .slice r0.B r0.ys.length r0.b, .int .i64 0] 37)).cell (j := 0) rfl
  clear g9 n2 n3 n7 n0 B3 B7 T10 O1 N2 N3 cx c1 c2 c3 ht
  generalize ((w10.alloc (.cells #[.string ⟨#[120]⟩, .slice none 0 0, .int .i64 1, .bool false, .bool r2.s, .slice r2.A r2.xs.length r2.a, .slice r2.B r2.ys.length r2.b, .int .i64 0, .string ⟨#[102]⟩, .slice (some ⟨w9.heap.size, 0, none⟩) 1 1, .int .i64 1, .bool false, .bool r0.s, .slice r0.A r0.xs.length r0.a, .slice r0.B r0.ys.length r0.b, .int .i64 0] 37)).alloc (.cells #[.slice (some ⟨w10.heap.size, 0, none⟩) 2 2] 24)) = W9 at *
  generalize w10.heap.size + 1 = gb at *
  generalize w10.heap.size = gt at *
  generalize w9.heap.size = g7 at *
  generalize w8.heap.size = g3 at *
  go_upto_region 13 with (first
    | (go_at_call 30; (with_reducible refine (c4.out _ _ _ _ _ _ _ _ _ T9'.out M9.out).mono ?_); rintro e w11 ⟨u, rfl, hc, aU, fU, hb⟩; have g := bl_al hb (.cells #[.int .i64 u.so, .bool u.bo, .bool u.p.s, .slice u.p.A u.p.xs.length u.p.a, .slice u.p.B u.p.ys.length u.p.b, .int .i64 u.el] 30); have U := hide (show Vx u (cq 7) (w11.alloc (.cells #[.int .i64 u.so, .bool u.bo, .bool u.p.s, .slice u.p.A u.p.xs.length u.p.a, .slice u.p.B u.p.ys.length u.p.b, .int .i64 u.el] 30)) from ⟨hc, aU.next (bl_al (.refl _ _) _), fU⟩); have BU := hide (Bk.new #[.int .i64 u.so, .bool u.bo, .bool u.p.s, .slice u.p.A u.p.xs.length u.p.a, .slice u.p.B u.p.ys.length u.p.b, .int .i64 u.el] 30 w11); replace T9' := hide (T9'.out.next g); replace M9 := hide (M9.out.next g); replace x0 := cell_next g x0; clear hb g hc aU fU c4)
    | (go_at_call 30; (with_reducible refine (c5.out _ _ T9'.out).mono ?_); rintro e w12 ⟨v, rfl, hb⟩; have g := bl_al hb (.cells #[.int .i64 v.so, .bool v.bo, .bool v.p.s, .slice v.p.A v.p.xs.length v.p.a, .slice v.p.B v.p.ys.length v.p.b, .int .i64 v.el] 30); replace U := hide (U.out.next g); replace BU := hide (BU.out.next g); replace T9' := hide (T9'.out.next g); replace M9 := hide (M9.out.next g); replace x0 := cell_next g x0; clear hb g c5)
    | (go_at_call 30; (with_reducible refine (c6.out _ _ _ T9'.out).mono ?_); rintro e w13 ⟨rfl, hb⟩; have g := bl_al hb (.cells #[.int .i64 0, .bool false, .bool false, .slice none 0 0, .slice none 0 0, .int .i64 0] 30); replace U := hide (U.out.next g); replace BU := hide (BU.out.next g); replace T9' := hide (T9'.out.next g); replace M9 := hide (M9.out.next g); replace x0 := cell_next g x0; clear hb g c6)
    | (go_at_call 12; (with_reducible refine (c7.out _ _ _ _ _ _ _ _ M9.out).mono ?_); rintro e w14 ⟨t, rfl, t1, t2, t3, t4, hb⟩; have g := bl_al hb (.cells #[.string t.nm, .slice t.A t.l.length t.c, .int .i64 t.e.so, .bool t.e.bo, .bool t.e.p.s, .slice t.e.p.A t.e.p.xs.length t.e.p.a, .slice t.e.p.B t.e.p.ys.length t.e.p.b, .int .i64 t.e.el] 37); replace U := hide (U.out.next g); replace BU := hide (BU.out.next g); replace T9' := hide (T9'.out.next g); have BT := hide (Bk.new #[.string t.nm, .slice t.A t.l.length t.c, .int .i64 t.e.so, .bool t.e.bo, .bool t.e.p.s, .slice t.e.p.A t.e.p.xs.length t.e.p.a, .slice t.e.p.B t.e.p.ys.length t.e.p.b, .int .i64 t.e.el] 37 w14); replace t1 := hide t1; replace t2 := hide t2; have t3' := hide (t3.next (bl_al (.refl _ _) (.cells #[.string t.nm, .slice t.A t.l.length t.c, .int .i64 t.e.so, .bool t.e.bo, .bool t.e.p.s, .slice t.e.p.A t.e.p.xs.length t.e.p.a, .slice t.e.p.B t.e.p.ys.length t.e.p.b, .int .i64 t.e.el] 37))); replace t4 := hide t4; clear hb g c7 x0 M9 t3)
    | fail)
  generalize w14.alloc (.cells #[.string t.nm, .slice t.A t.l.length t.c, .int .i64 t.e.so, .bool t.e.bo, .bool t.e.p.s, .slice t.e.p.A t.e.p.xs.length t.e.p.a, .slice t.e.p.B t.e.p.ys.length t.e.p.b, .int .i64 t.e.el] 37) = WZ at *
  generalize w11.heap.size = ga at *
  generalize w14.heap.size = gc at *
  have SS := hide (fun W (b : Below WZ.heap.size WZ W) => (show (W.cell? ⟨ga, 0, none⟩ = some (.int .i64 u.so) ∧ W.cell? ⟨ga, 1, none⟩ = some (.bool u.bo) ∧ W.cell? ⟨ga, 2, none⟩ = some (.bool u.p.s) ∧ W.cell? ⟨ga, 3, none⟩ = some (.slice u.p.A u.p.xs.length u.p.a) ∧ W.cell? ⟨ga, 4, none⟩ = some (.slice u.p.B u.p.ys.length u.p.b) ∧ W.cell? ⟨ga, 5, none⟩ = some (.int .i64 u.el)) ∧ (W.cell? ⟨gc, 0, none⟩ = some (.string t.nm) ∧ W.cell? ⟨gc, 1, none⟩ = some (.slice t.A t.l.length t.c) ∧ W.cell? ⟨gc, 2, none⟩ = some (.int .i64 t.e.so) ∧ W.cell? ⟨gc, 3, none⟩ = some (.bool t.e.bo) ∧ W.cell? ⟨gc, 4, none⟩ = some (.bool t.e.p.s) ∧ W.cell? ⟨gc, 5, none⟩ = some (.slice t.e.p.A t.e.p.xs.length t.e.p.a) ∧ W.cell? ⟨gc, 6, none⟩ = some (.slice t.e.p.B t.e.p.ys.length t.e.p.b) ∧ W.cell? ⟨gc, 7, none⟩ = some (.int .i64 t.e.el)) from And.intro (And.intro ((BU.out.next b).cell rfl) (And.intro ((BU.out.next b).cell rfl) (And.intro ((BU.out.next b).cell rfl) (And.intro ((BU.out.next b).cell rfl) (And.intro ((BU.out.next b).cell rfl) ((BU.out.next b).cell rfl)))))) (And.intro ((BT.out.next b).cell rfl) (And.intro ((BT.out.next b).cell rfl) (And.intro ((BT.out.next b).cell rfl) (And.intro ((BT.out.next b).cell rfl) (And.intro ((BT.out.next b).cell rfl) (And.intro ((BT.out.next b).cell rfl) (And.intro ((BT.out.next b).cell rfl) ((BT.out.next b).cell rfl)))))))))) 
  have e0 : binOp .eql 50 (.int .i64 0) (.int .i64 0) = pure (.bool true) := rfl
  have e1 : binOp .eql 50 (.int .i64 1) (.int .i64 1) = pure (.bool true) := rfl
  have e5 : binOp .eql 50 (.int .i64 5) (.int .i64 5) = pure (.bool true) := rfl
  have CZ := hide zero_e
  have CS := hide same_e
  have CM := hide msame_e
  have C3 := hide msame_3
  have CA := hide (fun W r k (nr : Nq r 1 W) (b : Below WZ.heap.size WZ W) => apply_e (Z := []) (t := t) t1.out t2.out (t3'.out.next b) t4.out r nr k)
  replace BU := hide BU.out
  have bw := T9'.out.below
  clear T9' t1 t2 t3' t4 BU BT
  have bb := bel_dr WZ
  refine wp_region_held_drew (S := fun W => (W.cell? ⟨ga, 0, none⟩ = some (.int .i64 u.so) ∧ W.cell? ⟨ga, 1, none⟩ = some (.bool u.bo) ∧ W.cell? ⟨ga, 2, none⟩ = some (.bool u.p.s) ∧ W.cell? ⟨ga, 3, none⟩ = some (.slice u.p.A u.p.xs.length u.p.a) ∧ W.cell? ⟨ga, 4, none⟩ = some (.slice u.p.B u.p.ys.length u.p.b) ∧ W.cell? ⟨ga, 5, none⟩ = some (.int .i64 u.el)) ∧ (W.cell? ⟨gc, 0, none⟩ = some (.string t.nm) ∧ W.cell? ⟨gc, 1, none⟩ = some (.slice t.A t.l.length t.c) ∧ W.cell? ⟨gc, 2, none⟩ = some (.int .i64 t.e.so) ∧ W.cell? ⟨gc, 3, none⟩ = some (.bool t.e.bo) ∧ W.cell? ⟨gc, 4, none⟩ = some (.bool t.e.p.s) ∧ W.cell? ⟨gc, 5, none⟩ = some (.slice t.e.p.A t.e.p.xs.length t.e.p.a) ∧ W.cell? ⟨gc, 6, none⟩ = some (.slice t.e.p.B t.e.p.ys.length t.e.p.b) ∧ W.cell? ⟨gc, 7, none⟩ = some (.int .i64 t.e.el))) (by kernel_rfl) ?_ (fun hHeld => ?_)
  · (try dsimp only)
    with_reducible exact SS.out _ (bel_dr WZ)
  refine tkH 0 (h := ?_)
  refine tkH 1 (h := ?_)
  refine tkH 2 (h := ?_)
  refine tkH 3 (h := ?_)
  refine tkH 4 (h := ?_)
  refine tkH 5 (h := ?_)
  refine tkH 6 (h := ?_)
  refine tkH 7 (h := ?_)
  refine tkH 8 (h := ?_)
  refine tkH 9 (h := ?_)
  refine tkH 10 (h := ?_)
  refine tkH 11 (h := ?_)
  refine tkH 12 (h := ?_)
  refine tkH 13 (h := ?_)
  refine tkH 14 (h := ?_)
  refine tkH 15 (h := ?_)
  refine tkH 16 (h := ?_)
  refine tkH 17 (h := ?_)
  refine tkH 18 (h := ?_)
  refine tkH 19 (h := ?_)
  refine rdH 20 (h := fun K hK => ?_)
  go_simp
  (go_at_call 29; (with_reducible refine (N7.out _).mono ?_); rintro e wz ⟨r, rfl, nr, hb⟩; replace bb := bl_trans bb hb; have SM := hide (CS.out u r (cq 7) 7 wz (U.out.next bb) nr rfl); clear nr; clear hb)
  (try go_wp2_with fail)
  refine kH hK (by (try dsimp only); with_reducible exact SS.out _ bb) (h := fun hHeld => ?_)
  (try clear hK K)
  refine rdH 21 (h := fun K hK => ?_)
  go_simp
  (go_at_call 14; (with_reducible refine (SM.out).mono ?_); rintro e wz ⟨rfl, hb⟩; replace bb := bl_trans bb hb; clear hb SM)
  (try go_wp2_with fail)
  refine kH hK (by (try dsimp only); with_reducible exact SS.out _ bb) (h := fun hHeld => ?_)
  (try clear hK K)
  refine tkH 22 (h := ?_)
  refine tkH 23 (h := ?_)
  refine tkH 24 (h := ?_)
  refine tkH 25 (h := ?_)
  refine tkH 26 (h := ?_)
  refine tkH 27 (h := ?_)
  refine tkH 28 (h := ?_)
  refine tkH 29 (h := ?_)
  refine tkH 30 (h := ?_)
  refine tkH 31 (h := ?_)
  refine tkH 32 (h := ?_)
  refine tkH 33 (h := ?_)
  refine tkH 34 (h := ?_)
  refine tkH 35 (h := ?_)
  refine rdH 36 (h := fun K hK => ?_)
  go_simp
  (go_at_call 29; (with_reducible refine (N1.out _).mono ?_); rintro e wz ⟨r, rfl, nr, hb⟩; replace bb := bl_trans bb hb; have AP := hide (CA.out wz r 1 nr bb); clear nr; clear hb)
  (try go_wp2_with fail)
  refine kH hK (by (try dsimp only); with_reducible exact SS.out _ bb) (h := fun hHeld => ?_)
  (try clear hK K)
  refine rdH 37 (h := fun K hK => ?_)
  go_simp
  refine kH hK (by (try dsimp only); with_reducible exact SS.out _ (bl_al bb _)) (h := fun hHeld => ?_)
  (try clear hK K)
  refine rdH 38 (h := fun K hK => ?_)
  go_simp
  (go_at_call 15; (with_reducible refine (AP.out).mono ?_); rintro e wz ⟨v, rfl, V, hb⟩; replace bb := bl_trans (bl_al bb _) hb; clear hb AP CA; replace V := hide V)
  (try go_wp2_with fail)
  refine kH hK (by (try dsimp only); with_reducible exact SS.out _ bb) (h := fun hHeld => ?_)
  (try clear hK K)
  as_aux_lemma =>
    refine rdH 39 (h := fun K hK => ?_)
    go_simp
    (go_at_call 29; (with_reducible refine (N0.out _).mono ?_); rintro e wz ⟨r, rfl, nr, hb⟩; replace bb := bl_trans bb hb; have SM := hide (CS.out v r (cq 0) 0 wz (V.out.next hb) nr rfl); clear nr V; clear hb)
    (try go_wp2_with fail)
    refine kH hK (by (try dsimp only); with_reducible exact SS.out _ bb) (h := fun hHeld => ?_)
    (try clear hK K)
    refine rdH 40 (h := fun K hK => ?_)
    go_simp
    (go_at_call 14; (with_reducible refine (SM.out).mono ?_); rintro e wz ⟨rfl, hb⟩; replace bb := bl_trans bb hb; clear hb SM)
    (try go_wp2_with fail)
    refine kH hK (by (try dsimp only); with_reducible exact SS.out _ bb) (h := fun hHeld => ?_)
    (try clear hK K)
    as_aux_lemma =>
      refine tkH 41 (h := ?_)
      refine tkH 42 (h := ?_)
      refine rdH 43 (h := fun K hK => ?_)
      go_simp
      (go_at_call 17; (with_reducible refine (CZ.out _).mono ?_); rintro e wz ⟨v, rfl, V, hb⟩; replace bb := bl_trans bb hb; clear hb CZ; replace V := hide V)
      (try go_wp2_with fail)
      refine kH hK (by (try dsimp only); with_reducible exact SS.out _ bb) (h := fun hHeld => ?_)
      (try clear hK K)
      refine rdH 44 (h := fun K hK => ?_)
      go_simp
      (go_at_call 29; (with_reducible refine (N0.out _).mono ?_); rintro e wz ⟨r, rfl, nr, hb⟩; replace bb := bl_trans bb hb; have SM := hide (CS.out v r (cq 0) 0 wz (V.out.next hb) nr rfl); clear nr V; clear hb)
      (try go_wp2_with fail)
      refine kH hK (by (try dsimp only); with_reducible exact SS.out _ bb) (h := fun hHeld => ?_)
      (try clear hK K)
      as_aux_lemma =>
        refine rdH 45 (h := fun K hK => ?_)
        go_simp
        (go_at_call 14; (with_reducible refine (SM.out).mono ?_); rintro e wz ⟨rfl, hb⟩; replace bb := bl_trans bb hb; clear hb SM)
        (try go_wp2_with fail)
        refine kH hK (by (try dsimp only); with_reducible exact SS.out _ bb) (h := fun hHeld => ?_)
        (try clear hK K)
        refine tkH 46 (h := ?_)
        refine tkH 47 (h := ?_)
        refine rdH 48 (h := fun K hK => ?_)
        go_simp
        (go_at_call 29; (with_reducible refine (NH.out _).mono ?_); rintro e wz ⟨r, rfl, nr, hb⟩; replace bb := bl_trans bb hb; replace nr := hide nr; clear hb)
        (try go_wp2_with fail)
        refine kH hK (by (try dsimp only); with_reducible exact SS.out _ bb) (h := fun hHeld => ?_)
        (try clear hK K)
        as_aux_lemma =>
          refine rdH 49 (h := fun K hK => ?_)
          go_simp
          (go_at_call 29; (with_reducible refine (NH.out _).mono ?_); rintro e wz ⟨r', rfl, nr', hb⟩; replace bb := bl_trans bb hb; have SM := hide (CM.out r r' (1 / 2) wz (nr.out.next hb) nr'); clear hb nr nr')
          (try go_wp2_with fail)
          refine kH hK (by (try dsimp only); with_reducible exact SS.out _ bb) (h := fun hHeld => ?_)
          (try clear hK K)
          refine rdH 50 (h := fun K hK => ?_)
          go_simp
          (go_at_call 10; (with_reducible refine (SM.out).mono ?_); rintro e wz ⟨rfl, hb⟩; replace bb := bl_trans bb hb; clear hb SM)
          (try go_wp2_with fail)
          refine kH hK (by (try dsimp only); with_reducible exact SS.out _ bb) (h := fun hHeld => ?_)
          (try clear hK K)
          as_aux_lemma =>
            refine tkH 51 (h := ?_)
            refine tkH 52 (h := ?_)
            refine tkH 54 (h := ?_)
            refine rdH 53 (h := fun K hK => ?_)
            go_simp
            (go_at_call 29; (with_reducible refine (NH.out _).mono ?_); rintro e wz ⟨r, rfl, nr, hb⟩; replace bb := bl_trans bb hb; have SM := hide (C3.out r (1 / 2) wz nr); clear nr; clear hb)
            (try go_wp2_with fail)
            refine kH hK (by (try dsimp only); with_reducible exact SS.out _ bb) (h := fun hHeld => ?_)
            (try clear hK K)
            refine rdH 55 (h := fun K hK => ?_)
            go_simp
            (go_at_call 10; (with_reducible refine (SM.out).mono ?_); rintro e wz ⟨rfl, hb⟩; replace bb := bl_trans bb hb; clear hb SM)
            (try go_wp2_with fail)
            refine kH hK (by (try dsimp only); with_reducible exact SS.out _ bb) (h := fun hHeld => ?_)
            (try clear hK K)
            refine tkH 56 (h := ?_)
            refine tkH 57 (h := ?_)
            refine tkH 58 (h := ?_)
            refine wpAnyH_done (by kernel_rfl) ?_ _
            go_wp2_with fail
            go_ret
            exact ⟨rfl, bw.trans (bb.mono (by rw [← hBd.out]; exact bw.size))⟩
end
section
open Go.ChangeShapes Go.RowKit
theorem fit_div (n d : Int) (hn : n.natAbs < 1000000000) (h0 : d ≠ 0) (hd : d.natAbs < 1000000000) : fitq (Rat.divInt n d) := by
  rw [← qmk_divInt n d h0]
  have h1 : d.natAbs ≠ 0 := by omega
  refine fitL ?_ ?_
  · rw [qn_mk _ _ h1, LB_eq]; exact Nat.lt_of_le_of_lt (Nat.div_le_self _ _) (by omega)
  · rw [qd_mk _ _ h1, LB_eq]; exact Nat.lt_of_le_of_lt (Nat.div_le_self _ _) (by omega)
theorem num_d (n d : Int) (w : World) (hn : n.natAbs < 1000000000) (h0 : d ≠ 0) (hd : d.natAbs < 1000000000) :
    Calls Tryz.prog 29 #[.int .i64 n, .int .i64 d] w fun e w' => ∃ r : Pt, e = .returned (.agg #[.int .i64 1, .bool false, .bool r.s, .slice r.A r.xs.length r.a, .slice r.B r.ys.length r.b, .int .i64 0]) ∧ Nq r (Rat.divInt n d) w' ∧ Below w.heap.size w w' :=
  lnum_e n d _ w (by omega) (by omega) (by omega) (by omega) h0 (qmk_divInt n d h0) (fit_div n d hn h0 hd)
theorem div_inj {n m d : Int} (h0 : d ≠ 0) : Rat.divInt n d = Rat.divInt m d ↔ n = m := by
  rw [Rat.divInt_eq_divInt_iff h0 h0]
  exact ⟨fun h => Int.eq_of_mul_eq_mul_right h0 h, fun h => by rw [h]⟩
end
end Nt
end Go.Proofs.YthabfakbdfaciaaGreat
