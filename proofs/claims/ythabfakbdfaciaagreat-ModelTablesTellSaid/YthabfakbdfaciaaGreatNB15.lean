import Derived.Test.YthabfakbdfaciaaGreatNB14
import Derived.Test.YthabfakbdfaciaaGreatNB11
section
namespace Go.Proofs.YthabfakbdfaciaaGreat
open Go.ChangeShapes Go.RowKit
namespace Nt
set_option maxRecDepth 100000
set_option linter.unusedSimpArgs false
set_option linter.unusedVariables false

theorem kv_ne {m n : Nd} (h : m.op ≠ n.op) : kvl m ≠ kvl n := fun e => by
  unfold kvl kcs at e
  injection e with e
  have := congrArg (fun a => a[0]?) e
  simp at this
  exact h this
theorem kv_name {m n : Nd} (h : m.nm ≠ n.nm) : kvl m ≠ kvl n := fun e => by
  unfold kvl kcs at e
  injection e with e
  have := congrArg (fun a => a[2]?) e
  simp at this
  exact h this
section
variable {X : List Nat} {B0 : Nat} {w0 w : World} {q N : Nat} {so fu : List (ByteArray × Nat)} {ty : List Fn} {ns : List Nd}
theorem two_rx (w : World) (a b : Int) (h : B0 ≤ w.heap.size) : Rx (w.heap.size :: X) B0 (w.alloc (.cells #[.int .i64 a, .int .i64 b] 3)) (some ⟨w.heap.size, 0, none⟩) (zs [a, b]) := by
  have hB : Bk w.heap.size #[.int .i64 a, .int .i64 b] 3 (w.alloc (.cells #[.int .i64 a, .int .i64 b] 3)) := Bk.new _ _ _
  refine .inr ⟨_, _, rfl, .inl (by simp), hB.lt, fun j v hj => ?_⟩
  rw [Nat.zero_add]
  refine hB.cell ?_
  rw [← Array.getElem?_toList]
  exact hj
theorem one_rx (w : World) (a : Int) (h : B0 ≤ w.heap.size) : Rx (w.heap.size :: X) B0 (w.alloc (.cells #[.int .i64 a] 3)) (some ⟨w.heap.size, 0, none⟩) (zs [a]) := by
  have hB : Bk w.heap.size #[.int .i64 a] 3 (w.alloc (.cells #[.int .i64 a] 3)) := Bk.new _ _ _
  refine .inr ⟨_, _, rfl, .inl (by simp), hB.lt, fun j v hj => ?_⟩
  rw [Nat.zero_add]
  refine hB.cell ?_
  rw [← Array.getElem?_toList]
  exact hj
end
theorem bel_dn (w : World) (n : Nat) : Below w.heap.size w (w.drewN n) := ((Off.refl [] w).drewN n).below (Nat.le_refl _) (by simp)

set_option maxHeartbeats 2000000 in
theorem declared_t (w : World) : Calls Tryz.prog 22 #[] w fun e w' => e = .returned (.slice (some ⟨w.heap.size + 3, 0, none⟩) 10 10) ∧ Dl [w.heap.size, w.heap.size + 1, w.heap.size + 2, w.heap.size + 3] w' (w.heap.size + 3) ∧ w.heap.size + 3 < w'.heap.size ∧ Below w.heap.size w w' := by
  obtain ⟨w1, h1⟩ : ∃ W, W = w.alloc (.cells #[.int .i64 1] 3) := ⟨_, rfl⟩
  obtain ⟨w2, h2⟩ : ∃ W, W = w1.alloc (.cells #[.int .i64 2, .int .i64 1] 3) := ⟨_, rfl⟩
  obtain ⟨w3, h3⟩ : ∃ W, W = w2.alloc (.cells #[.int .i64 2] 3) := ⟨_, rfl⟩
  obtain ⟨w4, h4⟩ : ∃ W, W = w3.alloc (.cells #[.string ⟨#[120]⟩, .slice none 0 0, .int .i64 1, .string ⟨#[121]⟩, .slice none 0 0, .int .i64 1, .string ⟨#[122]⟩, .slice none 0 0, .int .i64 1, .string ⟨#[112]⟩, .slice none 0 0, .int .i64 0, .string ⟨#[113]⟩, .slice none 0 0, .int .i64 0, .string ⟨#[97]⟩, .slice none 0 0, .int .i64 2, .string ⟨#[98]⟩, .slice none 0 0, .int .i64 2, .string ⟨#[102]⟩, .slice (some ⟨w.heap.size, 0, none⟩) 1 1, .int .i64 1, .string ⟨#[103]⟩, .slice (some ⟨w.heap.size + 1, 0, none⟩) 2 2, .int .i64 2, .string ⟨#[104]⟩, .slice (some ⟨w.heap.size + 2, 0, none⟩) 1 1, .int .i64 0] 59) := ⟨_, rfl⟩
  have s1 : w1.heap.size = w.heap.size + 1 := by rw [h1]; simp
  have s2 : w2.heap.size = w.heap.size + 2 := by rw [h2]; simp [s1]
  have s3 : w3.heap.size = w.heap.size + 3 := by rw [h3]; simp [s2]
  have s4 : w4.heap.size = w.heap.size + 4 := by rw [h4]; simp [s3]
  have b1 : Bk w.heap.size #[.int .i64 1] 3 w4 := by
    rw [h4, h3, h2, h1]; exact (((Bk.new _ _ w).al _).al _).al _
  have b2 : Bk (w.heap.size + 1) #[.int .i64 2, .int .i64 1] 3 w4 := by
    rw [h4, h3, h2, ← s1]; exact ((Bk.new _ _ w1).al _).al _
  have b3 : Bk (w.heap.size + 2) #[.int .i64 2] 3 w4 := by
    rw [h4, h3, ← s2]; exact (Bk.new _ _ w2).al _
  have b4 := Bk.new #[.string ⟨#[120]⟩, .slice none 0 0, .int .i64 1, .string ⟨#[121]⟩, .slice none 0 0, .int .i64 1, .string ⟨#[122]⟩, .slice none 0 0, .int .i64 1, .string ⟨#[112]⟩, .slice none 0 0, .int .i64 0, .string ⟨#[113]⟩, .slice none 0 0, .int .i64 0, .string ⟨#[97]⟩, .slice none 0 0, .int .i64 2, .string ⟨#[98]⟩, .slice none 0 0, .int .i64 2, .string ⟨#[102]⟩, .slice (some ⟨w.heap.size, 0, none⟩) 1 1, .int .i64 1, .string ⟨#[103]⟩, .slice (some ⟨w.heap.size + 1, 0, none⟩) 2 2, .int .i64 2, .string ⟨#[104]⟩, .slice (some ⟨w.heap.size + 2, 0, none⟩) 1 1, .int .i64 0] 59 w3
  rw [s3, ← h4] at b4
  have hb : Below w.heap.size w w4 := by
    rw [h4, h3, h2, h1]
    exact (((bel_al w _).alloc (by simp) _).alloc (by simp; omega) _).alloc (by simp; omega) _
  have key : Dl [w.heap.size, w.heap.size + 1, w.heap.size + 2, w.heap.size + 3] w4 (w.heap.size + 3) := by
    intro i hi
    have hi' : i < 10 := hi
    match i, hi' with
    | 0, _ => exact ⟨_, _, b4.cell rfl, b4.cell rfl, b4.cell rfl, .inl rfl, fun _ => rfl⟩
    | 1, _ => exact ⟨_, _, b4.cell rfl, b4.cell rfl, b4.cell rfl, .inl rfl, fun _ => rfl⟩
    | 2, _ => exact ⟨_, _, b4.cell rfl, b4.cell rfl, b4.cell rfl, .inl rfl, fun _ => rfl⟩
    | 3, _ => exact ⟨_, _, b4.cell rfl, b4.cell rfl, b4.cell rfl, .inl rfl, fun _ => rfl⟩
    | 4, _ => exact ⟨_, _, b4.cell rfl, b4.cell rfl, b4.cell rfl, .inl rfl, fun _ => rfl⟩
    | 5, _ => exact ⟨_, _, b4.cell rfl, b4.cell rfl, b4.cell rfl, .inl rfl, fun _ => rfl⟩
    | 6, _ => exact ⟨_, _, b4.cell rfl, b4.cell rfl, b4.cell rfl, .inl rfl, fun _ => rfl⟩
    | 7, _ =>
      refine ⟨_, _, b4.cell rfl, b4.cell rfl, b4.cell rfl, .inr ⟨_, _, rfl, by simp, fun j hj => ?_⟩, fun h => by cases h⟩
      have : j = 0 := by have : j < 1 := hj; omega
      subst this
      exact b1.cell rfl
    | 8, _ =>
      refine ⟨_, _, b4.cell rfl, b4.cell rfl, b4.cell rfl, .inr ⟨_, _, rfl, by simp, fun j hj => ?_⟩, fun h => by cases h⟩
      have : j = 0 ∨ j = 1 := by have : j < 2 := hj; omega
      rcases this with rfl | rfl
      · exact b2.cell rfl
      · exact b2.cell rfl
    | 9, _ =>
      refine ⟨_, _, b4.cell rfl, b4.cell rfl, b4.cell rfl, .inr ⟨_, _, rfl, by simp, fun j hj => ?_⟩, fun h => by cases h⟩
      have : j = 0 := by have : j < 1 := hj; omega
      subst this
      exact b3.cell rfl
  have hend := hide (And.intro key (And.intro (show w.heap.size + 3 < w4.heap.size by omega) hb))
  rw [h4, h3, h2, h1] at hend
  clear key hb b1 b2 b3 b4 s1 s2 s3 s4 h1 h2 h3 h4
  go_enter Tryz.func22, Tryz.ntmps22
  go_wp2
  go_ret
  exact ⟨rfl, hend.out⟩

set_option maxHeartbeats 8000000 in
theorem tables_t (w : World) : Calls Tryz.prog 27 #[] w fun e w' => ∃ q z, e = .returned (.tuple #[.pointer (some ⟨q, 0, none⟩), .pointer (some ⟨z, 0, none⟩)]) ∧ Tt [] w.heap.size w w' q 0 so0 (fuN 10) dcl [] := by
  obtain ⟨B, hB⟩ : ∃ B, B = w.heap.size := ⟨_, rfl⟩
  have c0 : Calls Tryz.prog 19 #[] w fun e w' => e = .returned (.pointer (some ⟨w.heap.size, 0, none⟩)) ∧ Jd [] w.heap.size w (w'.alloc (.cells #[.slice none 0 0, .slice none 0 0, .slice none 0 0] 49)) w.heap.size w'.heap.size 0 [] [] [] [] [] [w.heap.size] :=
    (new_any (X := []) w (by simp)).mono fun e w' ⟨he, h1, h2⟩ => ⟨he, Jd.start h1 (Nat.le_refl _) h2⟩
  rw [← hB] at c0 ⊢
  replace c0 := hide c0
  clear hB
  have c1 : ∀ (p r : Nat) (T : List Nat) (W : World), Jd [] B w W p r 0 [] [] [] [] [] T → Calls Tryz.prog 20 #[.pointer (some ⟨p, 0, none⟩), .string ⟨#[85]⟩] W fun e w' => (∃ v, e = .returned v) ∧ ∃ T', Jd [] B w w' p r 1 so0 [] [] [] [] T' := fun p r T W h =>
    (sort_yes p T 0 0 [] [] [] ⟨#[85]⟩ W h.tb (by decide) (by decide) (by decide)).mono fun e w' ⟨he, T', t1, t2, t3⟩ => ⟨⟨_, he⟩, T', (h.code t1 t2 t3).1⟩
  have c2 : ∀ (p r : Nat) (T : List Nat) (W : World), Jd [] B w W p r 1 so0 [] [] [] [] T → Calls Tryz.prog 21 #[.pointer (some ⟨r, 0, none⟩), .string ⟨#[85]⟩] W fun e w' => (∃ v, e = .returned v) ∧ Jd [] B w w' p r 1 so0 [] [] [nmU] [] T := fun p r T W h => by
    obtain ⟨AN, cN, AF, cF, vL, hr⟩ := h.rf
    exact (ref_sort (so := []) hr h.tb.lt (by decide) ⟨#[85]⟩ (by decide) (by decide)).mono fun e w' ⟨he, ⟨AN', cN', h1⟩, h2⟩ => ⟨⟨_, he⟩, (h.ref ⟨AN', cN', AF, cF, vL, h1⟩ h2).1⟩
  have c3 : ∀ (p r : Nat) (T : List Nat) (W : World), Jd [] B w W p r 1 so0 [] [] [nmU] [] T → Calls Tryz.prog 22 #[] W fun e w' => e = .returned (.slice (some ⟨W.heap.size + 3, 0, none⟩) 10 10) ∧ ∃ G, W.heap.size + 3 ∈ G ∧ Dl G w' (W.heap.size + 3) ∧ Jd G B w w' p r 1 so0 [] [] [nmU] [] T := fun p r T W h =>
    (declared_t W).mono fun e w' ⟨he, h1, h2, h3⟩ => ⟨he, _, by simp, h1, h.turn h3 (fun b hb => by simp at hb; omega)⟩
  have c4 : ∀ (p r g i : Nat) (G T : List Nat) (W : World) (hi : i < dcl.length), Jd G B w W p r (1 + i) so0 (fuN i) (dcl.take i) [nmU] (dcl.take i) T → Dl G W g → g ∈ G → ∃ A c, W.cell? ⟨g, i * 3, none⟩ = some (.string dcl[i].nm) ∧ W.cell? ⟨g, i * 3 + 1, none⟩ = some (.slice A dcl[i].ar.length c) ∧ W.cell? ⟨g, i * 3 + 2, none⟩ = some (.int .i64 dcl[i].rs) ∧
      Calls Tryz.prog 23 #[.pointer (some ⟨p, 0, none⟩), .agg #[.string dcl[i].nm, .slice A dcl[i].ar.length c, .int .i64 dcl[i].rs]] W fun e w' => (∃ v, e = .returned v) ∧ ∃ T', Jd G B w w' p r (1 + i + 1) so0 (fuN (i + 1)) (dcl.take (i + 1)) [nmU] (dcl.take i) T' ∧ Dl G w' g := fun p r g i G T W hi h hD hg => by
    obtain ⟨A, c, k0, k1, k2, k3, k4⟩ := hD i hi
    obtain ⟨q1, q2, q3, q4, q5⟩ := dcl_at hi
    have hX : ∀ b ∈ G, b < W.heap.size ∧ b ∉ T := fun b hb => h.tb.xs b (List.mem_cons_of_mem _ hb)
    refine ⟨A, c, k0, k1, k2, (fun_yes p T (1 + i) 0 so0 (fuN i) (dcl.take i) dcl[i].nm A dcl[i].ar c dcl[i].rs W h.tb (k3.ir hX) q1 q2 (Nat.le_trans (Nat.le_of_eq q4) (by decide)) (by rw [dcl_len] at hi; omega) (by unfold fuN; rw [List.length_map, List.length_take]; rw [dcl_len] at *; omega)).mono fun e w' ⟨he, T', t1, t2, t3⟩ => ?_⟩
    obtain ⟨J, S⟩ := h.code t1 t2 t3
    rw [fuN_next hi, take_next hi]
    exact ⟨⟨_, he⟩, T', J, hD.same hg S⟩
  have c5 : ∀ (p r g i : Nat) (G T : List Nat) (W : World) (hi : i < dcl.length), Jd G B w W p r (1 + i + 1) so0 (fuN (i + 1)) (dcl.take (i + 1)) [nmU] (dcl.take i) T → Dl G W g → g ∈ G → ∃ A c, W.cell? ⟨g, i * 3, none⟩ = some (.string dcl[i].nm) ∧ W.cell? ⟨g, i * 3 + 1, none⟩ = some (.slice A dcl[i].ar.length c) ∧ W.cell? ⟨g, i * 3 + 2, none⟩ = some (.int .i64 dcl[i].rs) ∧
      Calls Tryz.prog 24 #[.pointer (some ⟨r, 0, none⟩), .agg #[.string dcl[i].nm, .slice A dcl[i].ar.length c, .int .i64 dcl[i].rs]] W fun e w' => (∃ v, e = .returned v) ∧ Jd G B w w' p r (1 + (i + 1)) so0 (fuN (i + 1)) (dcl.take (i + 1)) [nmU] (dcl.take (i + 1)) T ∧ Dl G w' g := fun p r g i G T W hi h hD hg => by
    obtain ⟨A, c, k0, k1, k2, k3, k4⟩ := hD i hi
    obtain ⟨q1, q2, q3, q4, q5⟩ := dcl_at hi
    obtain ⟨AN, cN, AF, cF, vL, hr⟩ := h.rf
    have hX : ∀ b ∈ G, b < W.heap.size ∧ b ∉ ([] : List Nat) := fun b hb => ⟨(h.tb.xs b (List.mem_cons_of_mem _ hb)).1, by simp⟩
    refine ⟨A, c, k0, k1, k2, (ref_fun hr h.tb.lt (by decide) (by rw [List.length_take]; rw [dcl_len] at *; omega) dcl[i].nm A dcl[i].ar c dcl[i].rs (k3.ir hX) k4 (Nat.le_trans (Nat.le_of_eq q4) (by decide)) q3 q5 q2).mono fun e w' ⟨he, ⟨AF', cF', h1⟩, h2⟩ => ?_⟩
    obtain ⟨J, S⟩ := h.ref ⟨AN, cN, AF', cF', vL, h1⟩ h2
    have J' : Jd G B w w' p r (1 + i + 1) so0 (fuN (i + 1)) (dcl.take (i + 1)) [nmU] (dcl.take i ++ [dcl[i]]) T := J
    rw [← take_next hi] at J'
    exact ⟨⟨_, he⟩, by rw [← Nat.add_assoc]; exact J', hD.same hg S⟩
  have c6 : ∀ (p r : Nat) (G T : List Nat) (W : World), Jd G B w W p r 11 so0 (fuN 10) (dcl.take 10) [nmU] (dcl.take 10) T → Calls Tryz.prog 54 #[.pointer (some ⟨p, 0, none⟩)] W fun e w' => ∃ q, e = .returned (.pointer (some ⟨q, 0, none⟩)) ∧ ∀ o, Tt [] B w (w'.alloc o) q 0 so0 (fuN 10) dcl [] := fun p r G T W h =>
    (tt_new (h.tw (by decide))).mono fun e w' ⟨he, h1, h2⟩ => ⟨_, he, fun o => (h1.less (Y := []) (by simp)).al o⟩
  replace c1 := hide c1; replace c2 := hide c2; replace c3 := hide c3; replace c4 := hide c4; replace c5 := hide c5; replace c6 := hide c6
  go_enter Tryz.func27, Tryz.ntmps27
  go_wp2_with (first
    | (go_at_call 19; (with_reducible refine c0.out.mono ?_); rintro e w1 ⟨rfl, J1⟩; replace J1 := hide J1)
    | (go_at_call 20; (with_reducible refine (c1.out _ _ _ _ J1.out).mono ?_); rintro e w2 ⟨⟨v2, rfl⟩, T2, J2⟩; replace J2 := hide J2)
    | (go_at_call 21; (with_reducible refine (c2.out _ _ _ _ J2.out).mono ?_); rintro e w3 ⟨⟨v3, rfl⟩, J3⟩; replace J3 := hide J3)
    | (go_at_call 22; (with_reducible refine (c3.out _ _ _ _ J3.out).mono ?_); rintro e w4 ⟨rfl, G, hG, D4, J4⟩; replace J4 := hide J4; replace D4 := hide D4; replace hG := hide hG))
  generalize w3.heap.size + 3 = g at *
  generalize w1.heap.size = r at *
  go_loopw [5] (fun ii wr => ∃ (i : Nat) (T : List Nat), i ≤ 10 ∧ ii = .int .i64 (i : Int) ∧ Jd G B w wr B r (1 + i) so0 (fuN i) (dcl.take i) [nmU] (dcl.take i) T ∧ Dl G wr g) (fun ii _ => 10 - (intOf ii).toNat)
  case atStart => exact ⟨0, _, Nat.zero_le _, rfl, J4.out, D4.out⟩
  case round =>
    obtain ⟨i, T, hi, rfl, J, D⟩ := hrel
    by_cases hlt : i < 10
    · obtain ⟨A, c, k0, k1, k2, hf1⟩ := c4.out _ _ _ _ _ _ _ hlt J D hG.out
      replace J := hide J
      replace D := hide D
      replace hf1 := hide hf1
      have hid : i < dcl.length := hlt
      generalize hdn : dcl[i].nm = nm at *
      generalize hda : dcl[i].ar.length = an at *
      generalize hdr : dcl[i].rs = rs at *
      replace hdn := hide hdn; replace hda := hide hda; replace hdr := hide hdr
      go_wp2_with (first
        | (go_at_call 23; (with_reducible refine (hf1.out).mono ?_); rintro e w5 ⟨⟨v5, rfl⟩, T5, J5, D5⟩; obtain ⟨A6, c6', y0, y1, y2, hf2⟩ := c5.out _ _ _ _ _ _ _ hid J5 D5 hG.out; rw [hdn.out] at y0 hf2; rw [hda.out] at y1 hf2; rw [hdr.out] at y2 hf2; replace hf2 := hide hf2; replace J5 := hide J5; replace D5 := hide D5)
        | (go_at_call 24; (with_reducible refine (hf2.out).mono ?_); rintro e w6 ⟨⟨v6, rfl⟩, J6, D6⟩; replace J6 := hide J6; replace D6 := hide D6))
      go_roundw
      case rel => exact ⟨i + 1, T5, hlt, rfl, J6.out, D6.out⟩
      case measure => simp only [intOf]; omega
    · have hi10 : i = 10 := by omega
      subst hi10
      replace J := hide J
      replace D := hide D
      go_wp2_with (go_at_call 54; (with_reducible refine (c6.out _ _ _ _ _ J.out).mono ?_); rintro e w7 ⟨q, rfl, hT⟩; replace hT := hide hT)
      go_ret2
      exact ⟨q, _, rfl, hT.out _⟩

section
variable {X : List Nat} {B0 : Nat} {w0 w : World} {q N : Nat} {so fu : List (ByteArray × Nat)} {ty : List Fn} {ns : List Nd}
theorem mk_con (h : Tt X B0 w0 w q N so fu ty ns) (hN : N ≤ 100000) (s : ByteArray) (hs : s.size ≤ 200) (i : Nat) (hi : i < ty.length) (hx : ty[i].nm = s) (h0 : ty[i].ar = []) (hr : 0 ≤ ty[i].rs ∧ ty[i].rs ≤ 100000000) (hlen : ns.length < 16384) (hnew : ∀ m ∈ ns, kvl m ≠ kvl ⟨12, s, false, [], [], [], ty[i].rs, 0⟩) :
    Calls Tryz.prog 28 (mkArgs q 12 s false none 0 0 none 0 0 none 0 0) w fun ee w' => ee = .returned (.tuple #[.int .i64 (ns.length : Int), .int .i64 0]) ∧ Tt X B0 w0 w' q (N + 1) so fu ty (ns ++ [⟨12, s, false, [], [], [], ty[i].rs, 0⟩]) ∧ Same X w w' := by
  obtain ⟨A, c, hv⟩ := tt_vw (h.al (.cells #[.bool false, .slice none 0 0, .slice none 0 0] 28)) (by omega)
  have hw := wf_app _ q c A ns.length hv.sl s none none 0 0 none [] 0 [] (.inl rfl) (by decide)
  refine (mk_put (R := fun W w' => Tt X B0 w0 w' q (N + 1) so fu ty (ns ++ [⟨12, s, false, [], [], [], ty[i].rs, 0⟩]) ∧ Same X W w') hw ty[i].rs (fun W hb => ?_) (ns.length : Int) 0 (fun W hb => ?_)).mono fun ee w' ⟨he, W, hb, k1, k2⟩ => ⟨he, k1, (Same.of_below hb (fun b hb => h.lt hb)).trans k2⟩
  · refine (sorted_app_t ?_)
    exact app_t (h.next hb) s (by unfold maxLen; omega) i hi (by rw [hx]) h0 none 0
  · exact tt_put (h.next hb) 12 s false [] [] [] _ none none none 0 0 0 .nil .nil .nil (by simp) (by simp) ⟨(show (1 : Int) ≤ 12 ∧ (12 : Int) ≤ 20 from by decide), hs, by simp, by simp, by simp, hr, (show 0 ≤ wOf ns 12 [] [] ∧ wOf ns 12 [] [] ≤ 2 from by rw [show wOf ns 12 [] [] = 0 from rfl]; decide)⟩ (by simp) hnew hN hlen (by decide)

set_option maxHeartbeats 1000000 in
theorem mk_num (h : Tt X B0 w0 w q N so fu ty ns) (hN : N ≤ 100000) (hns : ns ≠ []) (p : Pt) (hp : p.Ok) (aP : p.At w) (hlen : ns.length < 16384) (hnew : ∀ m ∈ ns, kvl m ≠ kvl ⟨11, ⟨#[]⟩, p.s, p.xs, p.ys, [], 1, 0⟩) :
    Calls Tryz.prog 28 (mkArgs q 11 ⟨#[]⟩ p.s p.A p.xs.length p.a p.B p.ys.length p.b none 0 0) w fun ee w' => ee = .returned (.tuple #[.int .i64 (ns.length : Int), .int .i64 0]) ∧ Tt X B0 w0 w' q (N + 1) so fu ty (ns ++ [⟨11, ⟨#[]⟩, p.s, p.xs, p.ys, [], 1, wOf ns 11 p.xs []⟩]) ∧ Same X w w' := by
  have hv := hp.valid
  unfold Pt.ok at hv
  have fw := hp.few
  have fx : p.xs.length ≤ 64 := by rw [hp.x]; exact hp.f.1
  have fy : p.ys.length ≤ 64 := by rw [hp.y]; exact hp.f.2
  have lx : ∀ x ∈ p.xs, x < 18446744073709551616 := fun x hx => by have := fw.lx x hx; rwa [LB_eq] at this
  have ly : ∀ x ∈ p.ys, x < 18446744073709551616 := fun x hx => by have := fw.ly x hx; rwa [LB_eq] at this
  obtain ⟨A0, cc, hvw⟩ := tt_vw (h.al (.cells #[.bool p.s, .slice p.A p.xs.length p.a, .slice p.B p.ys.length p.b] 28)) (by omega)
  have hw := wf_num _ q cc A0 ns.length hvw.sl p.s p.xs p.ys p.A p.B p.a p.b (aP.1.alloc _) (aP.2.alloc _) fw.lx fw.ly fx fy hv none [] 0 [] (.inl rfl) (by decide)
  refine (mk_put (R := fun W' w' => Tt X B0 w0 w' q (N + 1) so fu ty (ns ++ [⟨11, ⟨#[]⟩, p.s, p.xs, p.ys, [], 1, wOf ns 11 p.xs []⟩]) ∧ Same X W' w') hw 1 (fun W' hb' => ?_) (ns.length : Int) 0 (fun W' hb' => ?_)).mono fun ee w' ⟨he, W', hb', k1, k2⟩ => ⟨he, k1, (Same.of_below hb' (fun b hb => h.lt hb)).trans k2⟩
  · exact op_so h hN 11 (by decide) (by decide) (by decide) ⟨#[]⟩ none [] 0 (.inl rfl) (by decide) (by decide) (by decide) (by simp) W' hb'
  · have hwf : 0 ≤ wOf ns 11 p.xs [] ∧ wOf ns 11 p.xs [] ≤ 2 := by
      unfold wOf
      rw [if_pos rfl]
      split <;> decide
    exact tt_putS (h.next hb') hns 11 ⟨#[]⟩ p.s p.xs p.ys [] 1 p.A p.B none p.a p.b 0 (Rw.of_sl (kp' hb' aP.1) (by simp)) (Rw.of_sl (kp' hb' aP.2) (by simp)) .nil lx ly ⟨(show (1 : Int) ≤ 11 ∧ (11 : Int) ≤ 20 from by decide), (show (⟨#[]⟩ : ByteArray).size ≤ 200 from by decide), fx, fy, by simp, (show (0 : Int) ≤ 1 ∧ (1 : Int) ≤ 100000000 from by decide), hwf⟩ (by simp) hnew hN hlen (by decide)

set_option maxHeartbeats 2000000 in
theorem app1_t (h : Tt X B0 w0 w q N so fu ty ns) (hN : N ≤ 100000) (s : ByteArray) (hs : s.size ≤ maxLen) (i : Nat) (hi : i < ty.length) (hx : ty[i].nm.data.toList = s.data.toList) (r : Int) (h0 : ty[i].ar = [r]) (C : Option Addr) (a : Int) (e : Nat) (hC : Ir [] w C [a]) (ha : 0 ≤ a ∧ a < (ns.length : Int)) (hr : soAt ns a = r) :
    Calls Tryz.prog 79 #[.pointer (some ⟨q, 0, none⟩), .string s, .slice C 1 e] w fun ee w' => ee = .returned (.tuple #[.int .i64 ty[i].rs, .bool true]) ∧ Below w.heap.size w w' := by
  obtain ⟨A9, c9, hv⟩ := tt_vw h (by omega)
  obtain ⟨p, T, v, m1, m2, h1, h2, h3⟩ := h
  have hf := tw_find h2 s hs (by decide) i hi hx
  rw [h0] at hf
  have a0 : w.cell? ⟨q, 0, none⟩ = some (.pointer (some ⟨p, 0, none⟩)) := h1.bk.cell rfl
  generalize ty[i].nm = nmi at *
  generalize ty[i].rs = rs at *
  obtain ⟨g, j, rfl, rfl, hj, hso, _⟩ := hv.get ha.1 ha.2
  rw [hr] at hso
  have a1 := hv.sl
  rcases hC with hC | ⟨bc, oc, rfl, _, _, hC⟩
  · cases hC
  have k0 : w.cell? ⟨bc, oc + 0, none⟩ = some (.int .i64 (j : Int)) := hC 0 (by simp)
  rw [Nat.add_zero] at k0
  have hle := hv.le
  have hst : ∀ (w1 : World) (A1 : Option Addr) (c1 : Nat), (∀ S : List Nat, (∀ b ∈ S, b < w.heap.size) → Ir S w1 A1 [r]) → Below w.heap.size w w1 → ∃ b o, A1 = some ⟨b, o, none⟩ ∧ Below w.heap.size w (w1.alloc (.cells #[.string nmi, .slice A1 1 c1, .int .i64 rs] 59)) ∧
      (w1.alloc (.cells #[.string nmi, .slice A1 1 c1, .int .i64 rs] 59)).cell? ⟨b, o, none⟩ = some (.int .i64 r) ∧ (w1.alloc (.cells #[.string nmi, .slice A1 1 c1, .int .i64 rs] 59)).cell? ⟨q, 1, none⟩ = some (.slice (some ⟨g, 0, none⟩) ns.length c9) ∧
      (w1.alloc (.cells #[.string nmi, .slice A1 1 c1, .int .i64 rs] 59)).cell? ⟨g, j * 8 + 6, none⟩ = some (.int .i64 r) ∧ (w1.alloc (.cells #[.string nmi, .slice A1 1 c1, .int .i64 rs] 59)).cell? ⟨bc, oc, none⟩ = some (.int .i64 (j : Int)) ∧
      (w1.alloc (.cells #[.string nmi, .slice A1 1 c1, .int .i64 rs] 59)).cell? ⟨w1.heap.size, 1, none⟩ = some (.slice A1 1 c1) ∧ (w1.alloc (.cells #[.string nmi, .slice A1 1 c1, .int .i64 rs] 59)).cell? ⟨w1.heap.size, 2, none⟩ = some (.int .i64 rs) := fun w1 A1 c1 hI hb => by
    rcases hI [] (by simp) with h | ⟨b, o, rfl, _, _, hc⟩
    · cases h
    have hb2 : Below w.heap.size w (w1.alloc (.cells #[.string nmi, .slice (some ⟨b, o, none⟩) 1 c1, .int .i64 rs] 59)) := hb.trans ((bel_al w1 _).mono hb.size)
    have k := hc 0 (by simp)
    rw [Nat.add_zero] at k
    exact ⟨b, o, rfl, hb2, cell_next (bel_al w1 _) k, cell_next hb2 a1, cell_next hb2 hso, cell_next hb2 k0, (Bk.new _ _ w1).cell rfl, (Bk.new _ _ w1).cell rfl⟩
  clear h1 h2 h3 h0 hx hs hC hv hr hi ha
  generalize ns.length = n at *
  replace hf := hide hf
  replace hst := hide hst
  clear a1 hso k0
  have hjn : (j : Int) < (n : Int) := by omega
  go_enter Tryz.func79, Tryz.ntmps79
  go_wp2_with (go_at_call 102; (with_reducible refine hf.out.mono ?_); rintro ee w1 ⟨A1, c1, rfl, hI, hb1⟩; obtain ⟨b1, o1, rfl, hb, y0, y1, y2, y3, y4, y5⟩ := hst.out w1 A1 c1 hI hb1; replace hb := hide hb; clear hI hb1)
  generalize w1.alloc (.cells #[.string nmi, .slice (some ⟨b1, o1, none⟩) 1 c1, .int .i64 rs] 59) = W2 at *
  go_loopw [33] (fun i wr => (i = .int .i64 0 ∨ i = .int .i64 1) ∧ ∃ nd, wr = W2.drewN nd) (fun i _ => 2 - (intOf i).toNat)
  case atStart => exact ⟨.inl rfl, 0, rfl⟩
  case round =>
    obtain ⟨rfl | rfl, nd, rfl⟩ := hrel
    · go_wp2
      go_quiet (fail)
      go_wp2
      go_roundw
      case rel => exact ⟨.inr rfl, _, by first | rfl | (rw [World.drewN_drewN])⟩
      case measure => simp [intOf]
    · go_wp2
      go_ret2
      exact ⟨rfl, hb.out.trans ((bel_dn W2 nd).mono hb.out.size)⟩
theorem mk_app1 (h : Tt X B0 w0 w q N so fu ty ns) (hN : N ≤ 100000) (s : ByteArray) (hs : s.size ≤ 200) (i : Nat) (hi : i < ty.length) (hx : ty[i].nm = s) (r : Int) (h0 : ty[i].ar = [r]) (hr : 0 ≤ ty[i].rs ∧ ty[i].rs ≤ 100000000) (C : Option Addr) (a : Int) (e : Nat) (hC : Rx X B0 w C (zs [a])) (ha : 0 ≤ a ∧ a < (ns.length : Int)) (hso : soAt ns a = r) (hlen : ns.length < 16384) (hnew : ∀ m ∈ ns, kvl m ≠ kvl ⟨12, s, false, [], [], [a], ty[i].rs, 0⟩) :
    Calls Tryz.prog 28 (mkArgs q 12 s false none 0 0 none 0 0 C 1 e) w fun ee w' => ee = .returned (.tuple #[.int .i64 (ns.length : Int), .int .i64 0]) ∧ Tt X B0 w0 w' q (N + 1) so fu ty (ns ++ [⟨12, s, false, [], [], [a], ty[i].rs, 0⟩]) ∧ Same X w w' := by
  obtain ⟨A, c, hv⟩ := tt_vw (h.al (.cells #[.bool false, .slice none 0 0, .slice none 0 0] 28)) (by omega)
  have hin : ∀ x ∈ ([a] : List Int), 0 ≤ x ∧ x < (ns.length : Int) := by intro x hx; simp at hx; subst hx; exact ha
  have hw := wf_app _ q c A ns.length hv.sl s none none 0 0 C [a] e [] (hC.ir.al _) (by simp)
  rw [hall_true hin] at hw
  refine (mk_put (R := fun W w' => Tt X B0 w0 w' q (N + 1) so fu ty (ns ++ [⟨12, s, false, [], [], [a], ty[i].rs, 0⟩]) ∧ Same X W w') hw ty[i].rs (fun W hb => ?_) (ns.length : Int) 0 (fun W hb => ?_)).mono fun ee w' ⟨he, W, hb, k1, k2⟩ => ⟨he, k1, (Same.of_below hb (fun b hb => h.lt hb)).trans k2⟩
  · refine (sorted_app_t ?_)
    exact app1_t (h.next hb) hN s (by unfold maxLen; omega) i hi (by rw [hx]) r h0 C a e (hC.ir.off (T' := []) (Off.of_below hb []) (by simp) (by simp)) ha hso
  · exact tt_put (h.next hb) 12 s false [] [] [a] _ none none C 0 0 e .nil .nil (hC.next hb) (by simp) (by simp) ⟨(show (1 : Int) ≤ 12 ∧ (12 : Int) ≤ 20 from by decide), hs, by simp, by simp, by simp, hr, (show 0 ≤ wOf ns 12 [] [a] ∧ wOf ns 12 [] [a] ≤ 2 from by rw [show wOf ns 12 [] [a] = 0 from rfl]; decide)⟩ hin hnew hN hlen (fun h => absurd h (by decide))
end
end Nt
end Go.Proofs.YthabfakbdfaciaaGreat
end
section
namespace Go.Proofs.YthabfakbdfaciaaGreat
open Go.ChangeShapes Go.RowKit
namespace Nt
set_option maxRecDepth 100000
set_option linter.unusedSimpArgs false
set_option linter.unusedVariables false

theorem fitL {q : Rat} (h1 : qn q < LB) (h2 : qd q < LB) : fitq q := ⟨Nat.le_trans (ln_le (k := 1) (by rw [Nat.pow_one]; exact h1)) (by decide), Nat.le_trans (ln_le (k := 1) (by rw [Nat.pow_one]; exact h2)) (by decide)⟩
def cq (q : Rat) : CV := (1, false, (qs q, digs (qn q), digs (qd q)), 0)
theorem cq_of {r : Pt} {q : Rat} (h : r.Ok) (hq : r.q = q) : (nmV r).cn = cq q := by
  unfold Vl.cn nmV Pt.con cq
  dsimp only
  rw [h.s, h.x, h.y, hq]
theorem digs_inj' {a b : Nat} (h : digs a = digs b) : a = b := by rw [← val_digs a, ← val_digs b, h]
theorem of_cq {v : Vl} {q : Rat} (h : v.cn = cq q) (f : fitq q) : v.p.Ok ∧ v.p.q = q ∧ v.so = 1 ∧ v.bo = false ∧ v.el = 0 := by
  unfold Vl.cn cq Pt.con at h
  injection h with h1 h
  injection h with h2 h
  injection h with h3 h4
  injection h3 with h5 h3
  injection h3 with h6 h7
  have hq : v.p.q = q := by
    unfold Pt.q
    rw [h5, h6, h7, val_digs, val_digs, qmk_self]
  exact ⟨⟨by rw [hq]; exact h5, by rw [hq]; exact h6, by rw [hq]; exact h7, by rw [hq]; exact f⟩, hq, h1, h2, h4⟩
theorem cq_inj {q r : Rat} (h : cq q = cq r) : q = r := by
  unfold cq at h
  injection h with h1 h
  injection h with h2 h
  injection h with h3 h4
  injection h3 with h5 h3
  injection h3 with h6 h7
  rw [← qmk_self q, ← qmk_self r, h5, digs_inj' h6, digs_inj' h7]
theorem vsame_cq {a b : Vl} {q r : Rat} (ha : a.cn = cq q) (hb : b.cn = cq r) : vsame a b = decide (q = r) := by
  have h1 : a.so = 1 := congrArg (fun x => x.1) ha
  have h2 : b.so = 1 := congrArg (fun x => x.1) hb
  have h3 : a.p.con = (qs q, digs (qn q), digs (qd q)) := congrArg (fun x => x.2.2.1) ha
  have h4 : b.p.con = (qs r, digs (qn r), digs (qd r)) := congrArg (fun x => x.2.2.1) hb
  unfold vsame
  rw [h1, h2, h3, h4]
  simp only [decide_true, Bool.true_and]
  rw [if_neg (by decide), if_pos trivial]
  refine decide_eq_decide.2 ⟨fun h => ?_, fun h => by rw [h]⟩
  refine cq_inj ?_
  unfold cq
  rw [h]
theorem one_of {vs : List Vl} {x : CV} (h : vs.map Vl.cn = [x]) : ∃ a, vs = [a] ∧ a.cn = x := by
  match vs, h with
  | [a], h => exact ⟨a, rfl, by simpa using h⟩
theorem cons_of {vs : List Vl} {q : Rat} {l : List Rat} (h : vs.map (fun v => v.p.q) = q :: l) : ∃ a vs', vs = a :: vs' ∧ a.p.q = q ∧ vs'.map (fun v => v.p.q) = l := by
  match vs, h with
  | a :: vs', h => exact ⟨a, vs', rfl, by simpa using h⟩

section
variable {tbs : List Tr} {n : Nd}
theorem mt_con (h12 : n.op = 12) (hs : n.nm.size ≤ maxLen) (t : Tr) (ht : findT tbs n.nm.data.toList = some t) (hl : t.l = []) (c : CV) (hc : t.e.cn = c) : MadeTo tbs n [] c := by
  intro W g tm N An Bn Cn ka kb ke C kc vs hg hm hT hA hB hcs hC hf hk1 hk2
  obtain rfl : vs = [] := by simpa using hcs
  obtain ⟨aT, fT⟩ := hT t (findT_mem ht).1
  have h := made_app (so := n.so) (ng := n.ng) (An := An) (Bn := Bn) (Cn := Cn) (n1 := n.nu.length) (n2 := n.de.length) (n3 := n.ar.length) (ka := ka) (kb := kb) (ke := ke) hg hm hs t ht aT fT C kc [] hC hf (by simp)
  rw [hl, show applyL [] [] t.e = t.e from rfl, hc] at h
  unfold nv
  rw [h12]
  exact h
theorem mt_app1 (h12 : n.op = 12) (hs : n.nm.size ≤ maxLen) (t : Tr) (ht : findT tbs n.nm.data.toList = some t) (x c : CV) (hc : ∀ v : Vl, v.cn = x → (applyL t.l [v] t.e).cn = c) : MadeTo tbs n [x] c := by
  intro W g tm N An Bn Cn ka kb ke C kc vs hg hm hT hA hB hcs hC hf hk1 hk2
  obtain ⟨v, rfl, hv⟩ := one_of hcs
  obtain ⟨aT, fT⟩ := hT t (findT_mem ht).1
  have h := made_app (so := n.so) (ng := n.ng) (An := An) (Bn := Bn) (Cn := Cn) (n1 := n.nu.length) (n2 := n.de.length) (n3 := n.ar.length) (ka := ka) (kb := kb) (ke := ke) hg hm hs t ht aT fT C kc [v] hC hf (by simp)
  rw [hc v hv] at h
  unfold nv
  rw [h12]
  exact h
theorem mt_num (h11 : n.op = 11) (q : Rat) (f : fitq q) (hs : n.ng = qs q) (hx : n.nu = digs (qn q)) (hy : n.de = digs (qd q)) : MadeTo tbs n [] (cq q) := by
  intro W g tm N An Bn Cn ka kb ke C kc vs hg hm hT hA hB hcs hC hf hk1 hk2
  have h := made_num (so := n.so) (nm := n.nm) (ng := n.ng) (Cn := Cn) (n3 := n.ar.length) (ka := ka) (kb := kb) (ke := ke) hA hB (by rw [hx]; exact limbs_digs _) (by rw [hy]; exact limbs_digs _) (by rw [hx]; exact f.1) (by rw [hy]; exact f.2) g C vs.length kc rfl rfl
  unfold nv
  rw [h11]
  rw [show (1, false, (n.ng, n.nu, n.de), 0) = cq q by unfold cq; rw [hs, hx, hy]] at h
  exact h
theorem map_cq {vs : List Vl} {qs' : List Rat} (h : vs.map Vl.cn = qs'.map cq) (f : ∀ q ∈ qs', fitq q) : vs.map (fun v => v.p.q) = qs' ∧ ∀ v ∈ vs, v.p.Ok := by
  induction vs generalizing qs' with
  | nil =>
    have : qs' = [] := by simpa using h.symm
    subst this
    exact ⟨rfl, by simp⟩
  | cons v vs ih =>
    cases qs' with
    | nil => simp at h
    | cons q qs' =>
      simp only [List.map_cons, List.cons.injEq] at h
      obtain ⟨h1, h2⟩ := ih h.2 (fun q hq => f q (by simp [hq]))
      obtain ⟨k1, k2, _⟩ := of_cq h.1 (f q (by simp))
      refine ⟨by simp [h1, k2], fun u hu => ?_⟩
      rcases List.mem_cons.1 hu with rfl | hu
      · exact k1
      · exact h2 u hu
def gQ (op : Int) (q : Rat) (l : List Rat) : Rat := l.foldl (opQ op) q
theorem gQ_eq (op : Int) (q : Rat) (l : List Vl) : fQ op q l = gQ op q (l.map fun v => v.p.q) := by
  unfold fQ gQ
  rw [List.foldl_map]
theorem mt_reck (hop : n.op = 13 ∨ n.op = 14 ∨ n.op = 15 ∨ n.op = 16) (q : Rat) (l : List Rat) (n1 : 1 ≤ l.length) (nl : l.length ≤ 1000) (f : fitq q ∧ ∀ r ∈ l, fitq r) (hf : ∀ i ≤ l.length, fitq (gQ n.op q (l.take i))) (h0 : n.op = 16 → ∀ r ∈ l, r ≠ 0) : MadeTo tbs n ((q :: l).map cq) (cq (gQ n.op q l)) := by
  intro W g tm N An Bn Cn ka kb ke C kc vs hg hm hT hA hB hcs hC hfew hk1 hk2
  obtain ⟨k1, k2⟩ := map_cq hcs (by intro r hr; rcases List.mem_cons.1 hr with rfl | hr; exact f.1; exact f.2 r hr)
  obtain ⟨a, vs', rfl, k3⟩ := cons_of k1
  replace k1 := k3
  have hlen : vs'.length = l.length := by rw [← k1.2]; simp
  have hf' : ∀ i ≤ vs'.length, fitq (fQ n.op a.p.q (vs'.take i)) := fun i hi => by
    rw [gQ_eq, List.map_take, k1.1, k1.2]
    exact hf i (by omega)
  have hres : fQ n.op a.p.q vs' = gQ n.op q l := by rw [gQ_eq, k1.1, k1.2]
  have h := made_reck (so := n.so) (nm := n.nm) (ng := n.ng) (An := An) (Bn := Bn) (Cn := Cn) (n1 := n.nu.length) (n2 := n.de.length) (n3 := n.ar.length) (ka := ka) (kb := kb) (ke := ke) hop g C (vs'.length + 1) kc (gQ n.op q l) (fun W1 hb => by
    have hC1 := hC.next hb
    rw [← hres]
    rcases hop with e | e | e | e
    · rw [e] at hf' ⊢; exact reckoned13_v C kc a vs' W1 hC1 k2 (by omega) (by omega) hk1 hk2 hf'
    · rw [e] at hf' ⊢; exact reckoned14_v C kc a vs' W1 hC1 k2 (by omega) (by omega) hk1 hk2 hf'
    · rw [e] at hf' ⊢; exact reckoned15_v C kc a vs' W1 hC1 k2 (by omega) (by omega) hk1 hk2 hf'
    · have h0' := h0 e
      rw [e] at hf' ⊢
      exact reckoned16_v C kc a vs' W1 hC1 k2 (by omega) (by omega) hk1 hk2 hf' (fun v hv => h0' _ (by rw [← k1.2]; exact List.mem_map.2 ⟨v, hv, rfl⟩)))
  unfold nv
  exact h
end
end Nt
end Go.Proofs.YthabfakbdfaciaaGreat
end
