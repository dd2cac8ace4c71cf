
/-
  What the document fixes: awake, of the laws on terms.
  TermFresh: what each round leaves.
  TermFresh: the law.
  What the rows of terms have in common: the last step, an argument of ints, a world for the witness.
-/
import Derived.Test.YtfdeiejphlaokaaGreatDoorUo

import Derived.Test.YtfdeiejphlaokaaGreatDoorCards

import Derived.Test.YtfdeiejphlaokaaGreatDoorTie

import Derived.WalkKit

import Derived.ProofKit

import Derived.OpenShut

import Derived.Lay

import Derived.Stop.LaidErr

import Derived.Deep.DeepHandedRow

import Derived.Lib.LaidTab

import Derived.Lib.SmallJoins

import Derived.ReadAgain

import Derived.ChangeArms

import Derived.ChangeSame

import Derived.DataReads

import Derived.ChangeOld

namespace Go.Proofs.YtfdeiejphlaokaaGreatDoor

open Go.ChangeShapes Go.RowKit

namespace Nt
set_option maxRecDepth 100000
set_option linter.unusedSimpArgs false
set_option linter.unusedVariables false

theorem Nw.fresh {w w' : World} {A : Option Addr} {vs : List Value} (h : Nw w w' A vs) : vs = [] ∨ ∃ b o, A = some ⟨b, o, none⟩ ∧ w.heap.size ≤ b ∧ b < w'.heap.size ∧ ∀ j v, vs[j]? = some v → w'.cell? ⟨b, o + j, none⟩ = some v := by
  rcases h (List.range w.heap.size) (fun b hb => List.mem_range.1 hb) with h | ⟨b, o, e, h1, h2, h3⟩
  · exact .inl h
  · refine .inr ⟨b, o, e, ?_, h1, h3⟩
    rw [List.mem_range] at h2
    omega
theorem has_frs (k : Nat) (hk : k < 100) : hasB (fuN 10) (frs k) = false := by
  obtain ⟨z1, z2, z3⟩ := frs_size k hk
  have h1 : ∀ e ∈ fuN 10, e.1.data.toList.length = 1 := by decide
  unfold hasB
  rw [List.any_eq_false]
  intro e he
  have := h1 e he
  rw [frs_list]
  intro hc
  have hc := congrArg List.length (eq_of_beq hc)
  rw [this, List.length_cons] at hc
  omega

def nX : Nd := ⟨12, ⟨#[120]⟩, false, [], [], [], 1, 0⟩
def nT : Nd := ⟨11, ⟨#[]⟩, false, [2], [1], [], 1, 2⟩
def nM : Nd := ⟨15, ⟨#[]⟩, false, [], [], [1, 0], 1, 0⟩
def nF : Nd := ⟨12, frs 3, false, [], [], [], 2, 0⟩
theorem kv_ne {m n : Nd} (h : m.op ≠ n.op) : kvl m ≠ kvl n := fun e => by
  unfold kvl kcs at e
  injection e with e
  have := congrArg (fun a => a[0]?) e
  simp at this
  exact h this
theorem kv_name {m n : Nd} (h : m.nm ≠ n.nm) : kvl m ≠ kvl n := fun e => by
  unfold kvl kcs at e
  injection e with e
  have := congrArg (fun a => a[2]?) e
  simp at this
  exact h this
theorem kv_args {m n : Nd} (h : pk (m.ar.map Int.toNat) ≠ pk (n.ar.map Int.toNat)) : kvl m ≠ kvl n := fun e => by
  unfold kvl kcs at e
  injection e with e
  have := congrArg (fun a => a[6]?) e
  simp at this
  exact h this
theorem kv_num {m n : Nd} (h : pk m.nu ≠ pk n.nu) : kvl m ≠ kvl n := fun e => by
  unfold kvl kcs at e
  injection e with e
  have := congrArg (fun a => a[4]?) e
  simp at this
  exact h this

section

variable {X : List Nat} {B0 : Nat} {w0 w : World} {q N : Nat} {so fu : List (ByteArray × Nat)} {ty : List Fn} {ns : List Nd}
/-- A slice of two ints, just built. -/
theorem two_rx (w : World) (a b : Int) (h : B0 ≤ w.heap.size) : Rx (w.heap.size :: X) B0 (w.alloc (.cells #[.int .i64 a, .int .i64 b] 3)) (some ⟨w.heap.size, 0, none⟩) (zs [a, b]) := by
  have hB : Bk w.heap.size #[.int .i64 a, .int .i64 b] 3 (w.alloc (.cells #[.int .i64 a, .int .i64 b] 3)) := Bk.new _ _ _
  refine .inr ⟨_, _, rfl, .inl (by simp), hB.lt, fun j v hj => ?_⟩
  rw [Nat.zero_add]
  refine hB.cell ?_
  rw [← Array.getElem?_toList]
  exact hj
theorem one_rx (w : World) (a : Int) (h : B0 ≤ w.heap.size) : Rx (w.heap.size :: X) B0 (w.alloc (.cells #[.int .i64 a] 3)) (some ⟨w.heap.size, 0, none⟩) (zs [a]) := by
  have hB : Bk w.heap.size #[.int .i64 a] 3 (w.alloc (.cells #[.int .i64 a] 3)) := Bk.new _ _ _
  refine .inr ⟨_, _, rfl, .inl (by simp), hB.lt, fun j v hj => ?_⟩
  rw [Nat.zero_add]
  refine hB.cell ?_
  rw [← Array.getElem?_toList]
  exact hj
end

/-- What Node has told, and been laid. -/
structure Nz (W : World) (g b o e : Nat) : Prop where
  c0 : W.cell? ⟨g, 0, none⟩ = some (.int .i64 15)
  c3 : W.cell? ⟨g, 5, none⟩ = some (.slice (some ⟨b, o, none⟩) 2 e)
  r0 : W.cell? ⟨b, o, none⟩ = some (.int .i64 1)
  r1 : W.cell? ⟨b, o + 1, none⟩ = some (.int .i64 0)
theorem Nz.same {W W' : World} {g b o e : Nat} (h : Nz W g b o e) (hs : Same [g, b] W W') : Nz W' g b o e :=
  ⟨(World.cell?_of_block (hs g (by simp))).trans h.c0, (World.cell?_of_block (hs g (by simp))).trans h.c3, (World.cell?_of_block (hs b (by simp))).trans h.r0, (World.cell?_of_block (hs b (by simp))).trans h.r1⟩
theorem Nz.next {W W' : World} {g b o e : Nat} (h : Nz W g b o e) (hb : Below W.heap.size W W') : Nz W' g b o e :=
  h.same (Same.of_below hb (by intro x hx; simp at hx; rcases hx with rfl | rfl; exact cell_in h.c0; exact cell_in h.r0))
theorem Nz.ir {W : World} {g b o e : Nat} (h : Nz W g b o e) : Ir [] W (some ⟨b, o, none⟩) [1, 0] := by
  refine .inr ⟨b, o, rfl, cell_in h.r0, by simp, fun j hj => ?_⟩
  have : j = 0 ∨ j = 1 := by have : j < 2 := hj; omega
  rcases this with rfl | rfl
  · exact h.r0
  · exact h.r1
theorem bel_dn (w : World) (n : Nat) : Below w.heap.size w (w.drewN n) := ((Off.refl [] w).drewN n).below (Nat.le_refl _) (by simp)

set_option maxHeartbeats 16000000 in
theorem awake7 (w : World) : Calls Tryz.prog 6 #[] w fun e w' => e = .returned (.bool true) ∧ Below w.heap.size w w' := by
  have ht := tables_t w
  generalize hBd : w.heap.size = B at *
  replace hBd := hide hBd
  replace ht := hide ht
  -- x
  have cx : ∀ q W, Tt [] B w W q 0 so0 (fuN 10) dcl [] → Calls Tryz.prog 14 #[.pointer (some ⟨q, 0, none⟩), .string ⟨#[120]⟩] W fun e w' => e = .returned (.int .i64 0) ∧ Tt [] B w w' q 1 so0 (fuN 10) dcl [nX] := fun q W h =>
    (con_new h (by decide) ⟨#[120]⟩ (by decide) 0 (by decide) rfl rfl (by decide) (by decide) (by simp)).mono fun e w' ⟨he, h1, _⟩ => ⟨he, h1⟩
  have c2 : ∀ q W, Tt [] B w W q 1 so0 (fuN 10) dcl [nX] → Calls Tryz.prog 15 #[.pointer (some ⟨q, 0, none⟩), .int .i64 2] W fun e w' => e = .returned (.int .i64 1) ∧ Tt [] B w w' q 2 so0 (fuN 10) dcl [nX, nT] := fun q W h =>
    (num_new h (by decide) (by simp) 2 (by decide) (by decide) (by intro m hm; simp at hm; subst hm; exact kv_ne (by decide))).mono fun e w' ⟨he, h1, _⟩ => ⟨he, h1⟩
  have hin2 : ∀ a ∈ ([1, 0] : List Int), 0 ≤ a ∧ a < (([nX, nT] : List Nd).length : Int) := by decide
  have c3 : ∀ q W, Tt [] B w W q 2 so0 (fuN 10) dcl [nX, nT] → Calls Tryz.prog 16 (zArgs q 15 (some ⟨W.heap.size, 0, none⟩) 2 2) (W.alloc (.cells #[.int .i64 1, .int .i64 0] 3)) fun e w' => e = .returned (.tuple #[.int .i64 2, .int .i64 0]) ∧ Tt [] B w w' q 3 so0 (fuN 10) dcl [nX, nT, nM] := fun q W h =>
    (mk_op_new (h.alloc _) (by decide) 15 (by decide) (by decide) (by decide) (by decide) _ [1, 0] 2 (two_rx W 1 0 h.base) (by decide) (by decide) (by decide) hin2 (by decide) (by decide) (by decide) (by decide) (by decide) (by intro m hm; simp at hm; rcases hm with rfl | rfl <;> exact kv_ne (by decide))).mono fun e w' ⟨he, h1, _⟩ => ⟨he, h1.less (by simp)⟩
  have hin3 : ∀ a ∈ ([1, 0] : List Int), 0 ≤ a ∧ a < (([nX, nT, nM] : List Nd).length : Int) := by decide
  have hin4 : ∀ a ∈ ([0, 0] : List Int), 0 ≤ a ∧ a < (([nX, nT, nM] : List Nd).length : Int) := by decide
  have c4 : ∀ q W, Tt [] B w W q 3 so0 (fuN 10) dcl [nX, nT, nM] → Calls Tryz.prog 16 (zArgs q 15 (some ⟨W.heap.size, 0, none⟩) 2 2) (W.alloc (.cells #[.int .i64 1, .int .i64 0] 3)) fun e w' => e = .returned (.tuple #[.int .i64 2, .int .i64 0]) ∧ Tt [] B w w' q 3 so0 (fuN 10) dcl [nX, nT, nM] := fun q W h =>
    (mk_op_old (h.alloc _) (by decide) 15 (by decide) (by decide) (by decide) (by decide) _ [1, 0] 2 (two_rx W 1 0 h.base) (by decide) (by decide) (by decide) hin3 (by decide) (by decide) 2 (by decide) rfl).mono fun e w' ⟨he, h1⟩ => ⟨he, (h.al _).next h1⟩
  have c5 : ∀ op, (op = 15 ∨ op = 4) → ∀ q W, Tt [] B w W q 3 so0 (fuN 10) dcl [nX, nT, nM] → Calls Tryz.prog 16 (zArgs q op (some ⟨W.heap.size, 0, none⟩) 2 2) (W.alloc (.cells #[.int .i64 0, .int .i64 0] 3)) fun e w' => e = .returned (.tuple #[.int .i64 0, .int .i64 3]) ∧ Tt [] B w w' q 3 so0 (fuN 10) dcl [nX, nT, nM] := fun op hop q W h =>
    (mk_op_sort (h.alloc _) (by decide) op (by omega) (by omega) (by omega) (by omega) _ [0, 0] 2 (two_rx (X := []) W 0 0 h.base).ir (by decide) (by decide) (by decide) hin4 (by rcases hop with rfl | rfl <;> decide)).mono fun e w' ⟨he, h1⟩ => ⟨he, (h.al _).next h1⟩
  have c6 : ∀ q W, Tt [] B w W q 3 so0 (fuN 10) dcl [nX, nT, nM] → Calls Tryz.prog 16 (zArgs q 13 (some ⟨W.heap.size, 0, none⟩) 2 2) (W.alloc (.cells #[.int .i64 0, .int .i64 99] 3)) fun e w' => e = .returned (.tuple #[.int .i64 0, .int .i64 1]) ∧ Tt [] B w w' q 3 so0 (fuN 10) dcl [nX, nT, nM] := fun q W h =>
    (mk_op_arg (h.alloc _) (by decide) 13 (by decide) (by decide) (by decide) (by decide) _ [0, 99] 2 (two_rx (X := []) W 0 99 h.base).ir (by decide) (by decide)).mono fun e w' ⟨he, h1⟩ => ⟨he, (h.al _).next h1⟩
  have c7 : ∀ q W, Tt [] B w W q 3 so0 (fuN 10) dcl [nX, nT, nM] → Calls Tryz.prog 11 #[.pointer (some ⟨q, 0, none⟩), .int .i64 2] W fun e w' => ∃ A c B' d b o e', e = .returned (.tuple #[.agg #[.int .i64 15, .string ⟨#[]⟩, .bool false, .slice A 0 c, .slice B' 0 d, .slice (some ⟨b, o, none⟩) 2 e', .int .i64 1], .bool true]) ∧
      Tt [w'.heap.size, b] B w (w'.alloc (.cells #[.int .i64 15, .string ⟨#[]⟩, .bool false, .slice A 0 c, .slice B' 0 d, .slice (some ⟨b, o, none⟩) 2 e', .int .i64 1] 38)) q 3 so0 (fuN 10) dcl [nX, nT, nM] ∧
      Nz (w'.alloc (.cells #[.int .i64 15, .string ⟨#[]⟩, .bool false, .slice A 0 c, .slice B' 0 d, .slice (some ⟨b, o, none⟩) 2 e', .int .i64 1] 38)) w'.heap.size b o e' := fun q W h => by
    refine (node_t h (by decide) 2 (by decide)).mono fun e w' ⟨A, c, B', d, C, e', he, _, _, h3, hb⟩ => ?_
    rcases h3.fresh with h0 | ⟨b, o, rfl, h1, h2, hc⟩
    · exact absurd h0 (by decide)
    have hb2 := hb.trans ((bel_al w' (.cells #[.int .i64 15, .string ⟨#[]⟩, .bool false, .slice A 0 c, .slice B' 0 d, .slice (some ⟨b, o, none⟩) 2 e', .int .i64 1] 38)).mono hb.size)
    have hN : Bk w'.heap.size #[.int .i64 15, .string ⟨#[]⟩, .bool false, .slice A 0 c, .slice B' 0 d, .slice (some ⟨b, o, none⟩) 2 e', .int .i64 1] 38 (w'.alloc (.cells #[.int .i64 15, .string ⟨#[]⟩, .bool false, .slice A 0 c, .slice B' 0 d, .slice (some ⟨b, o, none⟩) 2 e', .int .i64 1] 38)) := Bk.new _ _ _
    have hr0 : w'.cell? ⟨b, o, none⟩ = some (.int .i64 1) := hc 0 _ rfl
    have hr1 : w'.cell? ⟨b, o + 1, none⟩ = some (.int .i64 0) := hc 1 _ rfl
    refine ⟨A, c, B', d, b, o, e', he, h.turn hb2 (fun x hx => ?_), ⟨hN.cell rfl, hN.cell rfl, cell_al hr0 _, cell_al hr1 _⟩⟩
    simp at hx
    rcases hx with rfl | rfl
    · exact ⟨.inr hb.size, by simp⟩
    · exact ⟨.inr h1, by simp; omega⟩
  have c8 : ∀ Y q W, Tt Y B w W q 3 so0 (fuN 10) dcl [nX, nT, nM] → Calls Tryz.prog 17 #[.pointer (some ⟨q, 0, none⟩), .int .i64 2] W fun e w' => e = .returned (.tuple #[.int .i64 1, .bool true]) ∧ W = w' := fun Y q W h => sort_t h (by decide) 2 (by decide)
  have c9 : ∀ Y q W, Tt Y B w W q 3 so0 (fuN 10) dcl [nX, nT, nM] → Calls Tryz.prog 10 #[.pointer (some ⟨q, 0, none⟩), .int .i64 2] W fun e w' => e = .returned (.tuple #[.int .i64 3, .int .i64 0]) ∧ Tt Y B w w' q 4 so0 (fuN 10) dcl [nX, nT, nM, nF] ∧ Same Y W w' := fun Y q W h => by
    have hx : (frs 3).data.toList ≠ [120] := by
      rw [frs_list]
      intro hc
      have := congrArg List.head? hc
      simp at this
    have hne : ∀ m ∈ ([nX, nT, nM] : List Nd), m.op = 12 → m.nm.data.toList ≠ (frs 3).data.toList := by
      intro m hm
      simp at hm
      rcases hm with rfl | rfl | rfl
      · intro _ h; exact hx h.symm
      · intro h; cases h
      · intro h; cases h
    refine fresh_t h 2 (by decide) (by decide) (by decide) (by decide) ?_ (has_frs 3 (by decide)) (fun m hm => ?_)
    · unfold usedB
      rw [List.any_eq_false]
      intro m hm
      simp only [Bool.and_eq_true, beq_iff_eq, not_and]
      intro h12 he
      exact hne m hm h12 he
    · by_cases h12 : m.op = 12
      · exact kv_name (fun e => hne m hm h12 (by rw [e]; rfl))
      · exact kv_ne h12
  have c10 : ∀ Y q W, Tt Y B w W q 4 so0 (fuN 10) dcl [nX, nT, nM, nF] → Calls Tryz.prog 10 #[.pointer (some ⟨q, 0, none⟩), .int .i64 9] W fun e w' => e = .returned (.tuple #[.int .i64 0, .int .i64 1]) ∧ W = w' := fun Y q W h => fresh_no h 9 (by decide)
  have c11 : ∀ W g b o e, Nz W g b o e → Calls Tryz.prog 12 #[.slice (some ⟨b, o, none⟩) 2 e, .slice (some ⟨W.heap.size, 0, none⟩) 2 2] (W.alloc (.cells #[.int .i64 1, .int .i64 0] 3)) fun e w' => e = .returned (.bool true) ∧ ∃ n, w' = (W.alloc (.cells #[.int .i64 1, .int .i64 0] 3)).drewN n := fun W g b o e h =>
    ints_any (some ⟨b, o, none⟩) (some ⟨W.heap.size, 0, none⟩) [1, 0] [1, 0] e 2 [] [] _ (h.ir.al _) (two_rx (X := []) (B0 := 0) W 1 0 (Nat.zero_le _)).ir (by decide) (by decide)
  have c12 : ∀ Y q W, Tt Y B w W q 4 so0 (fuN 10) dcl [nX, nT, nM, nF] → Calls Tryz.prog 13 #[.pointer (some ⟨q, 0, none⟩), .int .i64 2] W fun e w' => ∃ A c, e = .returned (.slice A 1 c) ∧ Ir [] w' A [0] ∧ Below W.heap.size W w' := fun Y q W h =>
    (vars_t h (by decide) 2 (by decide) (by decide)).mono fun e w' ⟨A, c, he, h1, h2⟩ => ⟨A, c, he, (h1 [] (by simp)).ir, h2⟩
  have c13 : ∀ W A c, Ir [] W A [0] → Calls Tryz.prog 12 #[.slice A 1 c, .slice (some ⟨W.heap.size, 0, none⟩) 1 1] (W.alloc (.cells #[.int .i64 0] 3)) fun e w' => e = .returned (.bool true) ∧ ∃ n, w' = (W.alloc (.cells #[.int .i64 0] 3)).drewN n := fun W A c h =>
    ints_any A (some ⟨W.heap.size, 0, none⟩) [0] [0] c 1 [] [] _ (h.al _) (one_rx (X := []) (B0 := 0) W 0 (Nat.zero_le _)).ir (by decide) (by decide)
  have c14 : ∀ Y q W, Tt Y B w W q 4 so0 (fuN 10) dcl [nX, nT, nM, nF] → Calls Tryz.prog 9 #[.pointer (some ⟨q, 0, none⟩)] W fun e w' => e = .returned (.int .i64 4) ∧ W = w' := fun Y q W h => tt_len h (by decide)
  have c15 := fun W => len_tnil W
  unfold zArgs mkArgs at c3 c4 c5 c6
  have c5a := c5 15 (.inl rfl)
  have c5b := c5 4 (.inr rfl)
  replace cx := hide cx; replace c2 := hide c2; replace c3 := hide c3; replace c4 := hide c4; replace c5a := hide c5a; replace c5b := hide c5b; replace c6 := hide c6; replace c7 := hide c7; replace c8 := hide c8; replace c9 := hide c9; replace c10 := hide c10; replace c11 := hide c11; replace c12 := hide c12; replace c13 := hide c13; replace c14 := hide c14; replace c15 := hide c15
  clear c5 hin2 hin3 hin4
  go_enter Tryz.func6, Tryz.ntmps6
  go_wp2_with (first
    | (go_at_call 7; (with_reducible refine ht.out.mono ?_); rintro e w1 ⟨q, z, rfl, T1⟩; replace T1 := hide T1)
    | (go_at_call 14; (with_reducible refine (cx.out _ _ T1.out).mono ?_); rintro e w2 ⟨rfl, T2⟩; replace T2 := hide T2; clear T1)
    | (go_at_call 15; (with_reducible refine (c2.out _ _ T2.out).mono ?_); rintro e w3 ⟨rfl, T3⟩; replace T3 := hide T3; clear T2)
    | (go_at_call 16; (with_reducible refine (c3.out _ _ T3.out).mono ?_); rintro e w4 ⟨rfl, T4⟩; replace T4 := hide T4; clear T3)
    | (go_at_call 16; (with_reducible refine (c4.out _ _ T4.out).mono ?_); rintro e w5 ⟨rfl, T5⟩; replace T5 := hide T5; clear T4)
    | (go_at_call 16; (with_reducible refine (c5a.out _ _ T5.out).mono ?_); rintro e w6 ⟨rfl, T6⟩; replace T6 := hide T6; clear T5)
    | (go_at_call 16; (with_reducible refine (c5b.out _ _ T6.out).mono ?_); rintro e w7 ⟨rfl, T7⟩; replace T7 := hide T7; clear T6)
    | (go_at_call 16; (with_reducible refine (c6.out _ _ T7.out).mono ?_); rintro e w8 ⟨rfl, T8⟩; replace T8 := hide T8; clear T7)
    | (go_at_call 11; (with_reducible refine (c7.out _ _ T8.out).mono ?_); rintro e w9 ⟨A9, k9, B9, d9, b9, o9, e9, rfl, T9, Z9⟩; replace T9 := hide T9; replace Z9 := hide Z9; clear T8)
    | (go_at_call 17; (with_reducible refine (c8.out _ _ _ T9.out).mono ?_); rintro e w10 ⟨rfl, rfl⟩)
    | (go_at_call 10; (with_reducible refine (c9.out _ _ _ T9.out).mono ?_); rintro e w11 ⟨rfl, T11, S11⟩; have Z11 := Z9.out.same S11; obtain ⟨y0, y1, y2, y3⟩ := Z11; replace Z11 := hide (Z9.out.same S11); replace T11 := hide T11; replace S11 := hide S11; clear T9)
    | (go_at_call 10; (with_reducible refine (c10.out _ _ _ T11.out).mono ?_); rintro e w12 ⟨rfl, rfl⟩)
    | (go_at_call 12; (with_reducible refine (c11.out _ _ _ _ _ Z11.out).mono ?_); rintro e w13 ⟨rfl, n13, rfl⟩; have T13 := hide ((T11.out.al (.cells #[.int .i64 1, .int .i64 0] 3)).drewN n13))
    | (go_at_call 13; (with_reducible refine (c12.out _ _ _ T13.out).mono ?_); rintro e w14 ⟨A14, c14', rfl, I14, hb14⟩; have T14 := hide (T13.out.next hb14); replace I14 := hide I14; replace hb14 := hide hb14)
    | (go_at_call 12; (with_reducible refine (c13.out _ _ _ I14.out).mono ?_); rintro e w15 ⟨rfl, n15, rfl⟩; have T15 := hide ((T14.out.al (.cells #[.int .i64 0] 3)).drewN n15))
    | (go_at_call 9; (with_reducible refine (c14.out _ _ _ T15.out).mono ?_); rintro e w16 ⟨rfl, rfl⟩)
    | (go_at_call 9; (with_reducible refine (c15.out _).mono ?_); rintro e w17 ⟨rfl, rfl⟩))
  go_ret
  exact ⟨rfl, T15.out.below⟩
end Nt

end Go.Proofs.YtfdeiejphlaokaaGreatDoor

namespace Go.Proofs.YtfdeiejphlaokaaGreatDoor

open Go.ChangeShapes Go.RowKit

namespace Nt
set_option maxRecDepth 100000
set_option linter.unusedSimpArgs false
set_option linter.unusedVariables false

section

variable {X Y S : List Nat} {B : Nat} {w0 w w' : World} {q N : Nat} {so fu : List (ByteArray × Nat)} {ty : List Fn} {ns : List Nd}
theorem TtP.offTurn {p : Nat} {T : List Nat} {v : Value} {m1 m2 : Option Nat} (h : TtP X w q p T N ns v m1 m2) (hf : Off S w w') (hS : ∀ b ∈ S, b ∈ X) (hY : ∀ b ∈ Y, (b ∈ X ∨ w.heap.size ≤ b) ∧ b < w'.heap.size) : TtP Y w' q p T N ns v m1 m2 := by
  have h1 := h.off hf hS
  have hd : ∀ b ∈ T, b ∉ S := fun b hb hm => (h.xs b (hS b hm)).2 hb
  obtain ⟨p1, p2, p3, p4⟩ := h.parts
  obtain ⟨xs, hx, hN⟩ := h.row
  refine ⟨h1.bk, ⟨xs, Off.row hx hf (fun k hk => hd k (p2 k hk)), Ns.off hf (fun b hb => .inl (List.mem_append_right _ (hS b hb))) (fun b hb => ?_) hN⟩, h1.mp, h1.eT, h1.once, fun b hb => ⟨(hY b hb).2, fun hm => ?_⟩, h1.fit, h1.args, h1.le⟩
  · rcases List.mem_append.1 hb with hb | hb
    · exact .inl (List.mem_append_left _ hb)
    · exact (hY b hb).1.imp (List.mem_append_right _) id
  · rcases (hY b hb).1 with hx | hx
    · exact (h.xs b hx).2 hm
    · exact Nat.not_lt.2 hx (h.lt b hm)
theorem Tt.offTurn (h : Tt X B w0 w q N so fu ty ns) (hO : Off S w w') (hS : ∀ b ∈ S, b ∈ X ∧ B ≤ b) (hY : ∀ b ∈ Y, (b ∈ X ∨ w.heap.size ≤ b) ∧ b < w'.heap.size) : Tt Y B w0 w' q N so fu ty ns := by
  obtain ⟨p, T, v, m1, m2, h1, h2, h3⟩ := h
  refine ⟨p, T, v, m1, m2, h1.offTurn hO (fun b hb => (hS b hb).1) hY, h2.offTurn hO (fun b hb => ⟨List.mem_append_right _ (hS b hb).1, (hS b hb).2⟩) (fun b hb => ?_), h3⟩
  rcases List.mem_append.1 hb with hb | hb
  · exact ⟨.inl (List.mem_append_left _ hb), Nat.lt_of_lt_of_le (h1.lt b hb) hO.size⟩
  · exact ⟨(hY b hb).1.imp (List.mem_append_right _) id, (hY b hb).2⟩
end

theorem frs_inj {i j : Nat} (hi : i < 100) (hj : j < 100) (h : frs i = frs j) : i = j := by
  have h := congrArg (fun s => s.data.toList) h
  simp only [frs_list] at h
  injection h with _ h
  by_cases a : i < 10 <;> by_cases b : j < 10
  · rw [Lib.decDigits_one a, Lib.decDigits_one b] at h
    simp at h
    have := congrArg UInt8.toNat h
    simp at this
    omega
  · rw [Lib.decDigits_one a, Lib.decDigits_two b hj] at h
    simp at h
  · rw [Lib.decDigits_two a hi, Lib.decDigits_one b] at h
    simp at h
  · rw [Lib.decDigits_two a hi, Lib.decDigits_two b hj] at h
    simp at h
    have h1 := congrArg UInt8.toNat h.1
    have h2 := congrArg UInt8.toNat h.2
    simp at h1 h2
    omega

/-- What Fresh has made. -/
def fNd (j : Nat) (r : Int) : Nd := ⟨12, frs j, false, [], [], [], r, 0⟩
def Fz (ns : List Nd) : Prop := ∀ j (h : j < ns.length), ∃ r, ns[j] = fNd j r
theorem Fz.mem {ns : List Nd} (h : Fz ns) {m : Nd} (hm : m ∈ ns) : ∃ j r, j < ns.length ∧ m = fNd j r := by
  obtain ⟨j, hj, rfl⟩ := List.getElem_of_mem hm
  obtain ⟨r, hr⟩ := h j hj
  exact ⟨j, r, hj, hr⟩
theorem Fz.push {ns : List Nd} (h : Fz ns) (r : Int) : Fz (ns ++ [fNd ns.length r]) := by
  intro j hj
  by_cases hlt : j < ns.length
  · obtain ⟨r', hr⟩ := h j hlt
    exact ⟨r', by rw [List.getElem_append_left hlt]; exact hr⟩
  · have : j = ns.length := by simp at hj; omega
    subst this
    exact ⟨r, by simp⟩
theorem Fz.free {ns : List Nd} (h : Fz ns) (hl : ns.length < 100) : usedB ns (frs ns.length) = false := by
  unfold usedB
  rw [List.any_eq_false]
  intro m hm
  obtain ⟨j, r, hj, rfl⟩ := h.mem hm
  simp only [Bool.and_eq_true, beq_iff_eq, not_and]
  intro _ he
  have : frs j = frs ns.length := by
    cases hx : frs j with | mk a => cases hy : frs ns.length with | mk b => 
      rw [hy] at he
      have he' : a.toList = b.toList := by
        have : (fNd j r).nm = frs j := rfl
        rw [this, hx] at he
        exact he
      rw [Array.toList_inj.1 he']
  have := frs_inj (by omega) hl this
  omega
theorem Fz.new {ns : List Nd} (h : Fz ns) (hl : ns.length < 100) (s : Int) : ∀ m ∈ ns, kvl m ≠ kvl (fNd ns.length s) := by
  intro m hm
  obtain ⟨j, r, hj, rfl⟩ := h.mem hm
  refine kv_name (fun e => ?_)
  have := frs_inj (by omega) hl e
  omega

theorem rep_get {n k : Nat} (h : k < n) : ((List.replicate (n + 1) false).set n true).getD k false = false := by
  rw [List.getD_eq_getElem?_getD, List.getElem?_set_ne (by omega), List.getElem?_replicate]
  split <;> rfl
theorem vrs_none {ns : List Nd} {wi : List Bool} {vs : List Int} : ∀ k, (∀ j, j < k → wi.getD j false = false) → vrs ns k wi vs = vs := by
  intro k
  induction k with
  | zero => intro _; rfl
  | succ k ih => intro h; rw [vrs_no (h k (by omega))]; exact ih (fun j hj => h j (by omega))
/-- A constant's constants: itself. -/
theorem vars_con {ns : List Nd} {i : Nat} (hi : i < ns.length) (h12 : ns[i].op = 12) (h0 : ns[i].ar = []) : varsOf ns i = [(i : Int)] := by
  unfold varsOf
  have hy : ((List.replicate (i + 1) false).set i true).getD i false = true := by
    rw [List.getD_eq_getElem?_getD, List.getElem?_set_self (by simp)]
    rfl
  rw [vrs_yes hy hi, h0, if_pos ⟨h12, rfl⟩]
  exact vrs_none i (fun j hj => rep_get hj)

def fnm (n : Nat) : List Value := (List.range n).map fun j => Value.string (frs j)
theorem fnm_len (n : Nat) : (fnm n).length = n := by simp [fnm]
theorem fnm_next (n : Nat) : fnm (n + 1) = fnm n ++ [.string (frs n)] := by
  unfold fnm
  rw [List.range_succ, List.map_append]
  rfl
theorem fnm_at {n j : Nat} (h : j < n) : (fnm n)[j]? = some (.string (frs j)) := by
  unfold fnm
  simp [h]

/-- At the loop's head: n constants made, their names kept in v. -/
structure Fv (B : Nat) (w W : World) (q : Nat) (v : Value) (n : Nat) (ns : List Nd) : Prop where
  tt : Tt v.ownBlock.toList B w W q n so0 (fuN 10) dcl ns
  row : W.ownsRow 0 9 1 v n (fnm n)
  own : ∀ b, v.ownBlock = some b → B ≤ b
  fn : Fz ns
  len : ns.length = n
theorem Fv.form {B : Nat} {w W : World} {q : Nat} {v : Value} {n : Nat} {ns : List Nd} (h : Fv B w W q v n ns) : ∃ A c, v = .slice A n c := by
  rcases h.row.2 with ⟨e, h⟩ | ⟨g, cap, cu, e, _⟩
  · exact ⟨none, 0, by rw [e, h]⟩
  · exact ⟨_, _, e⟩
theorem Fv.next {B : Nat} {w W W' : World} {q : Nat} {v : Value} {n : Nat} {ns : List Nd} (h : Fv B w W q v n ns) (hb : Below W.heap.size W W') : Fv B w W' q v n ns :=
  ⟨h.tt.next hb, Off.row h.row (Off.of_below hb []) (by simp), h.own, h.fn, h.len⟩

/-- One more made, its name not yet kept. -/
structure Fm (B : Nat) (w W : World) (q : Nat) (v : Value) (n : Nat) (s : Int) (ns : List Nd) : Prop where
  tt : Tt v.ownBlock.toList B w W q (n + 1) so0 (fuN 10) dcl ns
  row : W.ownsRow 0 9 1 v n (fnm n)
  own : ∀ b, v.ownBlock = some b → B ≤ b
  fn : Fz ns
  len : ns.length = n + 1
  at_ : ∀ h : n < ns.length, ns[n] = fNd n s
theorem Fm.next {B : Nat} {w W W' : World} {q : Nat} {v : Value} {n : Nat} {s : Int} {ns : List Nd} (h : Fm B w W q v n s ns) (hb : Below W.heap.size W W') : Fm B w W' q v n s ns :=
  ⟨h.tt.next hb, Off.row h.row (Off.of_below hb []) (by simp), h.own, h.fn, h.len, h.at_⟩
theorem Fm.drewN {B : Nat} {w W : World} {q : Nat} {v : Value} {n : Nat} {s : Int} {ns : List Nd} (h : Fm B w W q v n s ns) (k : Nat) : Fm B w (W.drewN k) q v n s ns := h.next (bel_dn W k)
/-- Its name kept. -/
theorem Fm.push {B : Nat} {w W : World} {q : Nat} {v : Value} {n : Nat} {s : Int} {ns : List Nd} (h : Fm B w W q v n s ns) (hn : n ≤ 1000) :
    ∃ A' c' W', (∀ ty, (Builtin.append_ #[28, 28] ty #[v, .slice (some ⟨W.heap.size, 0, none⟩) 1 1]).run Tryz.prog (W.alloc (.cells #[.string (frs n)] 9)) = .ok (.slice A' (n + 1) c') W') ∧ Fv B w W' q (.slice A' (n + 1) c') (n + 1) ns := by
  have hB : Bk W.heap.size #[.string (frs n)] 9 (W.alloc (.cells #[.string (frs n)] 9)) := Bk.new _ _ _
  have hR : Rv [] (W.alloc (.cells #[.string (frs n)] 9)) (some ⟨W.heap.size, 0, none⟩) [.string (frs n)] := .inr ⟨_, 0, rfl, hB.lt, by simp, fun j u hj => by rw [Nat.zero_add]; exact hB.cell (by rw [← Array.getElem?_toList]; exact hj)⟩
  have hrow := (h.next (bel_al W (.cells #[.string (frs n)] 9))).row
  obtain ⟨v', W', hr, k1, k2, k3⟩ := app_row infS Tryz.underlying28 rfl (by decide) _ v n _ hrow (some ⟨W.heap.size, 0, none⟩) 1 1 [.string (frs n)] [] rfl hR (by intro u hu; simp at hu; subst hu; rfl) (by omega) (by decide) (by intro h; cases h)
  have hform : ∃ A c, v' = .slice A (n + 1) c := by
    rcases k1.2 with ⟨e, h0⟩ | ⟨g, cap, cu, e, _⟩
    · omega
    · exact ⟨_, _, e⟩
  obtain ⟨A', c', rfl⟩ := hform
  rw [← fnm_next] at k1
  have hbase := (h.tt.al (.cells #[.string (frs n)] 9)).base
  refine ⟨A', c', W', hr, (h.tt.al _).offTurn k2 (fun b hb => ⟨hb, h.own b (by rwa [Option.mem_toList] at hb)⟩) (fun b hb => ?_), k1, fun b hb => ?_, h.fn, h.len⟩
  · rw [Option.mem_toList] at hb
    exact ⟨(k3 b hb).imp (fun h => by rw [Option.mem_toList]; exact h) id, row_lt k1 hb⟩
  · rcases k3 b hb with hx | hx
    · exact h.own b hx
    · exact Nat.le_trans hbase hx

theorem Same.row {w w' : World} {base : Nat} {e : TypeId} {size : Nat} {v : Value} {n : Nat} {xs : List Value} (h : w.ownsRow base e size v n xs) (hs : Same v.ownBlock.toList w w') : w'.ownsRow base e size v n xs := by
  refine ⟨h.1, ?_⟩
  rcases h.2 with h2 | ⟨g, cap, cur, rfl, h3, h4, h5⟩
  · exact .inl h2
  · exact .inr ⟨g, cap, cur, rfl, h3, (hs g (by simp [Value.ownBlock])).trans h4, h5⟩
theorem kb1 {x : Int} (h0 : 0 ≤ x) (h1 : x < 3) : knownB so0.length x = true := by
  have : so0.length = 1 := rfl
  simp only [knownB, Bool.and_eq_true, decide_eq_true_eq]
  omega
/-- A round's call of Fresh. -/
theorem Fv.fresh {B : Nat} {w W : World} {q : Nat} {v : Value} {n : Nat} {ns : List Nd} (h : Fv B w W q v n ns) (hn : n < 30) (s : Int) (h0 : 0 ≤ s) (h1 : s < 3) :
    Calls Tryz.prog 10 #[.pointer (some ⟨q, 0, none⟩), .int .i64 s] W fun e w' => e = .returned (.tuple #[.int .i64 (n : Int), .int .i64 0]) ∧ Fm B w w' q v n s (ns ++ [fNd n s]) := by
  obtain ⟨tt, row, own, fn, rfl⟩ := h
  have hl : ns.length < 100 := by omega
  refine (fresh_t tt s (kb1 h0 h1) (by decide) (by omega) hl (fn.free hl) (has_frs _ hl) (fn.new hl s)).mono fun e w' ⟨he, k1, k2⟩ => ⟨he, k1, ?_, own, fn.push s, by simp, fun h => by simp [fNd]⟩
  exact Same.row row k2

/-- Node of what was just made, laid. -/
theorem Fm.node {B : Nat} {w W : World} {q : Nat} {v : Value} {n : Nat} {s : Int} {ns : List Nd} (h : Fm B w W q v n s ns) (hn : n < 30) :
    Calls Tryz.prog 11 #[.pointer (some ⟨q, 0, none⟩), .int .i64 (n : Int)] W fun e w' => ∃ A c B' d C e', e = .returned (.tuple #[.agg #[.int .i64 12, .string (frs n), .bool false, .slice A 0 c, .slice B' 0 d, .slice C 0 e', .int .i64 s], .bool true]) ∧ Below W.heap.size W w' ∧
      ∀ o, Fm B w (w'.alloc o) q v n s ns := by
  have hl := h.len
  have hi : n < ns.length := by omega
  have hat := h.at_ hi
  refine (node_t h.tt (by omega) n hi).mono fun e w' ⟨A, c, B', d, C, e', he, _, _, _, hb⟩ => ⟨A, c, B', d, C, e', ?_, hb, fun o => h.next (hb.trans ((bel_al w' o).mono hb.size))⟩
  rw [he, hat]
  rfl
theorem Fm.vars {B : Nat} {w W : World} {q : Nat} {v : Value} {n : Nat} {s : Int} {ns : List Nd} (h : Fm B w W q v n s ns) (hn : n < 30) :
    Calls Tryz.prog 13 #[.pointer (some ⟨q, 0, none⟩), .int .i64 (n : Int)] W fun e w' => ∃ A c, e = .returned (.slice A 1 c) ∧ Ir [] w' A [(n : Int)] ∧ Below W.heap.size W w' := by
  have hl := h.len
  have hi : n < ns.length := by omega
  have hv : varsOf ns n = [(n : Int)] := vars_con hi (by rw [h.at_ hi]; rfl) (by rw [h.at_ hi]; rfl)
  have hc := vars_t h.tt (by omega) n hi (by rw [hv]; exact Nat.le_refl _)
  rw [hv] at hc
  exact hc.mono fun e w' ⟨A, c, he, h1, h2⟩ => ⟨A, c, he, (h1 [] (by simp)).ir, h2⟩
theorem ints_one (W : World) (A : Option Addr) (c : Nat) (x : Int) (h : Ir [] W A [x]) :
    Calls Tryz.prog 12 #[.slice A 1 c, .slice (some ⟨W.heap.size, 0, none⟩) 1 1] (W.alloc (.cells #[.int .i64 x] 3)) fun e w' => e = .returned (.bool true) ∧ ∃ n, w' = (W.alloc (.cells #[.int .i64 x] 3)).drewN n := by
  have := ints_any A (some ⟨W.heap.size, 0, none⟩) [x] [x] c 1 [] [] _ (h.al (.cells #[.int .i64 x] 3)) (one_rx (X := []) (B0 := 0) W x (Nat.zero_le _)).ir (by simp) (by simp)
  rw [beq_self_eq_true] at this
  exact this
theorem frs_at (n : Nat) : (frs n).size = (Lib.decDigits n).length + 1 ∧ (frs n).data.toList.head? = some 124 := by
  refine ⟨?_, by rw [frs_list]; rfl⟩
  have := congrArg List.length (frs_list n)
  simpa using this
end Nt

end Go.Proofs.YtfdeiejphlaokaaGreatDoor

namespace Go.Proofs.YtfdeiejphlaokaaGreatDoor

open Go.ChangeShapes Go.RowKit

namespace Nt
set_option maxRecDepth 100000
set_option linter.unusedSimpArgs false
set_option linter.unusedVariables false

theorem frs_ne {i j : Nat} (hi : i < 100) (hj : j < 100) (h : i ≠ j) : ((frs i).toList == (frs j).toList) = false := by
  refine beq_eq_false_iff_ne.2 (fun e => ?_)
  rw [ByteArray.toList_eq, ByteArray.toList_eq] at e
  have h2 : frs i = frs j := by
    cases hx : frs i with | mk a => cases hy : frs j with | mk b =>
      rw [hx, hy] at e
      have e' : a.toList = b.toList := e
      rw [Array.toList_inj.1 e']
  exact h (frs_inj hi hj h2)

set_option maxHeartbeats 16000000 in
theorem fresh_law (A0 : Option Addr) (xs : List Int) (c0 : Nat) (w : World) (hir : Ir [] w A0 xs) : Calls Tryz.prog 3 #[.slice A0 xs.length c0] w fun e w' => e = .returned (.bool true) ∧ Below w.heap.size w w' := by
  by_cases h30 : 30 < xs.length
  · have ha := awake7 w
    clear hir
    generalize xs.length = m at *
    go_enter Tryz.func3, Tryz.ntmps3
    go_wp2_with (go_at_call 6; (with_reducible refine ha.mono ?_); rintro e w1 ⟨rfl, hb⟩; replace hb := hide hb)
    go_ret
    exact ⟨rfl, hb.out⟩
  have h30' : xs.length ≤ 30 := by omega
  have hrd : ∀ W, Below w.heap.size w W → ∀ i, i < xs.length → ∃ b o, A0 = some ⟨b, o, none⟩ ∧ W.cell? ⟨b, o + i, none⟩ = some (.int .i64 (xs.getD i 0)) := by
    intro W hb i hi
    rcases hir.off (T' := []) (Off.of_below hb []) (by simp) (by simp) with he | ⟨b, o, e, _, _, hc⟩
    · rw [he] at hi; simp at hi
    · exact ⟨b, o, e, hc i hi⟩
  have haw : ∀ W, Below w.heap.size w W → Calls Tryz.prog 6 #[] W fun e w' => e = .returned (.bool true) ∧ Below w.heap.size w w' := fun W hb => (awake7 W).mono fun e w' ⟨he, h1⟩ => ⟨he, hb.trans (h1.mono hb.size)⟩
  have ht := tables_t w
  generalize hm : xs.length = m at *
  replace hm := hide hm
  replace hrd := hide hrd
  replace haw := hide haw
  replace ht := hide ht
  clear hir h30
  go_enter Tryz.func3, Tryz.ntmps3
  go_wp2_with (go_at_call 7; (with_reducible refine ht.out.mono ?_); rintro e w1 ⟨q, z, rfl, T1⟩; replace T1 := hide T1)
  go_loopw [5, 6] (fun v ii wr => ∃ (i n : Nat) (A : Option Addr) (c : Nat) (ns : List Nd), i ≤ m ∧ n ≤ i ∧ ii = .int .i64 (i : Int) ∧ v = .slice A n c ∧ Fv w.heap.size w wr q (.slice A n c) n ns) (fun _ ii _ => m - (intOf ii).toNat)
  case atStart => exact ⟨0, 0, none, 0, [], Nat.zero_le _, Nat.zero_le _, rfl, rfl, ⟨T1.out, World.ownsRow_nil _ _ _ _, by simp [Value.ownBlock], fun j hj => by simp at hj, rfl⟩⟩
  case round =>
    obtain ⟨i, n, A, c, ns, hi, hni, rfl, rfl, hF⟩ := hrel
    by_cases hlt : i < m
    · obtain ⟨b, o, rfl, hc⟩ := hrd.out wr hF.tt.below i hlt
      obtain ⟨s, hs⟩ : ∃ s, s = xs.getD i 0 % ((4 : Nat) : Int) := ⟨_, rfl⟩
      have hr : ∀ W, Calls Tryz.prog 8 #[.int .i64 (xs.getD i 0), .int .i64 4] W fun e w' => e = .returned (.int .i64 s) ∧ W = w' := fun W => by
        have := round_any (xs.getD i 0) 4 (by decide) (by decide) W
        rw [← hs] at this
        exact this
      have hlen := tt_len hF.tt (by omega)
      rw [hF.len] at hlen
      have s0 : 0 ≤ s := by omega
      have s4 : s < 4 := by omega
      clear hs
      generalize xs.getD i 0 = x at *
      by_cases h3 : s = 3
      · subst h3
        have hno := fresh_no hF.tt 3 (by decide)
        replace hF := hide hF
        replace hr := hide hr; replace hlen := hide hlen; replace hno := hide hno
        go_wp2_with (first
          | (go_at_call 8; (with_reducible refine (hr.out _).mono ?_); rintro e w2 ⟨rfl, rfl⟩)
          | (go_at_call 9; (with_reducible refine hlen.out.mono ?_); rintro e w2 ⟨rfl, rfl⟩)
          | (go_at_call 10; (with_reducible refine hno.out.mono ?_); rintro e w2 ⟨rfl, rfl⟩))
        go_roundw
        case rel => exact ⟨i + 1, n, A, c, ns, hlt, by omega, rfl, rfl, hF.out⟩
        case measure => simp only [intOf]; omega
      · have s3 : s < 3 := by omega
        have hn30 : n < 30 := by omega
        have g3 : (s == 3) = false := beq_eq_false_iff_ne.2 h3
        have hf := hF.fresh hn30 s s0 s3
        replace hF := hide hF
        replace hr := hide hr; replace hlen := hide hlen; replace hf := hide hf
        have hN := fun W (hx : Fm w.heap.size w W q (.slice A n c) n s (ns ++ [fNd n s])) => hx.node hn30
        have hV := fun W (hx : Fm w.heap.size w W q (.slice A n c) n s (ns ++ [fNd n s])) => hx.vars hn30
        replace hN := hide hN; replace hV := hide hV
        obtain ⟨z1, z2, z3⟩ := frs_size n (by omega)
        have z4 : decide (((frs n).size : Int) < 2) = false := decide_eq_false (by omega)
        have z5 : 0 < (frs n).size := by omega
        have z6 : (((frs n)[0]'z5).toNat : Int) = 124 := by
          have h : (frs n).data.toList[0]? = some 124 := by rw [frs_list]; rfl
          rw [Array.getElem?_toList] at h
          have h2 := (Array.getElem?_eq_some_iff.1 h).2
          show ((frs n).data[0].toNat : Int) = 124
          rw [h2]
          rfl
        clear z1 z2 z3
        go_wp2_with (first
          | (go_at_call 8; (with_reducible refine (hr.out _).mono ?_); rintro e w2 ⟨rfl, rfl⟩)
          | (go_at_call 9; (with_reducible refine hlen.out.mono ?_); rintro e w2 ⟨rfl, rfl⟩)
          | (go_at_call 10; (with_reducible refine hf.out.mono ?_); rintro e w2 ⟨rfl, F2⟩; replace F2 := hide F2)
          | (go_at_call 11; (with_reducible refine (hN.out _ F2.out).mono ?_); rintro e w3 ⟨a3, k3, b3, d3, C3, e3, rfl, hb3, F3⟩; have F3 := F3 (.cells #[.int .i64 12, .string (frs n), .bool false, .slice a3 0 k3, .slice b3 0 d3, .slice C3 0 e3, .int .i64 s] 38); have y3 : (w3.alloc (.cells #[.int .i64 12, .string (frs n), .bool false, .slice a3 0 k3, .slice b3 0 d3, .slice C3 0 e3, .int .i64 s] 38)).cell? ⟨w3.heap.size, 1, none⟩ = some (.string (frs n)) := (Bk.new _ _ _).cell rfl; replace F3 := hide F3; replace hb3 := hide hb3)
          | (go_at_call 13; (with_reducible refine (hV.out _ F3.out).mono ?_); rintro e w4 ⟨A4, k4, rfl, I4, hb4⟩; have y4 := (hb4.cell (cell_in y3)).trans y3; have F4 := hide (F3.out.next hb4); replace I4 := hide I4; replace hb4 := hide hb4)
          | (go_at_call 12; (with_reducible refine (ints_one _ _ _ _ I4.out).mono ?_); rintro e w5 ⟨rfl, n5, rfl⟩))
        have y5 := (bel_al w4 (.cells #[.int .i64 (n : Int)] 3)).cell (cell_in y4) |>.trans y4
        have F5 := hide (F4.out.next (bel_al w4 (.cells #[.int .i64 (n : Int)] 3)))
        replace y5 := ((bel_dn _ n5).cell (cell_in y5)).trans y5
        replace F5 := hide (F5.out.drewN n5)
        generalize (w4.alloc (.cells #[.int .i64 (n : Int)] 3)).drewN n5 = w5 at *
        generalize w3.heap.size = g at *
        go_loopw [13] (fun jj wx => ∃ j : Nat, j ≤ n ∧ jj = .int .i64 (j : Int) ∧ ∃ k, wx = w5.drewN k) (fun jj _ => n - (intOf jj).toNat)
        case atStart => exact ⟨0, Nat.zero_le _, rfl, 0, rfl⟩
        case round =>
          obtain ⟨j, hj, rfl, k, rfl⟩ := hrel
          have F6 := hide (F5.out.drewN k)
          by_cases hjn : j < n
          · rcases F5.out.row.2 with ⟨_, h0⟩ | ⟨gg, cap, cu, e, _⟩
            · omega
            · cases e
              have r1 := F5.out.row.cells (g := gg) rfl j _ (fnm_at hjn)
              rw [Addr.add_lit, Nat.zero_add] at r1
              have hne : ((frs j).toList == (frs n).toList) = false := frs_ne (by omega) (by omega) (by omega)
              go_wp2
              go_quiet (fail)
              go_wp2
              go_roundw
              case rel => exact ⟨j + 1, hjn, by go_num, _, rfl⟩
              case measure => (simp [intOf]; omega)
          · obtain ⟨A7, c7, w7, hap, F7⟩ := F6.out.push (by omega)
            go_wp2_with (at_builtin; refine wpList_append_run _ rfl _ _ _ rfl _ _ _ _ rfl rfl hap ?_)
            go_roundw
            case rel => exact ⟨i + 1, n + 1, A7, c7, _, hlt, by omega, rfl, rfl, F7⟩
            case measure => simp only [intOf]; omega
    · have hmi : i = m := by omega
      subst hmi
      have ha := haw.out wr hF.tt.below
      replace ha := hide ha
      clear hF
      go_wp2_with (go_at_call 6; (with_reducible refine ha.out.mono ?_); rintro e w2 ⟨rfl, hb⟩; replace hb := hide hb)
      go_ret
      exact ⟨rfl, hb.out⟩
end Nt

end Go.Proofs.YtfdeiejphlaokaaGreatDoor

namespace Go.Proofs.YtfdeiejphlaokaaGreatDoor

open Go.ChangeShapes Go.WideShapes Go.ChangeAt Go.RowKit

namespace Nt
set_option maxRecDepth 100000
set_option linter.unusedSimpArgs false
set_option linter.unusedVariables false
theorem own : ownKnob Tryz.prog.godebug = none := by kernel_rfl
theorem cellsI : Tryz.prog.cellsOf 3 = 1 := by kernel_rfl
/-- The last step of a law's row: it answered, the old memory stands, the arguments are read again. -/
theorem law_post {H : Type} {enc : TypeId × Value → H} {P : Program} {f : Func} {s : ChangeSpec} {W W' : World} {args : Array Value} {v : Value} {ds gs : List (DataW H)} {before : List MemPlace}
    (hW : DataW.Whole enc P f.params.toList s.vars false W args.toList ds gs before) (hb : Below W.heap.size W W')
    (hargs : ∀ sp : Nat → Bool, (∀ p ∈ before, sp p.block = true) → DataW.TrodAll enc P W' 0 sp true f.params.toList args.toList (s.fn H (ds ++ gs)).args before)
    (hvars : ∀ sp : Nat → Bool, DataW.TrodVars enc P W' sp s.vars (s.fn H (ds ++ gs)).vars [])
    (hres : ∀ (b : Nat) (sp : Nat → Bool) (hd : Bool), DataW.TrodAll enc P W' b sp hd f.resultTypes.toList (v.resultList f.resultTypes.size) (s.fn H (ds ++ gs)).results [])
    (hok : ∀ (j : Nat) (t : TypeId) (r : Value), f.resultTypes[j]? = some t → (v.resultList f.resultTypes.size)[j]? = some r → Value.okWide P W' .any 0 t r) :
    s.post enc P f false true false false W args v W' := by
  have hlt : ∀ p ∈ before, p.block < W.heap.size := fun p hp => hW.lt p hp
  have low : ∀ p ∈ before, (fun b => decide (b < W.heap.size)) p.block = true := fun p hp => decide_eq_true (hlt p hp)
  have fr := hb.frame (· ∈ before)
  obtain ⟨_, _, _, _, _, hz, _⟩ := id hW
  refine ⟨ds, gs, before, [], before, [], hW, hres _ _ _, hargs _ low, hvars _, World.keptBut_mono (fun p hp => ⟨hp, .inr (.inl hp)⟩) fr, fun _ => ⟨hok, _, _, ([] ++ before) ++ [], ⟨[] ++ before, [], trodAll_append (hargs _ (fun _ _ => rfl)) (hres _ _ _), hvars _, rfl, ?_, ?_⟩, ?_⟩⟩
  · intro b off hp
    have hin : MemPlace.cell b off ∈ before := by simpa using hp
    rw [hb.frozen (hlt _ hin)]
    exact hz b off hin
  · intro ha
    cases ha
  · intro p hp _
    simpa using hp

theorem slicesFull : ((List.range Tryz.prog.types.size).all fun t => match Tryz.prog.underlying t with | some (.slice e) => decide (0 < Tryz.prog.cellsOf e) | _ => true) = true := by kernel_rfl
/-- Whatever was read is read again, where the old memory stands. -/
theorem again {H : Type} {enc : TypeId × Value → H} {W W' : World} {t : TypeId} {v : Value} {d : DataW H} {p : List MemPlace} (ht : t < Tryz.prog.types.size) (h : DataW.Trod enc Tryz.prog W 0 (fun _ => true) true t v d p) (hb : Below W.heap.size W W') (sp : Nat → Bool) (hsp : ∀ x ∈ p, sp x.block = true) :
    DataW.Trod enc Tryz.prog W' 0 sp true t v d p := by
  have K : Kids Tryz.prog (· < Tryz.prog.types.size) := kids_rows (by kernel_rfl) (by kernel_rfl)
  have h1 : DataW.Trod enc Tryz.prog W 0 sp true t v d p := h.respare K (fun t e ht hu => slices_full_of Tryz.prog slicesFull t e ht hu) ht hsp
  obtain ⟨n, hn⟩ := h1
  refine ⟨n, DataW.trod_carry n _ _ _ hn (fun x hx => ?_)⟩
  have hlt := DataW.trod_lt n _ _ _ hn x hx
  cases x with
  | cell b off => exact World.cell?_of_block (w := W) (hb.block b hlt)
  | map b => exact hb.block b hlt
section

variable {H : Type} {enc : TypeId × Value → H} {W : World}
theorem getq {α : Type} {l : List α} {i : Nat} (h : i < l.length) : ∃ y, l[i]? = some y := ⟨l[i], List.getElem?_eq_getElem h⟩
theorem cell_lt {a : Addr} {v : Value} (h : W.cell? a = some v) : a.block < W.heap.size := by
  unfold World.cell? at h
  cases hh : W.heap[a.block]? with
  | none => rw [hh] at h; cases h
  | some y => exact (Array.getElem?_eq_some_iff.1 hh).1
theorem read_ints {n : Nat} {c3 : Value} {y : DataW H × List MemPlace} (h : DataW.trod enc Tryz.prog W 0 (fun _ => true) true n 22 [c3] = some y) : ∃ A c ar, c3 = .slice A (ar : List Int).length c ∧ Ir [] W A ar ∧ (A = none → c = 0) ∧ ar.length ≤ maxLen := by
  rcases open_ints Tryz.underlying22 Tryz.underlying3 cellsI h with ⟨hcs, hx⟩ | ⟨a, len, cap, zs, hcs, _, hl, hm, hz, hx, hcell, hw⟩
  · cases hcs
    exact ⟨none, 0, [], rfl, .inl rfl, fun _ => rfl, Nat.zero_le _⟩
  · cases hcs
    simp only [if_true] at hz
    have hlen : (zs.take len).length = len := by rw [List.length_take]; omega
    refine ⟨some a, cap, zs.take len, by rw [hlen], ?_, by simp, by rw [hlen]; omega⟩
    by_cases h0 : len = 0
    · subst h0; exact .inl (by simp)
    · obtain ⟨b, off, spot⟩ := a
      have hc0 := hcell 0 (by omega)
      have hspot : spot = none := by simpa [Addr.add] using World.cell?_spot hc0
      subst hspot
      refine .inr ⟨b, off, rfl, ?_, by simp, fun j hj => ?_⟩
      · have := cell_lt hc0
        rwa [block_add] at this
      · rw [hlen] at hj
        have := hcell j (by omega)
        rw [Addr.add_lit] at this
        rw [this]
        simp only [List.getD_eq_getElem?_getD, List.getElem?_take_of_lt hj]

/-- An argument of ints: what it reads as, and that it reads so again. -/
theorem arg_ints {base : Nat} {v : Value} {d : DataW H} {p : List MemPlace} (hval : Value.okWide Tryz.prog W .any base 22 v) (h : DataW.Trod enc Tryz.prog W 0 (fun _ => true) true 22 v d p) :
    ∃ A c xs, v = .slice A (xs : List Int).length c ∧ Ir [] W A xs ∧ xs.length ≤ maxLen ∧
      ∀ W', Below W.heap.size W W' → ∀ sp : Nat → Bool, (∀ x ∈ p, sp x.block = true) → DataW.Trod enc Tryz.prog W' 0 sp true 22 v d p := by
  obtain ⟨A, n, c, rfl⟩ := okWide_slice Tryz.underlying22 hval
  have h' := h
  obtain ⟨fuel, hf⟩ := h'
  obtain ⟨A', c', xs, e, h1, _, h3⟩ := read_ints hf
  exact ⟨A', c', xs, e, h1, h3, fun W' hb sp hsp => again (of_decide_eq_true (by kernel_rfl)) h hb sp hsp⟩
end
/-- A world for the witness. -/
noncomputable def lw (os : Os) : World := World.laidAll Tryz.prog os Rows.termFreshRow.laid
theorem lw_met (os : Os) (args : Array Value) : laidMet Tryz.prog Rows.termFreshRow.laid ((lw os).forCall (fun _ _ => 0) ⟨#[], args, []⟩).memory :=
  laidMet_laidAll args (by kernel_rfl) (by kernel_rfl)
end Nt

end Go.Proofs.YtfdeiejphlaokaaGreatDoor
