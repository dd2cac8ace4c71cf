/-
  What the document fixes on declarations: theodolitelaw6.awake.
-/
import Derived.Test.YtlcgdiciiibeeaaTy
namespace Go.Proofs.Ytlcgdiciiibeeaa
open Go.ChangeShapes Go.RowKit
namespace Nt
set_option maxRecDepth 100000
set_option linter.unusedSimpArgs false
set_option linter.unusedVariables false

def sU : ByteArray := ⟨#[85]⟩
def sF : ByteArray := ⟨#[102]⟩
def sG : ByteArray := ⟨#[103]⟩
def sX : ByteArray := ⟨#[120]⟩
theorem small_name {s : ByteArray} {n : Nat} (h : s.size = n) (hn : n ≤ 1000) : s.size ≤ maxLen := by unfold maxLen; omega

set_option maxHeartbeats 4000000 in
theorem awake6 (w : World) : Calls Try.prog 8 #[] w fun e w' => e = .returned (.bool true) ∧ Below w.heap.size w w' := by
  obtain ⟨B, hB⟩ : ∃ B, B = w.heap.size := ⟨_, rfl⟩
  have c0 : Calls Try.prog 9 #[] w fun e w' => e = .returned (.pointer (some ⟨w.heap.size, 0, none⟩)) ∧ Tw [] B w w' w.heap.size 0 0 [] [] [] ∧ Below w.heap.size w w' :=
    tw_new (X := []) (by omega) (by rw [hB]; exact .refl _ _) (by simp)
  generalize w.heap.size = p at c0 hB ⊢
  have c1 : ∀ w1, Tw [] B w w1 p 0 0 [] [] [] → Calls Try.prog 10 #[.pointer (some ⟨p, 0, none⟩), .string ⟨#[85]⟩] w1 fun e w' => e = .returned (.tuple #[.int .i64 2, .int .i64 0]) ∧ Tw [] B w w' p 1 0 [(sU, 0)] [] [] ∧ Same [] w1 w' :=
    fun w1 h => tw_sort h sU (by decide) (small_name (n := 1) rfl (by omega)) (by omega)
  have c2 : ∀ w1, Tw [] B w w1 p 1 0 [(sU, 0)] [] [] → Calls Try.prog 10 #[.pointer (some ⟨p, 0, none⟩), .string ⟨#[66, 111, 111, 108]⟩] w1 fun e w' => e = .returned (.tuple #[.int .i64 0, .int .i64 1]) ∧ w1 = w' :=
    fun w1 h => tw_sort_no h ⟨#[66, 111, 111, 108]⟩ (by decide) (small_name (n := 4) rfl (by omega))
  have c3 : ∀ w1, Tw [] B w w1 p 1 0 [(sU, 0)] [] [] → Calls Try.prog 12 #[.pointer (some ⟨p, 0, none⟩), .agg #[.string ⟨#[102]⟩, .slice (some ⟨w1.heap.size, 0, none⟩) 2 2, .int .i64 0]] (w1.alloc (.cells #[.int .i64 2, .int .i64 1] 3)) fun e w' => e = .returned (.int .i64 0) ∧ Tw [] B w w' p 2 0 [(sU, 0)] [(sF, 0)] [⟨sF, [2, 1], 0⟩] :=
    fun w1 h => (tw_fun (h.alloc (.cells #[.int .i64 2, .int .i64 1] 3)) sF (some ⟨w1.heap.size, 0, none⟩) [2, 1] 2 0 (.inr ⟨_, 0, rfl, by simp, fun j hj => by
      have hX := Bk.new #[.int .i64 2, .int .i64 1] 3 w1
      match j, hj with
      | 0, _ => exact hX.cell rfl
      | 1, _ => exact hX.cell rfl
      | j + 2, h => simp at h; omega⟩) (by decide) (by decide) (small_name (n := 1) rfl (by omega)) (by omega) (by simp)).mono fun e w' ⟨he, h1, _⟩ => ⟨he, h1.less (by simp)⟩
  have c4 : ∀ w1, Tw [] B w w1 p 2 0 [(sU, 0)] [(sF, 0)] [⟨sF, [2, 1], 0⟩] → Calls Try.prog 12 #[.pointer (some ⟨p, 0, none⟩), .agg #[.string ⟨#[103]⟩, .slice (some ⟨w1.heap.size, 0, none⟩) 1 1, .int .i64 0]] (w1.alloc (.cells #[.int .i64 0] 3)) fun e w' => e = .returned (.int .i64 1) ∧ Tw [] B w w' p 2 0 [(sU, 0)] [(sF, 0)] [⟨sF, [2, 1], 0⟩] :=
    fun w1 h => (tw_fun_no (h.alloc (.cells #[.int .i64 0] 3)) sG (some ⟨w1.heap.size, 0, none⟩) [0] 1 0 (.inr ⟨_, 0, rfl, by simp, fun j hj => by
      have hX := Bk.new #[.int .i64 0] 3 w1
      match j, hj with
      | 0, _ => exact hX.cell rfl
      | j + 1, h => simp at h⟩) (by decide) (small_name (n := 1) rfl (by omega)) (by omega) (by simp)).mono fun e w' ⟨he, h1⟩ => ⟨he, ((h.alloc _).next h1).less (by simp)⟩
  have c5 : ∀ w1, Tw [] B w w1 p 2 0 [(sU, 0)] [(sF, 0)] [⟨sF, [2, 1], 0⟩] → Calls Try.prog 14 #[.pointer (some ⟨p, 0, none⟩)] w1 fun e w' => e = .returned (.tuple #[]) ∧ Tw [] B w w' p 2 1 [(sU, 0)] [(sF, 0)] [⟨sF, [2, 1], 0⟩] :=
    fun w1 h => (tw_push h (by omega)).mono fun e w' ⟨he, h1, _⟩ => ⟨he, h1⟩
  have c6 : ∀ w1, Tw [] B w w1 p 2 1 [(sU, 0)] [(sF, 0)] [⟨sF, [2, 1], 0⟩] → Calls Try.prog 12 #[.pointer (some ⟨p, 0, none⟩), .agg #[.string ⟨#[120]⟩, .slice none 0 0, .int .i64 2]] w1 fun e w' => e = .returned (.int .i64 0) ∧ Tw [] B w w' p 3 1 [(sU, 0)] [(sF, 0), (sX, 1)] [⟨sF, [2, 1], 0⟩, ⟨sX, [], 2⟩] :=
    fun w1 h => (tw_fun h sX none [] 0 2 (.inl rfl) (by decide) (by decide) (small_name (n := 1) rfl (by omega)) (by omega) (by simp)).mono fun e w' ⟨he, h1, _⟩ => ⟨he, h1⟩
  have c7 : ∀ w1, Tw [] B w w1 p 3 1 [(sU, 0)] [(sF, 0), (sX, 1)] [⟨sF, [2, 1], 0⟩, ⟨sX, [], 2⟩] → Calls Try.prog 27 #[.pointer (some ⟨p, 0, none⟩)] w1 fun e w' => e = .returned (.int .i64 1) ∧ w1 = w' := fun w1 h => tw_levels h
  have c8 : ∀ w1, Tw [] B w w1 p 3 1 [(sU, 0)] [(sF, 0), (sX, 1)] [⟨sF, [2, 1], 0⟩, ⟨sX, [], 2⟩] → Calls Try.prog 16 #[.pointer (some ⟨p, 0, none⟩), .int .i64 2] w1 fun e w' => e = .returned (.int .i64 5) ∧ w1 = w' := fun w1 h => tw_pop_many h 2 (by omega)
  have c9 : ∀ w1, Tw [] B w w1 p 3 1 [(sU, 0)] [(sF, 0), (sX, 1)] [⟨sF, [2, 1], 0⟩, ⟨sX, [], 2⟩] → Calls Try.prog 16 #[.pointer (some ⟨p, 0, none⟩), .int .i64 1] w1 fun e w' => e = .returned (.int .i64 0) ∧ Tw [] B w w' p 3 0 [(sU, 0)] [(sF, 0)] [⟨sF, [2, 1], 0⟩] :=
    fun w1 h => (tw_pop h 1 0 (by omega) (by omega) (by omega) (by omega)).mono fun e w' ⟨he, h1, _⟩ => ⟨he, h1⟩
  have c10 : ∀ w1, Tw [] B w w1 p 3 0 [(sU, 0)] [(sF, 0)] [⟨sF, [2, 1], 0⟩] → Calls Try.prog 18 #[.pointer (some ⟨p, 0, none⟩), .string ⟨#[120]⟩] w1 fun e w' => e = .returned (.tuple #[.agg #[.string ⟨#[]⟩, .slice none 0 0, .int .i64 0], .bool false]) ∧ Tw [] B w w' p 3 0 [(sU, 0)] [(sF, 0)] [⟨sF, [2, 1], 0⟩] :=
    fun w1 h => (tw_find_no h sX (small_name (n := 1) rfl (by omega)) (by decide)).mono fun e w' ⟨he, h1⟩ => ⟨he, h.next h1⟩
  have c11 : ∀ w1, Tw [] B w w1 p 3 0 [(sU, 0)] [(sF, 0)] [⟨sF, [2, 1], 0⟩] → Calls Try.prog 18 #[.pointer (some ⟨p, 0, none⟩), .string ⟨#[102]⟩] w1 fun e w' => ∃ A c, e = .returned (.tuple #[.agg #[.string ⟨#[102]⟩, .slice A 2 c, .int .i64 0], .bool true]) ∧ Tw [] B w w' p 3 0 [(sU, 0)] [(sF, 0)] [⟨sF, [2, 1], 0⟩] :=
    fun w1 h => (tw_find h sF (small_name (n := 1) rfl (by omega)) (by omega) 0 (by simp) rfl).mono fun e w' ⟨A, c, he, _, h1⟩ => ⟨A, c, he, h.next h1⟩
  have c12 : ∀ w1, Tw [] B w w1 p 3 0 [(sU, 0)] [(sF, 0)] [⟨sF, [2, 1], 0⟩] → Calls Try.prog 23 #[.pointer (some ⟨p, 0, none⟩), .int .i64 2] w1 fun e w' => e = .returned (.tuple #[.string ⟨#[85]⟩, .bool true]) ∧ w1 = w' :=
    fun w1 h => tw_name h (by omega) 0 (by simp)
  have c13 : ∀ w1, Tw [] B w w1 p 3 0 [(sU, 0)] [(sF, 0)] [⟨sF, [2, 1], 0⟩] → Calls Try.prog 25 #[.pointer (some ⟨p, 0, none⟩)] w1 fun e w' => ∃ g c, e = .returned (.slice (some ⟨g, 0, none⟩) 1 c) ∧ Below w1.heap.size w1 w' :=
    fun w1 h => (tw_funs h (by omega)).mono fun e w' ⟨g, c, he, _, _, h1⟩ => ⟨g, c, he, h1⟩
  have c14 : ∀ w1, Calls Try.prog 29 #[.string ⟨#[105, 116, 101]⟩] w1 fun e w' => e = .returned (.bool true) ∧ w1 = w' := fun w1 => (reserved_any ⟨#[105, 116, 101]⟩ w1).mono fun e w' ⟨he, h1⟩ => ⟨by rw [he]; rfl, h1.symm⟩
  have c15 : ∀ w1, Calls Try.prog 29 #[.string ⟨#[102]⟩] w1 fun e w' => e = .returned (.bool false) ∧ w1 = w' := fun w1 => (reserved_any ⟨#[102]⟩ w1).mono fun e w' ⟨he, h1⟩ => ⟨by rw [he]; rfl, h1.symm⟩
  have c16 : ∀ w1, Calls Try.prog 27 #[.pointer none] w1 fun e w' => e = .returned (.int .i64 0) ∧ w1 = w' := fun w1 => levels_nil w1
  have c17 : ∀ w1, Calls Try.prog 16 #[.pointer none, .int .i64 1] w1 fun e w' => e = .returned (.int .i64 5) ∧ w1 = w' := fun w1 => pop_nil w1
  have hbl : ∀ w1 w2, Tw [] B w w1 p 3 0 [(sU, 0)] [(sF, 0)] [⟨sF, [2, 1], 0⟩] → Below w1.heap.size w1 w2 → Below B w w2 := fun w1 w2 h hb => (h.next hb).below
  replace hB := hide hB
  replace c0 := hide c0; replace c1 := hide c1; replace c2 := hide c2; replace c3 := hide c3; replace c4 := hide c4; replace c5 := hide c5; replace c6 := hide c6; replace c7 := hide c7; replace c8 := hide c8
  replace c9 := hide c9; replace c10 := hide c10; replace c11 := hide c11; replace c12 := hide c12; replace c13 := hide c13; replace c14 := hide c14; replace c15 := hide c15; replace c16 := hide c16; replace c17 := hide c17; replace hbl := hide hbl
  go_enter Try.func8, Try.ntmps8
  go_wp2_with first
    | (go_at_call 9; (with_reducible refine c0.out.mono ?_); rintro e w1 ⟨rfl, t1, -⟩)
    | (go_at_call 10; (with_reducible refine (c1.out _ t1).mono ?_); rintro e w2 ⟨rfl, t2, -⟩; clear t1)
    | (go_at_call 10; (with_reducible refine (c2.out _ t2).mono ?_); rintro e w3 ⟨rfl, rfl⟩)
    | (go_at_call 12; (with_reducible refine (c3.out _ t2).mono ?_); rintro e w4 ⟨rfl, t3⟩; clear t2)
    | (go_at_call 12; (with_reducible refine (c4.out _ t3).mono ?_); rintro e w5 ⟨rfl, t4⟩; clear t3)
    | (go_at_call 14; (with_reducible refine (c5.out _ t4).mono ?_); rintro e w6 ⟨rfl, t5⟩; clear t4)
    | (go_at_call 12; (with_reducible refine (c6.out _ t5).mono ?_); rintro e w7 ⟨rfl, t6⟩; clear t5)
    | (go_at_call 27; (with_reducible refine (c7.out _ t6).mono ?_); rintro e w8 ⟨rfl, rfl⟩)
    | (go_at_call 16; (with_reducible refine (c8.out _ t6).mono ?_); rintro e w8 ⟨rfl, rfl⟩)
    | (go_at_call 16; (with_reducible refine (c9.out _ t6).mono ?_); rintro e w8 ⟨rfl, t7⟩; clear t6)
    | (go_at_call 18; (with_reducible refine (c10.out _ t7).mono ?_); rintro e w9 ⟨rfl, t8⟩; clear t7)
    | (go_at_call 18; (with_reducible refine (c11.out _ (t8.next ((Below.refl _ _).alloc (Nat.le_refl _) _))).mono ?_); rintro e w10 ⟨A, c, rfl, t9⟩; clear t8)
    | (go_at_call 23; (with_reducible refine (c12.out _ (t9.next ((Below.refl _ _).alloc (Nat.le_refl _) _))).mono ?_); rintro e w11 ⟨rfl, rfl⟩)
    | (go_at_call 29; (with_reducible refine (c14.out _).mono ?_); rintro e w12 ⟨rfl, rfl⟩)
    | (go_at_call 29; (with_reducible refine (c15.out _).mono ?_); rintro e w12 ⟨rfl, rfl⟩)
    | (go_at_call 25; have t10 := t9.next ((Below.refl _ _).alloc (Nat.le_refl _) (.cells #[.string ⟨#[102]⟩, .slice A 2 c, .int .i64 0] 35)); (with_reducible refine (c13.out _ t10).mono ?_); rintro e w13 ⟨g, c', rfl, hb⟩; have hfin := hbl.out _ _ t10 hb; clear t10 hb)
    | (go_at_call 27; (with_reducible refine (c16.out _).mono ?_); rintro e w14 ⟨rfl, rfl⟩)
    | (go_at_call 16; (with_reducible refine (c17.out _).mono ?_); rintro e w14 ⟨rfl, rfl⟩)
  go_ret
  exact ⟨rfl, by rw [← hB.out]; exact hfin⟩
end Nt
end Go.Proofs.Ytlcgdiciiibeeaa
