/-
  The law SortsNames.
-/
import Derived.Test.YtlcgdiciiibeeaaTz
namespace Go.Proofs.Ytlcgdiciiibeeaa
open Go.ChangeShapes Go.RowKit
namespace Nt
set_option maxRecDepth 100000
set_option linter.unusedSimpArgs false
set_option linter.unusedVariables false

theorem names_far (s : ByteArray) (x : Int) (w : World) (hs : s.size ≤ maxLen) (h : 250 < s.size ∨ x < 0 ∨ 250 < x) :
    Calls Try.prog 5 #[.string s, .int .i64 x] w fun e w' => e = .returned (.bool true) ∧ Below w.heap.size w w' := by
  have ha := awake6 w
  unfold maxLen at hs
  by_cases h1 : 250 < s.size
  · clear h
    go_enter Try.func5, Try.ntmps5
    go_wp2_with (go_at_call 8; (with_reducible refine ha.mono ?_); rintro e w1 ⟨rfl, hb⟩)
    go_ret
    exact ⟨rfl, hb⟩
  · have h2 : decide (250 < s.size) = false := decide_eq_false h1
    by_cases h3 : x < 0
    · clear h
      go_enter Try.func5, Try.ntmps5
      go_wp2_with (go_at_call 8; (with_reducible refine ha.mono ?_); rintro e w1 ⟨rfl, hb⟩)
      go_ret
      exact ⟨rfl, hb⟩
    · have h4 : decide (x < 0) = false := decide_eq_false h3
      have h5 : 250 < x := by omega
      clear h
      go_enter Try.func5, Try.ntmps5
      go_wp2_with (go_at_call 8; (with_reducible refine ha.mono ?_); rintro e w1 ⟨rfl, hb⟩)
      go_ret
      exact ⟨rfl, hb⟩

set_option maxHeartbeats 4000000 in
theorem names_near (s : ByteArray) (n : Nat) (w : World) (hs : s.size ≤ 250) (hn : n ≤ 250) :
    Calls Try.prog 5 #[.string s, .int .i64 (n : Int)] w fun e w' => e = .returned (.bool true) ∧ Below w.heap.size w w' := by
  obtain ⟨B, hB⟩ : ∃ B, B = w.heap.size := ⟨_, rfl⟩
  have c0 : Calls Try.prog 9 #[] w fun e w' => e = .returned (.pointer (some ⟨w.heap.size, 0, none⟩)) ∧ Tw [] B w w' w.heap.size 0 0 [] [] [] ∧ Below w.heap.size w w' :=
    tw_new (X := []) (by omega) (by rw [hB]; exact .refl _ _) (by simp)
  generalize w.heap.size = p at c0 hB ⊢
  have g1 : decide (250 < s.size) = false := decide_eq_false (by omega)
  have g2 : decide (250 < n) = false := decide_eq_false (by omega)
  have hz : ∀ r : ByteArray, r.size ≤ 250 → (r ++ ⟨#[122]⟩ : ByteArray).size = r.size + 1 := fun r h => by rw [ByteArray.size_append]; rfl
  have haw : ∀ w1 w2, Tw [] B w w1 p 0 0 [] [] [] → Below w1.heap.size w1 w2 → Below B w w2 := fun w1 w2 h hb => (h.next hb).below
  replace hB := hide hB
  replace c0 := hide c0
  replace hz := hide hz
  replace haw := hide haw
  go_enter Try.func5, Try.ntmps5
  go_wp2_with (go_at_call 9; (with_reducible refine c0.out.mono ?_); rintro e w1 ⟨rfl, t1, -⟩)
  go_loop [6] (fun v => ∃ r : ByteArray, v = .string r ∧ r.size ≤ 250) (fun v => match v with | .string r => n - r.size | _ => 0)
  case atStart => exact ⟨s, rfl, hs⟩
  case round =>
    obtain ⟨r, rfl, hr⟩ := hrel
    clear g1 g2 hs
    by_cases hl : r.size < n
    · have hz1 := hide (hz.out r hr)
      have hr1 : r.size < 250 := by omega
      go_wp2
      go_round
      case rel => exact ⟨_, rfl, by rw [hz1.out]; omega⟩
      case measure => (have := hz1.out; simp only [this]; omega)
    · have g3 : decide (r.size < n) = false := decide_eq_false hl
      have hrm : r.size ≤ maxLen := by unfold maxLen; omega
      have hrs := reserved_any r w1
      cases hgd : nameB r
      · have d1 := tw_sort_no t1 r (by simp [freeB, hgd]) hrm
        have d2 : ∀ (rs : Int) w2, Tw [] B w w2 p 0 0 [] [] [] → Calls Try.prog 12 #[.pointer (some ⟨p, 0, none⟩), .agg #[.string r, .slice none 0 0, .int .i64 rs]] w2 fun e w' => e = .returned (.int .i64 1) ∧ Tw [] B w w' p 0 0 [] [] [] :=
          fun rs w2 t => (tw_fun_no t r none [] 0 rs (.inl rfl) (by simp [freeB, hgd]) hrm (by omega) (by simp)).mono fun e w' ⟨he, hb⟩ => ⟨he, t.next hb⟩
        have d3 : ∀ w2, Tw [] B w w2 p 0 0 [] [] [] → Calls Try.prog 10 #[.pointer (some ⟨p, 0, none⟩), .string r] w2 fun e w' => e = .returned (.tuple #[.int .i64 0, .int .i64 1]) ∧ w2 = w' := fun w2 t => tw_sort_no t r (by simp [freeB, hgd]) hrm
        have ha := fun w => awake6 w
        replace d1 := hide d1; replace d2 := hide d2; replace d3 := hide d3; replace ha := hide ha
        have hparts : r.size = 0 ∨ 200 < r.size ∨ resB r = true := by
          simp only [nameB] at hgd
          by_cases q1 : r.size = 0
          · exact .inl q1
          · by_cases q2 : 200 < r.size
            · exact .inr (.inl q2)
            · refine .inr (.inr ?_)
              have a1 : 1 ≤ r.size := by omega
              have a2 : r.size ≤ 200 := by omega
              simpa [a1, a2] using hgd
        clear hgd
        rcases hparts with q | q | q
        · have q0 : ¬ 1 ≤ r.size := by omega
          have q1 : decide (1 ≤ r.size) = false := decide_eq_false q0
          clear hrs
          replace q := hide q
          go_wp2_with first
            | (go_at_call 10; (with_reducible refine (d3.out _ t1).mono ?_); rintro e w2 ⟨rfl, rfl⟩)
            | (go_at_call 12; (with_reducible refine (d2.out 1 _ t1).mono ?_); rintro e w3 ⟨rfl, t2⟩; clear t1)
            | (go_at_call 10; (with_reducible refine (d3.out _ t2).mono ?_); rintro e w4 ⟨rfl, rfl⟩)
            | (go_at_call 12; (with_reducible refine (d2.out 0 _ t2).mono ?_); rintro e w5 ⟨rfl, t3⟩; clear t2)
            | (go_at_call 8; (with_reducible refine (ha.out _).mono ?_); rintro e w6 ⟨rfl, hb⟩)
          go_ret
          exact ⟨rfl, by rw [← hB.out]; exact haw.out _ _ t3 hb⟩
        · have q0 : 1 ≤ r.size := by omega
          have q1 : decide (r.size ≤ 200) = false := decide_eq_false (by omega)
          clear hrs
          go_wp2_with first
            | (go_at_call 10; (with_reducible refine (d3.out _ t1).mono ?_); rintro e w2 ⟨rfl, rfl⟩)
            | (go_at_call 12; (with_reducible refine (d2.out 1 _ t1).mono ?_); rintro e w3 ⟨rfl, t2⟩; clear t1)
            | (go_at_call 10; (with_reducible refine (d3.out _ t2).mono ?_); rintro e w4 ⟨rfl, rfl⟩)
            | (go_at_call 12; (with_reducible refine (d2.out 0 _ t2).mono ?_); rintro e w5 ⟨rfl, t3⟩; clear t2)
            | (go_at_call 8; (with_reducible refine (ha.out _).mono ?_); rintro e w6 ⟨rfl, hb⟩)
          go_ret
          exact ⟨rfl, by rw [← hB.out]; exact haw.out _ _ t3 hb⟩
        · rw [q] at hrs
          clear q
          by_cases q0 : 1 ≤ r.size
          · by_cases q1 : r.size ≤ 200
            · go_wp2_with first
                | (go_at_call 29; (with_reducible refine hrs.mono ?_); rintro e w2 ⟨rfl, rfl⟩)
                | (go_at_call 10; (with_reducible refine (d3.out _ t1).mono ?_); rintro e w2 ⟨rfl, rfl⟩)
                | (go_at_call 12; (with_reducible refine (d2.out 1 _ t1).mono ?_); rintro e w3 ⟨rfl, t2⟩; clear t1)
                | (go_at_call 10; (with_reducible refine (d3.out _ t2).mono ?_); rintro e w4 ⟨rfl, rfl⟩)
                | (go_at_call 12; (with_reducible refine (d2.out 0 _ t2).mono ?_); rintro e w5 ⟨rfl, t3⟩; clear t2)
                | (go_at_call 8; (with_reducible refine (ha.out _).mono ?_); rintro e w6 ⟨rfl, hb⟩)
              go_ret
              exact ⟨rfl, by rw [← hB.out]; exact haw.out _ _ t3 hb⟩
            · have q2 : decide (r.size ≤ 200) = false := decide_eq_false q1
              go_wp2_with first
                | (go_at_call 10; (with_reducible refine (d3.out _ t1).mono ?_); rintro e w2 ⟨rfl, rfl⟩)
                | (go_at_call 12; (with_reducible refine (d2.out 1 _ t1).mono ?_); rintro e w3 ⟨rfl, t2⟩; clear t1)
                | (go_at_call 10; (with_reducible refine (d3.out _ t2).mono ?_); rintro e w4 ⟨rfl, rfl⟩)
                | (go_at_call 12; (with_reducible refine (d2.out 0 _ t2).mono ?_); rintro e w5 ⟨rfl, t3⟩; clear t2)
                | (go_at_call 8; (with_reducible refine (ha.out _).mono ?_); rintro e w6 ⟨rfl, hb⟩)
              go_ret
              exact ⟨rfl, by rw [← hB.out]; exact haw.out _ _ t3 hb⟩
          · have q2 : decide (1 ≤ r.size) = false := decide_eq_false q0
            go_wp2_with first
              | (go_at_call 10; (with_reducible refine (d3.out _ t1).mono ?_); rintro e w2 ⟨rfl, rfl⟩)
              | (go_at_call 12; (with_reducible refine (d2.out 1 _ t1).mono ?_); rintro e w3 ⟨rfl, t2⟩; clear t1)
              | (go_at_call 10; (with_reducible refine (d3.out _ t2).mono ?_); rintro e w4 ⟨rfl, rfl⟩)
              | (go_at_call 12; (with_reducible refine (d2.out 0 _ t2).mono ?_); rintro e w5 ⟨rfl, t3⟩; clear t2)
              | (go_at_call 8; (with_reducible refine (ha.out _).mono ?_); rintro e w6 ⟨rfl, hb⟩)
            go_ret
            exact ⟨rfl, by rw [← hB.out]; exact haw.out _ _ t3 hb⟩
      · have hn2 := hgd
        simp only [nameB, Bool.and_eq_true, decide_eq_true_eq, Bool.not_eq_true'] at hn2
        obtain ⟨⟨q0, q1⟩, q2⟩ := hn2
        rw [q2] at hrs
        have hin : ∀ l : Nat, hasB [(r, l)] r = true := fun l => by simp [hasB]
        have d1 : ∀ w2, Tw [] B w w2 p 0 0 [] [] [] → Calls Try.prog 10 #[.pointer (some ⟨p, 0, none⟩), .string r] w2 fun e w' => e = .returned (.tuple #[.int .i64 2, .int .i64 0]) ∧ Tw [] B w w' p 1 0 [(r, 0)] [] [] :=
          fun w2 t => (tw_sort t r (by simp [freeB, hgd, hasB]) hrm (by omega)).mono fun e w' ⟨he, h1, _⟩ => ⟨he, h1⟩
        have d2 : ∀ w2, Tw [] B w w2 p 1 0 [(r, 0)] [] [] → Calls Try.prog 12 #[.pointer (some ⟨p, 0, none⟩), .agg #[.string r, .slice none 0 0, .int .i64 1]] w2 fun e w' => e = .returned (.int .i64 0) ∧ Tw [] B w w' p 2 0 [(r, 0)] [(r, 0)] [⟨r, [], 1⟩] :=
          fun w2 t => (tw_fun t r none [] 0 1 (.inl rfl) (by simp [freeB, hgd, hasB]) (by rfl) hrm (by omega) (by simp)).mono fun e w' ⟨he, h1, _⟩ => ⟨he, h1⟩
        have d3 : ∀ w2, Tw [] B w w2 p 2 0 [(r, 0)] [(r, 0)] [⟨r, [], 1⟩] → Calls Try.prog 10 #[.pointer (some ⟨p, 0, none⟩), .string r] w2 fun e w' => e = .returned (.tuple #[.int .i64 0, .int .i64 1]) ∧ w2 = w' := fun w2 t => tw_sort_no t r (by simp [freeB, hin]) hrm
        have d4 : ∀ w2, Tw [] B w w2 p 2 0 [(r, 0)] [(r, 0)] [⟨r, [], 1⟩] → Calls Try.prog 12 #[.pointer (some ⟨p, 0, none⟩), .agg #[.string r, .slice none 0 0, .int .i64 0]] w2 fun e w' => e = .returned (.int .i64 1) ∧ Tw [] B w w' p 2 0 [(r, 0)] [(r, 0)] [⟨r, [], 1⟩] :=
          fun w2 t => (tw_fun_no t r none [] 0 0 (.inl rfl) (by simp [freeB, hin]) hrm (by omega) (by simp)).mono fun e w' ⟨he, hb⟩ => ⟨he, t.next hb⟩
        have d5 : ∀ w2, Tw [] B w w2 p 2 0 [(r, 0)] [(r, 0)] [⟨r, [], 1⟩] → Calls Try.prog 18 #[.pointer (some ⟨p, 0, none⟩), .string r] w2 fun e w' => ∃ A c, e = .returned (.tuple #[.agg #[.string r, .slice A 0 c, .int .i64 1], .bool true]) ∧ Tw [] B w w' p 2 0 [(r, 0)] [(r, 0)] [⟨r, [], 1⟩] :=
          fun w2 t => (tw_find t r hrm (by omega) 0 (by simp) rfl).mono fun e w' ⟨A, c, he, _, h1⟩ => ⟨A, c, he, t.next h1⟩
        have ha := fun w => awake6 w
        have hend : ∀ w2 o w3, Tw [] B w w2 p 2 0 [(r, 0)] [(r, 0)] [⟨r, [], 1⟩] → Below (w2.alloc o).heap.size (w2.alloc o) w3 → Below B w w3 := fun w2 o w3 t hb => ((t.next ((Below.refl _ _).alloc (Nat.le_refl _) o)).next hb).below
        replace d1 := hide d1; replace d2 := hide d2; replace d3 := hide d3; replace d4 := hide d4; replace d5 := hide d5; replace ha := hide ha; replace hend := hide hend
        clear hin hgd q2
        go_wp2_with first
          | (go_at_call 29; (with_reducible refine hrs.mono ?_); rintro e w2 ⟨rfl, rfl⟩)
          | (go_at_call 10; (with_reducible refine (d1.out _ t1).mono ?_); rintro e w2 ⟨rfl, t2⟩; clear t1)
          | (go_at_call 12; (with_reducible refine (d2.out _ t2).mono ?_); rintro e w3 ⟨rfl, t3⟩; clear t2)
          | (go_at_call 10; (with_reducible refine (d3.out _ t3).mono ?_); rintro e w4 ⟨rfl, rfl⟩)
          | (go_at_call 12; (with_reducible refine (d4.out _ t3).mono ?_); rintro e w5 ⟨rfl, t4⟩; clear t3)
          | (go_at_call 18; (with_reducible refine (d5.out _ t4).mono ?_); rintro e w6 ⟨A, c, rfl, t5⟩; clear t4)
          | (go_at_call 8; (with_reducible refine (ha.out _).mono ?_); rintro e w7 ⟨rfl, hb⟩)
        go_ret
        exact ⟨rfl, by rw [← hB.out]; exact hend.out _ _ _ t5 hb⟩

theorem names_law (s : ByteArray) (x : Int) (w : World) (hs : s.size ≤ maxLen) :
    Calls Try.prog 5 #[.string s, .int .i64 x] w fun e w' => e = .returned (.bool true) ∧ Below w.heap.size w w' := by
  by_cases h : 250 < s.size ∨ x < 0 ∨ 250 < x
  · exact names_far s x w hs h
  · obtain ⟨n, rfl⟩ : ∃ n : Nat, x = (n : Int) := ⟨x.toNat, by omega⟩
    exact names_near s n w (by omega) (by omega)
end Nt
end Go.Proofs.Ytlcgdiciiibeeaa
