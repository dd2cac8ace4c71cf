
/-
  The reference's fractions: addRat.
  The reference's fractions: Add.
  The reference's fractions: Neg, Sub.
  The reference's fractions: Sub, Quo by 0.
  What ours and the reference's calls say of any two: the same.
-/
import Derived.Test.YtgimmmmpollkhaaGreatQRefQ
namespace Go.Proofs.YtgimmmmpollkhaaGreat

open Go.RowKit

namespace Nt

end Nt

end Go.Proofs.YtgimmmmpollkhaaGreat

namespace Go.Proofs.YtgimmmmpollkhaaGreat

open Go.RowKit

namespace Nt

end Nt

end Go.Proofs.YtgimmmmpollkhaaGreat

namespace Go.Proofs.YtgimmmmpollkhaaGreat

open Go.RowKit

namespace Nt
theorem neg_sgn (q : Rat) : qs (-q) = (!qs q && decide (0 < ln (qn q))) := by rw [← dec_ln]; exact qs_neg q
theorem S3c_next {w w' : World} (hb : Below w.heap.size w w') {p1 p2 p3 : Addr} {v1 v2 v3 : Value} (h : w.cell? p1 = some v1 ∧ w.cell? p2 = some v2 ∧ w.cell? p3 = some v3) :
    w'.cell? p1 = some v1 ∧ w'.cell? p2 = some v2 ∧ w'.cell? p3 = some v3 := ⟨cell_next hb h.1, cell_next hb h.2.1, cell_next hb h.2.2⟩
theorem S3c_over {w : World} {g h : Nat} {v1 v2 v3 a b c : Value} (n1 : h ≠ g) (x : w.cell? ⟨h, 0, none⟩ = some v1 ∧ w.cell? ⟨h, 1, none⟩ = some v2 ∧ w.cell? ⟨h, 2, none⟩ = some v3) :
    (((w.setCell ⟨g, 0, none⟩ a).setCell ⟨g, 1, none⟩ b).setCell ⟨g, 2, none⟩ c).cell? ⟨h, 0, none⟩ = some v1 ∧ (((w.setCell ⟨g, 0, none⟩ a).setCell ⟨g, 1, none⟩ b).setCell ⟨g, 2, none⟩ c).cell? ⟨h, 1, none⟩ = some v2 ∧ (((w.setCell ⟨g, 0, none⟩ a).setCell ⟨g, 1, none⟩ b).setCell ⟨g, 2, none⟩ c).cell? ⟨h, 2, none⟩ = some v3 :=
  ⟨cell_over3 x.1 n1 a b c, cell_over3 x.2.1 n1 a b c, cell_over3 x.2.2 n1 a b c⟩

set_option linter.unusedSimpArgs false in
set_option maxRecDepth 100000 in
set_option maxHeartbeats 4000000 in
theorem rneg_q (q M : Rat) (hM : -q = M) (A B : Option Addr) (a b : Nat) (w : World) (sA : Sl w A (digs (qn q))) (sB : Sl w B (digs (qd q))) (f1 : fitq q) (ca : ln (qn q) ≤ a) (cb : ln (qd q) ≤ b) :
    Calls Tryz.prog 49 #[.agg #[.bool (qs q), .slice A (ln (qn q)) a, .slice B (ln (qd q)) b]] w (RQ w M) := by
  have V1 := hide (fun W (k : Below w.heap.size w W) => rvalid_q q A B a b W (kp' k sA) (kp' k sB) f1)
  obtain ⟨n, hn⟩ : ∃ n, qn q = n := ⟨_, rfl⟩
  obtain ⟨m, hm⟩ : ∃ n, qd q = n := ⟨_, rfl⟩
  have T1 := hide (fun W (k : Below w.heap.size w W) => rtrim_z A a (qn q) W (kp' k sA) (Nat.le_trans f1.1 (by decide)) ca)
  have T2 := hide (fun W (k : Below w.heap.size w W) => rtrim_z B b (qd q) W (kp' k sB) (Nat.le_trans f1.2 (by decide)) cb)
  have E1 := hide (show qs M = (!qs q && decide (0 < ln (qn q))) by rw [← hM]; exact neg_sgn q)
  have E2 := hide (show qn M = n by rw [← hM, qn_neg]; exact hn)
  have E3 := hide (show qd M = m by rw [← hM, qd_neg]; exact hm)
  obtain ⟨i1, hi1⟩ : ∃ i, ln (qn q) = i := ⟨_, rfl⟩
  obtain ⟨i2, hi2⟩ : ∃ i, ln (qd q) = i := ⟨_, rfl⟩
  have e1 : i1 = ln n := by rw [← hn, hi1]
  have e2 : i2 = ln m := by rw [← hm, hi2]
  have T1 : Hid (∀ W, Below w.heap.size w W → Calls Tryz.prog 93 #[.slice A i1 a] W fun e w' => ∃ P p, e = .returned (.slice P i1 p) ∧ Sl w' P (digs n) ∧ Below W.heap.size W w') := by rw [← hi1, ← hn]; exact T1
  have T2 : Hid (∀ W, Below w.heap.size w W → Calls Tryz.prog 93 #[.slice B i2 b] W fun e w' => ∃ P p, e = .returned (.slice P i2 p) ∧ Sl w' P (digs m) ∧ Below W.heap.size W w') := by rw [← hi2, ← hm]; exact T2
  rw [hi1] at E1
  have MK := hide (fun (A B : Option Addr) (c d : Nat) (W : World) (sa : Sl W A (digs n)) (sb : Sl W B (digs m)) (b : Below w.heap.size w W) => (RQ.mk E1.out E2.out E3.out sa sb b : RQ w M (.returned (.agg #[.bool (!qs q && decide (0 < i1)), .slice A (ln n) c, .slice B (ln m) d])) W))
  rw [← e1, ← e2] at MK
  rw [hi1, hi2] at V1 ⊢
  have i0 : i1 ≤ 64 := by rw [← hi1]; exact f1.1
  clear sA sB f1 ca cb hM hn hm E1 E2 E3 hi1 hi2 e1 e2
  generalize qs q = s at *
  have X1 := hide ((Q3.new (.bool s) (.slice A i1 a) (.slice B i2 b) w).al (.cells #[.bool false, .slice none 0 0, .slice none 0 0] 25))
  have X3 := hide (Q3.new1 (.bool false) (.slice none 0 0) (.slice none 0 0) w (.cells #[.bool s, .slice A i1 a, .slice B i2 b] 25))
  have b0 : Below w.heap.size w ((w.alloc (.cells #[.bool s, .slice A i1 a, .slice B i2 b] 25)).alloc (.cells #[.bool false, .slice none 0 0, .slice none 0 0] 25)) := bl_al (bl_al (.refl _ _) _) _
  cases s with
  | true =>
    have MK : Hid (∀ (A B : Option Addr) (c d : Nat) (W : World), Sl W A (digs n) → Sl W B (digs m) → Below w.heap.size w W → RQ w M (.returned (.agg #[.bool false, .slice A i1 c, .slice B i2 d])) W) := MK
    go_enter Tryz.func49, Tryz.ntmps49
    go_wp2_with (first
      | (go_at_call 30; (with_reducible refine (V1.out _ b0).mono ?_); rintro e w1 ⟨rfl, hb⟩; have X1 := hide (X1.out.next hb); have X3 := hide (X3.out.next hb); obtain ⟨x1, x2, x3, x4, x5, x6⟩ := X1.out; obtain ⟨u1, u2, u3, u4, u5, u6⟩ := X3.out; have b1 := bl_trans b0 hb; clear hb))
    have kb := hide b1.drew
    have X3 := hide X3.out.drew
    refine wp_region_held_drew (S := (fun W => W.cell? ⟨w.heap.size, 0, none⟩ = some (.bool true) ∧ W.cell? ⟨w.heap.size, 1, none⟩ = some (.slice A i1 a) ∧ W.cell? ⟨w.heap.size, 2, none⟩ = some (.slice B i2 b))) (by kernel_rfl) ?_ (fun hHeld => ?_)
    · (try dsimp only)
      (first | exact ⟨x1, x2, x3⟩ | exact S3c_next hb (by assumption) | exact S3c_over (by omega) (by assumption) | assumption)
    refine wpAnyH_take (i := 0) (v := ?vv0) (by (simp only [List.getElem?_toArray, List.getElem?_cons_zero, List.getElem?_cons_succ]) <;> rfl) (by kernel_rfl) (by kernel_rfl) (by kernel_rfl) ?hq0 (Or.inl ⟨by rfl, ?hy0⟩) (by assumption) ?_
    case hq0 => exact fun _ _ _ h => h
    case hy0 => ((intro w hSw; (try dsimp only at hSw); go_simp) <;> (with_reducible rfl))
    (try simp only [Act.put, List.setIfInBounds_toArray, List.set_cons_zero, List.set_cons_succ])
    refine wpAnyH_take (i := 1) (v := ?vv1) (by (simp only [List.getElem?_toArray, List.getElem?_cons_zero, List.getElem?_cons_succ]) <;> rfl) (by kernel_rfl) (by kernel_rfl) (by kernel_rfl) ?hq1 (Or.inl ⟨by rfl, ?hy1⟩) (by assumption) ?_
    case hq1 => exact fun _ _ _ h => h
    case hy1 => ((intro w hSw; (try dsimp only at hSw); go_simp) <;> (with_reducible rfl))
    (try simp only [Act.put, List.setIfInBounds_toArray, List.set_cons_zero, List.set_cons_succ])
    refine wpAnyH_take (i := 2) (v := ?vv2) (by (simp only [List.getElem?_toArray, List.getElem?_cons_zero, List.getElem?_cons_succ]) <;> rfl) (by kernel_rfl) (by kernel_rfl) (by kernel_rfl) ?hq2 (Or.inl ⟨by rfl, ?hy2⟩) (by assumption) ?_
    case hq2 => exact fun _ _ _ h => h
    case hy2 => ((intro w hSw; (try dsimp only at hSw); go_simp) <;> (with_reducible rfl))
    (try simp only [Act.put, List.setIfInBounds_toArray, List.set_cons_zero, List.set_cons_succ])
    refine wpAnyH_take (i := 3) (v := ?vv3) (by (simp only [List.getElem?_toArray, List.getElem?_cons_zero, List.getElem?_cons_succ]) <;> rfl) (by kernel_rfl) (by kernel_rfl) (by kernel_rfl) ?hq3 (Or.inl ⟨by rfl, ?hy3⟩) (by assumption) ?_
    case hq3 => exact fun _ _ _ h => h
    case hy3 => ((intro w hSw; (try dsimp only at hSw); go_simp) <;> (with_reducible rfl))
    (try simp only [Act.put, List.setIfInBounds_toArray, List.set_cons_zero, List.set_cons_succ])
    refine wpAnyH_take (i := 4) (v := undef) (by (simp only [List.getElem?_toArray, List.getElem?_cons_zero, List.getElem?_cons_succ]) <;> rfl) (by kernel_rfl) (by kernel_rfl) (by kernel_rfl) ?hq4 (Or.inr ⟨by rfl, rfl⟩) (by assumption) ?_
    case hq4 => exact fun _ _ _ h => h
    (try simp only [Act.put, List.setIfInBounds_toArray, List.set_cons_zero, List.set_cons_succ])
    refine wpAnyH_take (i := 5) (v := undef) (by (simp only [List.getElem?_toArray, List.getElem?_cons_zero, List.getElem?_cons_succ]) <;> rfl) (by kernel_rfl) (by kernel_rfl) (by kernel_rfl) ?hq5 (Or.inr ⟨by rfl, rfl⟩) (by assumption) ?_
    case hq5 => exact fun _ _ _ h => h
    (try simp only [Act.put, List.setIfInBounds_toArray, List.set_cons_zero, List.set_cons_succ])
    refine wpAnyH_take (i := 6) (v := undef) (by (simp only [List.getElem?_toArray, List.getElem?_cons_zero, List.getElem?_cons_succ]) <;> rfl) (by kernel_rfl) (by kernel_rfl) (by kernel_rfl) ?hq6 (Or.inr ⟨by rfl, rfl⟩) (by assumption) ?_
    case hq6 => exact fun _ _ _ h => h
    (try simp only [Act.put, List.setIfInBounds_toArray, List.set_cons_zero, List.set_cons_succ])
    refine wpAnyH_take (i := 7) (v := undef) (by (simp only [List.getElem?_toArray, List.getElem?_cons_zero, List.getElem?_cons_succ]) <;> rfl) (by kernel_rfl) (by kernel_rfl) (by kernel_rfl) ?hq7 (Or.inr ⟨by rfl, rfl⟩) (by assumption) ?_
    case hq7 => exact fun _ _ _ h => h
    (try simp only [Act.put, List.setIfInBounds_toArray, List.set_cons_zero, List.set_cons_succ])
    refine wpAnyH_take (i := 8) (v := ?vv8) (by (simp only [List.getElem?_toArray, List.getElem?_cons_zero, List.getElem?_cons_succ]) <;> rfl) (by kernel_rfl) (by kernel_rfl) (by kernel_rfl) ?hq8 (Or.inl ⟨by rfl, ?hy8⟩) (by assumption) ?_
    case hq8 => exact fun _ _ _ h => h
    case hy8 => ((intro w hSw; (try dsimp only at hSw); go_simp) <;> (with_reducible rfl))
    (try simp only [Act.put, List.setIfInBounds_toArray, List.set_cons_zero, List.set_cons_succ])
    refine wpAnyH_take (i := 9) (v := ?vv9) (by (simp only [List.getElem?_toArray, List.getElem?_cons_zero, List.getElem?_cons_succ]) <;> rfl) (by kernel_rfl) (by kernel_rfl) (by kernel_rfl) ?hq9 (Or.inl ⟨by rfl, ?hy9⟩) (by assumption) ?_
    case hq9 => exact fun _ _ _ h => h
    case hy9 => ((intro w hSw; (try dsimp only at hSw); go_simp) <;> (with_reducible rfl))
    (try simp only [Act.put, List.setIfInBounds_toArray, List.set_cons_zero, List.set_cons_succ])
    refine wpAnyH_take (i := 10) (v := ?vv10) (by (simp only [List.getElem?_toArray, List.getElem?_cons_zero, List.getElem?_cons_succ]) <;> rfl) (by kernel_rfl) (by kernel_rfl) (by kernel_rfl) ?hq10 (Or.inl ⟨by rfl, ?hy10⟩) (by assumption) ?_
    case hq10 => exact fun _ _ _ h => h
    case hy10 => ((intro w hSw; (try dsimp only at hSw); go_simp) <;> (with_reducible rfl))
    (try simp only [Act.put, List.setIfInBounds_toArray, List.set_cons_zero, List.set_cons_succ])
    refine wpAnyH_take (i := 12) (v := ?vv12) (by (simp only [List.getElem?_toArray, List.getElem?_cons_zero, List.getElem?_cons_succ]) <;> rfl) (by kernel_rfl) (by kernel_rfl) (by kernel_rfl) ?hq12 (Or.inl ⟨by rfl, ?hy12⟩) (by assumption) ?_
    case hq12 => exact fun _ _ _ h => h
    case hy12 => ((intro w hSw; (try dsimp only at hSw); go_simp) <;> (with_reducible rfl))
    (try simp only [Act.put, List.setIfInBounds_toArray, List.set_cons_zero, List.set_cons_succ])
    refine wpAnyH_take (i := 13) (v := ?vv13) (by (simp only [List.getElem?_toArray, List.getElem?_cons_zero, List.getElem?_cons_succ]) <;> rfl) (by kernel_rfl) (by kernel_rfl) (by kernel_rfl) ?hq13 (Or.inl ⟨by rfl, ?hy13⟩) (by assumption) ?_
    case hq13 => exact fun _ _ _ h => h
    case hy13 => ((intro w hSw; (try dsimp only at hSw); go_simp) <;> (with_reducible rfl))
    (try simp only [Act.put, List.setIfInBounds_toArray, List.set_cons_zero, List.set_cons_succ])
    refine wpAnyH_ready (rs := [11]) (by kernel_rfl) (by simp) ?_
    refine AllReadyH.cons (by (simp only [List.getElem?_toArray, List.getElem?_cons_zero, List.getElem?_cons_succ]) <;> rfl) (fun K hK => ?_) AllReadyH.nil
    go_simp
    go_at_call 93; (with_reducible refine (T1.out _ kb.out).mono ?_); rintro e v1 ⟨P1, p1, rfl, z1, hb⟩; have X3 := hide (X3.out.next hb); have kb := hide (bl_trans kb.out hb)
    (try go_wp2_with fail)
    refine hK.out _ _ ?_ (fun hHeld => ?_)
    · (try dsimp only)
      (first | exact ⟨x1, x2, x3⟩ | exact S3c_next hb (by assumption) | exact S3c_over (by omega) (by assumption) | assumption)
    clear hK K
    (try simp only [Act.put, List.setIfInBounds_toArray, List.set_cons_zero, List.set_cons_succ])
    refine wpAnyH_ready (rs := [14]) (by kernel_rfl) (by simp) ?_
    refine AllReadyH.cons (by (simp only [List.getElem?_toArray, List.getElem?_cons_zero, List.getElem?_cons_succ]) <;> rfl) (fun K hK => ?_) AllReadyH.nil
    go_simp
    go_at_call 93; (with_reducible refine (T2.out _ kb.out).mono ?_); rintro e v2 ⟨P2, p2, rfl, z2, hb⟩; have X3 := hide (X3.out.next hb); have kb := hide (bl_trans kb.out hb); have z1 := kp' hb z1; obtain ⟨k1, k2, k3, k4, k5, k6⟩ := X3.out
    (try go_wp2_with fail)
    refine hK.out _ _ ?_ (fun hHeld => ?_)
    · (try dsimp only)
      (first | exact ⟨x1, x2, x3⟩ | exact S3c_next hb (by assumption) | exact S3c_over (by omega) (by assumption) | assumption)
    clear hK K
    (try simp only [Act.put, List.setIfInBounds_toArray, List.set_cons_zero, List.set_cons_succ])
    refine wpAnyH_take (i := 15) (v := ?vv15) (by (simp only [List.getElem?_toArray, List.getElem?_cons_zero, List.getElem?_cons_succ]) <;> rfl) (by kernel_rfl) (by kernel_rfl) (by kernel_rfl) ?hq15 (Or.inl ⟨by rfl, ?hy15⟩) (by assumption) ?_
    case hq15 => exact fun _ _ _ h => h
    case hy15 => ((intro w hSw; (try dsimp only at hSw); go_simp) <;> (with_reducible rfl))
    (try simp only [Act.put, List.setIfInBounds_toArray, List.set_cons_zero, List.set_cons_succ])
    refine wpAnyH_ready (rs := [16]) (by kernel_rfl) (by simp) ?_
    refine AllReadyH.cons (by (simp only [List.getElem?_toArray, List.getElem?_cons_zero, List.getElem?_cons_succ]) <;> rfl) (fun K hK => ?_) AllReadyH.nil
    go_simp
    refine hK.out _ _ ?_ (fun hHeld => ?_)
    · (try dsimp only)
      (first | exact ⟨x1, x2, x3⟩ | exact S3c_next hb (by assumption) | exact S3c_over (by omega) (by assumption) | assumption)
    clear hK K
    (try simp only [Act.put, List.setIfInBounds_toArray, List.set_cons_zero, List.set_cons_succ])
    refine wpAnyH_done (by kernel_rfl) ?_ _
    go_wp2
    exact bodyPost_ret (v := .agg #[.bool false, .slice P1 i1 p1, .slice P2 i2 p2]) (by simp [results, Tryz.results49, go_sem, k1, k2, k3]) rfl (MK.out P1 P2 p1 p2 _ (z1.over3 X3.out _ _ _) (z2.over3 X3.out _ _ _) (Below.over3 kb.out (by omega) _ _ _))
  | false =>
    obtain ⟨z, hz⟩ : ∃ z, decide (0 < i1) = z := ⟨_, rfl⟩
    have MK : Hid (∀ (A B : Option Addr) (c d : Nat) (W : World), Sl W A (digs n) → Sl W B (digs m) → Below w.heap.size w W → RQ w M (.returned (.agg #[.bool z, .slice A i1 c, .slice B i2 d])) W) := by rw [← hz]; exact MK
    have oz : binOp .gtr 3 (.int .i64 (i1 : Int)) (.int .i64 0) = pure (.bool z) := by
      show pure (Value.bool (decide ((i1 : Int) > 0))) = _
      rw [← hz]; congr 2; exact decide_eq_decide.2 (by omega)
    clear hz
    go_enter Tryz.func49, Tryz.ntmps49
    go_wp2_with (first
      | (go_at_call 30; (with_reducible refine (V1.out _ b0).mono ?_); rintro e w1 ⟨rfl, hb⟩; have X1 := hide (X1.out.next hb); have X3 := hide (X3.out.next hb); obtain ⟨x1, x2, x3, x4, x5, x6⟩ := X1.out; obtain ⟨u1, u2, u3, u4, u5, u6⟩ := X3.out; have b1 := bl_trans b0 hb; clear hb))
    have kb := hide b1.drew
    have X3 := hide X3.out.drew
    first
     | (go_region_held3 (fun W => W.cell? ⟨w.heap.size, 0, none⟩ = some (.bool false) ∧ W.cell? ⟨w.heap.size, 1, none⟩ = some (.slice A i1 a) ∧ W.cell? ⟨w.heap.size, 2, none⟩ = some (.slice B i2 b))
      (first | exact ⟨x1, x2, x3⟩ | with_reducible exact S3c_next hb (by assumption) | with_reducible exact S3c_over (by omega) (by assumption) | with_reducible assumption)
      (first
        | (go_at_call 93; (with_reducible refine (T1.out _ kb.out).mono ?_); rintro e v1 ⟨P1, p1, rfl, z1, hb⟩; have X3 := hide (X3.out.next hb); have kb := hide (bl_trans kb.out hb); (try have z2 := kp' hb z2); (try (obtain ⟨k1, k2, k3, k4, k5, k6⟩ := X3.out)))
        | (go_at_call 93; (with_reducible refine (T2.out _ kb.out).mono ?_); rintro e v2 ⟨P2, p2, rfl, z2, hb⟩; have X3 := hide (X3.out.next hb); have kb := hide (bl_trans kb.out hb); (try have z1 := kp' hb z1); (try clear k1 k2 k3 k4 k5 k6); (try (obtain ⟨k1, k2, k3, k4, k5, k6⟩ := X3.out)))))
     | fail
    all_goals
      go_wp2
      exact bodyPost_ret (v := .agg #[.bool z, .slice P1 i1 p1, .slice P2 i2 p2]) (by simp [results, Tryz.results49, go_sem, k1, k2, k3]) rfl (MK.out P1 P2 p1 p2 _ (z1.over3 X3.out _ _ _) (z2.over3 X3.out _ _ _) (Below.over3 kb.out (by omega) _ _ _))
end Nt

end Go.Proofs.YtgimmmmpollkhaaGreat

namespace Go.Proofs.YtgimmmmpollkhaaGreat

open Go.RowKit

namespace Nt

end Nt

end Go.Proofs.YtgimmmmpollkhaaGreat

namespace Go.Proofs.YtgimmmmpollkhaaGreat

open Go.RowKit

namespace Nt
/-- What a call hands back: a fraction (or none) and an error. -/
def ROut (w : World) (s : Bool) (xs ys : List Nat) (k : Int) (e : Ending) (w' : World) : Prop := ∃ A c B d, e = .returned (.tuple #[.agg #[.bool s, .slice A xs.length c, .slice B ys.length d], .int .i64 k]) ∧ Sl w' A xs ∧ Sl w' B ys ∧ Below w.heap.size w w'
/-- .. one alone. -/
def RVal (w : World) (s : Bool) (xs ys : List Nat) (e : Ending) (w' : World) : Prop := ∃ A c B d, e = .returned (.agg #[.bool s, .slice A xs.length c, .slice B ys.length d]) ∧ Sl w' A xs ∧ Sl w' B ys ∧ Below w.heap.size w w'
theorem RQE.out {w w' : World} {q : Rat} {e : Ending} (h : RQE w q e w') : ROut w (qs q) (digs (qn q)) (digs (qd q)) 0 e w' := h
theorem RQ.out {w w' : World} {q : Rat} {e : Ending} (h : RQ w q e w') : RVal w (qs q) (digs (qn q)) (digs (qd q)) e w' := h
theorem RNo.out {w w' : World} {e : Ending} (h : RNo 1 w e w') : ROut w false [] [] 1 e w' := ⟨none, 0, none, 0, h.1, .nil, .nil, h.2⟩
end Nt

end Go.Proofs.YtgimmmmpollkhaaGreat
