
/-
  Package rat: Floor.
-/
import Derived.Test.YtboppbidldomhaaGreatDoorRatP

namespace Go.Proofs.YtboppbidldomhaaGreatDoor

open Go.RowKit

namespace Nt

set_option maxRecDepth 100000 in
set_option maxHeartbeats 40000000 in
theorem floor_q (q : Rat) (A B : Option Addr) (a b : Nat) (w : World) (sA : Sl w A (digs (qn q))) (sB : Sl w B (digs (qd q))) (f1 : fitq q) (z : Int) (hz : q.floor = z) :
    Calls Tryz.prog 46 #[.agg #[.bool (qs q), .slice A (ln (qn q)) a, .slice B (ln (qd q)) b]] w fun e w' => ∃ A c, e = .returned (.agg #[.bool (isg z), .slice A (ln z.natAbs) c]) ∧ Sl w' A (digs z.natAbs) ∧ Below w.heap.size w w' := by
  have V1 := hide (fun W (k : Below w.heap.size w W) => valid_q q A B a b W (kp' k sA) (kp' k sB) f1.1 f1.2)
  have T := hide (fun W => top_q (qs q) A B (ln (qn q)) a (ln (qd q)) b W)
  have D := hide (fun W (k : Below w.heap.size w W) => div_top q A B a b W (kp' k sA) (kp' k sB) f1 z hz)
  clear sA sB f1 hz
  generalize qs q = s at *
  generalize ln (qn q) = i1 at *
  generalize ln (qd q) = i2 at *
  have X1 := hide ((Q3.new (.bool s) (.slice A i1 a) (.slice B i2 b) w).al (.cells #[.bool false, .slice none 0 0] 50))
  have X2 := hide (Q2.new1 (.bool false) (.slice none 0 0) w (.cells #[.bool s, .slice A i1 a, .slice B i2 b] 24))
  have b0 : Below w.heap.size w ((w.alloc (.cells #[.bool s, .slice A i1 a, .slice B i2 b] 24)).alloc (.cells #[.bool false, .slice none 0 0] 50)) := bl_al (bl_al (.refl _ _) _) _
  go_enter Tryz.func46, Tryz.ntmps46
  go_wp2_with (go_at_call 25; (with_reducible refine (V1.out _ b0).mono ?_); rintro e w1 ⟨rfl, hb⟩; have X1 := hide (X1.out.next hb); have X2 := hide (X2.out.next hb); obtain ⟨x1, x2, x3, x4, x5, x6⟩ := X1.out; have b1 := bl_trans b0 hb; clear hb)
  have kb := hide b1.drew
  have X1 := hide X1.out.drew
  have X2 := hide X2.out.drew
  have hlt := X2.out.lt
  have hlt : w.heap.size + 1 < w1.heap.size := hlt
  go_region_held3 (fun W => W.cell? ⟨w.heap.size, 0, none⟩ = some (.bool s) ∧ W.cell? ⟨w.heap.size, 1, none⟩ = some (.slice A i1 a) ∧ W.cell? ⟨w.heap.size, 2, none⟩ = some (.slice B i2 b))
    (first | exact ⟨x1, x2, x3⟩ | with_reducible exact q3_three X1.out | with_reducible exact S3_next hb (by assumption) | with_reducible exact S3_next (bl_al (.refl _ _) _) (by assumption) | with_reducible exact q3_three ((X1.out.al _).al _) | with_reducible exact q3_three (X1.out.al _) | with_reducible exact S3_set2 (by omega) (by assumption) | with_reducible assumption | exact S3_next (bl_al (.refl _ _) _) (by assumption) | exact q3_three ((X1.out.al _).al _))
    (first
      | (go_at_call 58; (with_reducible refine (T.out _).mono ?_); rintro e w2 ⟨rfl, hb⟩; (first | (have X1 := hide (X1.out.next hb); have X2 := hide (X2.out.next hb); have kb := hide (bl_trans kb.out hb)) | (have hb := (show Below (w1.drew.alloc (.cells #[.bool false, .slice none 0 0] 50)).heap.size (w1.drew.alloc (.cells #[.bool false, .slice none 0 0] 50)) w2 from hb); have h1 := bl_one hb; have X1 := hide (X1.out.next h1); have X2 := hide (X2.out.next h1); have kb := hide (bl_trans kb.out h1); have Pa : Hid (Q2 w1.heap.size (.bool false) (.slice none 0 0) w2) := hide ((Q2.new (.bool false) (.slice none 0 0) w1.drew).next hb); clear h1) | (have hb := (show Below ((w1.drew.alloc (.cells #[.bool false, .slice none 0 0] 50)).alloc (.cells #[.bool false, .slice none 0 0] 50)).heap.size ((w1.drew.alloc (.cells #[.bool false, .slice none 0 0] 50)).alloc (.cells #[.bool false, .slice none 0 0] 50)) w2 from hb); have h2 := bl_two hb; have X1 := hide (X1.out.next h2); have X2 := hide (X2.out.next h2); have kb := hide (bl_trans kb.out h2); have Pa : Hid (Q2 w1.heap.size (.bool false) (.slice none 0 0) w2) := hide (((Q2.new (.bool false) (.slice none 0 0) w1.drew).al (.cells #[.bool false, .slice none 0 0] 50)).next hb); have Pb : Hid (Q2 (w1.heap.size + 1) (.bool false) (.slice none 0 0) w2) := hide ((Q2.new1 (.bool false) (.slice none 0 0) w1.drew (.cells #[.bool false, .slice none 0 0] 50)).next hb); clear h2)); have hs2 := X2.out.lt; (try have hp2 := Pa.out.lt); (try have hp3 := Pb.out.lt); have z2 := Below.size hb; (try rw [size1] at z2); (try rw [size1] at z2); have z2 : w1.heap.size + (w2.heap.size - w1.heap.size) = w2.heap.size ∧ _ := ⟨Nat.add_sub_cancel' (by have : w1.drew.heap.size = w1.heap.size := rfl; omega), z2⟩)
      | (go_at_call 97; (with_reducible refine (D.out _ (by first | exact kb.out | exact bl_al kb.out _ | exact bl_al (bl_al kb.out _) _)).mono ?_); rintro e w3 ⟨A3, c3, B3, t3, m3, d3, rfl, s3, hb⟩; (first | (have X1 := hide (X1.out.next hb); have X2 := hide (X2.out.next hb); have kb := hide (bl_trans kb.out hb); (try have Pa := hide (Pa.out.next hb)); (try have Pb := hide (Pb.out.next hb))) | (have h1 := bl_one hb; have X1 := hide (X1.out.next h1); have X2 := hide (X2.out.next h1); have kb := hide (bl_trans kb.out h1); (first | (have Pb := hide ((Q2.new (.bool false) (.slice none 0 0) w2).next hb); have Pa := hide (Pa.out.next h1)) | have Pa := hide ((Q2.new (.bool false) (.slice none 0 0) w2).next hb)); clear h1) | (have h2 := bl_two hb; have X1 := hide (X1.out.next h2); have X2 := hide (X2.out.next h2); have kb := hide (bl_trans kb.out h2); have Pa := hide (((Q2.new (.bool false) (.slice none 0 0) w2).al (.cells #[.bool false, .slice none 0 0] 50)).next hb); have Pb := hide ((Q2.new1 (.bool false) (.slice none 0 0) w2 (.cells #[.bool false, .slice none 0 0] 50)).next hb); clear h2)); have hs3 := X2.out.lt; (try (obtain ⟨p1, p2, p3, p4⟩ := Pa.out)); (try (obtain ⟨r1, r2, r3, r4⟩ := Pb.out)); (try (have p5 := fun X => (Pa.out.al X).1; have p6 := fun X => (Pa.out.al X).2.1; have p7 := fun X => (Pa.out.al X).2.2.1; have p8 := fun X => (Pa.out.al X).2.2.2)); have z3 := Below.size hb; (try rw [size1] at z3); (try rw [size1] at z3); have z3' : w3.heap.size ≥ w2.heap.size := by omega; (try (obtain ⟨m1, m2, m3', m4⟩ := fresh_after2 Pa.out (.bool (isg z)) (.slice A3 (ln z.natAbs) c3))); (try (obtain ⟨q1, q2, q3, q4⟩ := other_after2 Pb.out (by omega) (.bool (isg z)) (.slice A3 (ln z.natAbs) c3) Pa.out)); (try (obtain ⟨q5, q6, q7, q8⟩ := other_after2 Pa.out (by omega) (.bool (isg z)) (.slice A3 (ln z.natAbs) c3) Pb.out))))
  all_goals
    have f0 : Fi0 w A3 z.natAbs w3 := ⟨kb.out, X2.out, s3⟩
    clear V1 T D
    refine then_fin (Fn := Fin w (isg z) A3 (ln z.natAbs) c3 z.natAbs _) (by
      first
        | with_reducible exact fin_aa1 f0
        | with_reducible exact fin_aa2 f0
        | with_reducible exact fin_sa f0 Pa.out (by omega)
        | with_reducible exact fin_as f0 Pa.out (by omega)
        | with_reducible exact fin_ss f0 Pa.out Pb.out (by omega) (by omega) (by omega)
        | with_reducible exact fin_ss f0 Pb.out Pa.out (by omega) (by omega) (by omega)) ?_
    clear f0 s3 X1 X2 kb hb
    rintro v ⟨b9, Y2, G, s9⟩
    have Y2 := hide Y2
    obtain ⟨y1, y2, y3, y4⟩ := Y2.out
    obtain ⟨g1, g2, g3, g4⟩ := G
    go_wp2
    exact bodyPost_ret (v := .agg #[.bool (isg z), .slice A3 (ln z.natAbs) c3]) (by simp [results, Tryz.results46, go_sem, y1, y2]) rfl ⟨A3, c3, rfl, s9.store2 y1 y2 _ _, Below.store2 b9 (Nat.le_succ _) _ _⟩
end Nt

end Go.Proofs.YtboppbidldomhaaGreatDoor
