/-
  The law of acts.
-/
import Derived.Test.YtlcgdiciiibeeaaRl
namespace Go.Proofs.Ytlcgdiciiibeeaa
open Go.ChangeShapes Go.RowKit
namespace Nt
set_option maxRecDepth 100000
set_option linter.unusedSimpArgs false
set_option linter.unusedVariables false
theorem Ib.back {B : Nat} {w w' : World} {A : Option Addr} {ar : List Int} (h : Ib B w' A ar) (hb : Below B w w') : Ib B w A ar := by
  rcases h with h | ⟨b, o, h1, h2, h3⟩
  · exact .inl h
  · refine .inr ⟨b, o, h1, h2, fun j hj => ?_⟩
    have := h3 j hj
    unfold World.cell? at this ⊢
    rw [← hb.block b h2]
    exact this
set_option maxHeartbeats 16000000 in
theorem acts_near (A : Option Addr) (l : List Ac) (c : Nat) (name : ByteArray) (w : World) (h : Av w.heap.size w A l) (hl : l.length ≤ maxLen) (hsz : ∀ a ∈ l, a.nm.size ≤ maxLen ∧ a.f.nm.size ≤ maxLen ∧ a.f.ar.length ≤ maxLen) (hf : fewB l = true) (hn : name.size ≤ 300) :
    Calls Try.prog 3 #[.slice A l.length c, .string name] w fun e w' => e = .returned (.bool true) ∧ Below w.heap.size w w' := by
  have hfew := few_any A l c w h hl hsz
  rw [hf] at hfew
  have hl40 : l.length ≤ 40 ∧ ∀ j (hj : j < l.length), goodB l[j] = true := by
    simp only [fewB, Bool.and_eq_true, decide_eq_true_eq, List.all_eq_true] at hf
    exact ⟨hf.1, fun j hj => hf.2 _ (List.getElem_mem hj)⟩
  obtain ⟨hl40, hgood⟩ := hl40
  obtain ⟨B, hB⟩ : ∃ B, B = w.heap.size := ⟨_, rfl⟩
  have hnew := new_any (X := []) w (by simp)
  have hAv : ∀ wr, Below B w wr → Av B wr A l := fun wr hb => by
    rw [← hB] at h
    exact h.next hb
  have hBp : B ≤ w.heap.size := by omega
  have hbw : ∀ w', Below w.heap.size w w' → Below B w w' := fun w' hb => by rw [hB]; exact hb
  have hbf : ∀ w', Below B w w' → Below w.heap.size w w' := fun w' hb => by rw [← hB]; exact hb
  have hnm : decide (300 < name.size) = false := decide_eq_false (by omega)
  obtain ⟨n, hnn⟩ : ∃ n, n = l.length := ⟨_, rfl⟩
  rw [← hnn] at hfew hl40 ⊢
  have hres : ∀ W, Calls Try.prog 29 #[.string name] W fun e w' => e = .returned (.bool (resB name)) ∧ w' = W := fun W => reserved_any name W
  have hres2 : ∀ W, Calls Try.prog 30 #[.string name] W fun e w' => e = .returned (.bool (resB name)) ∧ Below W.heap.size W w' := fun W => ref_reserved name W
  generalize resB name = rb at *
  generalize hpe : w.heap.size = p at hnew hBp
  replace hpe := hide hpe
  replace hAv := hide hAv; replace hgood := hide hgood; replace hnew := hide hnew; replace hfew := hide hfew; replace hbw := hide hbw; replace hbf := hide hbf; replace hnn := hide hnn; replace hres := hide hres; replace hres2 := hide hres2; replace hBp := hide hBp
  clear h hsz hf hl hB
  go_enter Try.func3, Try.ntmps3
  go_wp2_with first
    | (go_at_call 7; (with_reducible refine hfew.out.mono ?_); rintro e w' ⟨rfl, rfl⟩)
    | (go_at_call 9; (with_reducible refine hnew.out.mono ?_); rintro e w1 ⟨rfl, hT1, hb1⟩; have hJ1 := hide (And.intro hT1 hb1); clear hT1 hb1)
  obtain ⟨W1, hW1⟩ : ∃ V, V = w1.alloc (.cells #[.slice none 0 0, .slice none 0 0, .slice none 0 0] 32) := ⟨_, rfl⟩
  rw [← hW1]
  have hJ00 : J0 B w p w1.heap.size 0 W1 := J0.start (Nat.le_trans hBp.out (Nat.le_of_lt (hJ1.out.1.lt p (by simp)))) (hbw.out w1 (by rw [hpe.out]; exact hJ1.out.2)) hJ1.out.1 hBp.out (by rw [hW1]; exact Bk.new _ _ _) (by rw [hW1]; exact bel_al _ _)
  obtain ⟨r, hr⟩ : ∃ r, r = w1.heap.size := ⟨_, rfl⟩
  rw [← hr] at hJ00 ⊢
  replace hJ00 := hide hJ00; replace hr := hide hr; replace hW1 := hide hW1
  clear hnew hJ1
  go_loopw [7] (fun i wr => ∃ j : Nat, j ≤ n ∧ i = .int .i64 (j : Int) ∧ J0 B w p r j wr) (fun i _ => n - (intOf i).toNat)
  case atStart => exact ⟨0, Nat.zero_le _, rfl, hJ00.out⟩
  case round =>
    obtain ⟨j, hj, rfl, hJ0⟩ := hrel
    obtain ⟨wa, hwa⟩ : ∃ x, x = wr := ⟨_, rfl⟩
    subst hwa
    by_cases hjn : j < n
    · have hjl : j < l.length := by rw [← hnn.out]; exact hjn
      obtain ⟨b, o, rfl, hbB, A', c', q0, q1, q2, q3, q4, q5, hI0, hc0⟩ := hAv.out wa hJ0.below j hjl
      have hgj := hgood.out j hjl
      generalize l[j] = a at *
      obtain ⟨kd, an, ⟨fnm, ar, rs⟩, nn⟩ := a
      dsimp only at q0 q1 q2 q3 q4 q5 hI0
      simp only [goodB, Bool.and_eq_true, decide_eq_true_eq] at hgj
      obtain ⟨⟨s1, s2⟩, s3⟩ := hgj
      have hI := hI0.back hJ0.below
      obtain ⟨mm, hmm⟩ : ∃ m, m = ar.length := ⟨_, rfl⟩
      rw [← hmm] at q3
      obtain ⟨W, hW⟩ : ∃ V, V = wa.alloc (.cells #[.int .i64 kd, .string an, .string fnm, .slice A' mm c', .int .i64 rs, .int .i64 nn] 37) := ⟨_, rfl⟩
      have hJ : Jj B w p r wa.heap.size #[.int .i64 kd, .string an, .string fnm, .slice A' mm c', .int .i64 rs, .int .i64 nn] j W := J0.act hJ0 (by rw [hW]; exact Bk.new _ _ _) (by rw [hW]; exact bel_al _ _)
      have hj40 : j < 40 := by omega
      replace hJ := hide hJ; replace hW := hide hW; replace hI := hide hI; replace hc0 := hide hc0; replace hmm := hide hmm
      clear hJ0 hI0 hbB
      by_cases k1 : kd = 1
      · as_aux_lemma =>
          subst k1
          obtain ⟨x, e, M, hc, hr⟩ := j_sort hJ.out (by omega) an (by omega)
          replace hc := hide hc; replace hr := hide hr
          go_wp2_with first
            | (go_at_call 10; rw [← hW.out]; (with_reducible refine hc.out.mono ?_); rintro e' w2 ⟨rfl, hM⟩; obtain ⟨hB2, hr2⟩ := hr.out w2 hM; have y1 : w2.cell? ⟨wa.heap.size, 1, none⟩ = some (.string an) := hB2.cell rfl; replace hr2 := hide hr2; clear hB2 hM)
            | (go_at_call 11; (with_reducible refine hr2.out.mono ?_); rintro e' w3 ⟨rfl, hJ3⟩; obtain ⟨l2, hl2, hfu, hal⟩ := j_funs hJ3 (by omega); obtain ⟨lv, hv1, hv2⟩ := j_levels hJ3; replace hfu := hide hfu; replace hal := hide hal; replace hv1 := hide hv1; replace hv2 := hide hv2; replace hJ3 := hide hJ3; replace hl2 := hide hl2)
            | (go_at_call 25; (with_reducible refine hfu.out.mono ?_); rintro e w5 ⟨A5, c5, rfl, hF5, hb5⟩; have hal5 := hide (hal.out w5 hb5); replace hF5 := hide hF5; replace hb5 := hide hb5)
            | (go_at_call 26; (with_reducible refine hal5.out.mono ?_); rintro e w6 ⟨A6, c6, rfl, hF6, hb6⟩; have hb36 := hide (hb5.out.trans (hb6.mono hb5.out.size)); have hF5' := hide (hF5.out.next hb6); have hv1' := hide (hv1.out w6 hb36.out); have hv2' := hide (hv2.out w6 hb36.out); replace hF6 := hide hF6; clear hb6)
            | (go_at_call 27; (with_reducible refine hv1'.out.mono ?_); rintro e w7 ⟨rfl, rfl⟩)
            | (go_at_call 28; (with_reducible refine hv2'.out.mono ?_); rintro e w8 ⟨rfl, rfl⟩)
          obtain ⟨m2, hm2⟩ : ∃ m, m = l2.length := ⟨_, rfl⟩
          rw [← hm2]
          have hm1000 : m2 ≤ 1000 := by have := hl2.out; omega
          replace hm2 := hide hm2
          go_loopw [27] (fun q wx => ∃ m : Nat, m ≤ m2 ∧ q = .int .i64 (m : Int) ∧ Below w6.heap.size w6 wx) (fun q _ => m2 - (intOf q).toNat)
          case atStart => exact ⟨0, Nat.zero_le _, rfl, .refl _ _⟩
          case round =>
            obtain ⟨m, hm, rfl, hbx⟩ := hrel
            by_cases hmm : m < m2
            · have hml : m < l2.length := by have := hm2.out; omega
              obtain ⟨g5, rfl, hA5⟩ : ∃ g5, A5 = some ⟨g5, 0, none⟩ ∧ FunsAt wr g5 l2 := by
                rcases hF5'.out.next hbx with h0 | ⟨g5, h1, h2⟩
                · rw [h0] at hml; simp at hml
                · exact ⟨g5, h1, h2⟩
              obtain ⟨g6, rfl, hA6⟩ : ∃ g6, A6 = some ⟨g6, 0, none⟩ ∧ FunsAt wr g6 l2 := by
                rcases hF6.out.next hbx with h0 | ⟨g6, h1, h2⟩
                · rw [h0] at hml; simp at hml
                · exact ⟨g6, h1, h2⟩
              obtain ⟨Aa, ca, y0, y1, y2, hIa, h64⟩ := hA5 m hml
              obtain ⟨Ab, cb, z0, z1, z2, hIb, _⟩ := hA6 m hml
              have hsame : ∀ W, Below wr.heap.size wr W → Calls Try.prog 20 #[.agg #[.string l2[m].nm, .slice Aa l2[m].ar.length ca, .int .i64 l2[m].rs], .agg #[.string l2[m].nm, .slice Ab l2[m].ar.length cb, .int .i64 l2[m].rs]] W fun e w' => e = .returned (.bool true) ∧ Below wr.heap.size wr w' := fun W hb => by
                have hO := Off.of_below hb []
                exact (same_any _ Aa Ab _ ca cb _ W (hIa.off hO (by simp) (by simp)) (hIb.off hO (by simp) (by simp)) (by omega)).mono fun e w' ⟨he, hb'⟩ => ⟨he, hb.trans (hb'.mono hb.size)⟩
              have hk6 : ∀ W, Below wr.heap.size wr W → (W.cell? ⟨g5, m * 3, none⟩ = some (.string l2[m].nm) ∧ W.cell? ⟨g5, m * 3 + 1, none⟩ = some (.slice Aa l2[m].ar.length ca) ∧ W.cell? ⟨g5, m * 3 + 2, none⟩ = some (.int .i64 l2[m].rs)) ∧ (W.cell? ⟨g6, m * 3, none⟩ = some (.string l2[m].nm) ∧ W.cell? ⟨g6, m * 3 + 1, none⟩ = some (.slice Ab l2[m].ar.length cb) ∧ W.cell? ⟨g6, m * 3 + 2, none⟩ = some (.int .i64 l2[m].rs)) := fun W hb => by
                have hO := Off.of_below hb []
                exact ⟨⟨hO.cell y0 (cell_in y0) (by simp), hO.cell y1 (cell_in y1) (by simp), hO.cell y2 (cell_in y2) (by simp)⟩, ⟨hO.cell z0 (cell_in z0) (by simp), hO.cell z1 (cell_in z1) (by simp), hO.cell z2 (cell_in z2) (by simp)⟩⟩
              generalize l2[m].nm = nx at *
              generalize l2[m].rs = rx at *
              generalize l2[m].ar.length = mm at *
              replace hsame := hide hsame; replace hk6 := hide hk6; replace hbx := hide hbx
              clear hIa hIb hA5 hA6 h64 y0 y1 y2 z0 z1 z2
              go_wp2
              refine wp_region_held_drew (S := (fun W => (W.cell? ⟨g5, m * 3, none⟩ = some (.string nx) ∧ W.cell? ⟨g5, m * 3 + 1, none⟩ = some (.slice Aa mm ca) ∧ W.cell? ⟨g5, m * 3 + 2, none⟩ = some (.int .i64 rx)) ∧ (W.cell? ⟨g6, m * 3, none⟩ = some (.string nx) ∧ W.cell? ⟨g6, m * 3 + 1, none⟩ = some (.slice Ab mm cb) ∧ W.cell? ⟨g6, m * 3 + 2, none⟩ = some (.int .i64 rx)))) (by kernel_rfl) ?_ (fun hHeld => ?_)
              · (try dsimp only)
                exact hk6.out _ (bel_drew wr)
              refine wpAnyH_take (i := 0) (v := ?vvr1x0) (by (simp only [List.getElem?_toArray, List.getElem?_cons_zero, List.getElem?_cons_succ]) <;> rfl) (by kernel_rfl) (by kernel_rfl) (by kernel_rfl) ?hqr1x0 (Or.inl ⟨by rfl, ?hyr1x0⟩) (by assumption) ?_
              case hqr1x0 => exact fun _ _ _ h => h
              case hyr1x0 => ((intro w hSw; (try dsimp only at hSw); go_simp) <;> (with_reducible rfl))
              (try simp only [Act.put, List.setIfInBounds_toArray, List.set_cons_zero, List.set_cons_succ])
              refine wpAnyH_take (i := 1) (v := ?vvr1x1) (by (simp only [List.getElem?_toArray, List.getElem?_cons_zero, List.getElem?_cons_succ]) <;> rfl) (by kernel_rfl) (by kernel_rfl) (by kernel_rfl) ?hqr1x1 (Or.inl ⟨by rfl, ?hyr1x1⟩) (by assumption) ?_
              case hqr1x1 => exact fun _ _ _ h => h
              case hyr1x1 => ((intro w hSw; (try dsimp only at hSw); go_simp) <;> (with_reducible rfl))
              (try simp only [Act.put, List.setIfInBounds_toArray, List.set_cons_zero, List.set_cons_succ])
              refine wpAnyH_take (i := 2) (v := ?vvr1x2) (by (simp only [List.getElem?_toArray, List.getElem?_cons_zero, List.getElem?_cons_succ]) <;> rfl) (by kernel_rfl) (by kernel_rfl) (by kernel_rfl) ?hqr1x2 (Or.inl ⟨by rfl, ?hyr1x2⟩) (by assumption) ?_
              case hqr1x2 => exact fun _ _ _ h => h
              case hyr1x2 => ((intro w hSw; (try dsimp only at hSw); go_simp) <;> (with_reducible rfl))
              (try simp only [Act.put, List.setIfInBounds_toArray, List.set_cons_zero, List.set_cons_succ])
              refine wpAnyH_take (i := 3) (v := ?vvr1x3) (by (simp only [List.getElem?_toArray, List.getElem?_cons_zero, List.getElem?_cons_succ]) <;> rfl) (by kernel_rfl) (by kernel_rfl) (by kernel_rfl) ?hqr1x3 (Or.inl ⟨by rfl, ?hyr1x3⟩) (by assumption) ?_
              case hqr1x3 => exact fun _ _ _ h => h
              case hyr1x3 => ((intro w hSw; (try dsimp only at hSw); go_simp) <;> (with_reducible rfl))
              (try simp only [Act.put, List.setIfInBounds_toArray, List.set_cons_zero, List.set_cons_succ])
              refine wpAnyH_take (i := 4) (v := ?vvr1x4) (by (simp only [List.getElem?_toArray, List.getElem?_cons_zero, List.getElem?_cons_succ]) <;> rfl) (by kernel_rfl) (by kernel_rfl) (by kernel_rfl) ?hqr1x4 (Or.inl ⟨by rfl, ?hyr1x4⟩) (by assumption) ?_
              case hqr1x4 => exact fun _ _ _ h => h
              case hyr1x4 => ((intro w hSw; (try dsimp only at hSw); go_simp) <;> (with_reducible rfl))
              (try simp only [Act.put, List.setIfInBounds_toArray, List.set_cons_zero, List.set_cons_succ])
              refine wpAnyH_take (i := 5) (v := ?vvr1x5) (by (simp only [List.getElem?_toArray, List.getElem?_cons_zero, List.getElem?_cons_succ]) <;> rfl) (by kernel_rfl) (by kernel_rfl) (by kernel_rfl) ?hqr1x5 (Or.inl ⟨by rfl, ?hyr1x5⟩) (by assumption) ?_
              case hqr1x5 => exact fun _ _ _ h => h
              case hyr1x5 => ((intro w hSw; (try dsimp only at hSw); go_simp) <;> (with_reducible rfl))
              (try simp only [Act.put, List.setIfInBounds_toArray, List.set_cons_zero, List.set_cons_succ])
              refine wpAnyH_take (i := 6) (v := ?vvr1x6) (by (simp only [List.getElem?_toArray, List.getElem?_cons_zero, List.getElem?_cons_succ]) <;> rfl) (by kernel_rfl) (by kernel_rfl) (by kernel_rfl) ?hqr1x6 (Or.inl ⟨by rfl, ?hyr1x6⟩) (by assumption) ?_
              case hqr1x6 => exact fun _ _ _ h => h
              case hyr1x6 => ((intro w hSw; (try dsimp only at hSw); go_simp) <;> (with_reducible rfl))
              (try simp only [Act.put, List.setIfInBounds_toArray, List.set_cons_zero, List.set_cons_succ])
              refine wpAnyH_take (i := 7) (v := ?vvr1x7) (by (simp only [List.getElem?_toArray, List.getElem?_cons_zero, List.getElem?_cons_succ]) <;> rfl) (by kernel_rfl) (by kernel_rfl) (by kernel_rfl) ?hqr1x7 (Or.inl ⟨by rfl, ?hyr1x7⟩) (by assumption) ?_
              case hqr1x7 => exact fun _ _ _ h => h
              case hyr1x7 => ((intro w hSw; (try dsimp only at hSw); go_simp) <;> (with_reducible rfl))
              (try simp only [Act.put, List.setIfInBounds_toArray, List.set_cons_zero, List.set_cons_succ])
              refine wpAnyH_ready (rs := [8]) (by kernel_rfl) (by simp) ?_
              refine AllReadyH.cons (by (simp only [List.getElem?_toArray, List.getElem?_cons_zero, List.getElem?_cons_succ]) <;> rfl) (fun K hK => ?_) AllReadyH.nil
              go_simp
              go_at_call 20; (with_reducible refine (hsame.out _ (bel_drew wr)).mono ?_); rintro e w9 ⟨rfl, hb9⟩; replace hb9 := hide hb9
              (try go_wp2_with fail)
              refine hK.out _ _ ?_ (fun hHeld => ?_)
              · (try dsimp only)
                exact hk6.out _ hb9.out
              (try clear hK K)
              (try simp only [Act.put, List.setIfInBounds_toArray, List.set_cons_zero, List.set_cons_succ])
              refine wpAnyH_take (i := 9) (v := ?vvr1x9) (by (simp only [List.getElem?_toArray, List.getElem?_cons_zero, List.getElem?_cons_succ]) <;> rfl) (by kernel_rfl) (by kernel_rfl) (by kernel_rfl) ?hqr1x9 (Or.inl ⟨by rfl, ?hyr1x9⟩) (by assumption) ?_
              case hqr1x9 => exact fun _ _ _ h => h
              case hyr1x9 => ((intro w hSw; (try dsimp only at hSw); go_simp) <;> (with_reducible rfl))
              (try simp only [Act.put, List.setIfInBounds_toArray, List.set_cons_zero, List.set_cons_succ])
              refine wpAnyH_done (by kernel_rfl) ?_ _
              (try clear hHeld)
              (try go_wp2)
              go_roundw
              all_goals (try simp only [Array.getD_eq_getD_getElem?, List.getElem?_toArray, List.getElem?_cons_succ, List.getElem?_cons_zero, Option.getD_some])
              case rel => exact ⟨m + 1, by omega, by go_num, hbx.out.trans (hb9.out.mono hbx.out.size)⟩
              case measure => simp [intOf]; omega
            · have hmd : decide (m < m2) = false := decide_eq_false hmm
              have hend := hide (hJ3.out.next (hb36.out.trans (hbx.mono hb36.out.size))).out0
              clear hbx
              go_wp2
              go_roundw
              all_goals (try simp only [Array.getD_eq_getD_getElem?, List.getElem?_toArray, List.getElem?_cons_succ, List.getElem?_cons_zero, Option.getD_some])
              case rel => exact ⟨j + 1, by omega, by go_num, hend.out⟩
              case measure => simp [intOf]; omega
      by_cases k2 : kd = 2
      · as_aux_lemma =>
          subst k2
          obtain ⟨e, M, hc, hr⟩ := j_fun (hJ.out.next (bel_drew W)) (by omega) fnm A' ar c' rs hI hc0 (by omega) (by omega)
          rw [← hmm.out] at hc hr
          replace hc := hide hc; replace hr := hide hr
          go_wp2
          rw [← hW.out]
          refine wp_region_held_drew (S := (fun W => W.cell? ⟨wa.heap.size, 2, none⟩ = some (.string fnm) ∧ W.cell? ⟨wa.heap.size, 3, none⟩ = some (.slice A' mm c') ∧ W.cell? ⟨wa.heap.size, 4, none⟩ = some (.int .i64 rs))) (by kernel_rfl) ?_ (fun hHeld => ?_)
          · (try dsimp only)
            exact ⟨(hJ.out.next (bel_drew W)).bk.cell rfl, (hJ.out.next (bel_drew W)).bk.cell rfl, (hJ.out.next (bel_drew W)).bk.cell rfl⟩
          refine wpAnyH_take (i := 0) (v := ?vvk2x0) (by (simp only [List.getElem?_toArray, List.getElem?_cons_zero, List.getElem?_cons_succ]) <;> rfl) (by kernel_rfl) (by kernel_rfl) (by kernel_rfl) ?hqk2x0 (Or.inl ⟨by rfl, ?hyk2x0⟩) (by assumption) ?_
          case hqk2x0 => exact fun _ _ _ h => h
          case hyk2x0 => ((intro w hSw; (try dsimp only at hSw); go_simp) <;> (with_reducible rfl))
          (try simp only [Act.put, List.setIfInBounds_toArray, List.set_cons_zero, List.set_cons_succ])
          refine wpAnyH_take (i := 1) (v := ?vvk2x1) (by (simp only [List.getElem?_toArray, List.getElem?_cons_zero, List.getElem?_cons_succ]) <;> rfl) (by kernel_rfl) (by kernel_rfl) (by kernel_rfl) ?hqk2x1 (Or.inl ⟨by rfl, ?hyk2x1⟩) (by assumption) ?_
          case hqk2x1 => exact fun _ _ _ h => h
          case hyk2x1 => ((intro w hSw; (try dsimp only at hSw); go_simp) <;> (with_reducible rfl))
          (try simp only [Act.put, List.setIfInBounds_toArray, List.set_cons_zero, List.set_cons_succ])
          refine wpAnyH_take (i := 2) (v := ?vvk2x2) (by (simp only [List.getElem?_toArray, List.getElem?_cons_zero, List.getElem?_cons_succ]) <;> rfl) (by kernel_rfl) (by kernel_rfl) (by kernel_rfl) ?hqk2x2 (Or.inl ⟨by rfl, ?hyk2x2⟩) (by assumption) ?_
          case hqk2x2 => exact fun _ _ _ h => h
          case hyk2x2 => ((intro w hSw; (try dsimp only at hSw); go_simp) <;> (with_reducible rfl))
          (try simp only [Act.put, List.setIfInBounds_toArray, List.set_cons_zero, List.set_cons_succ])
          refine wpAnyH_take (i := 4) (v := ?vvk2x4) (by (simp only [List.getElem?_toArray, List.getElem?_cons_zero, List.getElem?_cons_succ]) <;> rfl) (by kernel_rfl) (by kernel_rfl) (by kernel_rfl) ?hqk2x4 (Or.inl ⟨by rfl, ?hyk2x4⟩) (by assumption) ?_
          case hqk2x4 => exact fun _ _ _ h => h
          case hyk2x4 => ((intro w hSw; (try dsimp only at hSw); go_simp) <;> (with_reducible rfl))
          (try simp only [Act.put, List.setIfInBounds_toArray, List.set_cons_zero, List.set_cons_succ])
          refine wpAnyH_take (i := 5) (v := ?vvk2x5) (by (simp only [List.getElem?_toArray, List.getElem?_cons_zero, List.getElem?_cons_succ]) <;> rfl) (by kernel_rfl) (by kernel_rfl) (by kernel_rfl) ?hqk2x5 (Or.inl ⟨by rfl, ?hyk2x5⟩) (by assumption) ?_
          case hqk2x5 => exact fun _ _ _ h => h
          case hyk2x5 => ((intro w hSw; (try dsimp only at hSw); go_simp) <;> (with_reducible rfl))
          (try simp only [Act.put, List.setIfInBounds_toArray, List.set_cons_zero, List.set_cons_succ])
          refine wpAnyH_take (i := 6) (v := ?vvk2x6) (by (simp only [List.getElem?_toArray, List.getElem?_cons_zero, List.getElem?_cons_succ]) <;> rfl) (by kernel_rfl) (by kernel_rfl) (by kernel_rfl) ?hqk2x6 (Or.inl ⟨by rfl, ?hyk2x6⟩) (by assumption) ?_
          case hqk2x6 => exact fun _ _ _ h => h
          case hyk2x6 => ((intro w hSw; (try dsimp only at hSw); go_simp) <;> (with_reducible rfl))
          (try simp only [Act.put, List.setIfInBounds_toArray, List.set_cons_zero, List.set_cons_succ])
          refine wpAnyH_ready (rs := [3]) (by kernel_rfl) (by simp) ?_
          refine AllReadyH.cons (by (simp only [List.getElem?_toArray, List.getElem?_cons_zero, List.getElem?_cons_succ]) <;> rfl) (fun K hK => ?_) AllReadyH.nil
          go_simp
          go_at_call 12; (with_reducible refine hc.out.mono ?_); rintro e' w2 ⟨rfl, hM⟩; obtain ⟨hB2, hr2⟩ := hr.out w2 hM; replace hr2 := hide hr2
          (try go_wp2_with fail)
          refine hK.out _ _ ?_ (fun hHeld => ?_)
          · (try dsimp only)
            first | exact ⟨hJ3.bk.cell rfl, hJ3.bk.cell rfl, hJ3.bk.cell rfl⟩ | exact ⟨hB2.cell rfl, hB2.cell rfl, hB2.cell rfl⟩
          (try clear hK K)
          (try simp only [Act.put, List.setIfInBounds_toArray, List.set_cons_zero, List.set_cons_succ])
          refine wpAnyH_ready (rs := [7]) (by kernel_rfl) (by simp) ?_
          refine AllReadyH.cons (by (simp only [List.getElem?_toArray, List.getElem?_cons_zero, List.getElem?_cons_succ]) <;> rfl) (fun K hK => ?_) AllReadyH.nil
          go_simp
          go_at_call 13; (with_reducible refine hr2.out.mono ?_); rintro e' w3 ⟨rfl, hJ3⟩
          (try go_wp2_with fail)
          refine hK.out _ _ ?_ (fun hHeld => ?_)
          · (try dsimp only)
            first | exact ⟨hJ3.bk.cell rfl, hJ3.bk.cell rfl, hJ3.bk.cell rfl⟩ | exact ⟨hB2.cell rfl, hB2.cell rfl, hB2.cell rfl⟩
          (try clear hK K)
          (try simp only [Act.put, List.setIfInBounds_toArray, List.set_cons_zero, List.set_cons_succ])
          refine wpAnyH_take (i := 8) (v := ?vvk2x8) (by (simp only [List.getElem?_toArray, List.getElem?_cons_zero, List.getElem?_cons_succ]) <;> rfl) (by kernel_rfl) (by kernel_rfl) (by kernel_rfl) ?hqk2x8 (Or.inl ⟨by rfl, ?hyk2x8⟩) (by assumption) ?_
          case hqk2x8 => exact fun _ _ _ h => h
          case hyk2x8 => ((intro w hSw; (try dsimp only at hSw); go_simp) <;> (with_reducible rfl))
          (try simp only [Act.put, List.setIfInBounds_toArray, List.set_cons_zero, List.set_cons_succ])
          refine wpAnyH_done (by kernel_rfl) ?_ _
          (try clear hHeld)
          obtain ⟨l2, hl2, hfu, hal⟩ := j_funs hJ3 (by omega); obtain ⟨lv, hv1, hv2⟩ := j_levels hJ3; replace hfu := hide hfu; replace hal := hide hal; replace hv1 := hide hv1; replace hv2 := hide hv2; replace hJ3 := hide hJ3; replace hl2 := hide hl2
          go_wp2_with first
            | (go_at_call 25; (with_reducible refine hfu.out.mono ?_); rintro e w5 ⟨A5, c5, rfl, hF5, hb5⟩; have hal5 := hide (hal.out w5 hb5); replace hF5 := hide hF5; replace hb5 := hide hb5)
            | (go_at_call 26; (with_reducible refine hal5.out.mono ?_); rintro e w6 ⟨A6, c6, rfl, hF6, hb6⟩; have hb36 := hide (hb5.out.trans (hb6.mono hb5.out.size)); have hF5' := hide (hF5.out.next hb6); have hv1' := hide (hv1.out w6 hb36.out); have hv2' := hide (hv2.out w6 hb36.out); replace hF6 := hide hF6; clear hb6)
            | (go_at_call 27; (with_reducible refine hv1'.out.mono ?_); rintro e w7 ⟨rfl, rfl⟩)
            | (go_at_call 28; (with_reducible refine hv2'.out.mono ?_); rintro e w8 ⟨rfl, rfl⟩)
          obtain ⟨m2, hm2⟩ : ∃ m, m = l2.length := ⟨_, rfl⟩
          rw [← hm2]
          have hm1000 : m2 ≤ 1000 := by have := hl2.out; omega
          replace hm2 := hide hm2
          go_loopw [27] (fun q wx => ∃ m : Nat, m ≤ m2 ∧ q = .int .i64 (m : Int) ∧ Below w6.heap.size w6 wx) (fun q _ => m2 - (intOf q).toNat)
          case atStart => exact ⟨0, Nat.zero_le _, rfl, .refl _ _⟩
          case round =>
            obtain ⟨m, hm, rfl, hbx⟩ := hrel
            by_cases hmm : m < m2
            · have hml : m < l2.length := by have := hm2.out; omega
              obtain ⟨g5, rfl, hA5⟩ : ∃ g5, A5 = some ⟨g5, 0, none⟩ ∧ FunsAt wr g5 l2 := by
                rcases hF5'.out.next hbx with h0 | ⟨g5, h1, h2⟩
                · rw [h0] at hml; simp at hml
                · exact ⟨g5, h1, h2⟩
              obtain ⟨g6, rfl, hA6⟩ : ∃ g6, A6 = some ⟨g6, 0, none⟩ ∧ FunsAt wr g6 l2 := by
                rcases hF6.out.next hbx with h0 | ⟨g6, h1, h2⟩
                · rw [h0] at hml; simp at hml
                · exact ⟨g6, h1, h2⟩
              obtain ⟨Aa, ca, y0, y1, y2, hIa, h64⟩ := hA5 m hml
              obtain ⟨Ab, cb, z0, z1, z2, hIb, _⟩ := hA6 m hml
              have hsame : ∀ W, Below wr.heap.size wr W → Calls Try.prog 20 #[.agg #[.string l2[m].nm, .slice Aa l2[m].ar.length ca, .int .i64 l2[m].rs], .agg #[.string l2[m].nm, .slice Ab l2[m].ar.length cb, .int .i64 l2[m].rs]] W fun e w' => e = .returned (.bool true) ∧ Below wr.heap.size wr w' := fun W hb => by
                have hO := Off.of_below hb []
                exact (same_any _ Aa Ab _ ca cb _ W (hIa.off hO (by simp) (by simp)) (hIb.off hO (by simp) (by simp)) (by omega)).mono fun e w' ⟨he, hb'⟩ => ⟨he, hb.trans (hb'.mono hb.size)⟩
              have hk6 : ∀ W, Below wr.heap.size wr W → (W.cell? ⟨g5, m * 3, none⟩ = some (.string l2[m].nm) ∧ W.cell? ⟨g5, m * 3 + 1, none⟩ = some (.slice Aa l2[m].ar.length ca) ∧ W.cell? ⟨g5, m * 3 + 2, none⟩ = some (.int .i64 l2[m].rs)) ∧ (W.cell? ⟨g6, m * 3, none⟩ = some (.string l2[m].nm) ∧ W.cell? ⟨g6, m * 3 + 1, none⟩ = some (.slice Ab l2[m].ar.length cb) ∧ W.cell? ⟨g6, m * 3 + 2, none⟩ = some (.int .i64 l2[m].rs)) := fun W hb => by
                have hO := Off.of_below hb []
                exact ⟨⟨hO.cell y0 (cell_in y0) (by simp), hO.cell y1 (cell_in y1) (by simp), hO.cell y2 (cell_in y2) (by simp)⟩, ⟨hO.cell z0 (cell_in z0) (by simp), hO.cell z1 (cell_in z1) (by simp), hO.cell z2 (cell_in z2) (by simp)⟩⟩
              generalize l2[m].nm = nx at *
              generalize l2[m].rs = rx at *
              generalize l2[m].ar.length = mm at *
              replace hsame := hide hsame; replace hk6 := hide hk6; replace hbx := hide hbx
              clear hIa hIb hA5 hA6 h64 y0 y1 y2 z0 z1 z2
              go_wp2
              refine wp_region_held_drew (S := (fun W => (W.cell? ⟨g5, m * 3, none⟩ = some (.string nx) ∧ W.cell? ⟨g5, m * 3 + 1, none⟩ = some (.slice Aa mm ca) ∧ W.cell? ⟨g5, m * 3 + 2, none⟩ = some (.int .i64 rx)) ∧ (W.cell? ⟨g6, m * 3, none⟩ = some (.string nx) ∧ W.cell? ⟨g6, m * 3 + 1, none⟩ = some (.slice Ab mm cb) ∧ W.cell? ⟨g6, m * 3 + 2, none⟩ = some (.int .i64 rx)))) (by kernel_rfl) ?_ (fun hHeld => ?_)
              · (try dsimp only)
                exact hk6.out _ (bel_drew wr)
              refine wpAnyH_take (i := 0) (v := ?vvr2x0) (by (simp only [List.getElem?_toArray, List.getElem?_cons_zero, List.getElem?_cons_succ]) <;> rfl) (by kernel_rfl) (by kernel_rfl) (by kernel_rfl) ?hqr2x0 (Or.inl ⟨by rfl, ?hyr2x0⟩) (by assumption) ?_
              case hqr2x0 => exact fun _ _ _ h => h
              case hyr2x0 => ((intro w hSw; (try dsimp only at hSw); go_simp) <;> (with_reducible rfl))
              (try simp only [Act.put, List.setIfInBounds_toArray, List.set_cons_zero, List.set_cons_succ])
              refine wpAnyH_take (i := 1) (v := ?vvr2x1) (by (simp only [List.getElem?_toArray, List.getElem?_cons_zero, List.getElem?_cons_succ]) <;> rfl) (by kernel_rfl) (by kernel_rfl) (by kernel_rfl) ?hqr2x1 (Or.inl ⟨by rfl, ?hyr2x1⟩) (by assumption) ?_
              case hqr2x1 => exact fun _ _ _ h => h
              case hyr2x1 => ((intro w hSw; (try dsimp only at hSw); go_simp) <;> (with_reducible rfl))
              (try simp only [Act.put, List.setIfInBounds_toArray, List.set_cons_zero, List.set_cons_succ])
              refine wpAnyH_take (i := 2) (v := ?vvr2x2) (by (simp only [List.getElem?_toArray, List.getElem?_cons_zero, List.getElem?_cons_succ]) <;> rfl) (by kernel_rfl) (by kernel_rfl) (by kernel_rfl) ?hqr2x2 (Or.inl ⟨by rfl, ?hyr2x2⟩) (by assumption) ?_
              case hqr2x2 => exact fun _ _ _ h => h
              case hyr2x2 => ((intro w hSw; (try dsimp only at hSw); go_simp) <;> (with_reducible rfl))
              (try simp only [Act.put, List.setIfInBounds_toArray, List.set_cons_zero, List.set_cons_succ])
              refine wpAnyH_take (i := 3) (v := ?vvr2x3) (by (simp only [List.getElem?_toArray, List.getElem?_cons_zero, List.getElem?_cons_succ]) <;> rfl) (by kernel_rfl) (by kernel_rfl) (by kernel_rfl) ?hqr2x3 (Or.inl ⟨by rfl, ?hyr2x3⟩) (by assumption) ?_
              case hqr2x3 => exact fun _ _ _ h => h
              case hyr2x3 => ((intro w hSw; (try dsimp only at hSw); go_simp) <;> (with_reducible rfl))
              (try simp only [Act.put, List.setIfInBounds_toArray, List.set_cons_zero, List.set_cons_succ])
              refine wpAnyH_take (i := 4) (v := ?vvr2x4) (by (simp only [List.getElem?_toArray, List.getElem?_cons_zero, List.getElem?_cons_succ]) <;> rfl) (by kernel_rfl) (by kernel_rfl) (by kernel_rfl) ?hqr2x4 (Or.inl ⟨by rfl, ?hyr2x4⟩) (by assumption) ?_
              case hqr2x4 => exact fun _ _ _ h => h
              case hyr2x4 => ((intro w hSw; (try dsimp only at hSw); go_simp) <;> (with_reducible rfl))
              (try simp only [Act.put, List.setIfInBounds_toArray, List.set_cons_zero, List.set_cons_succ])
              refine wpAnyH_take (i := 5) (v := ?vvr2x5) (by (simp only [List.getElem?_toArray, List.getElem?_cons_zero, List.getElem?_cons_succ]) <;> rfl) (by kernel_rfl) (by kernel_rfl) (by kernel_rfl) ?hqr2x5 (Or.inl ⟨by rfl, ?hyr2x5⟩) (by assumption) ?_
              case hqr2x5 => exact fun _ _ _ h => h
              case hyr2x5 => ((intro w hSw; (try dsimp only at hSw); go_simp) <;> (with_reducible rfl))
              (try simp only [Act.put, List.setIfInBounds_toArray, List.set_cons_zero, List.set_cons_succ])
              refine wpAnyH_take (i := 6) (v := ?vvr2x6) (by (simp only [List.getElem?_toArray, List.getElem?_cons_zero, List.getElem?_cons_succ]) <;> rfl) (by kernel_rfl) (by kernel_rfl) (by kernel_rfl) ?hqr2x6 (Or.inl ⟨by rfl, ?hyr2x6⟩) (by assumption) ?_
              case hqr2x6 => exact fun _ _ _ h => h
              case hyr2x6 => ((intro w hSw; (try dsimp only at hSw); go_simp) <;> (with_reducible rfl))
              (try simp only [Act.put, List.setIfInBounds_toArray, List.set_cons_zero, List.set_cons_succ])
              refine wpAnyH_take (i := 7) (v := ?vvr2x7) (by (simp only [List.getElem?_toArray, List.getElem?_cons_zero, List.getElem?_cons_succ]) <;> rfl) (by kernel_rfl) (by kernel_rfl) (by kernel_rfl) ?hqr2x7 (Or.inl ⟨by rfl, ?hyr2x7⟩) (by assumption) ?_
              case hqr2x7 => exact fun _ _ _ h => h
              case hyr2x7 => ((intro w hSw; (try dsimp only at hSw); go_simp) <;> (with_reducible rfl))
              (try simp only [Act.put, List.setIfInBounds_toArray, List.set_cons_zero, List.set_cons_succ])
              refine wpAnyH_ready (rs := [8]) (by kernel_rfl) (by simp) ?_
              refine AllReadyH.cons (by (simp only [List.getElem?_toArray, List.getElem?_cons_zero, List.getElem?_cons_succ]) <;> rfl) (fun K hK => ?_) AllReadyH.nil
              go_simp
              go_at_call 20; (with_reducible refine (hsame.out _ (bel_drew wr)).mono ?_); rintro e w9 ⟨rfl, hb9⟩; replace hb9 := hide hb9
              (try go_wp2_with fail)
              refine hK.out _ _ ?_ (fun hHeld => ?_)
              · (try dsimp only)
                exact hk6.out _ hb9.out
              (try clear hK K)
              (try simp only [Act.put, List.setIfInBounds_toArray, List.set_cons_zero, List.set_cons_succ])
              refine wpAnyH_take (i := 9) (v := ?vvr2x9) (by (simp only [List.getElem?_toArray, List.getElem?_cons_zero, List.getElem?_cons_succ]) <;> rfl) (by kernel_rfl) (by kernel_rfl) (by kernel_rfl) ?hqr2x9 (Or.inl ⟨by rfl, ?hyr2x9⟩) (by assumption) ?_
              case hqr2x9 => exact fun _ _ _ h => h
              case hyr2x9 => ((intro w hSw; (try dsimp only at hSw); go_simp) <;> (with_reducible rfl))
              (try simp only [Act.put, List.setIfInBounds_toArray, List.set_cons_zero, List.set_cons_succ])
              refine wpAnyH_done (by kernel_rfl) ?_ _
              (try clear hHeld)
              (try go_wp2)
              go_roundw
              all_goals (try simp only [Array.getD_eq_getD_getElem?, List.getElem?_toArray, List.getElem?_cons_succ, List.getElem?_cons_zero, Option.getD_some])
              case rel => exact ⟨m + 1, by omega, by go_num, hbx.out.trans (hb9.out.mono hbx.out.size)⟩
              case measure => simp [intOf]; omega
            · have hmd : decide (m < m2) = false := decide_eq_false hmm
              have hend := hide (hJ3.out.next (hb36.out.trans (hbx.mono hb36.out.size))).out0
              clear hbx
              go_wp2
              go_roundw
              all_goals (try simp only [Array.getD_eq_getD_getElem?, List.getElem?_toArray, List.getElem?_cons_succ, List.getElem?_cons_zero, Option.getD_some])
              case rel => exact ⟨j + 1, by omega, by go_num, hend.out⟩
              case measure => simp [intOf]; omega
      by_cases k3 : kd = 3
      · as_aux_lemma =>
          subst k3
          obtain ⟨M, hc, hr⟩ := j_push hJ.out (by omega)
          replace hc := hide hc; replace hr := hide hr
          go_wp2_with first
            | (go_at_call 14; rw [← hW.out]; (with_reducible refine hc.out.mono ?_); rintro e' w2 ⟨rfl, hM⟩; obtain ⟨hB2, hr2⟩ := hr.out w2 hM; replace hr2 := hide hr2; clear hB2 hM)
            | (go_at_call 15; (with_reducible refine hr2.out.mono ?_); rintro e' w3 ⟨rfl, hJ3⟩; obtain ⟨l2, hl2, hfu, hal⟩ := j_funs hJ3 (by omega); obtain ⟨lv, hv1, hv2⟩ := j_levels hJ3; replace hfu := hide hfu; replace hal := hide hal; replace hv1 := hide hv1; replace hv2 := hide hv2; replace hJ3 := hide hJ3; replace hl2 := hide hl2)
            | (go_at_call 25; (with_reducible refine hfu.out.mono ?_); rintro e w5 ⟨A5, c5, rfl, hF5, hb5⟩; have hal5 := hide (hal.out w5 hb5); replace hF5 := hide hF5; replace hb5 := hide hb5)
            | (go_at_call 26; (with_reducible refine hal5.out.mono ?_); rintro e w6 ⟨A6, c6, rfl, hF6, hb6⟩; have hb36 := hide (hb5.out.trans (hb6.mono hb5.out.size)); have hF5' := hide (hF5.out.next hb6); have hv1' := hide (hv1.out w6 hb36.out); have hv2' := hide (hv2.out w6 hb36.out); replace hF6 := hide hF6; clear hb6)
            | (go_at_call 27; (with_reducible refine hv1'.out.mono ?_); rintro e w7 ⟨rfl, rfl⟩)
            | (go_at_call 28; (with_reducible refine hv2'.out.mono ?_); rintro e w8 ⟨rfl, rfl⟩)
          obtain ⟨m2, hm2⟩ : ∃ m, m = l2.length := ⟨_, rfl⟩
          rw [← hm2]
          have hm1000 : m2 ≤ 1000 := by have := hl2.out; omega
          replace hm2 := hide hm2
          go_loopw [27] (fun q wx => ∃ m : Nat, m ≤ m2 ∧ q = .int .i64 (m : Int) ∧ Below w6.heap.size w6 wx) (fun q _ => m2 - (intOf q).toNat)
          case atStart => exact ⟨0, Nat.zero_le _, rfl, .refl _ _⟩
          case round =>
            obtain ⟨m, hm, rfl, hbx⟩ := hrel
            by_cases hmm : m < m2
            · have hml : m < l2.length := by have := hm2.out; omega
              obtain ⟨g5, rfl, hA5⟩ : ∃ g5, A5 = some ⟨g5, 0, none⟩ ∧ FunsAt wr g5 l2 := by
                rcases hF5'.out.next hbx with h0 | ⟨g5, h1, h2⟩
                · rw [h0] at hml; simp at hml
                · exact ⟨g5, h1, h2⟩
              obtain ⟨g6, rfl, hA6⟩ : ∃ g6, A6 = some ⟨g6, 0, none⟩ ∧ FunsAt wr g6 l2 := by
                rcases hF6.out.next hbx with h0 | ⟨g6, h1, h2⟩
                · rw [h0] at hml; simp at hml
                · exact ⟨g6, h1, h2⟩
              obtain ⟨Aa, ca, y0, y1, y2, hIa, h64⟩ := hA5 m hml
              obtain ⟨Ab, cb, z0, z1, z2, hIb, _⟩ := hA6 m hml
              have hsame : ∀ W, Below wr.heap.size wr W → Calls Try.prog 20 #[.agg #[.string l2[m].nm, .slice Aa l2[m].ar.length ca, .int .i64 l2[m].rs], .agg #[.string l2[m].nm, .slice Ab l2[m].ar.length cb, .int .i64 l2[m].rs]] W fun e w' => e = .returned (.bool true) ∧ Below wr.heap.size wr w' := fun W hb => by
                have hO := Off.of_below hb []
                exact (same_any _ Aa Ab _ ca cb _ W (hIa.off hO (by simp) (by simp)) (hIb.off hO (by simp) (by simp)) (by omega)).mono fun e w' ⟨he, hb'⟩ => ⟨he, hb.trans (hb'.mono hb.size)⟩
              have hk6 : ∀ W, Below wr.heap.size wr W → (W.cell? ⟨g5, m * 3, none⟩ = some (.string l2[m].nm) ∧ W.cell? ⟨g5, m * 3 + 1, none⟩ = some (.slice Aa l2[m].ar.length ca) ∧ W.cell? ⟨g5, m * 3 + 2, none⟩ = some (.int .i64 l2[m].rs)) ∧ (W.cell? ⟨g6, m * 3, none⟩ = some (.string l2[m].nm) ∧ W.cell? ⟨g6, m * 3 + 1, none⟩ = some (.slice Ab l2[m].ar.length cb) ∧ W.cell? ⟨g6, m * 3 + 2, none⟩ = some (.int .i64 l2[m].rs)) := fun W hb => by
                have hO := Off.of_below hb []
                exact ⟨⟨hO.cell y0 (cell_in y0) (by simp), hO.cell y1 (cell_in y1) (by simp), hO.cell y2 (cell_in y2) (by simp)⟩, ⟨hO.cell z0 (cell_in z0) (by simp), hO.cell z1 (cell_in z1) (by simp), hO.cell z2 (cell_in z2) (by simp)⟩⟩
              generalize l2[m].nm = nx at *
              generalize l2[m].rs = rx at *
              generalize l2[m].ar.length = mm at *
              replace hsame := hide hsame; replace hk6 := hide hk6; replace hbx := hide hbx
              clear hIa hIb hA5 hA6 h64 y0 y1 y2 z0 z1 z2
              go_wp2
              refine wp_region_held_drew (S := (fun W => (W.cell? ⟨g5, m * 3, none⟩ = some (.string nx) ∧ W.cell? ⟨g5, m * 3 + 1, none⟩ = some (.slice Aa mm ca) ∧ W.cell? ⟨g5, m * 3 + 2, none⟩ = some (.int .i64 rx)) ∧ (W.cell? ⟨g6, m * 3, none⟩ = some (.string nx) ∧ W.cell? ⟨g6, m * 3 + 1, none⟩ = some (.slice Ab mm cb) ∧ W.cell? ⟨g6, m * 3 + 2, none⟩ = some (.int .i64 rx)))) (by kernel_rfl) ?_ (fun hHeld => ?_)
              · (try dsimp only)
                exact hk6.out _ (bel_drew wr)
              refine wpAnyH_take (i := 0) (v := ?vvr3x0) (by (simp only [List.getElem?_toArray, List.getElem?_cons_zero, List.getElem?_cons_succ]) <;> rfl) (by kernel_rfl) (by kernel_rfl) (by kernel_rfl) ?hqr3x0 (Or.inl ⟨by rfl, ?hyr3x0⟩) (by assumption) ?_
              case hqr3x0 => exact fun _ _ _ h => h
              case hyr3x0 => ((intro w hSw; (try dsimp only at hSw); go_simp) <;> (with_reducible rfl))
              (try simp only [Act.put, List.setIfInBounds_toArray, List.set_cons_zero, List.set_cons_succ])
              refine wpAnyH_take (i := 1) (v := ?vvr3x1) (by (simp only [List.getElem?_toArray, List.getElem?_cons_zero, List.getElem?_cons_succ]) <;> rfl) (by kernel_rfl) (by kernel_rfl) (by kernel_rfl) ?hqr3x1 (Or.inl ⟨by rfl, ?hyr3x1⟩) (by assumption) ?_
              case hqr3x1 => exact fun _ _ _ h => h
              case hyr3x1 => ((intro w hSw; (try dsimp only at hSw); go_simp) <;> (with_reducible rfl))
              (try simp only [Act.put, List.setIfInBounds_toArray, List.set_cons_zero, List.set_cons_succ])
              refine wpAnyH_take (i := 2) (v := ?vvr3x2) (by (simp only [List.getElem?_toArray, List.getElem?_cons_zero, List.getElem?_cons_succ]) <;> rfl) (by kernel_rfl) (by kernel_rfl) (by kernel_rfl) ?hqr3x2 (Or.inl ⟨by rfl, ?hyr3x2⟩) (by assumption) ?_
              case hqr3x2 => exact fun _ _ _ h => h
              case hyr3x2 => ((intro w hSw; (try dsimp only at hSw); go_simp) <;> (with_reducible rfl))
              (try simp only [Act.put, List.setIfInBounds_toArray, List.set_cons_zero, List.set_cons_succ])
              refine wpAnyH_take (i := 3) (v := ?vvr3x3) (by (simp only [List.getElem?_toArray, List.getElem?_cons_zero, List.getElem?_cons_succ]) <;> rfl) (by kernel_rfl) (by kernel_rfl) (by kernel_rfl) ?hqr3x3 (Or.inl ⟨by rfl, ?hyr3x3⟩) (by assumption) ?_
              case hqr3x3 => exact fun _ _ _ h => h
              case hyr3x3 => ((intro w hSw; (try dsimp only at hSw); go_simp) <;> (with_reducible rfl))
              (try simp only [Act.put, List.setIfInBounds_toArray, List.set_cons_zero, List.set_cons_succ])
              refine wpAnyH_take (i := 4) (v := ?vvr3x4) (by (simp only [List.getElem?_toArray, List.getElem?_cons_zero, List.getElem?_cons_succ]) <;> rfl) (by kernel_rfl) (by kernel_rfl) (by kernel_rfl) ?hqr3x4 (Or.inl ⟨by rfl, ?hyr3x4⟩) (by assumption) ?_
              case hqr3x4 => exact fun _ _ _ h => h
              case hyr3x4 => ((intro w hSw; (try dsimp only at hSw); go_simp) <;> (with_reducible rfl))
              (try simp only [Act.put, List.setIfInBounds_toArray, List.set_cons_zero, List.set_cons_succ])
              refine wpAnyH_take (i := 5) (v := ?vvr3x5) (by (simp only [List.getElem?_toArray, List.getElem?_cons_zero, List.getElem?_cons_succ]) <;> rfl) (by kernel_rfl) (by kernel_rfl) (by kernel_rfl) ?hqr3x5 (Or.inl ⟨by rfl, ?hyr3x5⟩) (by assumption) ?_
              case hqr3x5 => exact fun _ _ _ h => h
              case hyr3x5 => ((intro w hSw; (try dsimp only at hSw); go_simp) <;> (with_reducible rfl))
              (try simp only [Act.put, List.setIfInBounds_toArray, List.set_cons_zero, List.set_cons_succ])
              refine wpAnyH_take (i := 6) (v := ?vvr3x6) (by (simp only [List.getElem?_toArray, List.getElem?_cons_zero, List.getElem?_cons_succ]) <;> rfl) (by kernel_rfl) (by kernel_rfl) (by kernel_rfl) ?hqr3x6 (Or.inl ⟨by rfl, ?hyr3x6⟩) (by assumption) ?_
              case hqr3x6 => exact fun _ _ _ h => h
              case hyr3x6 => ((intro w hSw; (try dsimp only at hSw); go_simp) <;> (with_reducible rfl))
              (try simp only [Act.put, List.setIfInBounds_toArray, List.set_cons_zero, List.set_cons_succ])
              refine wpAnyH_take (i := 7) (v := ?vvr3x7) (by (simp only [List.getElem?_toArray, List.getElem?_cons_zero, List.getElem?_cons_succ]) <;> rfl) (by kernel_rfl) (by kernel_rfl) (by kernel_rfl) ?hqr3x7 (Or.inl ⟨by rfl, ?hyr3x7⟩) (by assumption) ?_
              case hqr3x7 => exact fun _ _ _ h => h
              case hyr3x7 => ((intro w hSw; (try dsimp only at hSw); go_simp) <;> (with_reducible rfl))
              (try simp only [Act.put, List.setIfInBounds_toArray, List.set_cons_zero, List.set_cons_succ])
              refine wpAnyH_ready (rs := [8]) (by kernel_rfl) (by simp) ?_
              refine AllReadyH.cons (by (simp only [List.getElem?_toArray, List.getElem?_cons_zero, List.getElem?_cons_succ]) <;> rfl) (fun K hK => ?_) AllReadyH.nil
              go_simp
              go_at_call 20; (with_reducible refine (hsame.out _ (bel_drew wr)).mono ?_); rintro e w9 ⟨rfl, hb9⟩; replace hb9 := hide hb9
              (try go_wp2_with fail)
              refine hK.out _ _ ?_ (fun hHeld => ?_)
              · (try dsimp only)
                exact hk6.out _ hb9.out
              (try clear hK K)
              (try simp only [Act.put, List.setIfInBounds_toArray, List.set_cons_zero, List.set_cons_succ])
              refine wpAnyH_take (i := 9) (v := ?vvr3x9) (by (simp only [List.getElem?_toArray, List.getElem?_cons_zero, List.getElem?_cons_succ]) <;> rfl) (by kernel_rfl) (by kernel_rfl) (by kernel_rfl) ?hqr3x9 (Or.inl ⟨by rfl, ?hyr3x9⟩) (by assumption) ?_
              case hqr3x9 => exact fun _ _ _ h => h
              case hyr3x9 => ((intro w hSw; (try dsimp only at hSw); go_simp) <;> (with_reducible rfl))
              (try simp only [Act.put, List.setIfInBounds_toArray, List.set_cons_zero, List.set_cons_succ])
              refine wpAnyH_done (by kernel_rfl) ?_ _
              (try clear hHeld)
              (try go_wp2)
              go_roundw
              all_goals (try simp only [Array.getD_eq_getD_getElem?, List.getElem?_toArray, List.getElem?_cons_succ, List.getElem?_cons_zero, Option.getD_some])
              case rel => exact ⟨m + 1, by omega, by go_num, hbx.out.trans (hb9.out.mono hbx.out.size)⟩
              case measure => simp [intOf]; omega
            · have hmd : decide (m < m2) = false := decide_eq_false hmm
              have hend := hide (hJ3.out.next (hb36.out.trans (hbx.mono hb36.out.size))).out0
              clear hbx
              go_wp2
              go_roundw
              all_goals (try simp only [Array.getD_eq_getD_getElem?, List.getElem?_toArray, List.getElem?_cons_succ, List.getElem?_cons_zero, Option.getD_some])
              case rel => exact ⟨j + 1, by omega, by go_num, hend.out⟩
              case measure => simp [intOf]; omega
      by_cases k4 : kd = 4
      · as_aux_lemma =>
          subst k4
          obtain ⟨e, M, hc, hr⟩ := j_pop (hJ.out.next (bel_drew W)) (by omega) nn
          replace hc := hide hc; replace hr := hide hr
          go_wp2
          rw [← hW.out]
          refine wp_region_held_drew (S := (fun W => W.cell? ⟨wa.heap.size, 5, none⟩ = some (.int .i64 nn))) (by kernel_rfl) ?_ (fun hHeld => ?_)
          · (try dsimp only)
            exact (hJ.out.next (bel_drew W)).bk.cell rfl
          refine wpAnyH_take (i := 0) (v := ?vvk4x0) (by (simp only [List.getElem?_toArray, List.getElem?_cons_zero, List.getElem?_cons_succ]) <;> rfl) (by kernel_rfl) (by kernel_rfl) (by kernel_rfl) ?hqk4x0 (Or.inl ⟨by rfl, ?hyk4x0⟩) (by assumption) ?_
          case hqk4x0 => exact fun _ _ _ h => h
          case hyk4x0 => ((intro w hSw; (try dsimp only at hSw); go_simp) <;> (with_reducible rfl))
          (try simp only [Act.put, List.setIfInBounds_toArray, List.set_cons_zero, List.set_cons_succ])
          refine wpAnyH_take (i := 1) (v := ?vvk4x1) (by (simp only [List.getElem?_toArray, List.getElem?_cons_zero, List.getElem?_cons_succ]) <;> rfl) (by kernel_rfl) (by kernel_rfl) (by kernel_rfl) ?hqk4x1 (Or.inl ⟨by rfl, ?hyk4x1⟩) (by assumption) ?_
          case hqk4x1 => exact fun _ _ _ h => h
          case hyk4x1 => ((intro w hSw; (try dsimp only at hSw); go_simp) <;> (with_reducible rfl))
          (try simp only [Act.put, List.setIfInBounds_toArray, List.set_cons_zero, List.set_cons_succ])
          refine wpAnyH_take (i := 2) (v := ?vvk4x2) (by (simp only [List.getElem?_toArray, List.getElem?_cons_zero, List.getElem?_cons_succ]) <;> rfl) (by kernel_rfl) (by kernel_rfl) (by kernel_rfl) ?hqk4x2 (Or.inl ⟨by rfl, ?hyk4x2⟩) (by assumption) ?_
          case hqk4x2 => exact fun _ _ _ h => h
          case hyk4x2 => ((intro w hSw; (try dsimp only at hSw); go_simp) <;> (with_reducible rfl))
          (try simp only [Act.put, List.setIfInBounds_toArray, List.set_cons_zero, List.set_cons_succ])
          refine wpAnyH_take (i := 4) (v := ?vvk4x4) (by (simp only [List.getElem?_toArray, List.getElem?_cons_zero, List.getElem?_cons_succ]) <;> rfl) (by kernel_rfl) (by kernel_rfl) (by kernel_rfl) ?hqk4x4 (Or.inl ⟨by rfl, ?hyk4x4⟩) (by assumption) ?_
          case hqk4x4 => exact fun _ _ _ h => h
          case hyk4x4 => ((intro w hSw; (try dsimp only at hSw); go_simp) <;> (with_reducible rfl))
          (try simp only [Act.put, List.setIfInBounds_toArray, List.set_cons_zero, List.set_cons_succ])
          refine wpAnyH_take (i := 5) (v := ?vvk4x5) (by (simp only [List.getElem?_toArray, List.getElem?_cons_zero, List.getElem?_cons_succ]) <;> rfl) (by kernel_rfl) (by kernel_rfl) (by kernel_rfl) ?hqk4x5 (Or.inl ⟨by rfl, ?hyk4x5⟩) (by assumption) ?_
          case hqk4x5 => exact fun _ _ _ h => h
          case hyk4x5 => ((intro w hSw; (try dsimp only at hSw); go_simp) <;> (with_reducible rfl))
          (try simp only [Act.put, List.setIfInBounds_toArray, List.set_cons_zero, List.set_cons_succ])
          refine wpAnyH_take (i := 6) (v := ?vvk4x6) (by (simp only [List.getElem?_toArray, List.getElem?_cons_zero, List.getElem?_cons_succ]) <;> rfl) (by kernel_rfl) (by kernel_rfl) (by kernel_rfl) ?hqk4x6 (Or.inl ⟨by rfl, ?hyk4x6⟩) (by assumption) ?_
          case hqk4x6 => exact fun _ _ _ h => h
          case hyk4x6 => ((intro w hSw; (try dsimp only at hSw); go_simp) <;> (with_reducible rfl))
          (try simp only [Act.put, List.setIfInBounds_toArray, List.set_cons_zero, List.set_cons_succ])
          refine wpAnyH_ready (rs := [3]) (by kernel_rfl) (by simp) ?_
          refine AllReadyH.cons (by (simp only [List.getElem?_toArray, List.getElem?_cons_zero, List.getElem?_cons_succ]) <;> rfl) (fun K hK => ?_) AllReadyH.nil
          go_simp
          go_at_call 16; (with_reducible refine hc.out.mono ?_); rintro e' w2 ⟨rfl, hM⟩; obtain ⟨hB2, hr2⟩ := hr.out w2 hM; replace hr2 := hide hr2
          (try go_wp2_with fail)
          refine hK.out _ _ ?_ (fun hHeld => ?_)
          · (try dsimp only)
            first | exact hJ3.bk.cell rfl | exact hB2.cell rfl
          (try clear hK K)
          (try simp only [Act.put, List.setIfInBounds_toArray, List.set_cons_zero, List.set_cons_succ])
          refine wpAnyH_ready (rs := [7]) (by kernel_rfl) (by simp) ?_
          refine AllReadyH.cons (by (simp only [List.getElem?_toArray, List.getElem?_cons_zero, List.getElem?_cons_succ]) <;> rfl) (fun K hK => ?_) AllReadyH.nil
          go_simp
          go_at_call 17; (with_reducible refine hr2.out.mono ?_); rintro e' w3 ⟨rfl, hJ3⟩
          (try go_wp2_with fail)
          refine hK.out _ _ ?_ (fun hHeld => ?_)
          · (try dsimp only)
            first | exact hJ3.bk.cell rfl | exact hB2.cell rfl
          (try clear hK K)
          (try simp only [Act.put, List.setIfInBounds_toArray, List.set_cons_zero, List.set_cons_succ])
          refine wpAnyH_take (i := 8) (v := ?vvk4x8) (by (simp only [List.getElem?_toArray, List.getElem?_cons_zero, List.getElem?_cons_succ]) <;> rfl) (by kernel_rfl) (by kernel_rfl) (by kernel_rfl) ?hqk4x8 (Or.inl ⟨by rfl, ?hyk4x8⟩) (by assumption) ?_
          case hqk4x8 => exact fun _ _ _ h => h
          case hyk4x8 => ((intro w hSw; (try dsimp only at hSw); go_simp) <;> (with_reducible rfl))
          (try simp only [Act.put, List.setIfInBounds_toArray, List.set_cons_zero, List.set_cons_succ])
          refine wpAnyH_done (by kernel_rfl) ?_ _
          (try clear hHeld)
          obtain ⟨l2, hl2, hfu, hal⟩ := j_funs hJ3 (by omega); obtain ⟨lv, hv1, hv2⟩ := j_levels hJ3; replace hfu := hide hfu; replace hal := hide hal; replace hv1 := hide hv1; replace hv2 := hide hv2; replace hJ3 := hide hJ3; replace hl2 := hide hl2
          go_wp2_with first
            | (go_at_call 25; (with_reducible refine hfu.out.mono ?_); rintro e w5 ⟨A5, c5, rfl, hF5, hb5⟩; have hal5 := hide (hal.out w5 hb5); replace hF5 := hide hF5; replace hb5 := hide hb5)
            | (go_at_call 26; (with_reducible refine hal5.out.mono ?_); rintro e w6 ⟨A6, c6, rfl, hF6, hb6⟩; have hb36 := hide (hb5.out.trans (hb6.mono hb5.out.size)); have hF5' := hide (hF5.out.next hb6); have hv1' := hide (hv1.out w6 hb36.out); have hv2' := hide (hv2.out w6 hb36.out); replace hF6 := hide hF6; clear hb6)
            | (go_at_call 27; (with_reducible refine hv1'.out.mono ?_); rintro e w7 ⟨rfl, rfl⟩)
            | (go_at_call 28; (with_reducible refine hv2'.out.mono ?_); rintro e w8 ⟨rfl, rfl⟩)
          obtain ⟨m2, hm2⟩ : ∃ m, m = l2.length := ⟨_, rfl⟩
          rw [← hm2]
          have hm1000 : m2 ≤ 1000 := by have := hl2.out; omega
          replace hm2 := hide hm2
          go_loopw [27] (fun q wx => ∃ m : Nat, m ≤ m2 ∧ q = .int .i64 (m : Int) ∧ Below w6.heap.size w6 wx) (fun q _ => m2 - (intOf q).toNat)
          case atStart => exact ⟨0, Nat.zero_le _, rfl, .refl _ _⟩
          case round =>
            obtain ⟨m, hm, rfl, hbx⟩ := hrel
            by_cases hmm : m < m2
            · have hml : m < l2.length := by have := hm2.out; omega
              obtain ⟨g5, rfl, hA5⟩ : ∃ g5, A5 = some ⟨g5, 0, none⟩ ∧ FunsAt wr g5 l2 := by
                rcases hF5'.out.next hbx with h0 | ⟨g5, h1, h2⟩
                · rw [h0] at hml; simp at hml
                · exact ⟨g5, h1, h2⟩
              obtain ⟨g6, rfl, hA6⟩ : ∃ g6, A6 = some ⟨g6, 0, none⟩ ∧ FunsAt wr g6 l2 := by
                rcases hF6.out.next hbx with h0 | ⟨g6, h1, h2⟩
                · rw [h0] at hml; simp at hml
                · exact ⟨g6, h1, h2⟩
              obtain ⟨Aa, ca, y0, y1, y2, hIa, h64⟩ := hA5 m hml
              obtain ⟨Ab, cb, z0, z1, z2, hIb, _⟩ := hA6 m hml
              have hsame : ∀ W, Below wr.heap.size wr W → Calls Try.prog 20 #[.agg #[.string l2[m].nm, .slice Aa l2[m].ar.length ca, .int .i64 l2[m].rs], .agg #[.string l2[m].nm, .slice Ab l2[m].ar.length cb, .int .i64 l2[m].rs]] W fun e w' => e = .returned (.bool true) ∧ Below wr.heap.size wr w' := fun W hb => by
                have hO := Off.of_below hb []
                exact (same_any _ Aa Ab _ ca cb _ W (hIa.off hO (by simp) (by simp)) (hIb.off hO (by simp) (by simp)) (by omega)).mono fun e w' ⟨he, hb'⟩ => ⟨he, hb.trans (hb'.mono hb.size)⟩
              have hk6 : ∀ W, Below wr.heap.size wr W → (W.cell? ⟨g5, m * 3, none⟩ = some (.string l2[m].nm) ∧ W.cell? ⟨g5, m * 3 + 1, none⟩ = some (.slice Aa l2[m].ar.length ca) ∧ W.cell? ⟨g5, m * 3 + 2, none⟩ = some (.int .i64 l2[m].rs)) ∧ (W.cell? ⟨g6, m * 3, none⟩ = some (.string l2[m].nm) ∧ W.cell? ⟨g6, m * 3 + 1, none⟩ = some (.slice Ab l2[m].ar.length cb) ∧ W.cell? ⟨g6, m * 3 + 2, none⟩ = some (.int .i64 l2[m].rs)) := fun W hb => by
                have hO := Off.of_below hb []
                exact ⟨⟨hO.cell y0 (cell_in y0) (by simp), hO.cell y1 (cell_in y1) (by simp), hO.cell y2 (cell_in y2) (by simp)⟩, ⟨hO.cell z0 (cell_in z0) (by simp), hO.cell z1 (cell_in z1) (by simp), hO.cell z2 (cell_in z2) (by simp)⟩⟩
              generalize l2[m].nm = nx at *
              generalize l2[m].rs = rx at *
              generalize l2[m].ar.length = mm at *
              replace hsame := hide hsame; replace hk6 := hide hk6; replace hbx := hide hbx
              clear hIa hIb hA5 hA6 h64 y0 y1 y2 z0 z1 z2
              go_wp2
              refine wp_region_held_drew (S := (fun W => (W.cell? ⟨g5, m * 3, none⟩ = some (.string nx) ∧ W.cell? ⟨g5, m * 3 + 1, none⟩ = some (.slice Aa mm ca) ∧ W.cell? ⟨g5, m * 3 + 2, none⟩ = some (.int .i64 rx)) ∧ (W.cell? ⟨g6, m * 3, none⟩ = some (.string nx) ∧ W.cell? ⟨g6, m * 3 + 1, none⟩ = some (.slice Ab mm cb) ∧ W.cell? ⟨g6, m * 3 + 2, none⟩ = some (.int .i64 rx)))) (by kernel_rfl) ?_ (fun hHeld => ?_)
              · (try dsimp only)
                exact hk6.out _ (bel_drew wr)
              refine wpAnyH_take (i := 0) (v := ?vvr4x0) (by (simp only [List.getElem?_toArray, List.getElem?_cons_zero, List.getElem?_cons_succ]) <;> rfl) (by kernel_rfl) (by kernel_rfl) (by kernel_rfl) ?hqr4x0 (Or.inl ⟨by rfl, ?hyr4x0⟩) (by assumption) ?_
              case hqr4x0 => exact fun _ _ _ h => h
              case hyr4x0 => ((intro w hSw; (try dsimp only at hSw); go_simp) <;> (with_reducible rfl))
              (try simp only [Act.put, List.setIfInBounds_toArray, List.set_cons_zero, List.set_cons_succ])
              refine wpAnyH_take (i := 1) (v := ?vvr4x1) (by (simp only [List.getElem?_toArray, List.getElem?_cons_zero, List.getElem?_cons_succ]) <;> rfl) (by kernel_rfl) (by kernel_rfl) (by kernel_rfl) ?hqr4x1 (Or.inl ⟨by rfl, ?hyr4x1⟩) (by assumption) ?_
              case hqr4x1 => exact fun _ _ _ h => h
              case hyr4x1 => ((intro w hSw; (try dsimp only at hSw); go_simp) <;> (with_reducible rfl))
              (try simp only [Act.put, List.setIfInBounds_toArray, List.set_cons_zero, List.set_cons_succ])
              refine wpAnyH_take (i := 2) (v := ?vvr4x2) (by (simp only [List.getElem?_toArray, List.getElem?_cons_zero, List.getElem?_cons_succ]) <;> rfl) (by kernel_rfl) (by kernel_rfl) (by kernel_rfl) ?hqr4x2 (Or.inl ⟨by rfl, ?hyr4x2⟩) (by assumption) ?_
              case hqr4x2 => exact fun _ _ _ h => h
              case hyr4x2 => ((intro w hSw; (try dsimp only at hSw); go_simp) <;> (with_reducible rfl))
              (try simp only [Act.put, List.setIfInBounds_toArray, List.set_cons_zero, List.set_cons_succ])
              refine wpAnyH_take (i := 3) (v := ?vvr4x3) (by (simp only [List.getElem?_toArray, List.getElem?_cons_zero, List.getElem?_cons_succ]) <;> rfl) (by kernel_rfl) (by kernel_rfl) (by kernel_rfl) ?hqr4x3 (Or.inl ⟨by rfl, ?hyr4x3⟩) (by assumption) ?_
              case hqr4x3 => exact fun _ _ _ h => h
              case hyr4x3 => ((intro w hSw; (try dsimp only at hSw); go_simp) <;> (with_reducible rfl))
              (try simp only [Act.put, List.setIfInBounds_toArray, List.set_cons_zero, List.set_cons_succ])
              refine wpAnyH_take (i := 4) (v := ?vvr4x4) (by (simp only [List.getElem?_toArray, List.getElem?_cons_zero, List.getElem?_cons_succ]) <;> rfl) (by kernel_rfl) (by kernel_rfl) (by kernel_rfl) ?hqr4x4 (Or.inl ⟨by rfl, ?hyr4x4⟩) (by assumption) ?_
              case hqr4x4 => exact fun _ _ _ h => h
              case hyr4x4 => ((intro w hSw; (try dsimp only at hSw); go_simp) <;> (with_reducible rfl))
              (try simp only [Act.put, List.setIfInBounds_toArray, List.set_cons_zero, List.set_cons_succ])
              refine wpAnyH_take (i := 5) (v := ?vvr4x5) (by (simp only [List.getElem?_toArray, List.getElem?_cons_zero, List.getElem?_cons_succ]) <;> rfl) (by kernel_rfl) (by kernel_rfl) (by kernel_rfl) ?hqr4x5 (Or.inl ⟨by rfl, ?hyr4x5⟩) (by assumption) ?_
              case hqr4x5 => exact fun _ _ _ h => h
              case hyr4x5 => ((intro w hSw; (try dsimp only at hSw); go_simp) <;> (with_reducible rfl))
              (try simp only [Act.put, List.setIfInBounds_toArray, List.set_cons_zero, List.set_cons_succ])
              refine wpAnyH_take (i := 6) (v := ?vvr4x6) (by (simp only [List.getElem?_toArray, List.getElem?_cons_zero, List.getElem?_cons_succ]) <;> rfl) (by kernel_rfl) (by kernel_rfl) (by kernel_rfl) ?hqr4x6 (Or.inl ⟨by rfl, ?hyr4x6⟩) (by assumption) ?_
              case hqr4x6 => exact fun _ _ _ h => h
              case hyr4x6 => ((intro w hSw; (try dsimp only at hSw); go_simp) <;> (with_reducible rfl))
              (try simp only [Act.put, List.setIfInBounds_toArray, List.set_cons_zero, List.set_cons_succ])
              refine wpAnyH_take (i := 7) (v := ?vvr4x7) (by (simp only [List.getElem?_toArray, List.getElem?_cons_zero, List.getElem?_cons_succ]) <;> rfl) (by kernel_rfl) (by kernel_rfl) (by kernel_rfl) ?hqr4x7 (Or.inl ⟨by rfl, ?hyr4x7⟩) (by assumption) ?_
              case hqr4x7 => exact fun _ _ _ h => h
              case hyr4x7 => ((intro w hSw; (try dsimp only at hSw); go_simp) <;> (with_reducible rfl))
              (try simp only [Act.put, List.setIfInBounds_toArray, List.set_cons_zero, List.set_cons_succ])
              refine wpAnyH_ready (rs := [8]) (by kernel_rfl) (by simp) ?_
              refine AllReadyH.cons (by (simp only [List.getElem?_toArray, List.getElem?_cons_zero, List.getElem?_cons_succ]) <;> rfl) (fun K hK => ?_) AllReadyH.nil
              go_simp
              go_at_call 20; (with_reducible refine (hsame.out _ (bel_drew wr)).mono ?_); rintro e w9 ⟨rfl, hb9⟩; replace hb9 := hide hb9
              (try go_wp2_with fail)
              refine hK.out _ _ ?_ (fun hHeld => ?_)
              · (try dsimp only)
                exact hk6.out _ hb9.out
              (try clear hK K)
              (try simp only [Act.put, List.setIfInBounds_toArray, List.set_cons_zero, List.set_cons_succ])
              refine wpAnyH_take (i := 9) (v := ?vvr4x9) (by (simp only [List.getElem?_toArray, List.getElem?_cons_zero, List.getElem?_cons_succ]) <;> rfl) (by kernel_rfl) (by kernel_rfl) (by kernel_rfl) ?hqr4x9 (Or.inl ⟨by rfl, ?hyr4x9⟩) (by assumption) ?_
              case hqr4x9 => exact fun _ _ _ h => h
              case hyr4x9 => ((intro w hSw; (try dsimp only at hSw); go_simp) <;> (with_reducible rfl))
              (try simp only [Act.put, List.setIfInBounds_toArray, List.set_cons_zero, List.set_cons_succ])
              refine wpAnyH_done (by kernel_rfl) ?_ _
              (try clear hHeld)
              (try go_wp2)
              go_roundw
              all_goals (try simp only [Array.getD_eq_getD_getElem?, List.getElem?_toArray, List.getElem?_cons_succ, List.getElem?_cons_zero, Option.getD_some])
              case rel => exact ⟨m + 1, by omega, by go_num, hbx.out.trans (hb9.out.mono hbx.out.size)⟩
              case measure => simp [intOf]; omega
            · have hmd : decide (m < m2) = false := decide_eq_false hmm
              have hend := hide (hJ3.out.next (hb36.out.trans (hbx.mono hb36.out.size))).out0
              clear hbx
              go_wp2
              go_roundw
              all_goals (try simp only [Array.getD_eq_getD_getElem?, List.getElem?_toArray, List.getElem?_cons_succ, List.getElem?_cons_zero, Option.getD_some])
              case rel => exact ⟨j + 1, by omega, by go_num, hend.out⟩
              case measure => simp [intOf]; omega
      by_cases k5 : kd = 5
      · as_aux_lemma =>
          subst k5
          obtain ⟨nx, xar, xrs, ok, h64, hc, hr⟩ := j_find hJ.out (by omega) an (by omega)
          obtain ⟨xm, hxm⟩ : ∃ m, m = xar.length := ⟨_, rfl⟩
          rw [← hxm] at hc
          simp only [← hxm] at hr
          replace hc := hide hc; replace hr := hide hr; replace hxm := hide hxm
          go_wp2_with first
            | (go_at_call 18; rw [← hW.out]; (with_reducible refine hc.out.mono ?_); rintro e' w2 ⟨A2, c2, rfl, hI2, hb2⟩; obtain ⟨W2, hW2⟩ : ∃ V, V = w2.alloc (.cells #[.string nx, .slice A2 xm c2, .int .i64 xrs] 35) := ⟨_, rfl⟩; have hX2 : Bk w2.heap.size #[.string nx, .slice A2 xm c2, .int .i64 xrs] 35 W2 := (by rw [hW2]; exact Bk.new _ _ _); have hb22 : Below w2.heap.size w2 W2 := (by rw [hW2]; exact bel_al _ _); have hbW2 := hb2.trans (hb22.mono hb2.size); have y1 : W2.cell? ⟨wa.heap.size, 1, none⟩ = some (.string an) := (hJ.out.next hbW2).bk.cell rfl; rw [hW2] at y1; have hr2 := hide (hr.out W2 hbW2); replace hX2 := hide hX2; replace hbW2 := hide hbW2; have hI22 := hide (hI2.off (Off.of_below hb22 []) (by simp) (by simp) (T' := [])); replace hW2 := hide hW2; clear hI2 hb2 hb22)
            | (go_at_call 19; rw [← hW2.out]; (with_reducible refine hr2.out.mono ?_); rintro e' w3 ⟨A3, c3, rfl, hI3, hb3⟩; obtain ⟨W3, hW3⟩ : ∃ V, V = w3.alloc (.cells #[.string nx, .slice A3 xm c3, .int .i64 xrs] 35) := ⟨_, rfl⟩; have hX3 : Bk w3.heap.size #[.string nx, .slice A3 xm c3, .int .i64 xrs] 35 W3 := (by rw [hW3]; exact Bk.new _ _ _); have hb33 : Below w3.heap.size w3 W3 := (by rw [hW3]; exact bel_al _ _); have hb23 := hb3.trans (hb33.mono hb3.size); have z0 : W3.cell? ⟨w2.heap.size, 0, none⟩ = some (.string nx) := (hX2.out.next hb23).cell rfl; have z1 : W3.cell? ⟨w2.heap.size, 1, none⟩ = some (.slice A2 xm c2) := (hX2.out.next hb23).cell rfl; have z2 : W3.cell? ⟨w2.heap.size, 2, none⟩ = some (.int .i64 xrs) := (hX2.out.next hb23).cell rfl; have u0 : W3.cell? ⟨w3.heap.size, 0, none⟩ = some (.string nx) := hX3.cell rfl; have u1 : W3.cell? ⟨w3.heap.size, 1, none⟩ = some (.slice A3 xm c3) := hX3.cell rfl; have u2 : W3.cell? ⟨w3.heap.size, 2, none⟩ = some (.int .i64 xrs) := hX3.cell rfl; have hbJ := hide (hbW2.out.trans (hb23.mono hbW2.out.size)); have hsm : Calls Try.prog 20 #[.agg #[.string nx, .slice A2 xm c2, .int .i64 xrs], .agg #[.string nx, .slice A3 xm c3, .int .i64 xrs]] W3 fun e w' => e = .returned (.bool true) ∧ Below W3.heap.size W3 w' := (by rw [hxm.out]; exact same_any nx A2 A3 xar c2 c3 xrs W3 (hI22.out.off (Off.of_below hb23 []) (by simp) (by simp)) (hI3.off (Off.of_below hb33 []) (by simp) (by simp)) (by omega)); rw [hW3] at z0 z1 z2 u0 u1 u2; replace hsm := hide hsm; replace hW3 := hide hW3; clear hX3 hb33 hb23 hI3 hb3)
            | (go_at_call 20; rw [← hW3.out]; (with_reducible refine hsm.out.mono ?_); rintro e' w4 ⟨rfl, hb4⟩; have hJ3 := (hJ.out.next (hbJ.out.trans (hb4.mono hbJ.out.size))).up (Nat.le_succ j); obtain ⟨l2, hl2, hfu, hal⟩ := j_funs hJ3 (by omega); obtain ⟨lv, hv1, hv2⟩ := j_levels hJ3; replace hfu := hide hfu; replace hal := hide hal; replace hv1 := hide hv1; replace hv2 := hide hv2; replace hJ3 := hide hJ3; replace hl2 := hide hl2; clear hb4)
            | (go_at_call 25; (with_reducible refine hfu.out.mono ?_); rintro e w5 ⟨A5, c5, rfl, hF5, hb5⟩; have hal5 := hide (hal.out w5 hb5); replace hF5 := hide hF5; replace hb5 := hide hb5)
            | (go_at_call 26; (with_reducible refine hal5.out.mono ?_); rintro e w6 ⟨A6, c6, rfl, hF6, hb6⟩; have hb36 := hide (hb5.out.trans (hb6.mono hb5.out.size)); have hF5' := hide (hF5.out.next hb6); have hv1' := hide (hv1.out w6 hb36.out); have hv2' := hide (hv2.out w6 hb36.out); replace hF6 := hide hF6; clear hb6)
            | (go_at_call 27; (with_reducible refine hv1'.out.mono ?_); rintro e w7 ⟨rfl, rfl⟩)
            | (go_at_call 28; (with_reducible refine hv2'.out.mono ?_); rintro e w8 ⟨rfl, rfl⟩)
          obtain ⟨m2, hm2⟩ : ∃ m, m = l2.length := ⟨_, rfl⟩
          rw [← hm2]
          have hm1000 : m2 ≤ 1000 := by have := hl2.out; omega
          replace hm2 := hide hm2
          go_loopw [27] (fun q wx => ∃ m : Nat, m ≤ m2 ∧ q = .int .i64 (m : Int) ∧ Below w6.heap.size w6 wx) (fun q _ => m2 - (intOf q).toNat)
          case atStart => exact ⟨0, Nat.zero_le _, rfl, .refl _ _⟩
          case round =>
            obtain ⟨m, hm, rfl, hbx⟩ := hrel
            by_cases hmm : m < m2
            · have hml : m < l2.length := by have := hm2.out; omega
              obtain ⟨g5, rfl, hA5⟩ : ∃ g5, A5 = some ⟨g5, 0, none⟩ ∧ FunsAt wr g5 l2 := by
                rcases hF5'.out.next hbx with h0 | ⟨g5, h1, h2⟩
                · rw [h0] at hml; simp at hml
                · exact ⟨g5, h1, h2⟩
              obtain ⟨g6, rfl, hA6⟩ : ∃ g6, A6 = some ⟨g6, 0, none⟩ ∧ FunsAt wr g6 l2 := by
                rcases hF6.out.next hbx with h0 | ⟨g6, h1, h2⟩
                · rw [h0] at hml; simp at hml
                · exact ⟨g6, h1, h2⟩
              obtain ⟨Aa, ca, y0, y1, y2, hIa, h64⟩ := hA5 m hml
              obtain ⟨Ab, cb, z0, z1, z2, hIb, _⟩ := hA6 m hml
              have hsame : ∀ W, Below wr.heap.size wr W → Calls Try.prog 20 #[.agg #[.string l2[m].nm, .slice Aa l2[m].ar.length ca, .int .i64 l2[m].rs], .agg #[.string l2[m].nm, .slice Ab l2[m].ar.length cb, .int .i64 l2[m].rs]] W fun e w' => e = .returned (.bool true) ∧ Below wr.heap.size wr w' := fun W hb => by
                have hO := Off.of_below hb []
                exact (same_any _ Aa Ab _ ca cb _ W (hIa.off hO (by simp) (by simp)) (hIb.off hO (by simp) (by simp)) (by omega)).mono fun e w' ⟨he, hb'⟩ => ⟨he, hb.trans (hb'.mono hb.size)⟩
              have hk6 : ∀ W, Below wr.heap.size wr W → (W.cell? ⟨g5, m * 3, none⟩ = some (.string l2[m].nm) ∧ W.cell? ⟨g5, m * 3 + 1, none⟩ = some (.slice Aa l2[m].ar.length ca) ∧ W.cell? ⟨g5, m * 3 + 2, none⟩ = some (.int .i64 l2[m].rs)) ∧ (W.cell? ⟨g6, m * 3, none⟩ = some (.string l2[m].nm) ∧ W.cell? ⟨g6, m * 3 + 1, none⟩ = some (.slice Ab l2[m].ar.length cb) ∧ W.cell? ⟨g6, m * 3 + 2, none⟩ = some (.int .i64 l2[m].rs)) := fun W hb => by
                have hO := Off.of_below hb []
                exact ⟨⟨hO.cell y0 (cell_in y0) (by simp), hO.cell y1 (cell_in y1) (by simp), hO.cell y2 (cell_in y2) (by simp)⟩, ⟨hO.cell z0 (cell_in z0) (by simp), hO.cell z1 (cell_in z1) (by simp), hO.cell z2 (cell_in z2) (by simp)⟩⟩
              generalize l2[m].nm = nx at *
              generalize l2[m].rs = rx at *
              generalize l2[m].ar.length = mm at *
              replace hsame := hide hsame; replace hk6 := hide hk6; replace hbx := hide hbx
              clear hIa hIb hA5 hA6 h64 y0 y1 y2 z0 z1 z2
              go_wp2
              refine wp_region_held_drew (S := (fun W => (W.cell? ⟨g5, m * 3, none⟩ = some (.string nx) ∧ W.cell? ⟨g5, m * 3 + 1, none⟩ = some (.slice Aa mm ca) ∧ W.cell? ⟨g5, m * 3 + 2, none⟩ = some (.int .i64 rx)) ∧ (W.cell? ⟨g6, m * 3, none⟩ = some (.string nx) ∧ W.cell? ⟨g6, m * 3 + 1, none⟩ = some (.slice Ab mm cb) ∧ W.cell? ⟨g6, m * 3 + 2, none⟩ = some (.int .i64 rx)))) (by kernel_rfl) ?_ (fun hHeld => ?_)
              · (try dsimp only)
                exact hk6.out _ (bel_drew wr)
              refine wpAnyH_take (i := 0) (v := ?vvr5x0) (by (simp only [List.getElem?_toArray, List.getElem?_cons_zero, List.getElem?_cons_succ]) <;> rfl) (by kernel_rfl) (by kernel_rfl) (by kernel_rfl) ?hqr5x0 (Or.inl ⟨by rfl, ?hyr5x0⟩) (by assumption) ?_
              case hqr5x0 => exact fun _ _ _ h => h
              case hyr5x0 => ((intro w hSw; (try dsimp only at hSw); go_simp) <;> (with_reducible rfl))
              (try simp only [Act.put, List.setIfInBounds_toArray, List.set_cons_zero, List.set_cons_succ])
              refine wpAnyH_take (i := 1) (v := ?vvr5x1) (by (simp only [List.getElem?_toArray, List.getElem?_cons_zero, List.getElem?_cons_succ]) <;> rfl) (by kernel_rfl) (by kernel_rfl) (by kernel_rfl) ?hqr5x1 (Or.inl ⟨by rfl, ?hyr5x1⟩) (by assumption) ?_
              case hqr5x1 => exact fun _ _ _ h => h
              case hyr5x1 => ((intro w hSw; (try dsimp only at hSw); go_simp) <;> (with_reducible rfl))
              (try simp only [Act.put, List.setIfInBounds_toArray, List.set_cons_zero, List.set_cons_succ])
              refine wpAnyH_take (i := 2) (v := ?vvr5x2) (by (simp only [List.getElem?_toArray, List.getElem?_cons_zero, List.getElem?_cons_succ]) <;> rfl) (by kernel_rfl) (by kernel_rfl) (by kernel_rfl) ?hqr5x2 (Or.inl ⟨by rfl, ?hyr5x2⟩) (by assumption) ?_
              case hqr5x2 => exact fun _ _ _ h => h
              case hyr5x2 => ((intro w hSw; (try dsimp only at hSw); go_simp) <;> (with_reducible rfl))
              (try simp only [Act.put, List.setIfInBounds_toArray, List.set_cons_zero, List.set_cons_succ])
              refine wpAnyH_take (i := 3) (v := ?vvr5x3) (by (simp only [List.getElem?_toArray, List.getElem?_cons_zero, List.getElem?_cons_succ]) <;> rfl) (by kernel_rfl) (by kernel_rfl) (by kernel_rfl) ?hqr5x3 (Or.inl ⟨by rfl, ?hyr5x3⟩) (by assumption) ?_
              case hqr5x3 => exact fun _ _ _ h => h
              case hyr5x3 => ((intro w hSw; (try dsimp only at hSw); go_simp) <;> (with_reducible rfl))
              (try simp only [Act.put, List.setIfInBounds_toArray, List.set_cons_zero, List.set_cons_succ])
              refine wpAnyH_take (i := 4) (v := ?vvr5x4) (by (simp only [List.getElem?_toArray, List.getElem?_cons_zero, List.getElem?_cons_succ]) <;> rfl) (by kernel_rfl) (by kernel_rfl) (by kernel_rfl) ?hqr5x4 (Or.inl ⟨by rfl, ?hyr5x4⟩) (by assumption) ?_
              case hqr5x4 => exact fun _ _ _ h => h
              case hyr5x4 => ((intro w hSw; (try dsimp only at hSw); go_simp) <;> (with_reducible rfl))
              (try simp only [Act.put, List.setIfInBounds_toArray, List.set_cons_zero, List.set_cons_succ])
              refine wpAnyH_take (i := 5) (v := ?vvr5x5) (by (simp only [List.getElem?_toArray, List.getElem?_cons_zero, List.getElem?_cons_succ]) <;> rfl) (by kernel_rfl) (by kernel_rfl) (by kernel_rfl) ?hqr5x5 (Or.inl ⟨by rfl, ?hyr5x5⟩) (by assumption) ?_
              case hqr5x5 => exact fun _ _ _ h => h
              case hyr5x5 => ((intro w hSw; (try dsimp only at hSw); go_simp) <;> (with_reducible rfl))
              (try simp only [Act.put, List.setIfInBounds_toArray, List.set_cons_zero, List.set_cons_succ])
              refine wpAnyH_take (i := 6) (v := ?vvr5x6) (by (simp only [List.getElem?_toArray, List.getElem?_cons_zero, List.getElem?_cons_succ]) <;> rfl) (by kernel_rfl) (by kernel_rfl) (by kernel_rfl) ?hqr5x6 (Or.inl ⟨by rfl, ?hyr5x6⟩) (by assumption) ?_
              case hqr5x6 => exact fun _ _ _ h => h
              case hyr5x6 => ((intro w hSw; (try dsimp only at hSw); go_simp) <;> (with_reducible rfl))
              (try simp only [Act.put, List.setIfInBounds_toArray, List.set_cons_zero, List.set_cons_succ])
              refine wpAnyH_take (i := 7) (v := ?vvr5x7) (by (simp only [List.getElem?_toArray, List.getElem?_cons_zero, List.getElem?_cons_succ]) <;> rfl) (by kernel_rfl) (by kernel_rfl) (by kernel_rfl) ?hqr5x7 (Or.inl ⟨by rfl, ?hyr5x7⟩) (by assumption) ?_
              case hqr5x7 => exact fun _ _ _ h => h
              case hyr5x7 => ((intro w hSw; (try dsimp only at hSw); go_simp) <;> (with_reducible rfl))
              (try simp only [Act.put, List.setIfInBounds_toArray, List.set_cons_zero, List.set_cons_succ])
              refine wpAnyH_ready (rs := [8]) (by kernel_rfl) (by simp) ?_
              refine AllReadyH.cons (by (simp only [List.getElem?_toArray, List.getElem?_cons_zero, List.getElem?_cons_succ]) <;> rfl) (fun K hK => ?_) AllReadyH.nil
              go_simp
              go_at_call 20; (with_reducible refine (hsame.out _ (bel_drew wr)).mono ?_); rintro e w9 ⟨rfl, hb9⟩; replace hb9 := hide hb9
              (try go_wp2_with fail)
              refine hK.out _ _ ?_ (fun hHeld => ?_)
              · (try dsimp only)
                exact hk6.out _ hb9.out
              (try clear hK K)
              (try simp only [Act.put, List.setIfInBounds_toArray, List.set_cons_zero, List.set_cons_succ])
              refine wpAnyH_take (i := 9) (v := ?vvr5x9) (by (simp only [List.getElem?_toArray, List.getElem?_cons_zero, List.getElem?_cons_succ]) <;> rfl) (by kernel_rfl) (by kernel_rfl) (by kernel_rfl) ?hqr5x9 (Or.inl ⟨by rfl, ?hyr5x9⟩) (by assumption) ?_
              case hqr5x9 => exact fun _ _ _ h => h
              case hyr5x9 => ((intro w hSw; (try dsimp only at hSw); go_simp) <;> (with_reducible rfl))
              (try simp only [Act.put, List.setIfInBounds_toArray, List.set_cons_zero, List.set_cons_succ])
              refine wpAnyH_done (by kernel_rfl) ?_ _
              (try clear hHeld)
              (try go_wp2)
              go_roundw
              all_goals (try simp only [Array.getD_eq_getD_getElem?, List.getElem?_toArray, List.getElem?_cons_succ, List.getElem?_cons_zero, Option.getD_some])
              case rel => exact ⟨m + 1, by omega, by go_num, hbx.out.trans (hb9.out.mono hbx.out.size)⟩
              case measure => simp [intOf]; omega
            · have hmd : decide (m < m2) = false := decide_eq_false hmm
              have hend := hide (hJ3.out.next (hb36.out.trans (hbx.mono hb36.out.size))).out0
              clear hbx
              go_wp2
              go_roundw
              all_goals (try simp only [Array.getD_eq_getD_getElem?, List.getElem?_toArray, List.getElem?_cons_succ, List.getElem?_cons_zero, Option.getD_some])
              case rel => exact ⟨j + 1, by omega, by go_num, hend.out⟩
              case measure => simp [intOf]; omega
      by_cases k6 : kd = 6
      · as_aux_lemma =>
          subst k6
          have y1 : W.cell? ⟨wa.heap.size, 1, none⟩ = some (.string an) := hJ.out.bk.cell rfl
          obtain ⟨x, ok, hc, hr⟩ := j_fsort hJ.out (by omega) an (by omega)
          replace hc := hide hc; have hr2 := hide (hr W (.refl _ _))
          go_wp2_with first
            | (go_at_call 21; rw [← hW.out]; (with_reducible refine hc.out.mono ?_); rintro e' w2 ⟨rfl, rfl⟩)
            | (go_at_call 22; (with_reducible refine hr2.out.mono ?_); rintro e' w3 ⟨rfl, rfl⟩; have hJ3 := hJ.out.up (Nat.le_succ j); obtain ⟨l2, hl2, hfu, hal⟩ := j_funs hJ3 (by omega); obtain ⟨lv, hv1, hv2⟩ := j_levels hJ3; replace hfu := hide hfu; replace hal := hide hal; replace hv1 := hide hv1; replace hv2 := hide hv2; replace hJ3 := hide hJ3; replace hl2 := hide hl2)
            | (go_at_call 25; (with_reducible refine hfu.out.mono ?_); rintro e w5 ⟨A5, c5, rfl, hF5, hb5⟩; have hal5 := hide (hal.out w5 hb5); replace hF5 := hide hF5; replace hb5 := hide hb5)
            | (go_at_call 26; (with_reducible refine hal5.out.mono ?_); rintro e w6 ⟨A6, c6, rfl, hF6, hb6⟩; have hb36 := hide (hb5.out.trans (hb6.mono hb5.out.size)); have hF5' := hide (hF5.out.next hb6); have hv1' := hide (hv1.out w6 hb36.out); have hv2' := hide (hv2.out w6 hb36.out); replace hF6 := hide hF6; clear hb6)
            | (go_at_call 27; (with_reducible refine hv1'.out.mono ?_); rintro e w7 ⟨rfl, rfl⟩)
            | (go_at_call 28; (with_reducible refine hv2'.out.mono ?_); rintro e w8 ⟨rfl, rfl⟩)
          obtain ⟨m2, hm2⟩ : ∃ m, m = l2.length := ⟨_, rfl⟩
          rw [← hm2]
          have hm1000 : m2 ≤ 1000 := by have := hl2.out; omega
          replace hm2 := hide hm2
          go_loopw [27] (fun q wx => ∃ m : Nat, m ≤ m2 ∧ q = .int .i64 (m : Int) ∧ Below w6.heap.size w6 wx) (fun q _ => m2 - (intOf q).toNat)
          case atStart => exact ⟨0, Nat.zero_le _, rfl, .refl _ _⟩
          case round =>
            obtain ⟨m, hm, rfl, hbx⟩ := hrel
            by_cases hmm : m < m2
            · have hml : m < l2.length := by have := hm2.out; omega
              obtain ⟨g5, rfl, hA5⟩ : ∃ g5, A5 = some ⟨g5, 0, none⟩ ∧ FunsAt wr g5 l2 := by
                rcases hF5'.out.next hbx with h0 | ⟨g5, h1, h2⟩
                · rw [h0] at hml; simp at hml
                · exact ⟨g5, h1, h2⟩
              obtain ⟨g6, rfl, hA6⟩ : ∃ g6, A6 = some ⟨g6, 0, none⟩ ∧ FunsAt wr g6 l2 := by
                rcases hF6.out.next hbx with h0 | ⟨g6, h1, h2⟩
                · rw [h0] at hml; simp at hml
                · exact ⟨g6, h1, h2⟩
              obtain ⟨Aa, ca, y0, y1, y2, hIa, h64⟩ := hA5 m hml
              obtain ⟨Ab, cb, z0, z1, z2, hIb, _⟩ := hA6 m hml
              have hsame : ∀ W, Below wr.heap.size wr W → Calls Try.prog 20 #[.agg #[.string l2[m].nm, .slice Aa l2[m].ar.length ca, .int .i64 l2[m].rs], .agg #[.string l2[m].nm, .slice Ab l2[m].ar.length cb, .int .i64 l2[m].rs]] W fun e w' => e = .returned (.bool true) ∧ Below wr.heap.size wr w' := fun W hb => by
                have hO := Off.of_below hb []
                exact (same_any _ Aa Ab _ ca cb _ W (hIa.off hO (by simp) (by simp)) (hIb.off hO (by simp) (by simp)) (by omega)).mono fun e w' ⟨he, hb'⟩ => ⟨he, hb.trans (hb'.mono hb.size)⟩
              have hk6 : ∀ W, Below wr.heap.size wr W → (W.cell? ⟨g5, m * 3, none⟩ = some (.string l2[m].nm) ∧ W.cell? ⟨g5, m * 3 + 1, none⟩ = some (.slice Aa l2[m].ar.length ca) ∧ W.cell? ⟨g5, m * 3 + 2, none⟩ = some (.int .i64 l2[m].rs)) ∧ (W.cell? ⟨g6, m * 3, none⟩ = some (.string l2[m].nm) ∧ W.cell? ⟨g6, m * 3 + 1, none⟩ = some (.slice Ab l2[m].ar.length cb) ∧ W.cell? ⟨g6, m * 3 + 2, none⟩ = some (.int .i64 l2[m].rs)) := fun W hb => by
                have hO := Off.of_below hb []
                exact ⟨⟨hO.cell y0 (cell_in y0) (by simp), hO.cell y1 (cell_in y1) (by simp), hO.cell y2 (cell_in y2) (by simp)⟩, ⟨hO.cell z0 (cell_in z0) (by simp), hO.cell z1 (cell_in z1) (by simp), hO.cell z2 (cell_in z2) (by simp)⟩⟩
              generalize l2[m].nm = nx at *
              generalize l2[m].rs = rx at *
              generalize l2[m].ar.length = mm at *
              replace hsame := hide hsame; replace hk6 := hide hk6; replace hbx := hide hbx
              clear hIa hIb hA5 hA6 h64 y0 y1 y2 z0 z1 z2
              go_wp2
              refine wp_region_held_drew (S := (fun W => (W.cell? ⟨g5, m * 3, none⟩ = some (.string nx) ∧ W.cell? ⟨g5, m * 3 + 1, none⟩ = some (.slice Aa mm ca) ∧ W.cell? ⟨g5, m * 3 + 2, none⟩ = some (.int .i64 rx)) ∧ (W.cell? ⟨g6, m * 3, none⟩ = some (.string nx) ∧ W.cell? ⟨g6, m * 3 + 1, none⟩ = some (.slice Ab mm cb) ∧ W.cell? ⟨g6, m * 3 + 2, none⟩ = some (.int .i64 rx)))) (by kernel_rfl) ?_ (fun hHeld => ?_)
              · (try dsimp only)
                exact hk6.out _ (bel_drew wr)
              refine wpAnyH_take (i := 0) (v := ?vvr6x0) (by (simp only [List.getElem?_toArray, List.getElem?_cons_zero, List.getElem?_cons_succ]) <;> rfl) (by kernel_rfl) (by kernel_rfl) (by kernel_rfl) ?hqr6x0 (Or.inl ⟨by rfl, ?hyr6x0⟩) (by assumption) ?_
              case hqr6x0 => exact fun _ _ _ h => h
              case hyr6x0 => ((intro w hSw; (try dsimp only at hSw); go_simp) <;> (with_reducible rfl))
              (try simp only [Act.put, List.setIfInBounds_toArray, List.set_cons_zero, List.set_cons_succ])
              refine wpAnyH_take (i := 1) (v := ?vvr6x1) (by (simp only [List.getElem?_toArray, List.getElem?_cons_zero, List.getElem?_cons_succ]) <;> rfl) (by kernel_rfl) (by kernel_rfl) (by kernel_rfl) ?hqr6x1 (Or.inl ⟨by rfl, ?hyr6x1⟩) (by assumption) ?_
              case hqr6x1 => exact fun _ _ _ h => h
              case hyr6x1 => ((intro w hSw; (try dsimp only at hSw); go_simp) <;> (with_reducible rfl))
              (try simp only [Act.put, List.setIfInBounds_toArray, List.set_cons_zero, List.set_cons_succ])
              refine wpAnyH_take (i := 2) (v := ?vvr6x2) (by (simp only [List.getElem?_toArray, List.getElem?_cons_zero, List.getElem?_cons_succ]) <;> rfl) (by kernel_rfl) (by kernel_rfl) (by kernel_rfl) ?hqr6x2 (Or.inl ⟨by rfl, ?hyr6x2⟩) (by assumption) ?_
              case hqr6x2 => exact fun _ _ _ h => h
              case hyr6x2 => ((intro w hSw; (try dsimp only at hSw); go_simp) <;> (with_reducible rfl))
              (try simp only [Act.put, List.setIfInBounds_toArray, List.set_cons_zero, List.set_cons_succ])
              refine wpAnyH_take (i := 3) (v := ?vvr6x3) (by (simp only [List.getElem?_toArray, List.getElem?_cons_zero, List.getElem?_cons_succ]) <;> rfl) (by kernel_rfl) (by kernel_rfl) (by kernel_rfl) ?hqr6x3 (Or.inl ⟨by rfl, ?hyr6x3⟩) (by assumption) ?_
              case hqr6x3 => exact fun _ _ _ h => h
              case hyr6x3 => ((intro w hSw; (try dsimp only at hSw); go_simp) <;> (with_reducible rfl))
              (try simp only [Act.put, List.setIfInBounds_toArray, List.set_cons_zero, List.set_cons_succ])
              refine wpAnyH_take (i := 4) (v := ?vvr6x4) (by (simp only [List.getElem?_toArray, List.getElem?_cons_zero, List.getElem?_cons_succ]) <;> rfl) (by kernel_rfl) (by kernel_rfl) (by kernel_rfl) ?hqr6x4 (Or.inl ⟨by rfl, ?hyr6x4⟩) (by assumption) ?_
              case hqr6x4 => exact fun _ _ _ h => h
              case hyr6x4 => ((intro w hSw; (try dsimp only at hSw); go_simp) <;> (with_reducible rfl))
              (try simp only [Act.put, List.setIfInBounds_toArray, List.set_cons_zero, List.set_cons_succ])
              refine wpAnyH_take (i := 5) (v := ?vvr6x5) (by (simp only [List.getElem?_toArray, List.getElem?_cons_zero, List.getElem?_cons_succ]) <;> rfl) (by kernel_rfl) (by kernel_rfl) (by kernel_rfl) ?hqr6x5 (Or.inl ⟨by rfl, ?hyr6x5⟩) (by assumption) ?_
              case hqr6x5 => exact fun _ _ _ h => h
              case hyr6x5 => ((intro w hSw; (try dsimp only at hSw); go_simp) <;> (with_reducible rfl))
              (try simp only [Act.put, List.setIfInBounds_toArray, List.set_cons_zero, List.set_cons_succ])
              refine wpAnyH_take (i := 6) (v := ?vvr6x6) (by (simp only [List.getElem?_toArray, List.getElem?_cons_zero, List.getElem?_cons_succ]) <;> rfl) (by kernel_rfl) (by kernel_rfl) (by kernel_rfl) ?hqr6x6 (Or.inl ⟨by rfl, ?hyr6x6⟩) (by assumption) ?_
              case hqr6x6 => exact fun _ _ _ h => h
              case hyr6x6 => ((intro w hSw; (try dsimp only at hSw); go_simp) <;> (with_reducible rfl))
              (try simp only [Act.put, List.setIfInBounds_toArray, List.set_cons_zero, List.set_cons_succ])
              refine wpAnyH_take (i := 7) (v := ?vvr6x7) (by (simp only [List.getElem?_toArray, List.getElem?_cons_zero, List.getElem?_cons_succ]) <;> rfl) (by kernel_rfl) (by kernel_rfl) (by kernel_rfl) ?hqr6x7 (Or.inl ⟨by rfl, ?hyr6x7⟩) (by assumption) ?_
              case hqr6x7 => exact fun _ _ _ h => h
              case hyr6x7 => ((intro w hSw; (try dsimp only at hSw); go_simp) <;> (with_reducible rfl))
              (try simp only [Act.put, List.setIfInBounds_toArray, List.set_cons_zero, List.set_cons_succ])
              refine wpAnyH_ready (rs := [8]) (by kernel_rfl) (by simp) ?_
              refine AllReadyH.cons (by (simp only [List.getElem?_toArray, List.getElem?_cons_zero, List.getElem?_cons_succ]) <;> rfl) (fun K hK => ?_) AllReadyH.nil
              go_simp
              go_at_call 20; (with_reducible refine (hsame.out _ (bel_drew wr)).mono ?_); rintro e w9 ⟨rfl, hb9⟩; replace hb9 := hide hb9
              (try go_wp2_with fail)
              refine hK.out _ _ ?_ (fun hHeld => ?_)
              · (try dsimp only)
                exact hk6.out _ hb9.out
              (try clear hK K)
              (try simp only [Act.put, List.setIfInBounds_toArray, List.set_cons_zero, List.set_cons_succ])
              refine wpAnyH_take (i := 9) (v := ?vvr6x9) (by (simp only [List.getElem?_toArray, List.getElem?_cons_zero, List.getElem?_cons_succ]) <;> rfl) (by kernel_rfl) (by kernel_rfl) (by kernel_rfl) ?hqr6x9 (Or.inl ⟨by rfl, ?hyr6x9⟩) (by assumption) ?_
              case hqr6x9 => exact fun _ _ _ h => h
              case hyr6x9 => ((intro w hSw; (try dsimp only at hSw); go_simp) <;> (with_reducible rfl))
              (try simp only [Act.put, List.setIfInBounds_toArray, List.set_cons_zero, List.set_cons_succ])
              refine wpAnyH_done (by kernel_rfl) ?_ _
              (try clear hHeld)
              (try go_wp2)
              go_roundw
              all_goals (try simp only [Array.getD_eq_getD_getElem?, List.getElem?_toArray, List.getElem?_cons_succ, List.getElem?_cons_zero, Option.getD_some])
              case rel => exact ⟨m + 1, by omega, by go_num, hbx.out.trans (hb9.out.mono hbx.out.size)⟩
              case measure => simp [intOf]; omega
            · have hmd : decide (m < m2) = false := decide_eq_false hmm
              have hend := hide (hJ3.out.next (hb36.out.trans (hbx.mono hb36.out.size))).out0
              clear hbx
              go_wp2
              go_roundw
              all_goals (try simp only [Array.getD_eq_getD_getElem?, List.getElem?_toArray, List.getElem?_cons_succ, List.getElem?_cons_zero, Option.getD_some])
              case rel => exact ⟨j + 1, by omega, by go_num, hend.out⟩
              case measure => simp [intOf]; omega
      by_cases k7 : kd = 7
      · as_aux_lemma =>
          subst k7
          have y5 : W.cell? ⟨wa.heap.size, 5, none⟩ = some (.int .i64 nn) := hJ.out.bk.cell rfl
          obtain ⟨x, ok, hc, hr⟩ := j_name hJ.out (by omega) nn
          have hxx : binOp .neq 9 (.string x) (.string x) = pure (.bool false) := by rw [binOp_string_neq]; simp
          replace hc := hide hc; have hr2 := hide (hr W (.refl _ _))
          go_wp2_with first
            | (go_at_call 23; rw [← hW.out]; (with_reducible refine hc.out.mono ?_); rintro e' w2 ⟨rfl, rfl⟩)
            | (go_at_call 24; (with_reducible refine hr2.out.mono ?_); rintro e' w3 ⟨rfl, hb3⟩; have hJ3 := (hJ.out.next hb3).up (Nat.le_succ j); clear hb3; obtain ⟨l2, hl2, hfu, hal⟩ := j_funs hJ3 (by omega); obtain ⟨lv, hv1, hv2⟩ := j_levels hJ3; replace hfu := hide hfu; replace hal := hide hal; replace hv1 := hide hv1; replace hv2 := hide hv2; replace hJ3 := hide hJ3; replace hl2 := hide hl2)
            | (go_at_call 25; (with_reducible refine hfu.out.mono ?_); rintro e w5 ⟨A5, c5, rfl, hF5, hb5⟩; have hal5 := hide (hal.out w5 hb5); replace hF5 := hide hF5; replace hb5 := hide hb5)
            | (go_at_call 26; (with_reducible refine hal5.out.mono ?_); rintro e w6 ⟨A6, c6, rfl, hF6, hb6⟩; have hb36 := hide (hb5.out.trans (hb6.mono hb5.out.size)); have hF5' := hide (hF5.out.next hb6); have hv1' := hide (hv1.out w6 hb36.out); have hv2' := hide (hv2.out w6 hb36.out); replace hF6 := hide hF6; clear hb6)
            | (go_at_call 27; (with_reducible refine hv1'.out.mono ?_); rintro e w7 ⟨rfl, rfl⟩)
            | (go_at_call 28; (with_reducible refine hv2'.out.mono ?_); rintro e w8 ⟨rfl, rfl⟩)
          obtain ⟨m2, hm2⟩ : ∃ m, m = l2.length := ⟨_, rfl⟩
          rw [← hm2]
          have hm1000 : m2 ≤ 1000 := by have := hl2.out; omega
          replace hm2 := hide hm2
          go_loopw [27] (fun q wx => ∃ m : Nat, m ≤ m2 ∧ q = .int .i64 (m : Int) ∧ Below w6.heap.size w6 wx) (fun q _ => m2 - (intOf q).toNat)
          case atStart => exact ⟨0, Nat.zero_le _, rfl, .refl _ _⟩
          case round =>
            obtain ⟨m, hm, rfl, hbx⟩ := hrel
            by_cases hmm : m < m2
            · have hml : m < l2.length := by have := hm2.out; omega
              obtain ⟨g5, rfl, hA5⟩ : ∃ g5, A5 = some ⟨g5, 0, none⟩ ∧ FunsAt wr g5 l2 := by
                rcases hF5'.out.next hbx with h0 | ⟨g5, h1, h2⟩
                · rw [h0] at hml; simp at hml
                · exact ⟨g5, h1, h2⟩
              obtain ⟨g6, rfl, hA6⟩ : ∃ g6, A6 = some ⟨g6, 0, none⟩ ∧ FunsAt wr g6 l2 := by
                rcases hF6.out.next hbx with h0 | ⟨g6, h1, h2⟩
                · rw [h0] at hml; simp at hml
                · exact ⟨g6, h1, h2⟩
              obtain ⟨Aa, ca, y0, y1, y2, hIa, h64⟩ := hA5 m hml
              obtain ⟨Ab, cb, z0, z1, z2, hIb, _⟩ := hA6 m hml
              have hsame : ∀ W, Below wr.heap.size wr W → Calls Try.prog 20 #[.agg #[.string l2[m].nm, .slice Aa l2[m].ar.length ca, .int .i64 l2[m].rs], .agg #[.string l2[m].nm, .slice Ab l2[m].ar.length cb, .int .i64 l2[m].rs]] W fun e w' => e = .returned (.bool true) ∧ Below wr.heap.size wr w' := fun W hb => by
                have hO := Off.of_below hb []
                exact (same_any _ Aa Ab _ ca cb _ W (hIa.off hO (by simp) (by simp)) (hIb.off hO (by simp) (by simp)) (by omega)).mono fun e w' ⟨he, hb'⟩ => ⟨he, hb.trans (hb'.mono hb.size)⟩
              have hk6 : ∀ W, Below wr.heap.size wr W → (W.cell? ⟨g5, m * 3, none⟩ = some (.string l2[m].nm) ∧ W.cell? ⟨g5, m * 3 + 1, none⟩ = some (.slice Aa l2[m].ar.length ca) ∧ W.cell? ⟨g5, m * 3 + 2, none⟩ = some (.int .i64 l2[m].rs)) ∧ (W.cell? ⟨g6, m * 3, none⟩ = some (.string l2[m].nm) ∧ W.cell? ⟨g6, m * 3 + 1, none⟩ = some (.slice Ab l2[m].ar.length cb) ∧ W.cell? ⟨g6, m * 3 + 2, none⟩ = some (.int .i64 l2[m].rs)) := fun W hb => by
                have hO := Off.of_below hb []
                exact ⟨⟨hO.cell y0 (cell_in y0) (by simp), hO.cell y1 (cell_in y1) (by simp), hO.cell y2 (cell_in y2) (by simp)⟩, ⟨hO.cell z0 (cell_in z0) (by simp), hO.cell z1 (cell_in z1) (by simp), hO.cell z2 (cell_in z2) (by simp)⟩⟩
              generalize l2[m].nm = nx at *
              generalize l2[m].rs = rx at *
              generalize l2[m].ar.length = mm at *
              replace hsame := hide hsame; replace hk6 := hide hk6; replace hbx := hide hbx
              clear hIa hIb hA5 hA6 h64 y0 y1 y2 z0 z1 z2
              go_wp2
              refine wp_region_held_drew (S := (fun W => (W.cell? ⟨g5, m * 3, none⟩ = some (.string nx) ∧ W.cell? ⟨g5, m * 3 + 1, none⟩ = some (.slice Aa mm ca) ∧ W.cell? ⟨g5, m * 3 + 2, none⟩ = some (.int .i64 rx)) ∧ (W.cell? ⟨g6, m * 3, none⟩ = some (.string nx) ∧ W.cell? ⟨g6, m * 3 + 1, none⟩ = some (.slice Ab mm cb) ∧ W.cell? ⟨g6, m * 3 + 2, none⟩ = some (.int .i64 rx)))) (by kernel_rfl) ?_ (fun hHeld => ?_)
              · (try dsimp only)
                exact hk6.out _ (bel_drew wr)
              refine wpAnyH_take (i := 0) (v := ?vvr7x0) (by (simp only [List.getElem?_toArray, List.getElem?_cons_zero, List.getElem?_cons_succ]) <;> rfl) (by kernel_rfl) (by kernel_rfl) (by kernel_rfl) ?hqr7x0 (Or.inl ⟨by rfl, ?hyr7x0⟩) (by assumption) ?_
              case hqr7x0 => exact fun _ _ _ h => h
              case hyr7x0 => ((intro w hSw; (try dsimp only at hSw); go_simp) <;> (with_reducible rfl))
              (try simp only [Act.put, List.setIfInBounds_toArray, List.set_cons_zero, List.set_cons_succ])
              refine wpAnyH_take (i := 1) (v := ?vvr7x1) (by (simp only [List.getElem?_toArray, List.getElem?_cons_zero, List.getElem?_cons_succ]) <;> rfl) (by kernel_rfl) (by kernel_rfl) (by kernel_rfl) ?hqr7x1 (Or.inl ⟨by rfl, ?hyr7x1⟩) (by assumption) ?_
              case hqr7x1 => exact fun _ _ _ h => h
              case hyr7x1 => ((intro w hSw; (try dsimp only at hSw); go_simp) <;> (with_reducible rfl))
              (try simp only [Act.put, List.setIfInBounds_toArray, List.set_cons_zero, List.set_cons_succ])
              refine wpAnyH_take (i := 2) (v := ?vvr7x2) (by (simp only [List.getElem?_toArray, List.getElem?_cons_zero, List.getElem?_cons_succ]) <;> rfl) (by kernel_rfl) (by kernel_rfl) (by kernel_rfl) ?hqr7x2 (Or.inl ⟨by rfl, ?hyr7x2⟩) (by assumption) ?_
              case hqr7x2 => exact fun _ _ _ h => h
              case hyr7x2 => ((intro w hSw; (try dsimp only at hSw); go_simp) <;> (with_reducible rfl))
              (try simp only [Act.put, List.setIfInBounds_toArray, List.set_cons_zero, List.set_cons_succ])
              refine wpAnyH_take (i := 3) (v := ?vvr7x3) (by (simp only [List.getElem?_toArray, List.getElem?_cons_zero, List.getElem?_cons_succ]) <;> rfl) (by kernel_rfl) (by kernel_rfl) (by kernel_rfl) ?hqr7x3 (Or.inl ⟨by rfl, ?hyr7x3⟩) (by assumption) ?_
              case hqr7x3 => exact fun _ _ _ h => h
              case hyr7x3 => ((intro w hSw; (try dsimp only at hSw); go_simp) <;> (with_reducible rfl))
              (try simp only [Act.put, List.setIfInBounds_toArray, List.set_cons_zero, List.set_cons_succ])
              refine wpAnyH_take (i := 4) (v := ?vvr7x4) (by (simp only [List.getElem?_toArray, List.getElem?_cons_zero, List.getElem?_cons_succ]) <;> rfl) (by kernel_rfl) (by kernel_rfl) (by kernel_rfl) ?hqr7x4 (Or.inl ⟨by rfl, ?hyr7x4⟩) (by assumption) ?_
              case hqr7x4 => exact fun _ _ _ h => h
              case hyr7x4 => ((intro w hSw; (try dsimp only at hSw); go_simp) <;> (with_reducible rfl))
              (try simp only [Act.put, List.setIfInBounds_toArray, List.set_cons_zero, List.set_cons_succ])
              refine wpAnyH_take (i := 5) (v := ?vvr7x5) (by (simp only [List.getElem?_toArray, List.getElem?_cons_zero, List.getElem?_cons_succ]) <;> rfl) (by kernel_rfl) (by kernel_rfl) (by kernel_rfl) ?hqr7x5 (Or.inl ⟨by rfl, ?hyr7x5⟩) (by assumption) ?_
              case hqr7x5 => exact fun _ _ _ h => h
              case hyr7x5 => ((intro w hSw; (try dsimp only at hSw); go_simp) <;> (with_reducible rfl))
              (try simp only [Act.put, List.setIfInBounds_toArray, List.set_cons_zero, List.set_cons_succ])
              refine wpAnyH_take (i := 6) (v := ?vvr7x6) (by (simp only [List.getElem?_toArray, List.getElem?_cons_zero, List.getElem?_cons_succ]) <;> rfl) (by kernel_rfl) (by kernel_rfl) (by kernel_rfl) ?hqr7x6 (Or.inl ⟨by rfl, ?hyr7x6⟩) (by assumption) ?_
              case hqr7x6 => exact fun _ _ _ h => h
              case hyr7x6 => ((intro w hSw; (try dsimp only at hSw); go_simp) <;> (with_reducible rfl))
              (try simp only [Act.put, List.setIfInBounds_toArray, List.set_cons_zero, List.set_cons_succ])
              refine wpAnyH_take (i := 7) (v := ?vvr7x7) (by (simp only [List.getElem?_toArray, List.getElem?_cons_zero, List.getElem?_cons_succ]) <;> rfl) (by kernel_rfl) (by kernel_rfl) (by kernel_rfl) ?hqr7x7 (Or.inl ⟨by rfl, ?hyr7x7⟩) (by assumption) ?_
              case hqr7x7 => exact fun _ _ _ h => h
              case hyr7x7 => ((intro w hSw; (try dsimp only at hSw); go_simp) <;> (with_reducible rfl))
              (try simp only [Act.put, List.setIfInBounds_toArray, List.set_cons_zero, List.set_cons_succ])
              refine wpAnyH_ready (rs := [8]) (by kernel_rfl) (by simp) ?_
              refine AllReadyH.cons (by (simp only [List.getElem?_toArray, List.getElem?_cons_zero, List.getElem?_cons_succ]) <;> rfl) (fun K hK => ?_) AllReadyH.nil
              go_simp
              go_at_call 20; (with_reducible refine (hsame.out _ (bel_drew wr)).mono ?_); rintro e w9 ⟨rfl, hb9⟩; replace hb9 := hide hb9
              (try go_wp2_with fail)
              refine hK.out _ _ ?_ (fun hHeld => ?_)
              · (try dsimp only)
                exact hk6.out _ hb9.out
              (try clear hK K)
              (try simp only [Act.put, List.setIfInBounds_toArray, List.set_cons_zero, List.set_cons_succ])
              refine wpAnyH_take (i := 9) (v := ?vvr7x9) (by (simp only [List.getElem?_toArray, List.getElem?_cons_zero, List.getElem?_cons_succ]) <;> rfl) (by kernel_rfl) (by kernel_rfl) (by kernel_rfl) ?hqr7x9 (Or.inl ⟨by rfl, ?hyr7x9⟩) (by assumption) ?_
              case hqr7x9 => exact fun _ _ _ h => h
              case hyr7x9 => ((intro w hSw; (try dsimp only at hSw); go_simp) <;> (with_reducible rfl))
              (try simp only [Act.put, List.setIfInBounds_toArray, List.set_cons_zero, List.set_cons_succ])
              refine wpAnyH_done (by kernel_rfl) ?_ _
              (try clear hHeld)
              (try go_wp2)
              go_roundw
              all_goals (try simp only [Array.getD_eq_getD_getElem?, List.getElem?_toArray, List.getElem?_cons_succ, List.getElem?_cons_zero, Option.getD_some])
              case rel => exact ⟨m + 1, by omega, by go_num, hbx.out.trans (hb9.out.mono hbx.out.size)⟩
              case measure => simp [intOf]; omega
            · have hmd : decide (m < m2) = false := decide_eq_false hmm
              have hend := hide (hJ3.out.next (hb36.out.trans (hbx.mono hb36.out.size))).out0
              clear hbx
              go_wp2
              go_roundw
              all_goals (try simp only [Array.getD_eq_getD_getElem?, List.getElem?_toArray, List.getElem?_cons_succ, List.getElem?_cons_zero, Option.getD_some])
              case rel => exact ⟨j + 1, by omega, by go_num, hend.out⟩
              case measure => simp [intOf]; omega
      have n1 : (kd == 1) = false := beq_eq_false_iff_ne.2 k1
      have n2 : (kd == 2) = false := beq_eq_false_iff_ne.2 k2
      have n3 : (kd == 3) = false := beq_eq_false_iff_ne.2 k3
      have n4 : (kd == 4) = false := beq_eq_false_iff_ne.2 k4
      have n5 : (kd == 5) = false := beq_eq_false_iff_ne.2 k5
      have n6 : (kd == 6) = false := beq_eq_false_iff_ne.2 k6
      have n7 : (kd == 7) = false := beq_eq_false_iff_ne.2 k7
      clear k1 k2 k3 k4 k5 k6 k7
      as_aux_lemma =>
        have hJ3 := hJ.out.up (Nat.le_succ j)
        obtain ⟨l2, hl2, hfu, hal⟩ := j_funs hJ3 (by omega); obtain ⟨lv, hv1, hv2⟩ := j_levels hJ3; replace hfu := hide hfu; replace hal := hide hal; replace hv1 := hide hv1; replace hv2 := hide hv2; replace hJ3 := hide hJ3; replace hl2 := hide hl2
        go_wp2_with first
          | (go_at_call 25; rw [← hW.out]; (with_reducible refine hfu.out.mono ?_); rintro e w5 ⟨A5, c5, rfl, hF5, hb5⟩; have hal5 := hide (hal.out w5 hb5); replace hF5 := hide hF5; replace hb5 := hide hb5)
          | (go_at_call 26; (with_reducible refine hal5.out.mono ?_); rintro e w6 ⟨A6, c6, rfl, hF6, hb6⟩; have hb36 := hide (hb5.out.trans (hb6.mono hb5.out.size)); have hF5' := hide (hF5.out.next hb6); have hv1' := hide (hv1.out w6 hb36.out); have hv2' := hide (hv2.out w6 hb36.out); replace hF6 := hide hF6; clear hb6)
          | (go_at_call 27; (with_reducible refine hv1'.out.mono ?_); rintro e w7 ⟨rfl, rfl⟩)
          | (go_at_call 28; (with_reducible refine hv2'.out.mono ?_); rintro e w8 ⟨rfl, rfl⟩)
        obtain ⟨m2, hm2⟩ : ∃ m, m = l2.length := ⟨_, rfl⟩
        rw [← hm2]
        have hm1000 : m2 ≤ 1000 := by have := hl2.out; omega
        replace hm2 := hide hm2
        go_loopw [27] (fun q wx => ∃ m : Nat, m ≤ m2 ∧ q = .int .i64 (m : Int) ∧ Below w6.heap.size w6 wx) (fun q _ => m2 - (intOf q).toNat)
        case atStart => exact ⟨0, Nat.zero_le _, rfl, .refl _ _⟩
        case round =>
          obtain ⟨m, hm, rfl, hbx⟩ := hrel
          by_cases hmm : m < m2
          · have hml : m < l2.length := by have := hm2.out; omega
            obtain ⟨g5, rfl, hA5⟩ : ∃ g5, A5 = some ⟨g5, 0, none⟩ ∧ FunsAt wr g5 l2 := by
              rcases hF5'.out.next hbx with h0 | ⟨g5, h1, h2⟩
              · rw [h0] at hml; simp at hml
              · exact ⟨g5, h1, h2⟩
            obtain ⟨g6, rfl, hA6⟩ : ∃ g6, A6 = some ⟨g6, 0, none⟩ ∧ FunsAt wr g6 l2 := by
              rcases hF6.out.next hbx with h0 | ⟨g6, h1, h2⟩
              · rw [h0] at hml; simp at hml
              · exact ⟨g6, h1, h2⟩
            obtain ⟨Aa, ca, y0, y1, y2, hIa, h64⟩ := hA5 m hml
            obtain ⟨Ab, cb, z0, z1, z2, hIb, _⟩ := hA6 m hml
            have hsame : ∀ W, Below wr.heap.size wr W → Calls Try.prog 20 #[.agg #[.string l2[m].nm, .slice Aa l2[m].ar.length ca, .int .i64 l2[m].rs], .agg #[.string l2[m].nm, .slice Ab l2[m].ar.length cb, .int .i64 l2[m].rs]] W fun e w' => e = .returned (.bool true) ∧ Below wr.heap.size wr w' := fun W hb => by
              have hO := Off.of_below hb []
              exact (same_any _ Aa Ab _ ca cb _ W (hIa.off hO (by simp) (by simp)) (hIb.off hO (by simp) (by simp)) (by omega)).mono fun e w' ⟨he, hb'⟩ => ⟨he, hb.trans (hb'.mono hb.size)⟩
            have hk6 : ∀ W, Below wr.heap.size wr W → (W.cell? ⟨g5, m * 3, none⟩ = some (.string l2[m].nm) ∧ W.cell? ⟨g5, m * 3 + 1, none⟩ = some (.slice Aa l2[m].ar.length ca) ∧ W.cell? ⟨g5, m * 3 + 2, none⟩ = some (.int .i64 l2[m].rs)) ∧ (W.cell? ⟨g6, m * 3, none⟩ = some (.string l2[m].nm) ∧ W.cell? ⟨g6, m * 3 + 1, none⟩ = some (.slice Ab l2[m].ar.length cb) ∧ W.cell? ⟨g6, m * 3 + 2, none⟩ = some (.int .i64 l2[m].rs)) := fun W hb => by
              have hO := Off.of_below hb []
              exact ⟨⟨hO.cell y0 (cell_in y0) (by simp), hO.cell y1 (cell_in y1) (by simp), hO.cell y2 (cell_in y2) (by simp)⟩, ⟨hO.cell z0 (cell_in z0) (by simp), hO.cell z1 (cell_in z1) (by simp), hO.cell z2 (cell_in z2) (by simp)⟩⟩
            generalize l2[m].nm = nx at *
            generalize l2[m].rs = rx at *
            generalize l2[m].ar.length = mm at *
            replace hsame := hide hsame; replace hk6 := hide hk6; replace hbx := hide hbx
            clear hIa hIb hA5 hA6 h64 y0 y1 y2 z0 z1 z2
            go_wp2
            refine wp_region_held_drew (S := (fun W => (W.cell? ⟨g5, m * 3, none⟩ = some (.string nx) ∧ W.cell? ⟨g5, m * 3 + 1, none⟩ = some (.slice Aa mm ca) ∧ W.cell? ⟨g5, m * 3 + 2, none⟩ = some (.int .i64 rx)) ∧ (W.cell? ⟨g6, m * 3, none⟩ = some (.string nx) ∧ W.cell? ⟨g6, m * 3 + 1, none⟩ = some (.slice Ab mm cb) ∧ W.cell? ⟨g6, m * 3 + 2, none⟩ = some (.int .i64 rx)))) (by kernel_rfl) ?_ (fun hHeld => ?_)
            · (try dsimp only)
              exact hk6.out _ (bel_drew wr)
            refine wpAnyH_take (i := 0) (v := ?vvr8x0) (by (simp only [List.getElem?_toArray, List.getElem?_cons_zero, List.getElem?_cons_succ]) <;> rfl) (by kernel_rfl) (by kernel_rfl) (by kernel_rfl) ?hqr8x0 (Or.inl ⟨by rfl, ?hyr8x0⟩) (by assumption) ?_
            case hqr8x0 => exact fun _ _ _ h => h
            case hyr8x0 => ((intro w hSw; (try dsimp only at hSw); go_simp) <;> (with_reducible rfl))
            (try simp only [Act.put, List.setIfInBounds_toArray, List.set_cons_zero, List.set_cons_succ])
            refine wpAnyH_take (i := 1) (v := ?vvr8x1) (by (simp only [List.getElem?_toArray, List.getElem?_cons_zero, List.getElem?_cons_succ]) <;> rfl) (by kernel_rfl) (by kernel_rfl) (by kernel_rfl) ?hqr8x1 (Or.inl ⟨by rfl, ?hyr8x1⟩) (by assumption) ?_
            case hqr8x1 => exact fun _ _ _ h => h
            case hyr8x1 => ((intro w hSw; (try dsimp only at hSw); go_simp) <;> (with_reducible rfl))
            (try simp only [Act.put, List.setIfInBounds_toArray, List.set_cons_zero, List.set_cons_succ])
            refine wpAnyH_take (i := 2) (v := ?vvr8x2) (by (simp only [List.getElem?_toArray, List.getElem?_cons_zero, List.getElem?_cons_succ]) <;> rfl) (by kernel_rfl) (by kernel_rfl) (by kernel_rfl) ?hqr8x2 (Or.inl ⟨by rfl, ?hyr8x2⟩) (by assumption) ?_
            case hqr8x2 => exact fun _ _ _ h => h
            case hyr8x2 => ((intro w hSw; (try dsimp only at hSw); go_simp) <;> (with_reducible rfl))
            (try simp only [Act.put, List.setIfInBounds_toArray, List.set_cons_zero, List.set_cons_succ])
            refine wpAnyH_take (i := 3) (v := ?vvr8x3) (by (simp only [List.getElem?_toArray, List.getElem?_cons_zero, List.getElem?_cons_succ]) <;> rfl) (by kernel_rfl) (by kernel_rfl) (by kernel_rfl) ?hqr8x3 (Or.inl ⟨by rfl, ?hyr8x3⟩) (by assumption) ?_
            case hqr8x3 => exact fun _ _ _ h => h
            case hyr8x3 => ((intro w hSw; (try dsimp only at hSw); go_simp) <;> (with_reducible rfl))
            (try simp only [Act.put, List.setIfInBounds_toArray, List.set_cons_zero, List.set_cons_succ])
            refine wpAnyH_take (i := 4) (v := ?vvr8x4) (by (simp only [List.getElem?_toArray, List.getElem?_cons_zero, List.getElem?_cons_succ]) <;> rfl) (by kernel_rfl) (by kernel_rfl) (by kernel_rfl) ?hqr8x4 (Or.inl ⟨by rfl, ?hyr8x4⟩) (by assumption) ?_
            case hqr8x4 => exact fun _ _ _ h => h
            case hyr8x4 => ((intro w hSw; (try dsimp only at hSw); go_simp) <;> (with_reducible rfl))
            (try simp only [Act.put, List.setIfInBounds_toArray, List.set_cons_zero, List.set_cons_succ])
            refine wpAnyH_take (i := 5) (v := ?vvr8x5) (by (simp only [List.getElem?_toArray, List.getElem?_cons_zero, List.getElem?_cons_succ]) <;> rfl) (by kernel_rfl) (by kernel_rfl) (by kernel_rfl) ?hqr8x5 (Or.inl ⟨by rfl, ?hyr8x5⟩) (by assumption) ?_
            case hqr8x5 => exact fun _ _ _ h => h
            case hyr8x5 => ((intro w hSw; (try dsimp only at hSw); go_simp) <;> (with_reducible rfl))
            (try simp only [Act.put, List.setIfInBounds_toArray, List.set_cons_zero, List.set_cons_succ])
            refine wpAnyH_take (i := 6) (v := ?vvr8x6) (by (simp only [List.getElem?_toArray, List.getElem?_cons_zero, List.getElem?_cons_succ]) <;> rfl) (by kernel_rfl) (by kernel_rfl) (by kernel_rfl) ?hqr8x6 (Or.inl ⟨by rfl, ?hyr8x6⟩) (by assumption) ?_
            case hqr8x6 => exact fun _ _ _ h => h
            case hyr8x6 => ((intro w hSw; (try dsimp only at hSw); go_simp) <;> (with_reducible rfl))
            (try simp only [Act.put, List.setIfInBounds_toArray, List.set_cons_zero, List.set_cons_succ])
            refine wpAnyH_take (i := 7) (v := ?vvr8x7) (by (simp only [List.getElem?_toArray, List.getElem?_cons_zero, List.getElem?_cons_succ]) <;> rfl) (by kernel_rfl) (by kernel_rfl) (by kernel_rfl) ?hqr8x7 (Or.inl ⟨by rfl, ?hyr8x7⟩) (by assumption) ?_
            case hqr8x7 => exact fun _ _ _ h => h
            case hyr8x7 => ((intro w hSw; (try dsimp only at hSw); go_simp) <;> (with_reducible rfl))
            (try simp only [Act.put, List.setIfInBounds_toArray, List.set_cons_zero, List.set_cons_succ])
            refine wpAnyH_ready (rs := [8]) (by kernel_rfl) (by simp) ?_
            refine AllReadyH.cons (by (simp only [List.getElem?_toArray, List.getElem?_cons_zero, List.getElem?_cons_succ]) <;> rfl) (fun K hK => ?_) AllReadyH.nil
            go_simp
            go_at_call 20; (with_reducible refine (hsame.out _ (bel_drew wr)).mono ?_); rintro e w9 ⟨rfl, hb9⟩; replace hb9 := hide hb9
            (try go_wp2_with fail)
            refine hK.out _ _ ?_ (fun hHeld => ?_)
            · (try dsimp only)
              exact hk6.out _ hb9.out
            (try clear hK K)
            (try simp only [Act.put, List.setIfInBounds_toArray, List.set_cons_zero, List.set_cons_succ])
            refine wpAnyH_take (i := 9) (v := ?vvr8x9) (by (simp only [List.getElem?_toArray, List.getElem?_cons_zero, List.getElem?_cons_succ]) <;> rfl) (by kernel_rfl) (by kernel_rfl) (by kernel_rfl) ?hqr8x9 (Or.inl ⟨by rfl, ?hyr8x9⟩) (by assumption) ?_
            case hqr8x9 => exact fun _ _ _ h => h
            case hyr8x9 => ((intro w hSw; (try dsimp only at hSw); go_simp) <;> (with_reducible rfl))
            (try simp only [Act.put, List.setIfInBounds_toArray, List.set_cons_zero, List.set_cons_succ])
            refine wpAnyH_done (by kernel_rfl) ?_ _
            (try clear hHeld)
            (try go_wp2)
            go_roundw
            all_goals (try simp only [Array.getD_eq_getD_getElem?, List.getElem?_toArray, List.getElem?_cons_succ, List.getElem?_cons_zero, Option.getD_some])
            case rel => exact ⟨m + 1, by omega, by go_num, hbx.out.trans (hb9.out.mono hbx.out.size)⟩
            case measure => simp [intOf]; omega
          · have hmd : decide (m < m2) = false := decide_eq_false hmm
            have hend := hide (hJ3.out.next (hb36.out.trans (hbx.mono hb36.out.size))).out0
            clear hbx
            go_wp2
            go_roundw
            all_goals (try simp only [Array.getD_eq_getD_getElem?, List.getElem?_toArray, List.getElem?_cons_succ, List.getElem?_cons_zero, Option.getD_some])
            case rel => exact ⟨j + 1, by omega, by go_num, hend.out⟩
            case measure => simp [intOf]; omega
    · have hjd : decide (j < n) = false := decide_eq_false hjn
      have hJe := hide hJ0
      clear hJ0
      rcases rb with _ | _
      · go_wp2_with first
          | (go_at_call 29; (with_reducible refine (hres.out _).mono ?_); rintro e w2 ⟨rfl, rfl⟩)
          | (go_at_call 30; (with_reducible refine (hres2.out _).mono ?_); rintro e w3 ⟨rfl, hb3⟩)
          | (go_at_call 8; (with_reducible refine (awake6 _).mono ?_); rintro e w4 ⟨rfl, hb4⟩)
        go_ret
        have hz := hbf.out _ (hJe.out.below.trans ((hb3.trans (hb4.mono hb3.size)).mono hJe.out.size))
        exact ⟨rfl, by first | exact hz | (rw [← hpe.out]; exact hz)⟩
      · go_wp2_with first
          | (go_at_call 29; (with_reducible refine (hres.out _).mono ?_); rintro e w2 ⟨rfl, rfl⟩)
          | (go_at_call 30; (with_reducible refine (hres2.out _).mono ?_); rintro e w3 ⟨rfl, hb3⟩)
          | (go_at_call 8; (with_reducible refine (awake6 _).mono ?_); rintro e w4 ⟨rfl, hb4⟩)
        go_ret
        have hz := hbf.out _ (hJe.out.below.trans ((hb3.trans (hb4.mono hb3.size)).mono hJe.out.size))
        exact ⟨rfl, by first | exact hz | (rw [← hpe.out]; exact hz)⟩
end Nt
end Go.Proofs.Ytlcgdiciiibeeaa
