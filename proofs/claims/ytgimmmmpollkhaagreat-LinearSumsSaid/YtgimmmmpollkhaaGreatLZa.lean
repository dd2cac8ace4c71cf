/-
  What the document fixes on sums: theodolitelaw8.awake.
-/
import Derived.Test.YtgimmmmpollkhaaGreatLYt
namespace Go.Proofs.YtgimmmmpollkhaaGreat
open Go.ChangeShapes Go.RowKit
namespace Nt
set_option maxRecDepth 100000
set_option linter.unusedSimpArgs false
set_option linter.unusedVariables false

set_option maxHeartbeats 16000000 in
theorem awake8_any (w : World) : Calls Tryz.prog 11 #[] w fun e w' => e = .returned (.bool true) ∧ Below w.heap.size w w' := by
  have O2 := hide (fun W => rof_p 2 1 2 W (by decide) (by decide) (by decide) (by decide) (by decide) (by first | rfl | decide +kernel) (fit_lit (by decide +kernel) (by decide +kernel)))
  have Om1 := hide (fun W => rof_p (-1) 1 (-1) W (by decide) (by decide) (by decide) (by decide) (by decide) (by first | rfl | decide +kernel) (fit_lit (by decide +kernel) (by decide +kernel)))
  have O3 := hide (fun W => rof_p 3 1 3 W (by decide) (by decide) (by decide) (by decide) (by decide) (by first | rfl | decide +kernel) (fit_lit (by decide +kernel) (by decide +kernel)))
  have O1 := hide (fun W => rof_p 1 1 1 W (by decide) (by decide) (by decide) (by decide) (by decide) (by first | rfl | decide +kernel) (fit_lit (by decide +kernel) (by decide +kernel)))
  have O0 := hide (fun W => rof_p 0 1 0 W (by decide) (by decide) (by decide) (by decide) (by decide) (by first | rfl | decide +kernel) (fit_lit (by decide +kernel) (by decide +kernel)))
  have O12 := hide (fun W => rof_p 1 2 (1 / 2) W (by decide) (by decide) (by decide) (by decide) (by decide) (by first | rfl | decide +kernel) (fit_lit (by decide +kernel) (by decide +kernel)))
  have O32 := hide (fun W => rof_p (-3) 2 (-3 / 2) W (by decide) (by decide) (by decide) (by decide) (by decide) (by first | rfl | decide +kernel) (fit_lit (by decide +kernel) (by decide +kernel)))
  go_enter Tryz.func11, Tryz.ntmps11
  go_wp2_with (first
    | (go_at_call 31; (with_reducible refine (O2.out _).mono ?_); rintro e w1 ⟨r1, rfl, q1, k1, a1, hb⟩; have b1 := hb; clear hb)
    | (go_at_call 31; (with_reducible refine (Om1.out w1).mono ?_); rintro e w2 ⟨r2, rfl, q2, k2, a2, hb⟩; replace a1 := a1.next hb; have b2 := bl_trans b1 hb; clear hb b1)
    | (go_at_call 31; (with_reducible refine (O3.out _).mono ?_); rintro e w3 ⟨r3, rfl, q3, k3, a3, hb⟩; have g := bl_one hb; replace a1 := a1.next g; replace a2 := a2.next g; have hB := hide (Bk.next (Bk.new (pcs [r1.as 1, r2.as 4]).toArray 83 w2) hb); have b3 := bl_trans b2 g; have C := hide (Ac.mk q1 q2 q3 k1 k2 k3); have H4 := hide (ap_new hB.out a1 a2 a3); have b4 := bl_al b3 (.cells #[.slice (some ⟨w2.heap.size, 0, none⟩) 2 2, .bool r3.s, .slice r3.A r3.xs.length r3.a, .slice r3.B r3.ys.length r3.b] 27); clear hb g b2 b3 hB a1 a2 a3 q1 q2 q3 k1 k2 k3)
    | (go_at_call 16; (with_reducible refine (aw8_solve1 C.out H4.out).mono ?_); rintro e w5 ⟨Aq, kq, lq, cq, rfl, mq, vq, pq, tq, oq, zq, hb, wq, yq⟩; unfold polyV; have Q6 := hide (pb_new (k := kq) mq vq pq tq oq zq wq yq); have H6 := hide ((H4.out.next hb).next (bl_al (.refl _ _) (.cells #[.slice Aq lq.length kq, .bool cq.s, .slice cq.A cq.xs.length cq.a, .slice cq.B cq.ys.length cq.b] 27))); have b6 := bl_al (bl_trans b4 hb) (.cells #[.slice Aq lq.length kq, .bool cq.s, .slice cq.A cq.xs.length cq.a, .slice cq.B cq.ys.length cq.b] 27); clear mq vq pq tq oq zq wq yq; clear hb b4 H4)
    | fail)
  generalize hG : w2.heap.size = G at *
  generalize hgp : w3.heap.size = gp at *
  clear hG hgp
  generalize hgq : w5.heap.size = gq at *
  generalize w5.alloc (.cells #[.slice Aq lq.length kq, .bool cq.s, .slice cq.A cq.xs.length cq.a, .slice cq.B cq.ys.length cq.b] 27) = w6 at *
  generalize lq.length = iq at *
  clear hgq
  have S6 := hide (fun W (b : Below w6.heap.size w6 W) => (show W.cell? ⟨gp, 0, none⟩ = some (.slice (some ⟨G, 0, none⟩) 2 2) ∧ W.cell? ⟨gp, 1, none⟩ = some (.bool r3.s) ∧ W.cell? ⟨gp, 2, none⟩ = some (.slice r3.A r3.xs.length r3.a) ∧ W.cell? ⟨gp, 3, none⟩ = some (.slice r3.B r3.ys.length r3.b) from (H6.out.next b).x))
  go_cut [4, 5] (fun s4 s5 wx => ∃ (gs : Nat) (A : Option Addr) (k : Nat) (l : List Pt) (c : Pt), s4 = .pointer (some ⟨gs, 0, none⟩) ∧ s5 = .int .i64 0 ∧ Pb [(2, 1)] 3 gs A l.length k l c wx ∧ Below w6.heap.size w6 wx)
  case first =>
    go_region_held3 (fun W => W.cell? ⟨gp, 0, none⟩ = some (.slice (some ⟨G, 0, none⟩) 2 2) ∧ W.cell? ⟨gp, 1, none⟩ = some (.bool r3.s) ∧ W.cell? ⟨gp, 2, none⟩ = some (.slice r3.A r3.xs.length r3.a) ∧ W.cell? ⟨gp, 3, none⟩ = some (.slice r3.B r3.ys.length r3.b))
        (first
          | (with_reducible exact S6.out _ (ka0 w6))
          | (with_reducible exact S6.out _ (ka1 w6 _))
          | (with_reducible exact S6.out _ bc)
          | (with_reducible exact S6.out _ (bl_al bc _))
          | (with_reducible exact S6.out _ (bl_al (bl_al bc _) _))
          | (with_reducible exact S6.out _ bd)
          | (with_reducible exact S6.out _ (bl_al bd _))
          | (with_reducible exact S6.out _ (bl_al (bl_al bd _) _))
          | (with_reducible exact S6.out _ be)
          | (with_reducible exact S6.out _ (bl_al be _))
          | (with_reducible exact S6.out _ (be.trans ((off4 _ _ _ _ _ _).below be.size (fun b hb => by simp at hb; omega))))
          | (with_reducible exact S6.out _ (bd.trans ((off4 _ _ _ _ _ _).below bd.size (fun b hb => by simp at hb; omega))))
          | fail)
        (first
          | (go_at_call 31; (with_reducible refine (O1.out _).mono ?_); rintro e wa ⟨r4, rfl, q4, k4, a4, hb⟩; have bc : Below w6.heap.size w6 wa := (by first | (with_reducible exact bl_trans (ka0 w6) hb) | (with_reducible exact bl_trans (ka1 w6 _) hb)); have n1 := bc.size; (first | (have hZ : Hid (Bk w6.heap.size #[.slice none 0 0, .bool false, .slice none 0 0, .slice none 0 0] 27 wa) := by with_reducible exact hide (zd hb)) | skip))
          | (go_at_call 31; (with_reducible refine (O0.out _).mono ?_); rintro e wb ⟨r5, rfl, q5, k5, a5, hb⟩; have g : Below wa.heap.size wa wb := (by first | (with_reducible exact hb) | (with_reducible exact bl_one hb) | (with_reducible exact bl_two hb)); have bd := bl_trans bc g; have n2 := bd.size; have a4' := a4.next g; have hAd := hide (fun H W (hR : Bk H #[.bool r4.s, .slice r4.A r4.xs.length r4.a, .slice r4.B r4.ys.length r4.b, .int .i64 4] 83 W) (b : Below wb.heap.size wb W) => aw8_add C.out (H6.out.next (bl_trans bd b)) (pl_bk (l := [r4.as 4]) hR (fun p hp => by simp at hp; subst hp; exact (a4'.next b).as 4)) q4 k4 q5 k5 (a5.next b)); (first | (have hZ2 : Hid (Bk w6.heap.size #[.slice none 0 0, .bool false, .slice none 0 0, .slice none 0 0] 27 wb) := by with_reducible exact hide (hZ.out.next g)) | (have hZ2 : Hid (Bk wa.heap.size #[.slice none 0 0, .bool false, .slice none 0 0, .slice none 0 0] 27 wb) := by with_reducible exact hide (z1 hb)) | (have hZ2 : Hid (Bk (wa.heap.size + 1) #[.slice none 0 0, .bool false, .slice none 0 0, .slice none 0 0] 27 wb) := by with_reducible exact hide (z2 hb)) | (have hZ2 : Hid (Bk wa.heap.size #[.slice none 0 0, .bool false, .slice none 0 0, .slice none 0 0] 27 wb) := by with_reducible exact hide (z3 hb)) | skip); (first | (have hR2 : Hid (Bk wa.heap.size #[.bool r4.s, .slice r4.A r4.xs.length r4.a, .slice r4.B r4.ys.length r4.b, .int .i64 4] 83 wb) := by with_reducible exact hide (z1 hb)) | (have hR2 : Hid (Bk wa.heap.size #[.bool r4.s, .slice r4.A r4.xs.length r4.a, .slice r4.B r4.ys.length r4.b, .int .i64 4] 83 wb) := by with_reducible exact hide (z3 hb)) | (have hR2 : Hid (Bk (wa.heap.size + 1) #[.bool r4.s, .slice r4.A r4.xs.length r4.a, .slice r4.B r4.ys.length r4.b, .int .i64 4] 83 wb) := by with_reducible exact hide (z2 hb)) | skip))
          | (go_at_call 12; (with_reducible refine (hAd.out _ _ ?hr ?hw).mono ?_); (case hr => first | (with_reducible exact Bk.new _ _ _) | (with_reducible exact (Bk.new _ _ _).al _) | (with_reducible exact Bk.new1 _ _ _ _) | (with_reducible exact hR2.out) | (with_reducible exact hR2.out.al _) | fail); (case hw => first | (with_reducible exact .refl _ _) | (with_reducible exact bl_al (.refl _ _) _) | (with_reducible exact bl_al (bl_al (.refl _ _) _) _) | fail); rintro e wd ⟨As, ks, ls, cs, rfl, ms, vs, ps, ts, os, zs, hb, ws, ys⟩; unfold polyV; have g2 : Below wb.heap.size wb wd := (by first | (with_reducible exact hb) | (with_reducible exact bl_one hb) | (with_reducible exact bl_two hb)); have be := bl_trans bd g2; have n3 := be.size; (first | (have hZ3 := hide (hZ2.out.next g2)) | (have hZ3 : Hid (Bk wb.heap.size #[.slice none 0 0, .bool false, .slice none 0 0, .slice none 0 0] 27 wd) := by with_reducible exact hide (z1 hb)) | (have hZ3 : Hid (Bk (wb.heap.size + 1) #[.slice none 0 0, .bool false, .slice none 0 0, .slice none 0 0] 27 wd) := by with_reducible exact hide (z2 hb)) | (have hZ3 : Hid (Bk wb.heap.size #[.slice none 0 0, .bool false, .slice none 0 0, .slice none 0 0] 27 wd) := by with_reducible exact hide (z3 hb)) | skip); (first | (have v0 := hZ3.out.cell (j := 0) rfl; have v1 := hZ3.out.cell (j := 1) rfl; have v2 := hZ3.out.cell (j := 2) rfl; have v3 := hZ3.out.cell (j := 3) rfl; have u0 := hZ3.out.free 0; have u1 := hZ3.out.free 1; have u2 := hZ3.out.free 2; have u3 := hZ3.out.free 3) | skip))
          | fail)
    all_goals
      go_wp2_with fail
      go_meet
      first
        | with_reducible refine ⟨wd.heap.size, As, ks, ls, cs, rfl, rfl, ?_⟩
          exact ⟨pb_new (k := ks) ms vs ps ts os zs ws ys, bl_al be _⟩
        | with_reducible refine ⟨_, As, ks, ls, cs, rfl, rfl, ?_⟩
          exact ⟨pb_set hZ3.out (k := ks) ms vs ps ts os zs ws ys, be.trans ((off4 _ _ _ _ _ _).below be.size (fun b hb => by simp at hb; omega))⟩
        | fail
  case rest =>
    obtain ⟨gs, As, ks, ls, cs, rfl, rfl, HS, b7⟩ := hcut
    have hls : ls.length = 1 := by
      have := congrArg List.length HS.qt
      simpa using this
    rw [hls] at HS
    obtain rfl : iq = 1 := by
      have h1 := Q6.out.hn
      have h2 := congrArg List.length Q6.out.qt
      rw [h1]
      simpa using h2
    have H7 := hide (H6.out.next b7)
    have Q7 := hide (Q6.out.next b7)
    replace HS := hide HS
    replace b7 := bl_trans b6 b7
    clear H6 Q6 b6 S6 hls
    obtain ⟨x0, x1, x2, x3⟩ := H7.out.x
    go_upto_region 6 with (first
      | (go_at_call 18; (with_reducible refine (aw8_value C.out H7.out).mono ?_); rintro e w8 ⟨rv_, rfl, qv, _, kv, av, hb⟩; have RV := hide (rb_new qv kv av); have g := bl_al hb (.cells #[.bool rv_.s, .slice rv_.A rv_.xs.length rv_.a, .slice rv_.B rv_.ys.length rv_.b] 25); have H8 := hide (H7.out.next g); have Q8 := hide (Q7.out.next g); have HS8 := hide (HS.out.next g); have b8 := bl_trans b7 g; clear x0 x1 x2 x3; obtain ⟨x0, x1, x2, x3⟩ := H8.out.x; clear hb g H7 Q7 HS b7 qv kv av)
      | (go_at_call 16; (with_reducible refine (aw8_solve2 C.out H8.out).mono ?_); rintro e w9 ⟨rfl, hb⟩; have g := bl_al hb (.cells #[.slice none 0 0, .bool false, .slice none 0 0, .slice none 0 0] 27); have H9 := hide (H8.out.next g); have Q9 := hide (Q8.out.next g); have HS9 := hide (HS8.out.next g); have RV9 := hide (RV.out.next g); have b9 := bl_trans b8 g; clear x0 x1 x2 x3; clear hb g H8 Q8 HS8 b8 RV)
      | fail)
    generalize w8.heap.size = gv at *
    generalize w9.alloc (.cells #[.slice none 0 0, .bool false, .slice none 0 0, .slice none 0 0] 27) = w10 at *
    have S9 := hide (fun W (b : Below w10.heap.size w10 W) => (show W.cell? ⟨gp, 0, none⟩ = some (.slice (some ⟨G, 0, none⟩) 2 2) ∧ W.cell? ⟨gp, 1, none⟩ = some (.bool r3.s) ∧ W.cell? ⟨gp, 2, none⟩ = some (.slice r3.A r3.xs.length r3.a) ∧ W.cell? ⟨gp, 3, none⟩ = some (.slice r3.B r3.ys.length r3.b) from (H9.out.next b).x))
    go_cut [10, 11] (fun sa sb wx => ∃ (gs : Nat) (A : Option Addr) (k : Nat) (l : List Pt) (c : Pt), sa = .pointer (some ⟨gs, 0, none⟩) ∧ sb = .int .i64 0 ∧ Pb [] 0 gs A l.length k l c wx ∧ Below w10.heap.size w10 wx)
    case first =>
      go_region_held3 (fun W => W.cell? ⟨gp, 0, none⟩ = some (.slice (some ⟨G, 0, none⟩) 2 2) ∧ W.cell? ⟨gp, 1, none⟩ = some (.bool r3.s) ∧ W.cell? ⟨gp, 2, none⟩ = some (.slice r3.A r3.xs.length r3.a) ∧ W.cell? ⟨gp, 3, none⟩ = some (.slice r3.B r3.ys.length r3.b))
          (first
            | (with_reducible exact S9.out _ (ka0 w10))
            | (with_reducible exact S9.out _ (ka1 w10 _))
            | (with_reducible exact S9.out _ bc)
            | (with_reducible exact S9.out _ (bl_al bc _))
            | (with_reducible exact S9.out _ (bl_al (bl_al bc _) _))
            | (with_reducible exact S9.out _ bd)
            | (with_reducible exact S9.out _ (bl_al bd _))
            | (with_reducible exact S9.out _ (bl_al (bl_al bd _) _))
            | (with_reducible exact S9.out _ be)
            | (with_reducible exact S9.out _ (bl_al be _))
            | (with_reducible exact S9.out _ (be.trans ((off4 _ _ _ _ _ _).below be.size (fun b hb => by simp at hb; omega))))
            | (with_reducible exact S9.out _ (bd.trans ((off4 _ _ _ _ _ _).below bd.size (fun b hb => by simp at hb; omega))))
            | fail)
          (first
            | (go_at_call 31; (with_reducible refine (O0.out _).mono ?_); rintro e wa ⟨R, rfl, Rq, Rk, Ra, hb⟩; have bc : Below w10.heap.size w10 wa := (by first | (with_reducible exact bl_trans (ka0 w10) hb) | (with_reducible exact bl_trans (ka1 w10 _) hb)); have n1 := bc.size; have hCon := hide (fun W (b : Below wa.heap.size wa W) => aw8_scale C.out (H9.out.next (bl_trans bc b)) Rq Rk (Ra.next b)); (first | (have hZ : Hid (Bk w10.heap.size #[.slice none 0 0, .bool false, .slice none 0 0, .slice none 0 0] 27 wa) := by with_reducible exact hide (zd hb)) | skip))
            | (go_at_call 14; (with_reducible refine (hCon.out _ ?hw).mono ?_); (case hw => first | (with_reducible exact .refl _ _) | (with_reducible exact bl_al (.refl _ _) _) | fail); rintro e wd ⟨Ak, kk, lk, ck, rfl, mk, vk, pk, tk, ok, zk, hb, wk, yk⟩; unfold polyV; have g2 : Below wa.heap.size wa wd := (by first | (with_reducible exact hb) | (with_reducible exact bl_one hb)); have be := bl_trans bc g2; have n3 := be.size; (first | (have hZ3 := hide (hZ.out.next g2)) | (have hZ3 : Hid (Bk wa.heap.size #[.slice none 0 0, .bool false, .slice none 0 0, .slice none 0 0] 27 wd) := by with_reducible exact hide (z1 hb)) | skip); (first | (have v0 := hZ3.out.cell (j := 0) rfl; have v1 := hZ3.out.cell (j := 1) rfl; have v2 := hZ3.out.cell (j := 2) rfl; have v3 := hZ3.out.cell (j := 3) rfl; have u0 := hZ3.out.free 0; have u1 := hZ3.out.free 1; have u2 := hZ3.out.free 2; have u3 := hZ3.out.free 3) | skip))
            | fail)
      all_goals
        go_wp2_with fail
        go_meet
        first
          | with_reducible refine ⟨wd.heap.size, Ak, kk, lk, ck, rfl, rfl, ?_⟩
            exact ⟨pb_new (k := kk) mk vk pk tk ok zk wk yk, bl_al be _⟩
          | with_reducible refine ⟨_, Ak, kk, lk, ck, rfl, rfl, ?_⟩
            exact ⟨pb_set hZ3.out (k := kk) mk vk pk tk ok zk wk yk, be.trans ((off4 _ _ _ _ _ _).below be.size (fun b hb => by simp at hb; omega))⟩
          | fail
    case rest =>
      obtain ⟨gk, Ak, kk, lk_, ck, rfl, rfl, HK, b11⟩ := hcut
      have hlk : lk_.length = 0 := by
        have := congrArg List.length HK.qt
        simpa using this
      rw [hlk] at HK
      have H := hide (H9.out.next b11)
      have Q := hide (Q9.out.next b11)
      have S := hide (HS9.out.next b11)
      have RV := hide (RV9.out.next b11)
      have bb := hide (bl_trans b9 b11)
      replace HK := hide HK
      clear H9 Q9 HS9 RV9 b9 b11 S9 hlk
      have hl1 : lq.length = 1 := Q.out.hn.symm
      obtain ⟨pq, rfl⟩ := List.length_eq_one_iff.1 hl1
      have hpk : pq.Ok := Q.out.ok pq (by simp)
      have hpq : pq.q = 1 / 2 := by
        have h1 := Q.out.qt
        have h2 : [(pq.q, pq.t)] = [((1 / 2 : Rat), (4 : Int))] := h1
        injection h2 with h3 _
        injection h3
      obtain ⟨g1, o1, rfl, hC, hpa⟩ := Q.out.pl.get (i := 0) (by simp)
      simp only [Nat.zero_mul, Nat.add_zero, List.getElem_cons_zero] at hC hpa
      replace hC := hide hC; replace hpa := hide hpa
      clear hl1
      have SS := hide (fun W (b : Below wc.heap.size wc W) => (show (W.cell? ⟨gp, 0, none⟩ = some (.slice (some ⟨G, 0, none⟩) 2 2) ∧ W.cell? ⟨gp, 1, none⟩ = some (.bool r3.s) ∧ W.cell? ⟨gp, 2, none⟩ = some (.slice r3.A r3.xs.length r3.a) ∧ W.cell? ⟨gp, 3, none⟩ = some (.slice r3.B r3.ys.length r3.b)) ∧ (W.cell? ⟨gq, 0, none⟩ = some (.slice (some ⟨g1, o1, none⟩) 1 kq) ∧ W.cell? ⟨gq, 1, none⟩ = some (.bool cq.s) ∧ W.cell? ⟨gq, 2, none⟩ = some (.slice cq.A cq.xs.length cq.a) ∧ W.cell? ⟨gq, 3, none⟩ = some (.slice cq.B cq.ys.length cq.b)) ∧ (W.cell? ⟨gs, 0, none⟩ = some (.slice As 1 ks)) ∧ (W.cell? ⟨gv, 0, none⟩ = some (.bool rv_.s) ∧ W.cell? ⟨gv, 1, none⟩ = some (.slice rv_.A rv_.xs.length rv_.a) ∧ W.cell? ⟨gv, 2, none⟩ = some (.slice rv_.B rv_.ys.length rv_.b)) ∧ (W.cell? ⟨gk, 0, none⟩ = some (.slice Ak 0 kk)) ∧ (W.cell? ⟨g1, o1, none⟩ = some (.bool pq.s) ∧ W.cell? ⟨g1, o1 + 1, none⟩ = some (.slice pq.A pq.xs.length pq.a) ∧ W.cell? ⟨g1, o1 + 2, none⟩ = some (.slice pq.B pq.ys.length pq.b)) from And.intro (H.out.next b).x (And.intro (Q.out.next b).x (And.intro (S.out.next b).x.1 (And.intro (RV.out.next b).x (And.intro (HK.out.next b).x.1 (And.intro (hC.out.next b).1 (And.intro (hC.out.next b).2.1 (hC.out.next b).2.2.1))))))))
      have e0 : binOp .eql 33 (.int .i64 0) (.int .i64 0) = pure (.bool true) := rfl
      have e1 : binOp .eql 33 (.int .i64 1) (.int .i64 1) = pure (.bool true) := rfl
      have hqk := Q.out.ck
      have hqq := Q.out.hq
      have hvk := RV.out.ok
      have hvq := RV.out.hq
      go_wp2_with fail
      dsimp only [List.append]
      have bw := bb.out
      replace bb := ka0 wc
      go_region_held3 (fun W => (W.cell? ⟨gp, 0, none⟩ = some (.slice (some ⟨G, 0, none⟩) 2 2) ∧ W.cell? ⟨gp, 1, none⟩ = some (.bool r3.s) ∧ W.cell? ⟨gp, 2, none⟩ = some (.slice r3.A r3.xs.length r3.a) ∧ W.cell? ⟨gp, 3, none⟩ = some (.slice r3.B r3.ys.length r3.b)) ∧ (W.cell? ⟨gq, 0, none⟩ = some (.slice (some ⟨g1, o1, none⟩) 1 kq) ∧ W.cell? ⟨gq, 1, none⟩ = some (.bool cq.s) ∧ W.cell? ⟨gq, 2, none⟩ = some (.slice cq.A cq.xs.length cq.a) ∧ W.cell? ⟨gq, 3, none⟩ = some (.slice cq.B cq.ys.length cq.b)) ∧ (W.cell? ⟨gs, 0, none⟩ = some (.slice As 1 ks)) ∧ (W.cell? ⟨gv, 0, none⟩ = some (.bool rv_.s) ∧ W.cell? ⟨gv, 1, none⟩ = some (.slice rv_.A rv_.xs.length rv_.a) ∧ W.cell? ⟨gv, 2, none⟩ = some (.slice rv_.B rv_.ys.length rv_.b)) ∧ (W.cell? ⟨gk, 0, none⟩ = some (.slice Ak 0 kk)) ∧ (W.cell? ⟨g1, o1, none⟩ = some (.bool pq.s) ∧ W.cell? ⟨g1, o1 + 1, none⟩ = some (.slice pq.A pq.xs.length pq.a) ∧ W.cell? ⟨g1, o1 + 2, none⟩ = some (.slice pq.B pq.ys.length pq.b)))
        (first | (with_reducible exact SS.out _ bb) | fail)
        (first
        | (go_at_call 31; (with_reducible refine (O12.out _).mono ?_); rintro e wz ⟨R, rfl, Rq, Rk, Ra, hb⟩; replace bb := bl_trans bb hb; have SM := rsame_p hpk Rk wz (hpa.out.next bb) Ra true (by rw [hpq, Rq]; exact decide_eq_true rfl); unfold rv at SM; replace SM := hide SM; clear Rq Rk Ra; clear hb)
        | (go_at_call 24; (with_reducible refine (SM.out).mono ?_); rintro e wz ⟨rfl, hb⟩; replace bb := bl_trans bb hb; clear SM; clear hb)
        | (go_at_call 31; (with_reducible refine (O32.out _).mono ?_); rintro e wz ⟨R, rfl, Rq, Rk, Ra, hb⟩; replace bb := bl_trans bb hb; have SM := rsame_p hqk Rk wz (Q.out.next bb).at_ Ra true (by rw [hqq, Rq]; exact decide_eq_true rfl); unfold rv at SM; replace SM := hide SM; clear Rq Rk Ra; clear hb)
        | (go_at_call 31; (with_reducible refine (O1.out _).mono ?_); rintro e wz ⟨R, rfl, Rq, Rk, Ra, hb⟩; replace bb := bl_trans bb hb; have SM := rsame_p hvk Rk wz (RV.out.next bb).at_ Ra true (by rw [hvq, Rq]; exact decide_eq_true rfl); unfold rv at SM; replace SM := hide SM; clear Rq Rk Ra; clear hb)
        | (go_at_call 25; (with_reducible refine (aw8_valid C.out (H.out.next bb)).mono ?_); rintro e wz ⟨rfl, hb⟩; replace bb := bl_trans bb hb; clear hb)
        | (go_at_call 25; (with_reducible refine (aw8_valid0 _).mono ?_); rintro e wz ⟨rfl, hb⟩; replace bb := bl_trans bb hb; clear hb)
        | (go_at_call 29; (with_reducible refine (aw8_same C.out (H.out.next bb)).mono ?_); rintro e wz ⟨rfl, hb⟩; replace bb := bl_trans bb hb; clear hb)
        | (go_at_call 27; (with_reducible refine (aw8_coef C.out (H.out.next bb)).mono ?_); rintro e wz ⟨r9, rfl, q9, k9, a9, hb⟩; replace bb := bl_trans bb hb; clear hb)
        | (go_at_call 31; (with_reducible refine (Om1.out _).mono ?_); rintro e wz ⟨R, rfl, Rq, Rk, Ra, hb⟩; replace bb := bl_trans bb hb; have SM := rsame_p k9 Rk wz (a9.next hb) Ra true (by rw [q9, Rq]; exact decide_eq_true rfl); unfold rv at SM; replace SM := hide SM; clear Rq Rk Ra; clear hb)
        | fail)
      go_wp2_with fail
      go_ret
      exact ⟨rfl, bl_trans bw bb⟩
end Nt
end Go.Proofs.YtgimmmmpollkhaaGreat
