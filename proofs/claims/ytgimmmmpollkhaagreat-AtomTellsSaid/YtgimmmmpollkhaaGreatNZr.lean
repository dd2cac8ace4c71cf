
/-
  The law's awake (theodolitelaw9).
-/
import Derived.Test.YtgimmmmpollkhaaGreatNZd
namespace Go.Proofs.YtgimmmmpollkhaaGreat

open Go.ChangeShapes Go.RowKit

namespace Nt
set_option maxRecDepth 100000
set_option linter.unusedSimpArgs false
set_option linter.unusedVariables false

set_option maxHeartbeats 4000000 in
theorem tell9 (t : Int) (w : World) : Calls Tryz.prog 85 #[.int .i64 t] w (TellO (qo fun _ => 2) t w) := by
  have hO := hide (fun W => rof_p 2 1 2 W (by decide) (by decide) (by decide) (by decide) (by decide) (by first | rfl | decide +kernel) (fit_lit (by decide +kernel) (by decide +kernel)))
  have hX := hide (Bk.new zR 25 w)
  have hb : Below w.heap.size w (w.alloc (.cells zR 25)) := bl_al (.refl _ _) _
  unfold zR at hX hb
  replace hb := hide hb
  go_enter Tryz.func85, Tryz.ntmps85
  go_wp2_with (first
    | (go_at_call 31; (with_reducible refine (hO.out _).mono ?_); rintro e wa ⟨r, rfl, hrq, hrk, hra, hb3⟩; have hX2 := hX.out.next hb3; have r0 := hX2.cell (j := 0) rfl; have r1 := hX2.cell (j := 1) rfl; have r2 := hX2.cell (j := 2) rfl; have s0 := hX2.free 0; have s1 := hX2.free 1; have s2 := hX2.free 2; replace hX2 := hide hX2; have hbw := hide (bl_trans hb.out hb3); replace hrq := hide hrq; replace hrk := hide hrk; replace hra := hide hra; clear hb3)
    | fail)
  have hO3 := off3 w.heap.size wa (.bool r.s) (.slice r.A r.xs.length r.a) (.slice r.B r.ys.length r.b)
  exact bodyPost_ret (v := .agg #[.bool r.s, .slice r.A r.xs.length r.a, .slice r.B r.ys.length r.b]) (by simp [results, Tryz.results85, go_sem, r0, r1, r2]) rfl ⟨r, rfl, tell_of (w := w) (w' := w) (f := fun _ => 2) hrq.out hrk.out, at_offR hX2.out hra.out hO3, hrk.out.few, hbw.out.trans (hO3.below hbw.out.size (fun b hb => by simp at hb; omega))⟩
theorem enters9 (args : Array Value) (W : World) : (callFunc 85 args).run Tryz.prog W = .ok (.enter 85 args) W :=
  enters_of Tryz.func85 rfl rfl args W
theorem aw9_holds {g : Nat} {A : Option Addr} {n k : Nat} {l : List Pt} {c : Pt} {W : World} (h : Ab 1 [(1, 3)] (-2) g A n k l c W) :
    Calls Tryz.prog 40 #[.agg #[.int .i64 1, .slice A n k, .bool c.s, .slice c.A c.xs.length c.a, .slice c.B c.ys.length c.b, .int .i64 0, .int .i64 0], .func (.func 85) #[] #[]] W fun e w' => e = .returned (.tuple #[.bool true, .int .i64 0]) ∧ Below W.heap.size W w' := by
  refine (ab_holds h rfl ⟨by decide, by decide, trivial⟩ (by decide) (by kernel_rfl) 85 #[] (qo fun _ => 2) (fun t _ W' _ => told_any _ _ _ _ _ enters9 fun W2 _ => tell9 t W2)).mono fun e w' hS => ?_
  have e1 : valL (qo fun _ => 2) [(1, 3)] = [(1, 2)] := by
    show [((1 : Rat), oq (qo fun _ => 2) 3)] = _
    rw [qo_q]
  have e2 : valF (-2) [((1 : Rat), (2 : Rat))] = some 0 := by
    rw [valF_step (fitB_t.2 (fit_lit (by decide +kernel) (by decide +kernel))) (fitB_t.2 (fit_lit (by decide +kernel) (by decide +kernel)))]
    show some _ = _
    congr 1
    decide +kernel
  obtain ⟨hb, hS⟩ := hS
  rw [e1, e2] at hS
  rcases hS with ⟨_, v, hv, rfl⟩ | ⟨_, hv, _⟩ | ⟨hS, _⟩
  · injection hv with hv
    subst hv
    exact ⟨rfl, hb⟩
  · cases hv
  · simp only [List.all_cons, List.all_nil, Bool.and_true] at hS
    rw [qo_ok (fit_lit (by decide) (by decide))] at hS
    cases hS

set_option maxHeartbeats 16000000 in
theorem awake9_any (w : World) : Calls Tryz.prog 35 #[] w fun e w' => e = .returned (.bool true) ∧ Below w.heap.size w w' := by
  have S24 := hide (fun W => sum9_p 2 (-4) 2 (-4) W (by decide) (by decide) (by decide) (by decide) (by first | rfl | decide +kernel) (by first | rfl | decide +kernel) (fit_lit (by decide +kernel) (by decide +kernel)) (fit_lit (by decide +kernel) (by decide +kernel)))
  have S42 := hide (fun W => sum9_p (-2) 4 (-2) 4 W (by decide) (by decide) (by decide) (by decide) (by first | rfl | decide +kernel) (by first | rfl | decide +kernel) (fit_lit (by decide +kernel) (by decide +kernel)) (fit_lit (by decide +kernel) (by decide +kernel)))
  have S12 := hide (fun W => sum9_p 1 (-2) 1 (-2) W (by decide) (by decide) (by decide) (by decide) (by first | rfl | decide +kernel) (by first | rfl | decide +kernel) (fit_lit (by decide +kernel) (by decide +kernel)) (fit_lit (by decide +kernel) (by decide +kernel)))
  have Sm12 := hide (fun W => sum9_p (-1) 2 (-1) 2 W (by decide) (by decide) (by decide) (by decide) (by first | rfl | decide +kernel) (by first | rfl | decide +kernel) (fit_lit (by decide +kernel) (by decide +kernel)) (fit_lit (by decide +kernel) (by decide +kernel)))
  have S21 := hide (fun W => sum9_p 2 1 2 1 W (by decide) (by decide) (by decide) (by decide) (by first | rfl | decide +kernel) (by first | rfl | decide +kernel) (fit_lit (by decide +kernel) (by decide +kernel)) (fit_lit (by decide +kernel) (by decide +kernel)))
  have E52 := hide (fun W => (show Calls Tryz.prog 83 #[.int .i64 5, .int .i64 2] W (fun e w' => e = .returned (.tuple #[.agg #[.int .i64 5, .slice none 0 0, .bool false, .slice none 0 0, .slice none 0 0, .int .i64 2, .int .i64 5], .int .i64 0]) ∧ Below W.heap.size W w') from (by
    have := aequal_k 5 2 W
    rw [if_neg (by decide)] at this
    exact this)))
  have E55 := hide (fun W => (show Calls Tryz.prog 83 #[.int .i64 5, .int .i64 5] W (fun e w' => e = .returned (.tuple #[.agg #[.int .i64 0, .slice none 0 0, .bool false, .slice none 0 0, .slice none 0 0, .int .i64 0, .int .i64 0], .int .i64 1]) ∧ Below W.heap.size W w') from (by
    have := aequal_k 5 5 W
    rw [if_pos (by decide)] at this
    exact this)))
  have B7 := hide (fun W => (show Calls Tryz.prog 84 #[.int .i64 7] W (fun e w' => e = .returned (.tuple #[.agg #[.int .i64 6, .slice none 0 0, .bool false, .slice none 0 0, .slice none 0 0, .int .i64 7, .int .i64 0], .int .i64 0]) ∧ Below W.heap.size W w') from (by
    have := abool_k 7 W
    rw [if_neg (by decide)] at this
    exact this)))
  have Om5 := hide (fun W => rof_p (-5) 1 (-5) W (by decide) (by decide) (by decide) (by decide) (by decide) (by first | rfl | decide +kernel) (fit_lit (by decide +kernel) (by decide +kernel)))
  have RV1 : Hid (rvB (-1) [((1 : Rat), (3 : Int))]) := hide ⟨by decide, by decide, trivial⟩
  have RV0 : Hid (rvB (-1) []) := hide trivial
  have MF1 : Hid (Mf 1 [((1 : Rat), (3 : Int))] (-2)) := hide ⟨by decide +kernel, fun h => by cases h⟩
  go_enter Tryz.func35, Tryz.ntmps35
  go_upto_region 10 with (first
    | (go_at_call 82; (with_reducible refine (S24.out _).mono ?_); rintro e w1 ⟨As, ks, ls, cs, rfl, ms, vs, ps, ts, os, zs, hb, ws, ys⟩; have bb := hide hb; have MA := hide (amake_p (k := ks) 1 rfl ms vs ps ts os zs (by decide) 1 (by decide) false (by decide) (L := [(2, 3)]) (q := (-4)) ⟨by decide, by decide, trivial⟩ (by decide) (by decide +kernel) (M := [(1, 3)]) (r := (-2)) (by decide +kernel) (by decide +kernel)); clear ms vs ps ts os zs ws ys hb)
    | (go_at_call 50; (with_reducible refine (MA.out).mono ?_); rintro e w2 ⟨Aa, ka, la, ca, rfl, ma, va, pa, ta, oa, za, hb, wa, ya⟩; unfold atomV; have g := bl_al hb (.cells #[.int .i64 1, .slice Aa la.length ka, .bool ca.s, .slice ca.A ca.xs.length ca.a, .slice ca.B ca.ys.length ca.b, .int .i64 0, .int .i64 0] 58); have HA := hide (ab_new (kd := 1) ma va pa ta oa za wa ya); replace bb := hide (bl_trans bb.out g); clear ma va pa ta oa za wa ya; clear hb g MA; obtain ⟨a0, a1, a2, a3, a4, a5, a6⟩ := HA.out.x)
    | (go_at_call 82; (with_reducible refine (S42.out _).mono ?_); rintro e w3 ⟨Au, ku, lu, cu, rfl, mu, vu, pu, tu, ou, zu, hb, wu, yu⟩; have g := hb; replace bb := hide (bl_trans bb.out hb); replace HA := hide (HA.out.next g); have MB := hide (amake_p (k := ku) 4 rfl mu vu pu tu ou zu (by decide) 3 (by decide) true (by decide) (L := [(-2, 3)]) (q := 4) ⟨by decide, by decide, trivial⟩ (by decide) (by decide +kernel) (M := [(1, 3)]) (r := (-2)) (by decide +kernel) (by decide +kernel)); clear mu vu pu tu ou zu wu yu hb g a0 a1 a2 a3 a4 a5 a6)
    | (go_at_call 50; (with_reducible refine (MB.out).mono ?_); rintro e w4 ⟨Ab, kb, lb, cb, rfl, mb, vb, pb, tb, ob, zb, hb, wb, yb⟩; unfold atomV; have g := bl_al hb (.cells #[.int .i64 3, .slice Ab lb.length kb, .bool cb.s, .slice cb.A cb.xs.length cb.a, .slice cb.B cb.ys.length cb.b, .int .i64 0, .int .i64 0] 58); have HB := hide (ab_new (kd := 3) mb vb pb tb ob zb wb yb); replace bb := hide (bl_trans bb.out g); replace HA := hide (HA.out.next g); clear mb vb pb tb ob zb wb yb; clear hb g MB; obtain ⟨a0, a1, a2, a3, a4, a5, a6⟩ := HA.out.x)
    | (go_at_call 36; (with_reducible refine (ab_not HA.out (by decide) RV1.out (by decide) MF1.out).mono ?_); rintro e w5 ⟨Ad, kd, ld, cd, rfl, md, vd, pd, td, od, zd_, hb, wd, yd⟩; unfold atomV; rw [show oppK 1 = 2 from rfl]; have HO := hide (ab_new (kd := 2) (L := [((-1 : Rat), (3 : Int))]) (q := 2) (md.trans (by decide +kernel)) (vd.trans (by decide +kernel)) pd td od zd_ wd yd); have g := bl_al hb (.cells #[.int .i64 2, .slice Ad ld.length kd, .bool cd.s, .slice cd.A cd.xs.length cd.a, .slice cd.B cd.ys.length cd.b, .int .i64 0, .int .i64 0] 58); replace bb := hide (bl_trans bb.out g); replace HA := hide (HA.out.next g); replace HB := hide (HB.out.next g); clear md vd pd td od zd_ wd yd hb g a0 a1 a2 a3 a4 a5 a6)
    | (go_at_call 83; (with_reducible refine (E52.out _).mono ?_); rintro e w6 ⟨rfl, hb⟩; have g := bl_al hb (.cells #[.int .i64 5, .slice none 0 0, .bool false, .slice none 0 0, .slice none 0 0, .int .i64 2, .int .i64 5] 58); have HT := hide (C7.new (.int .i64 5) (.slice none 0 0) (.bool false) (.slice none 0 0) (.slice none 0 0) (.int .i64 2) (.int .i64 5) 58 w6); replace bb := hide (bl_trans bb.out g); replace HA := hide (HA.out.next g); replace HB := hide (HB.out.next g); replace HO := hide (HO.out.next g); clear hb g)
    | (go_at_call 83; (with_reducible refine (E55.out _).mono ?_); rintro e w7 ⟨rfl, hb⟩; have g := bl_al hb (.cells #[.int .i64 0, .slice none 0 0, .bool false, .slice none 0 0, .slice none 0 0, .int .i64 0, .int .i64 0] 58); have HZ := hide (C7.new (.int .i64 0) (.slice none 0 0) (.bool false) (.slice none 0 0) (.slice none 0 0) (.int .i64 0) (.int .i64 0) 58 w7); replace bb := hide (bl_trans bb.out g); replace HA := hide (HA.out.next g); replace HB := hide (HB.out.next g); replace HO := hide (HO.out.next g); replace HT := hide (HT.out.next g); clear hb g)
    | (go_at_call 84; (with_reducible refine (B7.out _).mono ?_); rintro e w8 ⟨rfl, hb⟩; have g := bl_al hb (.cells #[.int .i64 6, .slice none 0 0, .bool false, .slice none 0 0, .slice none 0 0, .int .i64 7, .int .i64 0] 58); have HU := hide (C7.new (.int .i64 6) (.slice none 0 0) (.bool false) (.slice none 0 0) (.slice none 0 0) (.int .i64 7) (.int .i64 0) 58 w8); replace bb := hide (bl_trans bb.out g); replace HA := hide (HA.out.next g); replace HB := hide (HB.out.next g); replace HO := hide (HO.out.next g); replace HT := hide (HT.out.next g); clear hb g)
    | (go_at_call 31; (with_reducible refine (Om5.out _).mono ?_); rintro e w9 ⟨r5, rfl, q5, k5, a5, hb⟩; have g := hb; replace bb := hide (bl_trans bb.out hb); replace HA := hide (HA.out.next g); replace HB := hide (HB.out.next g); replace HO := hide (HO.out.next g); replace HT := hide (HT.out.next g); replace HU := hide (HU.out.next g); have MC := hide (amake_p 2 (A := none) (n := 0) (k := 0) (l := []) (L := []) (q := -5) rfl rfl q5 (.inl rfl) a5 (fun p hp => by cases hp) k5 (by decide) 2 (by decide) false (by decide) trivial (by decide) (by decide +kernel) (M := []) (r := -1) (by decide +kernel) (by decide +kernel)); clear q5 k5 a5 hb g HZ)
    | (go_at_call 50; (with_reducible refine (MC.out).mono ?_); rintro e w10 ⟨Ac, kc, lc, cc, rfl, mc, vc, pc, tc, oc, zc, hb, wc, yc⟩; unfold atomV; have g := bl_al hb (.cells #[.int .i64 2, .slice Ac lc.length kc, .bool cc.s, .slice cc.A cc.xs.length cc.a, .slice cc.B cc.ys.length cc.b, .int .i64 0, .int .i64 0] 58); have HC := hide (ab_new (kd := 2) mc vc pc tc oc zc wc yc); replace bb := hide (bl_trans bb.out g); replace HA := hide (HA.out.next g); replace HB := hide (HB.out.next g); replace HO := hide (HO.out.next g); replace HT := hide (HT.out.next g); replace HU := hide (HU.out.next g); clear mc vc pc tc oc zc wc yc; clear hb g MC; obtain ⟨c0, c1, c2, c3, c4, c5, c6⟩ := HC.out.x)
    | (go_at_call 38; (with_reducible refine (ab_trivial HC.out (by decide) RV0.out (by decide) (by decide +kernel) true true (by decide) (by decide +kernel)).mono ?_); rintro e w11 ⟨rfl, hb⟩; have g := hb; replace bb := hide (bl_trans bb.out hb); replace HA := hide (HA.out.next g); replace HB := hide (HB.out.next g); replace HO := hide (HO.out.next g); replace HT := hide (HT.out.next g); replace HU := hide (HU.out.next g); clear hb g HC c0 c1 c2 c3 c4 c5 c6; obtain ⟨a0, a1, a2, a3, a4, a5, a6⟩ := HA.out.x)
    | (go_at_call 40; (with_reducible refine (aw9_holds HA.out).mono ?_); rintro e w12 ⟨rfl, hb⟩; have g := hb; replace bb := hide (bl_trans bb.out hb); replace HA := hide (HA.out.next g); replace HB := hide (HB.out.next g); replace HO := hide (HO.out.next g); replace HT := hide (HT.out.next g); replace HU := hide (HU.out.next g); clear hb g a0 a1 a2 a3 a4 a5 a6)
    | fail)
  generalize w2.heap.size = ga at *
  generalize w4.heap.size = gb at *
  generalize w5.heap.size = go_ at *
  generalize w6.heap.size = gt at *
  generalize w8.heap.size = gu at *
  have SS := hide (fun W (b : Below w12.heap.size w12 W) => (show (W.cell? ⟨ga, 0, none⟩ = some (.int .i64 1) ∧ W.cell? ⟨ga, 1, none⟩ = some (.slice Aa la.length ka) ∧ W.cell? ⟨ga, 2, none⟩ = some (.bool ca.s) ∧ W.cell? ⟨ga, 3, none⟩ = some (.slice ca.A ca.xs.length ca.a) ∧ W.cell? ⟨ga, 4, none⟩ = some (.slice ca.B ca.ys.length ca.b) ∧ W.cell? ⟨ga, 5, none⟩ = some (.int .i64 0) ∧ W.cell? ⟨ga, 6, none⟩ = some (.int .i64 0)) ∧ (W.cell? ⟨gb, 0, none⟩ = some (.int .i64 3) ∧ W.cell? ⟨gb, 1, none⟩ = some (.slice Ab lb.length kb) ∧ W.cell? ⟨gb, 2, none⟩ = some (.bool cb.s) ∧ W.cell? ⟨gb, 3, none⟩ = some (.slice cb.A cb.xs.length cb.a) ∧ W.cell? ⟨gb, 4, none⟩ = some (.slice cb.B cb.ys.length cb.b) ∧ W.cell? ⟨gb, 5, none⟩ = some (.int .i64 0) ∧ W.cell? ⟨gb, 6, none⟩ = some (.int .i64 0)) ∧ (W.cell? ⟨go_, 0, none⟩ = some (.int .i64 2) ∧ W.cell? ⟨go_, 1, none⟩ = some (.slice Ad ld.length kd) ∧ W.cell? ⟨go_, 2, none⟩ = some (.bool cd.s) ∧ W.cell? ⟨go_, 3, none⟩ = some (.slice cd.A cd.xs.length cd.a) ∧ W.cell? ⟨go_, 4, none⟩ = some (.slice cd.B cd.ys.length cd.b)) ∧ (W.cell? ⟨gt, 5, none⟩ = some (.int .i64 2) ∧ W.cell? ⟨gt, 6, none⟩ = some (.int .i64 5)) ∧ (W.cell? ⟨gu, 0, none⟩ = some (.int .i64 6)) from And.intro (HA.out.next b).x (And.intro (HB.out.next b).x (And.intro (let y := (HO.out.next b).x; And.intro y.1 (And.intro y.2.1 (And.intro y.2.2.1 (And.intro y.2.2.2.1 y.2.2.2.2.1)))) (And.intro (let y := HT.out.next b; And.intro y.2.2.2.2.2.1 y.2.2.2.2.2.2) (HU.out.next b).1)))))
  have e0 : binOp .eql 33 (.int .i64 0) (.int .i64 0) = pure (.bool true) := rfl
  have e1 : binOp .eql 33 (.int .i64 1) (.int .i64 1) = pure (.bool true) := rfl
  go_wp2_with fail
  dsimp only [List.append]
  have bw := bb.out
  replace bb := ka0 w12
  refine wp_region_held_drew (S := fun W => (W.cell? ⟨ga, 0, none⟩ = some (.int .i64 1) ∧ W.cell? ⟨ga, 1, none⟩ = some (.slice Aa la.length ka) ∧ W.cell? ⟨ga, 2, none⟩ = some (.bool ca.s) ∧ W.cell? ⟨ga, 3, none⟩ = some (.slice ca.A ca.xs.length ca.a) ∧ W.cell? ⟨ga, 4, none⟩ = some (.slice ca.B ca.ys.length ca.b) ∧ W.cell? ⟨ga, 5, none⟩ = some (.int .i64 0) ∧ W.cell? ⟨ga, 6, none⟩ = some (.int .i64 0)) ∧ (W.cell? ⟨gb, 0, none⟩ = some (.int .i64 3) ∧ W.cell? ⟨gb, 1, none⟩ = some (.slice Ab lb.length kb) ∧ W.cell? ⟨gb, 2, none⟩ = some (.bool cb.s) ∧ W.cell? ⟨gb, 3, none⟩ = some (.slice cb.A cb.xs.length cb.a) ∧ W.cell? ⟨gb, 4, none⟩ = some (.slice cb.B cb.ys.length cb.b) ∧ W.cell? ⟨gb, 5, none⟩ = some (.int .i64 0) ∧ W.cell? ⟨gb, 6, none⟩ = some (.int .i64 0)) ∧ (W.cell? ⟨go_, 0, none⟩ = some (.int .i64 2) ∧ W.cell? ⟨go_, 1, none⟩ = some (.slice Ad ld.length kd) ∧ W.cell? ⟨go_, 2, none⟩ = some (.bool cd.s) ∧ W.cell? ⟨go_, 3, none⟩ = some (.slice cd.A cd.xs.length cd.a) ∧ W.cell? ⟨go_, 4, none⟩ = some (.slice cd.B cd.ys.length cd.b)) ∧ (W.cell? ⟨gt, 5, none⟩ = some (.int .i64 2) ∧ W.cell? ⟨gt, 6, none⟩ = some (.int .i64 5)) ∧ (W.cell? ⟨gu, 0, none⟩ = some (.int .i64 6))) (by kernel_rfl) ?_ (fun hHeld => ?_)
  · (try dsimp only)
    with_reducible exact SS.out _ (ka0 w12)
  refine wpAnyH_take (i := 0) (v := ?vv0) (by (simp only [List.getElem?_toArray, List.getElem?_cons_zero, List.getElem?_cons_succ]) <;> rfl) (by kernel_rfl) (by kernel_rfl) (by kernel_rfl) ?hq0 (Or.inl ⟨by rfl, ?hy0⟩) (by assumption) ?_
  case hq0 => exact fun _ _ _ h => h
  case hy0 => ((intro w hSw; (try dsimp only at hSw); go_simp) <;> (with_reducible rfl))
  (try simp only [Act.put, List.setIfInBounds_toArray, List.set_cons_zero, List.set_cons_succ])
  refine wpAnyH_take (i := 1) (v := ?vv1) (by (simp only [List.getElem?_toArray, List.getElem?_cons_zero, List.getElem?_cons_succ]) <;> rfl) (by kernel_rfl) (by kernel_rfl) (by kernel_rfl) ?hq1 (Or.inl ⟨by rfl, ?hy1⟩) (by assumption) ?_
  case hq1 => exact fun _ _ _ h => h
  case hy1 => ((intro w hSw; (try dsimp only at hSw); go_simp) <;> (with_reducible rfl))
  (try simp only [Act.put, List.setIfInBounds_toArray, List.set_cons_zero, List.set_cons_succ])
  refine wpAnyH_take (i := 2) (v := ?vv2) (by (simp only [List.getElem?_toArray, List.getElem?_cons_zero, List.getElem?_cons_succ]) <;> rfl) (by kernel_rfl) (by kernel_rfl) (by kernel_rfl) ?hq2 (Or.inl ⟨by rfl, ?hy2⟩) (by assumption) ?_
  case hq2 => exact fun _ _ _ h => h
  case hy2 => ((intro w hSw; (try dsimp only at hSw); go_simp) <;> (with_reducible rfl))
  (try simp only [Act.put, List.setIfInBounds_toArray, List.set_cons_zero, List.set_cons_succ])
  refine wpAnyH_take (i := 3) (v := ?vv3) (by (simp only [List.getElem?_toArray, List.getElem?_cons_zero, List.getElem?_cons_succ]) <;> rfl) (by kernel_rfl) (by kernel_rfl) (by kernel_rfl) ?hq3 (Or.inl ⟨by rfl, ?hy3⟩) (by assumption) ?_
  case hq3 => exact fun _ _ _ h => h
  case hy3 => ((intro w hSw; (try dsimp only at hSw); go_simp) <;> (with_reducible rfl))
  (try simp only [Act.put, List.setIfInBounds_toArray, List.set_cons_zero, List.set_cons_succ])
  refine wpAnyH_take (i := 4) (v := ?vv4) (by (simp only [List.getElem?_toArray, List.getElem?_cons_zero, List.getElem?_cons_succ]) <;> rfl) (by kernel_rfl) (by kernel_rfl) (by kernel_rfl) ?hq4 (Or.inl ⟨by rfl, ?hy4⟩) (by assumption) ?_
  case hq4 => exact fun _ _ _ h => h
  case hy4 => ((intro w hSw; (try dsimp only at hSw); go_simp) <;> (with_reducible rfl))
  (try simp only [Act.put, List.setIfInBounds_toArray, List.set_cons_zero, List.set_cons_succ])
  refine wpAnyH_take (i := 5) (v := ?vv5) (by (simp only [List.getElem?_toArray, List.getElem?_cons_zero, List.getElem?_cons_succ]) <;> rfl) (by kernel_rfl) (by kernel_rfl) (by kernel_rfl) ?hq5 (Or.inl ⟨by rfl, ?hy5⟩) (by assumption) ?_
  case hq5 => exact fun _ _ _ h => h
  case hy5 => ((intro w hSw; (try dsimp only at hSw); go_simp) <;> (with_reducible rfl))
  (try simp only [Act.put, List.setIfInBounds_toArray, List.set_cons_zero, List.set_cons_succ])
  refine wpAnyH_take (i := 6) (v := ?vv6) (by (simp only [List.getElem?_toArray, List.getElem?_cons_zero, List.getElem?_cons_succ]) <;> rfl) (by kernel_rfl) (by kernel_rfl) (by kernel_rfl) ?hq6 (Or.inl ⟨by rfl, ?hy6⟩) (by assumption) ?_
  case hq6 => exact fun _ _ _ h => h
  case hy6 => ((intro w hSw; (try dsimp only at hSw); go_simp) <;> (with_reducible rfl))
  (try simp only [Act.put, List.setIfInBounds_toArray, List.set_cons_zero, List.set_cons_succ])
  refine wpAnyH_take (i := 7) (v := ?vv7) (by (simp only [List.getElem?_toArray, List.getElem?_cons_zero, List.getElem?_cons_succ]) <;> rfl) (by kernel_rfl) (by kernel_rfl) (by kernel_rfl) ?hq7 (Or.inl ⟨by rfl, ?hy7⟩) (by assumption) ?_
  case hq7 => exact fun _ _ _ h => h
  case hy7 => ((intro w hSw; (try dsimp only at hSw); go_simp) <;> (with_reducible rfl))
  (try simp only [Act.put, List.setIfInBounds_toArray, List.set_cons_zero, List.set_cons_succ])
  refine wpAnyH_take (i := 8) (v := ?vv8) (by (simp only [List.getElem?_toArray, List.getElem?_cons_zero, List.getElem?_cons_succ]) <;> rfl) (by kernel_rfl) (by kernel_rfl) (by kernel_rfl) ?hq8 (Or.inl ⟨by rfl, ?hy8⟩) (by assumption) ?_
  case hq8 => exact fun _ _ _ h => h
  case hy8 => ((intro w hSw; (try dsimp only at hSw); go_simp) <;> (with_reducible rfl))
  (try simp only [Act.put, List.setIfInBounds_toArray, List.set_cons_zero, List.set_cons_succ])
  refine wpAnyH_ready (rs := [9]) (by kernel_rfl) (by simp) ?_
  refine AllReadyH.cons (by (simp only [List.getElem?_toArray, List.getElem?_cons_zero, List.getElem?_cons_succ]) <;> rfl) (fun K hK => ?_) AllReadyH.nil
  go_simp
  (go_at_call 82; (with_reducible refine (S12.out _).mono ?_); rintro e wz ⟨Ax, kx, lx, cx, rfl, mx, vx, px, tx, ox, zx, hb, wx, yx⟩; have SM := rsamep_p Aa Ax ka kx la lx ca cx wz (HA.out.next (bl_trans bb hb)).pl px (HA.out.next (bl_trans bb hb)).ok ox (HA.out.next (bl_trans bb hb)).at_ tx (HA.out.next (bl_trans bb hb)).ck zx (by have := HA.out.len; simp at this; omega) (by have := congrArg List.length mx; simp at this; omega) true (by rw [HA.out.qt, HA.out.hq, mx, vx]; decide); unfold polyV at SM; replace SM := hide SM; replace bb := bl_trans bb hb; clear hb mx vx px tx ox zx wx yx)
  (try go_wp2_with fail)
  refine hK.out _ _ ?_ (fun hHeld => ?_)
  · (try dsimp only)
    with_reducible exact SS.out _ bb
  (try clear hK K)
  (try simp only [Act.put, List.setIfInBounds_toArray, List.set_cons_zero, List.set_cons_succ])
  refine wpAnyH_ready (rs := [10]) (by kernel_rfl) (by simp) ?_
  refine AllReadyH.cons (by (simp only [List.getElem?_toArray, List.getElem?_cons_zero, List.getElem?_cons_succ]) <;> rfl) (fun K hK => ?_) AllReadyH.nil
  go_simp
  (go_at_call 23; (with_reducible refine (SM.out).mono ?_); rintro e wz ⟨rfl, hb⟩; replace bb := bl_trans bb hb; clear hb SM)
  (try go_wp2_with fail)
  refine hK.out _ _ ?_ (fun hHeld => ?_)
  · (try dsimp only)
    with_reducible exact SS.out _ bb
  (try clear hK K)
  (try simp only [Act.put, List.setIfInBounds_toArray, List.set_cons_zero, List.set_cons_succ])
  as_aux_lemma =>
    refine wpAnyH_take (i := 11) (v := ?vv11) (by (simp only [List.getElem?_toArray, List.getElem?_cons_zero, List.getElem?_cons_succ]) <;> rfl) (by kernel_rfl) (by kernel_rfl) (by kernel_rfl) ?hq11 (Or.inl ⟨by rfl, ?hy11⟩) (by assumption) ?_
    case hq11 => exact fun _ _ _ h => h
    case hy11 => ((intro w hSw; (try dsimp only at hSw); go_simp) <;> (with_reducible rfl))
    (try simp only [Act.put, List.setIfInBounds_toArray, List.set_cons_zero, List.set_cons_succ])
    refine wpAnyH_take (i := 12) (v := ?vv12) (by (simp only [List.getElem?_toArray, List.getElem?_cons_zero, List.getElem?_cons_succ]) <;> rfl) (by kernel_rfl) (by kernel_rfl) (by kernel_rfl) ?hq12 (Or.inl ⟨by rfl, ?hy12⟩) (by assumption) ?_
    case hq12 => exact fun _ _ _ h => h
    case hy12 => ((intro w hSw; (try dsimp only at hSw); go_simp) <;> (with_reducible rfl))
    (try simp only [Act.put, List.setIfInBounds_toArray, List.set_cons_zero, List.set_cons_succ])
    refine wpAnyH_take (i := 13) (v := ?vv13) (by (simp only [List.getElem?_toArray, List.getElem?_cons_zero, List.getElem?_cons_succ]) <;> rfl) (by kernel_rfl) (by kernel_rfl) (by kernel_rfl) ?hq13 (Or.inl ⟨by rfl, ?hy13⟩) (by assumption) ?_
    case hq13 => exact fun _ _ _ h => h
    case hy13 => ((intro w hSw; (try dsimp only at hSw); go_simp) <;> (with_reducible rfl))
    (try simp only [Act.put, List.setIfInBounds_toArray, List.set_cons_zero, List.set_cons_succ])
    refine wpAnyH_take (i := 14) (v := ?vv14) (by (simp only [List.getElem?_toArray, List.getElem?_cons_zero, List.getElem?_cons_succ]) <;> rfl) (by kernel_rfl) (by kernel_rfl) (by kernel_rfl) ?hq14 (Or.inl ⟨by rfl, ?hy14⟩) (by assumption) ?_
    case hq14 => exact fun _ _ _ h => h
    case hy14 => ((intro w hSw; (try dsimp only at hSw); go_simp) <;> (with_reducible rfl))
    (try simp only [Act.put, List.setIfInBounds_toArray, List.set_cons_zero, List.set_cons_succ])
    refine wpAnyH_take (i := 15) (v := ?vv15) (by (simp only [List.getElem?_toArray, List.getElem?_cons_zero, List.getElem?_cons_succ]) <;> rfl) (by kernel_rfl) (by kernel_rfl) (by kernel_rfl) ?hq15 (Or.inl ⟨by rfl, ?hy15⟩) (by assumption) ?_
    case hq15 => exact fun _ _ _ h => h
    case hy15 => ((intro w hSw; (try dsimp only at hSw); go_simp) <;> (with_reducible rfl))
    (try simp only [Act.put, List.setIfInBounds_toArray, List.set_cons_zero, List.set_cons_succ])
    refine wpAnyH_take (i := 16) (v := ?vv16) (by (simp only [List.getElem?_toArray, List.getElem?_cons_zero, List.getElem?_cons_succ]) <;> rfl) (by kernel_rfl) (by kernel_rfl) (by kernel_rfl) ?hq16 (Or.inl ⟨by rfl, ?hy16⟩) (by assumption) ?_
    case hq16 => exact fun _ _ _ h => h
    case hy16 => ((intro w hSw; (try dsimp only at hSw); go_simp) <;> (with_reducible rfl))
    (try simp only [Act.put, List.setIfInBounds_toArray, List.set_cons_zero, List.set_cons_succ])
    refine wpAnyH_take (i := 17) (v := ?vv17) (by (simp only [List.getElem?_toArray, List.getElem?_cons_zero, List.getElem?_cons_succ]) <;> rfl) (by kernel_rfl) (by kernel_rfl) (by kernel_rfl) ?hq17 (Or.inl ⟨by rfl, ?hy17⟩) (by assumption) ?_
    case hq17 => exact fun _ _ _ h => h
    case hy17 => ((intro w hSw; (try dsimp only at hSw); go_simp) <;> (with_reducible rfl))
    (try simp only [Act.put, List.setIfInBounds_toArray, List.set_cons_zero, List.set_cons_succ])
    refine wpAnyH_take (i := 18) (v := ?vv18) (by (simp only [List.getElem?_toArray, List.getElem?_cons_zero, List.getElem?_cons_succ]) <;> rfl) (by kernel_rfl) (by kernel_rfl) (by kernel_rfl) ?hq18 (Or.inl ⟨by rfl, ?hy18⟩) (by assumption) ?_
    case hq18 => exact fun _ _ _ h => h
    case hy18 => ((intro w hSw; (try dsimp only at hSw); go_simp) <;> (with_reducible rfl))
    (try simp only [Act.put, List.setIfInBounds_toArray, List.set_cons_zero, List.set_cons_succ])
    refine wpAnyH_take (i := 19) (v := ?vv19) (by (simp only [List.getElem?_toArray, List.getElem?_cons_zero, List.getElem?_cons_succ]) <;> rfl) (by kernel_rfl) (by kernel_rfl) (by kernel_rfl) ?hq19 (Or.inl ⟨by rfl, ?hy19⟩) (by assumption) ?_
    case hq19 => exact fun _ _ _ h => h
    case hy19 => ((intro w hSw; (try dsimp only at hSw); go_simp) <;> (with_reducible rfl))
    (try simp only [Act.put, List.setIfInBounds_toArray, List.set_cons_zero, List.set_cons_succ])
    refine wpAnyH_take (i := 20) (v := ?vv20) (by (simp only [List.getElem?_toArray, List.getElem?_cons_zero, List.getElem?_cons_succ]) <;> rfl) (by kernel_rfl) (by kernel_rfl) (by kernel_rfl) ?hq20 (Or.inl ⟨by rfl, ?hy20⟩) (by assumption) ?_
    case hq20 => exact fun _ _ _ h => h
    case hy20 => ((intro w hSw; (try dsimp only at hSw); go_simp) <;> (with_reducible rfl))
    (try simp only [Act.put, List.setIfInBounds_toArray, List.set_cons_zero, List.set_cons_succ])
    refine wpAnyH_take (i := 21) (v := ?vv21) (by (simp only [List.getElem?_toArray, List.getElem?_cons_zero, List.getElem?_cons_succ]) <;> rfl) (by kernel_rfl) (by kernel_rfl) (by kernel_rfl) ?hq21 (Or.inl ⟨by rfl, ?hy21⟩) (by assumption) ?_
    case hq21 => exact fun _ _ _ h => h
    case hy21 => ((intro w hSw; (try dsimp only at hSw); go_simp) <;> (with_reducible rfl))
    (try simp only [Act.put, List.setIfInBounds_toArray, List.set_cons_zero, List.set_cons_succ])
    refine wpAnyH_take (i := 22) (v := ?vv22) (by (simp only [List.getElem?_toArray, List.getElem?_cons_zero, List.getElem?_cons_succ]) <;> rfl) (by kernel_rfl) (by kernel_rfl) (by kernel_rfl) ?hq22 (Or.inl ⟨by rfl, ?hy22⟩) (by assumption) ?_
    case hq22 => exact fun _ _ _ h => h
    case hy22 => ((intro w hSw; (try dsimp only at hSw); go_simp) <;> (with_reducible rfl))
    (try simp only [Act.put, List.setIfInBounds_toArray, List.set_cons_zero, List.set_cons_succ])
    refine wpAnyH_take (i := 23) (v := ?vv23) (by (simp only [List.getElem?_toArray, List.getElem?_cons_zero, List.getElem?_cons_succ]) <;> rfl) (by kernel_rfl) (by kernel_rfl) (by kernel_rfl) ?hq23 (Or.inl ⟨by rfl, ?hy23⟩) (by assumption) ?_
    case hq23 => exact fun _ _ _ h => h
    case hy23 => ((intro w hSw; (try dsimp only at hSw); go_simp) <;> (with_reducible rfl))
    (try simp only [Act.put, List.setIfInBounds_toArray, List.set_cons_zero, List.set_cons_succ])
    refine wpAnyH_take (i := 24) (v := ?vv24) (by (simp only [List.getElem?_toArray, List.getElem?_cons_zero, List.getElem?_cons_succ]) <;> rfl) (by kernel_rfl) (by kernel_rfl) (by kernel_rfl) ?hq24 (Or.inl ⟨by rfl, ?hy24⟩) (by assumption) ?_
    case hq24 => exact fun _ _ _ h => h
    case hy24 => ((intro w hSw; (try dsimp only at hSw); go_simp) <;> (with_reducible rfl))
    (try simp only [Act.put, List.setIfInBounds_toArray, List.set_cons_zero, List.set_cons_succ])
    refine wpAnyH_take (i := 25) (v := ?vv25) (by (simp only [List.getElem?_toArray, List.getElem?_cons_zero, List.getElem?_cons_succ]) <;> rfl) (by kernel_rfl) (by kernel_rfl) (by kernel_rfl) ?hq25 (Or.inl ⟨by rfl, ?hy25⟩) (by assumption) ?_
    case hq25 => exact fun _ _ _ h => h
    case hy25 => ((intro w hSw; (try dsimp only at hSw); go_simp) <;> (with_reducible rfl))
    (try simp only [Act.put, List.setIfInBounds_toArray, List.set_cons_zero, List.set_cons_succ])
    refine wpAnyH_take (i := 26) (v := ?vv26) (by (simp only [List.getElem?_toArray, List.getElem?_cons_zero, List.getElem?_cons_succ]) <;> rfl) (by kernel_rfl) (by kernel_rfl) (by kernel_rfl) ?hq26 (Or.inl ⟨by rfl, ?hy26⟩) (by assumption) ?_
    case hq26 => exact fun _ _ _ h => h
    case hy26 => ((intro w hSw; (try dsimp only at hSw); go_simp) <;> (with_reducible rfl))
    (try simp only [Act.put, List.setIfInBounds_toArray, List.set_cons_zero, List.set_cons_succ])
    refine wpAnyH_ready (rs := [27]) (by kernel_rfl) (by simp) ?_
    refine AllReadyH.cons (by (simp only [List.getElem?_toArray, List.getElem?_cons_zero, List.getElem?_cons_succ]) <;> rfl) (fun K hK => ?_) AllReadyH.nil
    go_simp
    (go_at_call 82; (with_reducible refine (S12.out _).mono ?_); rintro e wz ⟨Ax, kx, lx, cx, rfl, mx, vx, px, tx, ox, zx, hb, wx, yx⟩; have SM := rsamep_p Ab Ax kb kx lb lx cb cx wz (HB.out.next (bl_trans bb hb)).pl px (HB.out.next (bl_trans bb hb)).ok ox (HB.out.next (bl_trans bb hb)).at_ tx (HB.out.next (bl_trans bb hb)).ck zx (by have := HB.out.len; simp at this; omega) (by have := congrArg List.length mx; simp at this; omega) true (by rw [HB.out.qt, HB.out.hq, mx, vx]; decide); unfold polyV at SM; replace SM := hide SM; replace bb := bl_trans bb hb; clear hb mx vx px tx ox zx wx yx)
    (try go_wp2_with fail)
    refine hK.out _ _ ?_ (fun hHeld => ?_)
    · (try dsimp only)
      with_reducible exact SS.out _ bb
    (try clear hK K)
    (try simp only [Act.put, List.setIfInBounds_toArray, List.set_cons_zero, List.set_cons_succ])
    refine wpAnyH_ready (rs := [28]) (by kernel_rfl) (by simp) ?_
    refine AllReadyH.cons (by (simp only [List.getElem?_toArray, List.getElem?_cons_zero, List.getElem?_cons_succ]) <;> rfl) (fun K hK => ?_) AllReadyH.nil
    go_simp
    (go_at_call 23; (with_reducible refine (SM.out).mono ?_); rintro e wz ⟨rfl, hb⟩; replace bb := bl_trans bb hb; clear hb SM)
    (try go_wp2_with fail)
    refine hK.out _ _ ?_ (fun hHeld => ?_)
    · (try dsimp only)
      with_reducible exact SS.out _ bb
    (try clear hK K)
    (try simp only [Act.put, List.setIfInBounds_toArray, List.set_cons_zero, List.set_cons_succ])
    as_aux_lemma =>
      refine wpAnyH_take (i := 29) (v := ?vv29) (by (simp only [List.getElem?_toArray, List.getElem?_cons_zero, List.getElem?_cons_succ]) <;> rfl) (by kernel_rfl) (by kernel_rfl) (by kernel_rfl) ?hq29 (Or.inl ⟨by rfl, ?hy29⟩) (by assumption) ?_
      case hq29 => exact fun _ _ _ h => h
      case hy29 => ((intro w hSw; (try dsimp only at hSw); go_simp) <;> (with_reducible rfl))
      (try simp only [Act.put, List.setIfInBounds_toArray, List.set_cons_zero, List.set_cons_succ])
      refine wpAnyH_take (i := 30) (v := ?vv30) (by (simp only [List.getElem?_toArray, List.getElem?_cons_zero, List.getElem?_cons_succ]) <;> rfl) (by kernel_rfl) (by kernel_rfl) (by kernel_rfl) ?hq30 (Or.inl ⟨by rfl, ?hy30⟩) (by assumption) ?_
      case hq30 => exact fun _ _ _ h => h
      case hy30 => ((intro w hSw; (try dsimp only at hSw); go_simp) <;> (with_reducible rfl))
      (try simp only [Act.put, List.setIfInBounds_toArray, List.set_cons_zero, List.set_cons_succ])
      refine wpAnyH_take (i := 31) (v := ?vv31) (by (simp only [List.getElem?_toArray, List.getElem?_cons_zero, List.getElem?_cons_succ]) <;> rfl) (by kernel_rfl) (by kernel_rfl) (by kernel_rfl) ?hq31 (Or.inl ⟨by rfl, ?hy31⟩) (by assumption) ?_
      case hq31 => exact fun _ _ _ h => h
      case hy31 => ((intro w hSw; (try dsimp only at hSw); go_simp) <;> (with_reducible rfl))
      (try simp only [Act.put, List.setIfInBounds_toArray, List.set_cons_zero, List.set_cons_succ])
      refine wpAnyH_take (i := 32) (v := ?vv32) (by (simp only [List.getElem?_toArray, List.getElem?_cons_zero, List.getElem?_cons_succ]) <;> rfl) (by kernel_rfl) (by kernel_rfl) (by kernel_rfl) ?hq32 (Or.inl ⟨by rfl, ?hy32⟩) (by assumption) ?_
      case hq32 => exact fun _ _ _ h => h
      case hy32 => ((intro w hSw; (try dsimp only at hSw); go_simp) <;> (with_reducible rfl))
      (try simp only [Act.put, List.setIfInBounds_toArray, List.set_cons_zero, List.set_cons_succ])
      refine wpAnyH_take (i := 33) (v := ?vv33) (by (simp only [List.getElem?_toArray, List.getElem?_cons_zero, List.getElem?_cons_succ]) <;> rfl) (by kernel_rfl) (by kernel_rfl) (by kernel_rfl) ?hq33 (Or.inl ⟨by rfl, ?hy33⟩) (by assumption) ?_
      case hq33 => exact fun _ _ _ h => h
      case hy33 => ((intro w hSw; (try dsimp only at hSw); go_simp) <;> (with_reducible rfl))
      (try simp only [Act.put, List.setIfInBounds_toArray, List.set_cons_zero, List.set_cons_succ])
      refine wpAnyH_take (i := 34) (v := ?vv34) (by (simp only [List.getElem?_toArray, List.getElem?_cons_zero, List.getElem?_cons_succ]) <;> rfl) (by kernel_rfl) (by kernel_rfl) (by kernel_rfl) ?hq34 (Or.inl ⟨by rfl, ?hy34⟩) (by assumption) ?_
      case hq34 => exact fun _ _ _ h => h
      case hy34 => ((intro w hSw; (try dsimp only at hSw); go_simp) <;> (with_reducible rfl))
      (try simp only [Act.put, List.setIfInBounds_toArray, List.set_cons_zero, List.set_cons_succ])
      refine wpAnyH_take (i := 35) (v := ?vv35) (by (simp only [List.getElem?_toArray, List.getElem?_cons_zero, List.getElem?_cons_succ]) <;> rfl) (by kernel_rfl) (by kernel_rfl) (by kernel_rfl) ?hq35 (Or.inl ⟨by rfl, ?hy35⟩) (by assumption) ?_
      case hq35 => exact fun _ _ _ h => h
      case hy35 => ((intro w hSw; (try dsimp only at hSw); go_simp) <;> (with_reducible rfl))
      (try simp only [Act.put, List.setIfInBounds_toArray, List.set_cons_zero, List.set_cons_succ])
      refine wpAnyH_take (i := 36) (v := ?vv36) (by (simp only [List.getElem?_toArray, List.getElem?_cons_zero, List.getElem?_cons_succ]) <;> rfl) (by kernel_rfl) (by kernel_rfl) (by kernel_rfl) ?hq36 (Or.inl ⟨by rfl, ?hy36⟩) (by assumption) ?_
      case hq36 => exact fun _ _ _ h => h
      case hy36 => ((intro w hSw; (try dsimp only at hSw); go_simp) <;> (with_reducible rfl))
      (try simp only [Act.put, List.setIfInBounds_toArray, List.set_cons_zero, List.set_cons_succ])
      refine wpAnyH_take (i := 37) (v := ?vv37) (by (simp only [List.getElem?_toArray, List.getElem?_cons_zero, List.getElem?_cons_succ]) <;> rfl) (by kernel_rfl) (by kernel_rfl) (by kernel_rfl) ?hq37 (Or.inl ⟨by rfl, ?hy37⟩) (by assumption) ?_
      case hq37 => exact fun _ _ _ h => h
      case hy37 => ((intro w hSw; (try dsimp only at hSw); go_simp) <;> (with_reducible rfl))
      (try simp only [Act.put, List.setIfInBounds_toArray, List.set_cons_zero, List.set_cons_succ])
      refine wpAnyH_take (i := 38) (v := ?vv38) (by (simp only [List.getElem?_toArray, List.getElem?_cons_zero, List.getElem?_cons_succ]) <;> rfl) (by kernel_rfl) (by kernel_rfl) (by kernel_rfl) ?hq38 (Or.inl ⟨by rfl, ?hy38⟩) (by assumption) ?_
      case hq38 => exact fun _ _ _ h => h
      case hy38 => ((intro w hSw; (try dsimp only at hSw); go_simp) <;> (with_reducible rfl))
      (try simp only [Act.put, List.setIfInBounds_toArray, List.set_cons_zero, List.set_cons_succ])
      refine wpAnyH_take (i := 39) (v := ?vv39) (by (simp only [List.getElem?_toArray, List.getElem?_cons_zero, List.getElem?_cons_succ]) <;> rfl) (by kernel_rfl) (by kernel_rfl) (by kernel_rfl) ?hq39 (Or.inl ⟨by rfl, ?hy39⟩) (by assumption) ?_
      case hq39 => exact fun _ _ _ h => h
      case hy39 => ((intro w hSw; (try dsimp only at hSw); go_simp) <;> (with_reducible rfl))
      (try simp only [Act.put, List.setIfInBounds_toArray, List.set_cons_zero, List.set_cons_succ])
      refine wpAnyH_take (i := 40) (v := ?vv40) (by (simp only [List.getElem?_toArray, List.getElem?_cons_zero, List.getElem?_cons_succ]) <;> rfl) (by kernel_rfl) (by kernel_rfl) (by kernel_rfl) ?hq40 (Or.inl ⟨by rfl, ?hy40⟩) (by assumption) ?_
      case hq40 => exact fun _ _ _ h => h
      case hy40 => ((intro w hSw; (try dsimp only at hSw); go_simp) <;> (with_reducible rfl))
      (try simp only [Act.put, List.setIfInBounds_toArray, List.set_cons_zero, List.set_cons_succ])
      refine wpAnyH_ready (rs := [41]) (by kernel_rfl) (by simp) ?_
      refine AllReadyH.cons (by (simp only [List.getElem?_toArray, List.getElem?_cons_zero, List.getElem?_cons_succ]) <;> rfl) (fun K hK => ?_) AllReadyH.nil
      go_simp
      (go_at_call 82; (with_reducible refine (Sm12.out _).mono ?_); rintro e wz ⟨Ax, kx, lx, cx, rfl, mx, vx, px, tx, ox, zx, hb, wx, yx⟩; have SM := rsamep_p Ad Ax kd kx ld lx cd cx wz (HO.out.next (bl_trans bb hb)).pl px (HO.out.next (bl_trans bb hb)).ok ox (HO.out.next (bl_trans bb hb)).at_ tx (HO.out.next (bl_trans bb hb)).ck zx (by have := HO.out.len; simp at this; omega) (by have := congrArg List.length mx; simp at this; omega) true (by rw [HO.out.qt, HO.out.hq, mx, vx]; decide); unfold polyV at SM; replace SM := hide SM; replace bb := bl_trans bb hb; clear hb mx vx px tx ox zx wx yx)
      (try go_wp2_with fail)
      refine hK.out _ _ ?_ (fun hHeld => ?_)
      · (try dsimp only)
        with_reducible exact SS.out _ bb
      (try clear hK K)
      (try simp only [Act.put, List.setIfInBounds_toArray, List.set_cons_zero, List.set_cons_succ])
      refine wpAnyH_ready (rs := [42]) (by kernel_rfl) (by simp) ?_
      refine AllReadyH.cons (by (simp only [List.getElem?_toArray, List.getElem?_cons_zero, List.getElem?_cons_succ]) <;> rfl) (fun K hK => ?_) AllReadyH.nil
      go_simp
      (go_at_call 23; (with_reducible refine (SM.out).mono ?_); rintro e wz ⟨rfl, hb⟩; replace bb := bl_trans bb hb; clear hb SM)
      (try go_wp2_with fail)
      refine hK.out _ _ ?_ (fun hHeld => ?_)
      · (try dsimp only)
        with_reducible exact SS.out _ bb
      (try clear hK K)
      (try simp only [Act.put, List.setIfInBounds_toArray, List.set_cons_zero, List.set_cons_succ])
      as_aux_lemma =>
        refine wpAnyH_take (i := 43) (v := ?vv43) (by (simp only [List.getElem?_toArray, List.getElem?_cons_zero, List.getElem?_cons_succ]) <;> rfl) (by kernel_rfl) (by kernel_rfl) (by kernel_rfl) ?hq43 (Or.inl ⟨by rfl, ?hy43⟩) (by assumption) ?_
        case hq43 => exact fun _ _ _ h => h
        case hy43 => ((intro w hSw; (try dsimp only at hSw); go_simp) <;> (with_reducible rfl))
        (try simp only [Act.put, List.setIfInBounds_toArray, List.set_cons_zero, List.set_cons_succ])
        refine wpAnyH_take (i := 44) (v := ?vv44) (by (simp only [List.getElem?_toArray, List.getElem?_cons_zero, List.getElem?_cons_succ]) <;> rfl) (by kernel_rfl) (by kernel_rfl) (by kernel_rfl) ?hq44 (Or.inl ⟨by rfl, ?hy44⟩) (by assumption) ?_
        case hq44 => exact fun _ _ _ h => h
        case hy44 => ((intro w hSw; (try dsimp only at hSw); go_simp) <;> (with_reducible rfl))
        (try simp only [Act.put, List.setIfInBounds_toArray, List.set_cons_zero, List.set_cons_succ])
        refine wpAnyH_take (i := 45) (v := ?vv45) (by (simp only [List.getElem?_toArray, List.getElem?_cons_zero, List.getElem?_cons_succ]) <;> rfl) (by kernel_rfl) (by kernel_rfl) (by kernel_rfl) ?hq45 (Or.inl ⟨by rfl, ?hy45⟩) (by assumption) ?_
        case hq45 => exact fun _ _ _ h => h
        case hy45 => ((intro w hSw; (try dsimp only at hSw); go_simp) <;> (with_reducible rfl))
        (try simp only [Act.put, List.setIfInBounds_toArray, List.set_cons_zero, List.set_cons_succ])
        refine wpAnyH_take (i := 46) (v := ?vv46) (by (simp only [List.getElem?_toArray, List.getElem?_cons_zero, List.getElem?_cons_succ]) <;> rfl) (by kernel_rfl) (by kernel_rfl) (by kernel_rfl) ?hq46 (Or.inl ⟨by rfl, ?hy46⟩) (by assumption) ?_
        case hq46 => exact fun _ _ _ h => h
        case hy46 => ((intro w hSw; (try dsimp only at hSw); go_simp) <;> (with_reducible rfl))
        (try simp only [Act.put, List.setIfInBounds_toArray, List.set_cons_zero, List.set_cons_succ])
        refine wpAnyH_take (i := 47) (v := ?vv47) (by (simp only [List.getElem?_toArray, List.getElem?_cons_zero, List.getElem?_cons_succ]) <;> rfl) (by kernel_rfl) (by kernel_rfl) (by kernel_rfl) ?hq47 (Or.inl ⟨by rfl, ?hy47⟩) (by assumption) ?_
        case hq47 => exact fun _ _ _ h => h
        case hy47 => ((intro w hSw; (try dsimp only at hSw); go_simp) <;> (with_reducible rfl))
        (try simp only [Act.put, List.setIfInBounds_toArray, List.set_cons_zero, List.set_cons_succ])
        refine wpAnyH_take (i := 48) (v := ?vv48) (by (simp only [List.getElem?_toArray, List.getElem?_cons_zero, List.getElem?_cons_succ]) <;> rfl) (by kernel_rfl) (by kernel_rfl) (by kernel_rfl) ?hq48 (Or.inl ⟨by rfl, ?hy48⟩) (by assumption) ?_
        case hq48 => exact fun _ _ _ h => h
        case hy48 => ((intro w hSw; (try dsimp only at hSw); go_simp) <;> (with_reducible rfl))
        (try simp only [Act.put, List.setIfInBounds_toArray, List.set_cons_zero, List.set_cons_succ])
        refine wpAnyH_take (i := 49) (v := ?vv49) (by (simp only [List.getElem?_toArray, List.getElem?_cons_zero, List.getElem?_cons_succ]) <;> rfl) (by kernel_rfl) (by kernel_rfl) (by kernel_rfl) ?hq49 (Or.inl ⟨by rfl, ?hy49⟩) (by assumption) ?_
        case hq49 => exact fun _ _ _ h => h
        case hy49 => ((intro w hSw; (try dsimp only at hSw); go_simp) <;> (with_reducible rfl))
        (try simp only [Act.put, List.setIfInBounds_toArray, List.set_cons_zero, List.set_cons_succ])
        refine wpAnyH_take (i := 50) (v := ?vv50) (by (simp only [List.getElem?_toArray, List.getElem?_cons_zero, List.getElem?_cons_succ]) <;> rfl) (by kernel_rfl) (by kernel_rfl) (by kernel_rfl) ?hq50 (Or.inl ⟨by rfl, ?hy50⟩) (by assumption) ?_
        case hq50 => exact fun _ _ _ h => h
        case hy50 => ((intro w hSw; (try dsimp only at hSw); go_simp) <;> (with_reducible rfl))
        (try simp only [Act.put, List.setIfInBounds_toArray, List.set_cons_zero, List.set_cons_succ])
        refine wpAnyH_take (i := 51) (v := ?vv51) (by (simp only [List.getElem?_toArray, List.getElem?_cons_zero, List.getElem?_cons_succ]) <;> rfl) (by kernel_rfl) (by kernel_rfl) (by kernel_rfl) ?hq51 (Or.inl ⟨by rfl, ?hy51⟩) (by assumption) ?_
        case hq51 => exact fun _ _ _ h => h
        case hy51 => ((intro w hSw; (try dsimp only at hSw); go_simp) <;> (with_reducible rfl))
        (try simp only [Act.put, List.setIfInBounds_toArray, List.set_cons_zero, List.set_cons_succ])
        refine wpAnyH_take (i := 52) (v := ?vv52) (by (simp only [List.getElem?_toArray, List.getElem?_cons_zero, List.getElem?_cons_succ]) <;> rfl) (by kernel_rfl) (by kernel_rfl) (by kernel_rfl) ?hq52 (Or.inl ⟨by rfl, ?hy52⟩) (by assumption) ?_
        case hq52 => exact fun _ _ _ h => h
        case hy52 => ((intro w hSw; (try dsimp only at hSw); go_simp) <;> (with_reducible rfl))
        (try simp only [Act.put, List.setIfInBounds_toArray, List.set_cons_zero, List.set_cons_succ])
        refine wpAnyH_take (i := 53) (v := ?vv53) (by (simp only [List.getElem?_toArray, List.getElem?_cons_zero, List.getElem?_cons_succ]) <;> rfl) (by kernel_rfl) (by kernel_rfl) (by kernel_rfl) ?hq53 (Or.inl ⟨by rfl, ?hy53⟩) (by assumption) ?_
        case hq53 => exact fun _ _ _ h => h
        case hy53 => ((intro w hSw; (try dsimp only at hSw); go_simp) <;> (with_reducible rfl))
        (try simp only [Act.put, List.setIfInBounds_toArray, List.set_cons_zero, List.set_cons_succ])
        refine wpAnyH_take (i := 54) (v := ?vv54) (by (simp only [List.getElem?_toArray, List.getElem?_cons_zero, List.getElem?_cons_succ]) <;> rfl) (by kernel_rfl) (by kernel_rfl) (by kernel_rfl) ?hq54 (Or.inl ⟨by rfl, ?hy54⟩) (by assumption) ?_
        case hq54 => exact fun _ _ _ h => h
        case hy54 => ((intro w hSw; (try dsimp only at hSw); go_simp) <;> (with_reducible rfl))
        (try simp only [Act.put, List.setIfInBounds_toArray, List.set_cons_zero, List.set_cons_succ])
        refine wpAnyH_take (i := 55) (v := ?vv55) (by (simp only [List.getElem?_toArray, List.getElem?_cons_zero, List.getElem?_cons_succ]) <;> rfl) (by kernel_rfl) (by kernel_rfl) (by kernel_rfl) ?hq55 (Or.inl ⟨by rfl, ?hy55⟩) (by assumption) ?_
        case hq55 => exact fun _ _ _ h => h
        case hy55 => ((intro w hSw; (try dsimp only at hSw); go_simp) <;> (with_reducible rfl))
        (try simp only [Act.put, List.setIfInBounds_toArray, List.set_cons_zero, List.set_cons_succ])
        refine wpAnyH_take (i := 56) (v := ?vv56) (by (simp only [List.getElem?_toArray, List.getElem?_cons_zero, List.getElem?_cons_succ]) <;> rfl) (by kernel_rfl) (by kernel_rfl) (by kernel_rfl) ?hq56 (Or.inl ⟨by rfl, ?hy56⟩) (by assumption) ?_
        case hq56 => exact fun _ _ _ h => h
        case hy56 => ((intro w hSw; (try dsimp only at hSw); go_simp) <;> (with_reducible rfl))
        (try simp only [Act.put, List.setIfInBounds_toArray, List.set_cons_zero, List.set_cons_succ])
        refine wpAnyH_take (i := 57) (v := ?vv57) (by (simp only [List.getElem?_toArray, List.getElem?_cons_zero, List.getElem?_cons_succ]) <;> rfl) (by kernel_rfl) (by kernel_rfl) (by kernel_rfl) ?hq57 (Or.inl ⟨by rfl, ?hy57⟩) (by assumption) ?_
        case hq57 => exact fun _ _ _ h => h
        case hy57 => ((intro w hSw; (try dsimp only at hSw); go_simp) <;> (with_reducible rfl))
        (try simp only [Act.put, List.setIfInBounds_toArray, List.set_cons_zero, List.set_cons_succ])
        refine wpAnyH_take (i := 58) (v := ?vv58) (by (simp only [List.getElem?_toArray, List.getElem?_cons_zero, List.getElem?_cons_succ]) <;> rfl) (by kernel_rfl) (by kernel_rfl) (by kernel_rfl) ?hq58 (Or.inl ⟨by rfl, ?hy58⟩) (by assumption) ?_
        case hq58 => exact fun _ _ _ h => h
        case hy58 => ((intro w hSw; (try dsimp only at hSw); go_simp) <;> (with_reducible rfl))
        (try simp only [Act.put, List.setIfInBounds_toArray, List.set_cons_zero, List.set_cons_succ])
        refine wpAnyH_take (i := 59) (v := ?vv59) (by (simp only [List.getElem?_toArray, List.getElem?_cons_zero, List.getElem?_cons_succ]) <;> rfl) (by kernel_rfl) (by kernel_rfl) (by kernel_rfl) ?hq59 (Or.inl ⟨by rfl, ?hy59⟩) (by assumption) ?_
        case hq59 => exact fun _ _ _ h => h
        case hy59 => ((intro w hSw; (try dsimp only at hSw); go_simp) <;> (with_reducible rfl))
        (try simp only [Act.put, List.setIfInBounds_toArray, List.set_cons_zero, List.set_cons_succ])
        refine wpAnyH_take (i := 60) (v := ?vv60) (by (simp only [List.getElem?_toArray, List.getElem?_cons_zero, List.getElem?_cons_succ]) <;> rfl) (by kernel_rfl) (by kernel_rfl) (by kernel_rfl) ?hq60 (Or.inl ⟨by rfl, ?hy60⟩) (by assumption) ?_
        case hq60 => exact fun _ _ _ h => h
        case hy60 => ((intro w hSw; (try dsimp only at hSw); go_simp) <;> (with_reducible rfl))
        (try simp only [Act.put, List.setIfInBounds_toArray, List.set_cons_zero, List.set_cons_succ])
        refine wpAnyH_take (i := 61) (v := ?vv61) (by (simp only [List.getElem?_toArray, List.getElem?_cons_zero, List.getElem?_cons_succ]) <;> rfl) (by kernel_rfl) (by kernel_rfl) (by kernel_rfl) ?hq61 (Or.inl ⟨by rfl, ?hy61⟩) (by assumption) ?_
        case hq61 => exact fun _ _ _ h => h
        case hy61 => ((intro w hSw; (try dsimp only at hSw); go_simp) <;> (with_reducible rfl))
        (try simp only [Act.put, List.setIfInBounds_toArray, List.set_cons_zero, List.set_cons_succ])
        refine wpAnyH_take (i := 62) (v := ?vv62) (by (simp only [List.getElem?_toArray, List.getElem?_cons_zero, List.getElem?_cons_succ]) <;> rfl) (by kernel_rfl) (by kernel_rfl) (by kernel_rfl) ?hq62 (Or.inl ⟨by rfl, ?hy62⟩) (by assumption) ?_
        case hq62 => exact fun _ _ _ h => h
        case hy62 => ((intro w hSw; (try dsimp only at hSw); go_simp) <;> (with_reducible rfl))
        (try simp only [Act.put, List.setIfInBounds_toArray, List.set_cons_zero, List.set_cons_succ])
        refine wpAnyH_take (i := 63) (v := ?vv63) (by (simp only [List.getElem?_toArray, List.getElem?_cons_zero, List.getElem?_cons_succ]) <;> rfl) (by kernel_rfl) (by kernel_rfl) (by kernel_rfl) ?hq63 (Or.inl ⟨by rfl, ?hy63⟩) (by assumption) ?_
        case hq63 => exact fun _ _ _ h => h
        case hy63 => ((intro w hSw; (try dsimp only at hSw); go_simp) <;> (with_reducible rfl))
        (try simp only [Act.put, List.setIfInBounds_toArray, List.set_cons_zero, List.set_cons_succ])
        refine wpAnyH_take (i := 64) (v := ?vv64) (by (simp only [List.getElem?_toArray, List.getElem?_cons_zero, List.getElem?_cons_succ]) <;> rfl) (by kernel_rfl) (by kernel_rfl) (by kernel_rfl) ?hq64 (Or.inl ⟨by rfl, ?hy64⟩) (by assumption) ?_
        case hq64 => exact fun _ _ _ h => h
        case hy64 => ((intro w hSw; (try dsimp only at hSw); go_simp) <;> (with_reducible rfl))
        (try simp only [Act.put, List.setIfInBounds_toArray, List.set_cons_zero, List.set_cons_succ])
        refine wpAnyH_take (i := 65) (v := ?vv65) (by (simp only [List.getElem?_toArray, List.getElem?_cons_zero, List.getElem?_cons_succ]) <;> rfl) (by kernel_rfl) (by kernel_rfl) (by kernel_rfl) ?hq65 (Or.inl ⟨by rfl, ?hy65⟩) (by assumption) ?_
        case hq65 => exact fun _ _ _ h => h
        case hy65 => ((intro w hSw; (try dsimp only at hSw); go_simp) <;> (with_reducible rfl))
        (try simp only [Act.put, List.setIfInBounds_toArray, List.set_cons_zero, List.set_cons_succ])
        refine wpAnyH_take (i := 66) (v := ?vv66) (by (simp only [List.getElem?_toArray, List.getElem?_cons_zero, List.getElem?_cons_succ]) <;> rfl) (by kernel_rfl) (by kernel_rfl) (by kernel_rfl) ?hq66 (Or.inl ⟨by rfl, ?hy66⟩) (by assumption) ?_
        case hq66 => exact fun _ _ _ h => h
        case hy66 => ((intro w hSw; (try dsimp only at hSw); go_simp) <;> (with_reducible rfl))
        (try simp only [Act.put, List.setIfInBounds_toArray, List.set_cons_zero, List.set_cons_succ])
        refine wpAnyH_take (i := 67) (v := ?vv67) (by (simp only [List.getElem?_toArray, List.getElem?_cons_zero, List.getElem?_cons_succ]) <;> rfl) (by kernel_rfl) (by kernel_rfl) (by kernel_rfl) ?hq67 (Or.inl ⟨by rfl, ?hy67⟩) (by assumption) ?_
        case hq67 => exact fun _ _ _ h => h
        case hy67 => ((intro w hSw; (try dsimp only at hSw); go_simp) <;> (with_reducible rfl))
        (try simp only [Act.put, List.setIfInBounds_toArray, List.set_cons_zero, List.set_cons_succ])
        refine wpAnyH_take (i := 68) (v := ?vv68) (by (simp only [List.getElem?_toArray, List.getElem?_cons_zero, List.getElem?_cons_succ]) <;> rfl) (by kernel_rfl) (by kernel_rfl) (by kernel_rfl) ?hq68 (Or.inl ⟨by rfl, ?hy68⟩) (by assumption) ?_
        case hq68 => exact fun _ _ _ h => h
        case hy68 => ((intro w hSw; (try dsimp only at hSw); go_simp) <;> (with_reducible rfl))
        (try simp only [Act.put, List.setIfInBounds_toArray, List.set_cons_zero, List.set_cons_succ])
        refine wpAnyH_take (i := 69) (v := ?vv69) (by (simp only [List.getElem?_toArray, List.getElem?_cons_zero, List.getElem?_cons_succ]) <;> rfl) (by kernel_rfl) (by kernel_rfl) (by kernel_rfl) ?hq69 (Or.inl ⟨by rfl, ?hy69⟩) (by assumption) ?_
        case hq69 => exact fun _ _ _ h => h
        case hy69 => ((intro w hSw; (try dsimp only at hSw); go_simp) <;> (with_reducible rfl))
        (try simp only [Act.put, List.setIfInBounds_toArray, List.set_cons_zero, List.set_cons_succ])
        refine wpAnyH_take (i := 70) (v := ?vv70) (by (simp only [List.getElem?_toArray, List.getElem?_cons_zero, List.getElem?_cons_succ]) <;> rfl) (by kernel_rfl) (by kernel_rfl) (by kernel_rfl) ?hq70 (Or.inl ⟨by rfl, ?hy70⟩) (by assumption) ?_
        case hq70 => exact fun _ _ _ h => h
        case hy70 => ((intro w hSw; (try dsimp only at hSw); go_simp) <;> (with_reducible rfl))
        (try simp only [Act.put, List.setIfInBounds_toArray, List.set_cons_zero, List.set_cons_succ])
        refine wpAnyH_take (i := 71) (v := ?vv71) (by (simp only [List.getElem?_toArray, List.getElem?_cons_zero, List.getElem?_cons_succ]) <;> rfl) (by kernel_rfl) (by kernel_rfl) (by kernel_rfl) ?hq71 (Or.inl ⟨by rfl, ?hy71⟩) (by assumption) ?_
        case hq71 => exact fun _ _ _ h => h
        case hy71 => ((intro w hSw; (try dsimp only at hSw); go_simp) <;> (with_reducible rfl))
        (try simp only [Act.put, List.setIfInBounds_toArray, List.set_cons_zero, List.set_cons_succ])
        refine wpAnyH_take (i := 72) (v := ?vv72) (by (simp only [List.getElem?_toArray, List.getElem?_cons_zero, List.getElem?_cons_succ]) <;> rfl) (by kernel_rfl) (by kernel_rfl) (by kernel_rfl) ?hq72 (Or.inl ⟨by rfl, ?hy72⟩) (by assumption) ?_
        case hq72 => exact fun _ _ _ h => h
        case hy72 => ((intro w hSw; (try dsimp only at hSw); go_simp) <;> (with_reducible rfl))
        (try simp only [Act.put, List.setIfInBounds_toArray, List.set_cons_zero, List.set_cons_succ])
        refine wpAnyH_take (i := 73) (v := ?vv73) (by (simp only [List.getElem?_toArray, List.getElem?_cons_zero, List.getElem?_cons_succ]) <;> rfl) (by kernel_rfl) (by kernel_rfl) (by kernel_rfl) ?hq73 (Or.inl ⟨by rfl, ?hy73⟩) (by assumption) ?_
        case hq73 => exact fun _ _ _ h => h
        case hy73 => ((intro w hSw; (try dsimp only at hSw); go_simp) <;> (with_reducible rfl))
        (try simp only [Act.put, List.setIfInBounds_toArray, List.set_cons_zero, List.set_cons_succ])
        refine wpAnyH_take (i := 74) (v := ?vv74) (by (simp only [List.getElem?_toArray, List.getElem?_cons_zero, List.getElem?_cons_succ]) <;> rfl) (by kernel_rfl) (by kernel_rfl) (by kernel_rfl) ?hq74 (Or.inl ⟨by rfl, ?hy74⟩) (by assumption) ?_
        case hq74 => exact fun _ _ _ h => h
        case hy74 => ((intro w hSw; (try dsimp only at hSw); go_simp) <;> (with_reducible rfl))
        (try simp only [Act.put, List.setIfInBounds_toArray, List.set_cons_zero, List.set_cons_succ])
        refine wpAnyH_take (i := 75) (v := ?vv75) (by (simp only [List.getElem?_toArray, List.getElem?_cons_zero, List.getElem?_cons_succ]) <;> rfl) (by kernel_rfl) (by kernel_rfl) (by kernel_rfl) ?hq75 (Or.inl ⟨by rfl, ?hy75⟩) (by assumption) ?_
        case hq75 => exact fun _ _ _ h => h
        case hy75 => ((intro w hSw; (try dsimp only at hSw); go_simp) <;> (with_reducible rfl))
        (try simp only [Act.put, List.setIfInBounds_toArray, List.set_cons_zero, List.set_cons_succ])
        refine wpAnyH_take (i := 76) (v := ?vv76) (by (simp only [List.getElem?_toArray, List.getElem?_cons_zero, List.getElem?_cons_succ]) <;> rfl) (by kernel_rfl) (by kernel_rfl) (by kernel_rfl) ?hq76 (Or.inl ⟨by rfl, ?hy76⟩) (by assumption) ?_
        case hq76 => exact fun _ _ _ h => h
        case hy76 => ((intro w hSw; (try dsimp only at hSw); go_simp) <;> (with_reducible rfl))
        (try simp only [Act.put, List.setIfInBounds_toArray, List.set_cons_zero, List.set_cons_succ])
        refine wpAnyH_take (i := 77) (v := ?vv77) (by (simp only [List.getElem?_toArray, List.getElem?_cons_zero, List.getElem?_cons_succ]) <;> rfl) (by kernel_rfl) (by kernel_rfl) (by kernel_rfl) ?hq77 (Or.inl ⟨by rfl, ?hy77⟩) (by assumption) ?_
        case hq77 => exact fun _ _ _ h => h
        case hy77 => ((intro w hSw; (try dsimp only at hSw); go_simp) <;> (with_reducible rfl))
        (try simp only [Act.put, List.setIfInBounds_toArray, List.set_cons_zero, List.set_cons_succ])
        refine wpAnyH_take (i := 78) (v := ?vv78) (by (simp only [List.getElem?_toArray, List.getElem?_cons_zero, List.getElem?_cons_succ]) <;> rfl) (by kernel_rfl) (by kernel_rfl) (by kernel_rfl) ?hq78 (Or.inl ⟨by rfl, ?hy78⟩) (by assumption) ?_
        case hq78 => exact fun _ _ _ h => h
        case hy78 => ((intro w hSw; (try dsimp only at hSw); go_simp) <;> (with_reducible rfl))
        (try simp only [Act.put, List.setIfInBounds_toArray, List.set_cons_zero, List.set_cons_succ])
        refine wpAnyH_take (i := 79) (v := ?vv79) (by (simp only [List.getElem?_toArray, List.getElem?_cons_zero, List.getElem?_cons_succ]) <;> rfl) (by kernel_rfl) (by kernel_rfl) (by kernel_rfl) ?hq79 (Or.inl ⟨by rfl, ?hy79⟩) (by assumption) ?_
        case hq79 => exact fun _ _ _ h => h
        case hy79 => ((intro w hSw; (try dsimp only at hSw); go_simp) <;> (with_reducible rfl))
        (try simp only [Act.put, List.setIfInBounds_toArray, List.set_cons_zero, List.set_cons_succ])
        refine wpAnyH_take (i := 80) (v := ?vv80) (by (simp only [List.getElem?_toArray, List.getElem?_cons_zero, List.getElem?_cons_succ]) <;> rfl) (by kernel_rfl) (by kernel_rfl) (by kernel_rfl) ?hq80 (Or.inl ⟨by rfl, ?hy80⟩) (by assumption) ?_
        case hq80 => exact fun _ _ _ h => h
        case hy80 => ((intro w hSw; (try dsimp only at hSw); go_simp) <;> (with_reducible rfl))
        (try simp only [Act.put, List.setIfInBounds_toArray, List.set_cons_zero, List.set_cons_succ])
        refine wpAnyH_take (i := 81) (v := ?vv81) (by (simp only [List.getElem?_toArray, List.getElem?_cons_zero, List.getElem?_cons_succ]) <;> rfl) (by kernel_rfl) (by kernel_rfl) (by kernel_rfl) ?hq81 (Or.inl ⟨by rfl, ?hy81⟩) (by assumption) ?_
        case hq81 => exact fun _ _ _ h => h
        case hy81 => ((intro w hSw; (try dsimp only at hSw); go_simp) <;> (with_reducible rfl))
        (try simp only [Act.put, List.setIfInBounds_toArray, List.set_cons_zero, List.set_cons_succ])
        refine wpAnyH_take (i := 82) (v := ?vv82) (by (simp only [List.getElem?_toArray, List.getElem?_cons_zero, List.getElem?_cons_succ]) <;> rfl) (by kernel_rfl) (by kernel_rfl) (by kernel_rfl) ?hq82 (Or.inl ⟨by rfl, ?hy82⟩) (by assumption) ?_
        case hq82 => exact fun _ _ _ h => h
        case hy82 => ((intro w hSw; (try dsimp only at hSw); go_simp) <;> (with_reducible rfl))
        (try simp only [Act.put, List.setIfInBounds_toArray, List.set_cons_zero, List.set_cons_succ])
        refine wpAnyH_take (i := 83) (v := ?vv83) (by (simp only [List.getElem?_toArray, List.getElem?_cons_zero, List.getElem?_cons_succ]) <;> rfl) (by kernel_rfl) (by kernel_rfl) (by kernel_rfl) ?hq83 (Or.inl ⟨by rfl, ?hy83⟩) (by assumption) ?_
        case hq83 => exact fun _ _ _ h => h
        case hy83 => ((intro w hSw; (try dsimp only at hSw); go_simp) <;> (with_reducible rfl))
        (try simp only [Act.put, List.setIfInBounds_toArray, List.set_cons_zero, List.set_cons_succ])
        refine wpAnyH_take (i := 84) (v := ?vv84) (by (simp only [List.getElem?_toArray, List.getElem?_cons_zero, List.getElem?_cons_succ]) <;> rfl) (by kernel_rfl) (by kernel_rfl) (by kernel_rfl) ?hq84 (Or.inl ⟨by rfl, ?hy84⟩) (by assumption) ?_
        case hq84 => exact fun _ _ _ h => h
        case hy84 => ((intro w hSw; (try dsimp only at hSw); go_simp) <;> (with_reducible rfl))
        (try simp only [Act.put, List.setIfInBounds_toArray, List.set_cons_zero, List.set_cons_succ])
        refine wpAnyH_take (i := 85) (v := ?vv85) (by (simp only [List.getElem?_toArray, List.getElem?_cons_zero, List.getElem?_cons_succ]) <;> rfl) (by kernel_rfl) (by kernel_rfl) (by kernel_rfl) ?hq85 (Or.inl ⟨by rfl, ?hy85⟩) (by assumption) ?_
        case hq85 => exact fun _ _ _ h => h
        case hy85 => ((intro w hSw; (try dsimp only at hSw); go_simp) <;> (with_reducible rfl))
        (try simp only [Act.put, List.setIfInBounds_toArray, List.set_cons_zero, List.set_cons_succ])
        refine wpAnyH_take (i := 86) (v := ?vv86) (by (simp only [List.getElem?_toArray, List.getElem?_cons_zero, List.getElem?_cons_succ]) <;> rfl) (by kernel_rfl) (by kernel_rfl) (by kernel_rfl) ?hq86 (Or.inl ⟨by rfl, ?hy86⟩) (by assumption) ?_
        case hq86 => exact fun _ _ _ h => h
        case hy86 => ((intro w hSw; (try dsimp only at hSw); go_simp) <;> (with_reducible rfl))
        (try simp only [Act.put, List.setIfInBounds_toArray, List.set_cons_zero, List.set_cons_succ])
        refine wpAnyH_take (i := 87) (v := ?vv87) (by (simp only [List.getElem?_toArray, List.getElem?_cons_zero, List.getElem?_cons_succ]) <;> rfl) (by kernel_rfl) (by kernel_rfl) (by kernel_rfl) ?hq87 (Or.inl ⟨by rfl, ?hy87⟩) (by assumption) ?_
        case hq87 => exact fun _ _ _ h => h
        case hy87 => ((intro w hSw; (try dsimp only at hSw); go_simp) <;> (with_reducible rfl))
        (try simp only [Act.put, List.setIfInBounds_toArray, List.set_cons_zero, List.set_cons_succ])
        refine wpAnyH_take (i := 88) (v := ?vv88) (by (simp only [List.getElem?_toArray, List.getElem?_cons_zero, List.getElem?_cons_succ]) <;> rfl) (by kernel_rfl) (by kernel_rfl) (by kernel_rfl) ?hq88 (Or.inl ⟨by rfl, ?hy88⟩) (by assumption) ?_
        case hq88 => exact fun _ _ _ h => h
        case hy88 => ((intro w hSw; (try dsimp only at hSw); go_simp) <;> (with_reducible rfl))
        (try simp only [Act.put, List.setIfInBounds_toArray, List.set_cons_zero, List.set_cons_succ])
        refine wpAnyH_take (i := 89) (v := ?vv89) (by (simp only [List.getElem?_toArray, List.getElem?_cons_zero, List.getElem?_cons_succ]) <;> rfl) (by kernel_rfl) (by kernel_rfl) (by kernel_rfl) ?hq89 (Or.inl ⟨by rfl, ?hy89⟩) (by assumption) ?_
        case hq89 => exact fun _ _ _ h => h
        case hy89 => ((intro w hSw; (try dsimp only at hSw); go_simp) <;> (with_reducible rfl))
        (try simp only [Act.put, List.setIfInBounds_toArray, List.set_cons_zero, List.set_cons_succ])
        refine wpAnyH_ready (rs := [90]) (by kernel_rfl) (by simp) ?_
        refine AllReadyH.cons (by (simp only [List.getElem?_toArray, List.getElem?_cons_zero, List.getElem?_cons_succ]) <;> rfl) (fun K hK => ?_) AllReadyH.nil
        go_simp
        (go_at_call 44; (with_reducible refine (ab_valid (HA.out.next bb) (by decide) RV1.out (by decide) true (by decide +kernel)).mono ?_); rintro e wz ⟨rfl, hb⟩; replace bb := bl_trans bb hb; clear hb)
        (try go_wp2_with fail)
        refine hK.out _ _ ?_ (fun hHeld => ?_)
        · (try dsimp only)
          with_reducible exact SS.out _ bb
        (try clear hK K)
        (try simp only [Act.put, List.setIfInBounds_toArray, List.set_cons_zero, List.set_cons_succ])
        refine wpAnyH_take (i := 91) (v := ?vv91) (by (simp only [List.getElem?_toArray, List.getElem?_cons_zero, List.getElem?_cons_succ]) <;> rfl) (by kernel_rfl) (by kernel_rfl) (by kernel_rfl) ?hq91 (Or.inl ⟨by rfl, ?hy91⟩) (by assumption) ?_
        case hq91 => exact fun _ _ _ h => h
        case hy91 => ((intro w hSw; (try dsimp only at hSw); go_simp) <;> (with_reducible rfl))
        (try simp only [Act.put, List.setIfInBounds_toArray, List.set_cons_zero, List.set_cons_succ])
        refine wpAnyH_take (i := 92) (v := ?vv92) (by (simp only [List.getElem?_toArray, List.getElem?_cons_zero, List.getElem?_cons_succ]) <;> rfl) (by kernel_rfl) (by kernel_rfl) (by kernel_rfl) ?hq92 (Or.inl ⟨by rfl, ?hy92⟩) (by assumption) ?_
        case hq92 => exact fun _ _ _ h => h
        case hy92 => ((intro w hSw; (try dsimp only at hSw); go_simp) <;> (with_reducible rfl))
        (try simp only [Act.put, List.setIfInBounds_toArray, List.set_cons_zero, List.set_cons_succ])
        refine wpAnyH_ready (rs := [93]) (by kernel_rfl) (by simp) ?_
        refine AllReadyH.cons (by (simp only [List.getElem?_toArray, List.getElem?_cons_zero, List.getElem?_cons_succ]) <;> rfl) (fun K hK => ?_) AllReadyH.nil
        go_simp
        (go_at_call 82; (with_reducible refine (S21.out _).mono ?_); rintro e wz ⟨Ax, kx, lx, cx, rfl, mx, vx, px, tx, ox, zx, hb, wx, yx⟩; have VN := valid_sum 1 (by decide) Ax lx kx cx 0 0 wz px tx (fun p hp => (ox p hp).few) zx.few (by have := congrArg List.length mx; simp at this; omega) false (by rw [mx]; have : formB 1 [((2 : Rat), (3 : Int))] = false := (by decide +kernel); rw [this, Bool.and_false]); unfold atomV at VN; replace VN := hide VN; replace bb := bl_trans bb hb; clear hb mx vx px tx ox zx wx yx)
        (try go_wp2_with fail)
        refine hK.out _ _ ?_ (fun hHeld => ?_)
        · (try dsimp only)
          with_reducible exact SS.out _ bb
        (try clear hK K)
        (try simp only [Act.put, List.setIfInBounds_toArray, List.set_cons_zero, List.set_cons_succ])
        as_aux_lemma =>
          refine wpAnyH_take (i := 94) (v := ?vv94) (by (simp only [List.getElem?_toArray, List.getElem?_cons_zero, List.getElem?_cons_succ]) <;> rfl) (by kernel_rfl) (by kernel_rfl) (by kernel_rfl) ?hq94 (Or.inl ⟨by rfl, ?hy94⟩) (by assumption) ?_
          case hq94 => exact fun _ _ _ h => h
          case hy94 => ((intro w hSw; (try dsimp only at hSw); go_simp) <;> (with_reducible rfl))
          (try simp only [Act.put, List.setIfInBounds_toArray, List.set_cons_zero, List.set_cons_succ])
          refine wpAnyH_ready (rs := [95]) (by kernel_rfl) (by simp) ?_
          refine AllReadyH.cons (by (simp only [List.getElem?_toArray, List.getElem?_cons_zero, List.getElem?_cons_succ]) <;> rfl) (fun K hK => ?_) AllReadyH.nil
          go_simp
          (go_at_call 44; (with_reducible refine (VN.out).mono ?_); rintro e wz ⟨rfl, hb⟩; replace bb := bl_trans bb hb; clear hb VN)
          (try go_wp2_with fail)
          refine hK.out _ _ ?_ (fun hHeld => ?_)
          · (try dsimp only)
            with_reducible exact SS.out _ bb
          (try clear hK K)
          (try simp only [Act.put, List.setIfInBounds_toArray, List.set_cons_zero, List.set_cons_succ])
          refine wpAnyH_take (i := 96) (v := ?vv96) (by (simp only [List.getElem?_toArray, List.getElem?_cons_zero, List.getElem?_cons_succ]) <;> rfl) (by kernel_rfl) (by kernel_rfl) (by kernel_rfl) ?hq96 (Or.inl ⟨by rfl, ?hy96⟩) (by assumption) ?_
          case hq96 => exact fun _ _ _ h => h
          case hy96 => ((intro w hSw; (try dsimp only at hSw); go_simp) <;> (with_reducible rfl))
          (try simp only [Act.put, List.setIfInBounds_toArray, List.set_cons_zero, List.set_cons_succ])
          refine wpAnyH_take (i := 97) (v := ?vv97) (by (simp only [List.getElem?_toArray, List.getElem?_cons_zero, List.getElem?_cons_succ]) <;> rfl) (by kernel_rfl) (by kernel_rfl) (by kernel_rfl) ?hq97 (Or.inl ⟨by rfl, ?hy97⟩) (by assumption) ?_
          case hq97 => exact fun _ _ _ h => h
          case hy97 => ((intro w hSw; (try dsimp only at hSw); go_simp) <;> (with_reducible rfl))
          (try simp only [Act.put, List.setIfInBounds_toArray, List.set_cons_zero, List.set_cons_succ])
          refine wpAnyH_take (i := 98) (v := ?vv98) (by (simp only [List.getElem?_toArray, List.getElem?_cons_zero, List.getElem?_cons_succ]) <;> rfl) (by kernel_rfl) (by kernel_rfl) (by kernel_rfl) ?hq98 (Or.inl ⟨by rfl, ?hy98⟩) (by assumption) ?_
          case hq98 => exact fun _ _ _ h => h
          case hy98 => ((intro w hSw; (try dsimp only at hSw); go_simp) <;> (with_reducible rfl))
          (try simp only [Act.put, List.setIfInBounds_toArray, List.set_cons_zero, List.set_cons_succ])
          refine wpAnyH_take (i := 99) (v := ?vv99) (by (simp only [List.getElem?_toArray, List.getElem?_cons_zero, List.getElem?_cons_succ]) <;> rfl) (by kernel_rfl) (by kernel_rfl) (by kernel_rfl) ?hq99 (Or.inl ⟨by rfl, ?hy99⟩) (by assumption) ?_
          case hq99 => exact fun _ _ _ h => h
          case hy99 => ((intro w hSw; (try dsimp only at hSw); go_simp) <;> (with_reducible rfl))
          (try simp only [Act.put, List.setIfInBounds_toArray, List.set_cons_zero, List.set_cons_succ])
          refine wpAnyH_take (i := 100) (v := ?vv100) (by (simp only [List.getElem?_toArray, List.getElem?_cons_zero, List.getElem?_cons_succ]) <;> rfl) (by kernel_rfl) (by kernel_rfl) (by kernel_rfl) ?hq100 (Or.inl ⟨by rfl, ?hy100⟩) (by assumption) ?_
          case hq100 => exact fun _ _ _ h => h
          case hy100 => ((intro w hSw; (try dsimp only at hSw); go_simp) <;> (with_reducible rfl))
          (try simp only [Act.put, List.setIfInBounds_toArray, List.set_cons_zero, List.set_cons_succ])
          refine wpAnyH_ready (rs := [101]) (by kernel_rfl) (by simp) ?_
          refine AllReadyH.cons (by (simp only [List.getElem?_toArray, List.getElem?_cons_zero, List.getElem?_cons_succ]) <;> rfl) (fun K hK => ?_) AllReadyH.nil
          go_simp
          (go_at_call 47; (with_reducible refine (ab_same (HA.out.next bb) (HA.out.next bb) (by decide) (by decide) true (by decide)).mono ?_); rintro e wz ⟨rfl, hb⟩; replace bb := bl_trans bb hb; clear hb)
          (try go_wp2_with fail)
          refine hK.out _ _ ?_ (fun hHeld => ?_)
          · (try dsimp only)
            with_reducible exact SS.out _ bb
          (try clear hK K)
          (try simp only [Act.put, List.setIfInBounds_toArray, List.set_cons_zero, List.set_cons_succ])
          as_aux_lemma =>
            refine wpAnyH_take (i := 102) (v := ?vv102) (by (simp only [List.getElem?_toArray, List.getElem?_cons_zero, List.getElem?_cons_succ]) <;> rfl) (by kernel_rfl) (by kernel_rfl) (by kernel_rfl) ?hq102 (Or.inl ⟨by rfl, ?hy102⟩) (by assumption) ?_
            case hq102 => exact fun _ _ _ h => h
            case hy102 => ((intro w hSw; (try dsimp only at hSw); go_simp) <;> (with_reducible rfl))
            (try simp only [Act.put, List.setIfInBounds_toArray, List.set_cons_zero, List.set_cons_succ])
            refine wpAnyH_take (i := 103) (v := ?vv103) (by (simp only [List.getElem?_toArray, List.getElem?_cons_zero, List.getElem?_cons_succ]) <;> rfl) (by kernel_rfl) (by kernel_rfl) (by kernel_rfl) ?hq103 (Or.inl ⟨by rfl, ?hy103⟩) (by assumption) ?_
            case hq103 => exact fun _ _ _ h => h
            case hy103 => ((intro w hSw; (try dsimp only at hSw); go_simp) <;> (with_reducible rfl))
            (try simp only [Act.put, List.setIfInBounds_toArray, List.set_cons_zero, List.set_cons_succ])
            refine wpAnyH_take (i := 104) (v := ?vv104) (by (simp only [List.getElem?_toArray, List.getElem?_cons_zero, List.getElem?_cons_succ]) <;> rfl) (by kernel_rfl) (by kernel_rfl) (by kernel_rfl) ?hq104 (Or.inl ⟨by rfl, ?hy104⟩) (by assumption) ?_
            case hq104 => exact fun _ _ _ h => h
            case hy104 => ((intro w hSw; (try dsimp only at hSw); go_simp) <;> (with_reducible rfl))
            (try simp only [Act.put, List.setIfInBounds_toArray, List.set_cons_zero, List.set_cons_succ])
            refine wpAnyH_take (i := 105) (v := ?vv105) (by (simp only [List.getElem?_toArray, List.getElem?_cons_zero, List.getElem?_cons_succ]) <;> rfl) (by kernel_rfl) (by kernel_rfl) (by kernel_rfl) ?hq105 (Or.inl ⟨by rfl, ?hy105⟩) (by assumption) ?_
            case hq105 => exact fun _ _ _ h => h
            case hy105 => ((intro w hSw; (try dsimp only at hSw); go_simp) <;> (with_reducible rfl))
            (try simp only [Act.put, List.setIfInBounds_toArray, List.set_cons_zero, List.set_cons_succ])
            refine wpAnyH_ready (rs := [106]) (by kernel_rfl) (by simp) ?_
            refine AllReadyH.cons (by (simp only [List.getElem?_toArray, List.getElem?_cons_zero, List.getElem?_cons_succ]) <;> rfl) (fun K hK => ?_) AllReadyH.nil
            go_simp
            (go_at_call 47; (with_reducible refine (ab_same (HA.out.next bb) (HB.out.next bb) (by decide) (by decide) false (by decide)).mono ?_); rintro e wz ⟨rfl, hb⟩; replace bb := bl_trans bb hb; clear hb)
            (try go_wp2_with fail)
            refine hK.out _ _ ?_ (fun hHeld => ?_)
            · (try dsimp only)
              with_reducible exact SS.out _ bb
            (try clear hK K)
            (try simp only [Act.put, List.setIfInBounds_toArray, List.set_cons_zero, List.set_cons_succ])
            refine wpAnyH_take (i := 107) (v := ?vv107) (by (simp only [List.getElem?_toArray, List.getElem?_cons_zero, List.getElem?_cons_succ]) <;> rfl) (by kernel_rfl) (by kernel_rfl) (by kernel_rfl) ?hq107 (Or.inl ⟨by rfl, ?hy107⟩) (by assumption) ?_
            case hq107 => exact fun _ _ _ h => h
            case hy107 => ((intro w hSw; (try dsimp only at hSw); go_simp) <;> (with_reducible rfl))
            (try simp only [Act.put, List.setIfInBounds_toArray, List.set_cons_zero, List.set_cons_succ])
            refine wpAnyH_take (i := 108) (v := ?vv108) (by (simp only [List.getElem?_toArray, List.getElem?_cons_zero, List.getElem?_cons_succ]) <;> rfl) (by kernel_rfl) (by kernel_rfl) (by kernel_rfl) ?hq108 (Or.inl ⟨by rfl, ?hy108⟩) (by assumption) ?_
            case hq108 => exact fun _ _ _ h => h
            case hy108 => ((intro w hSw; (try dsimp only at hSw); go_simp) <;> (with_reducible rfl))
            (try simp only [Act.put, List.setIfInBounds_toArray, List.set_cons_zero, List.set_cons_succ])
            refine wpAnyH_take (i := 109) (v := ?vv109) (by (simp only [List.getElem?_toArray, List.getElem?_cons_zero, List.getElem?_cons_succ]) <;> rfl) (by kernel_rfl) (by kernel_rfl) (by kernel_rfl) ?hq109 (Or.inl ⟨by rfl, ?hy109⟩) (by assumption) ?_
            case hq109 => exact fun _ _ _ h => h
            case hy109 => ((intro w hSw; (try dsimp only at hSw); go_simp) <;> (with_reducible rfl))
            (try simp only [Act.put, List.setIfInBounds_toArray, List.set_cons_zero, List.set_cons_succ])
            refine wpAnyH_done (by kernel_rfl) ?_ _
            go_wp2_with fail
            go_ret
            exact ⟨rfl, bl_trans bw bb⟩
end Nt

end Go.Proofs.YtgimmmmpollkhaaGreat
