
/-
  The statement RatOrder: proved for every argument that its row allows; condition: the row's listed tables hold what the program's text lays.
-/
import Derived.Test.YtofofabmidpbhaaGreatDoorRow

import Derived.Test.YtofofabmidpbhaaGreatDoorLawRatOrder

import Derived.Test.YtofofabmidpbhaaGreatDoorTable3

namespace Go.Proofs.YtofofabmidpbhaaGreatDoor

open Go.ChangeShapes Go.WideShapes Go.ChangeAt Go.RowKit

open Go.ChangeMaps (open_string shut_string)

namespace Nt.ratOrder

set_option maxRecDepth 100000 in
theorem contract (H : Type) (enc : TypeId × Value → H) (W : World) (base : Nat) (args : Array Value) (ds gs : List (DataW H)) (before : List MemPlace)
    (hval : ∀ (j : Nat) t v, Tryz.f6.params[j]? = some t → args[j]? = some v → Value.okWide Tryz.prog W .any base t v)
    (hW : DataW.Whole enc Tryz.prog Tryz.f6.params.toList Rows.ratOrderSpec.vars false W args.toList ds gs before) (hL : laidMetH Tryz.prog Rows.ratOrderRow.laid W) :
    Calls Tryz.prog 6 args W fun e W' => ∃ v, e = .returned v ∧ Rows.ratOrderSpec.post enc Tryz.prog Tryz.f6 false true false false W args v W' := by
  have hW' := hW
  obtain ⟨p, q, hA0, hV, rfl, hfz, hnd⟩ := hW
  have hA : DataW.TrodAll enc Tryz.prog W 0 (fun _ => true) true Tryz.f6.params.toList args.toList ds p := hA0
  rw [Tryz.params6] at hA hval
  obtain ⟨v0, vs0, d0, ds0, p0, q0, hargs, rfl, rfl, h0, r0⟩ := trodAll_cons hA
  obtain ⟨v1, vs1, d1, ds1, p1, q1, rfl, rfl, rfl, h1, r1⟩ := trodAll_cons r0
  obtain ⟨v2, vs2, d2, ds2, p2, q2, rfl, rfl, rfl, h2, r2⟩ := trodAll_cons r1
  obtain ⟨rfl, rfl, rfl⟩ := trodAll_nil r2
  obtain rfl : args = #[v0, v1, v2] := by cases args; simp_all
  obtain ⟨rfl, rfl⟩ := trodVars_none hV
  have ht := pow_laid hL
  obtain ⟨b0, A0, c0, B0, e0, xs0, ys0, rfl, s0, t0, l0, k0, m0, n0, g0⟩ := arg_rat (hval 0 24 v0 rfl rfl) h0
  obtain ⟨b1, A1, c1, B1, e1, xs1, ys1, rfl, s1, t1, l1, k1, m1, n1, g1⟩ := arg_rat (hval 1 24 v1 rfl rfl) h1
  obtain ⟨b2, A2, c2, B2, e2, xs2, ys2, rfl, s2, t2, l2, k2, m2, n2, g2⟩ := arg_rat (hval 2 24 v2 rfl rfl) h2
  clear hA0
  refine (rorder_law b0 A0 B0 c0 e0 xs0 ys0 b1 A1 B1 c1 e1 xs1 ys1 b2 A2 B2 c2 e2 xs2 ys2 W s0 t0 s1 t1 s2 t2 l0 k0 l1 k1 l2 k2 m0 n0 m1 n1 m2 n2 ht).mono fun e W' ⟨he, hb⟩ => ?_
  subst he
  exact ⟨_, rfl, law_post (before := _) hW' hb (fun sp hsp => by
    have t : DataW.TrodAll enc Tryz.prog W' 0 sp true [24, 24, 24] [.agg #[.bool b0, .slice A0 xs0.length c0, .slice B0 ys0.length e0], .agg #[.bool b1, .slice A1 xs1.length c1, .slice B1 ys1.length e1], .agg #[.bool b2, .slice A2 xs2.length c2, .slice B2 ys2.length e2]] [d0, d1, d2] _ := (trodAll_cons_mk (g0 W' hb sp (fun x hx => hsp x (by simp [hx]))) (trodAll_cons_mk (g1 W' hb sp (fun x hx => hsp x (by simp [hx]))) (trodAll_cons_mk (g2 W' hb sp (fun x hx => hsp x (by simp [hx]))) trodAll_mk0)))
    simp only [List.append_nil] at t ⊢
    exact t) (fun _ => rfl) (fun _ _ _ => trodAll_cons_mk (shut_bool Tryz.underlying4 _) trodAll_mk0) (ok_one (by kernel_rfl) rfl (okWide_bool_mk Tryz.underlying4 _))⟩

theorem reads (os : Os) {H : Type} (enc : TypeId × Value → H) : ∃ places, DataW.whole enc Tryz.prog ((lw os).forCall (fun _ _ => 0) ⟨#[], #[.agg #[.bool false, .slice none 0 0, .slice none 0 0], .agg #[.bool false, .slice none 0 0, .slice none 0 0], .agg #[.bool false, .slice none 0 0, .slice none 0 0]], []⟩).memory Tryz.f6.params.toList Rows.ratOrderSpec.vars false #[Value.agg #[.bool false, .slice none 0 0, .slice none 0 0], Value.agg #[.bool false, .slice none 0 0, .slice none 0 0], Value.agg #[.bool false, .slice none 0 0, .slice none 0 0]].toList 8 = some ([.agg [.lit (.bool false), .nil, .nil], .agg [.lit (.bool false), .nil, .nil], .agg [.lit (.bool false), .nil, .nil]], [], places) :=
  ⟨[], by kernel_rfl⟩

set_option maxRecDepth 100000 in
theorem lifted (os : Os) (started : os.Started) (H : Type) (enc : TypeId × Value → H) (F : Stop.Interp) :
    ReturnsInHanded {} Tryz.checked os 6 .any ((OpenSpec.ofChange Rows.ratOrderSpec).preRow enc Tryz.prog Tryz.f6 Rows.ratOrderRow.domain false Rows.ratOrderRow.laid) (((OpenSpec.ofChange Rows.ratOrderSpec).at F).post enc Tryz.prog Tryz.f6 false true false false) := by
  obtain ⟨places, hx⟩ := reads os enc
  refine returnsInHanded_of_row (C := Tryz.checked) (s := OpenSpec.ofChange Rows.ratOrderSpec) own started (by kernel_rfl) Tryz.func6
    (witness_row_at (enc := enc) (C := Tryz.checked) false (lw os) #[.agg #[.bool false, .slice none 0 0, .slice none 0 0], .agg #[.bool false, .slice none 0 0, .slice none 0 0], .agg #[.bool false, .slice none 0 0, .slice none 0 0]] rfl (by kernel_rfl) (by kernel_rfl) (by kernel_rfl)
      (OpenSpec.preRow_of_cond 8 hx (by kernel_rfl) (fun k hk => by cases hk) (by kernel_rfl) (lw_met os _))) ?_
  intro W base args ds gs before hval hW _ _ _ hL _ _
  exact contract H enc W base args ds gs before hval hW hL

theorem said : Rows.RatOrderSaid :=
  OpenClaim.holds_of_cond 6 Tryz.f6 rfl rfl rfl rfl rfl rfl rfl ⟨rfl, rfl, rfl, rfl, rfl⟩ rfl rfl rfl rfl rfl (by kernel_rfl) Tryz.func6 (by kernel_rfl)
    (of_decide_eq_true (by kernel_rfl)) (by unfold Func.isWrapper; first | (rw [if_pos (by decide +kernel)]; kernel_rfl) | (rw [if_neg (by decide +kernel)]; exact ⟨rfl, rfl⟩))
    (fun os started H enc _ F => by rw [OpenClaim.pre_eq_preRow]; exact lifted os started H enc F)

theorem plain (f : FuncId) (fn : Func) (hf : Tryz.pinned.checked.prog.funcNamed "theodolite/theodolitelaw3.RatOrder" = some f) (hfn : Tryz.pinned.checked.prog.funcs[f]? = some fn) :
    false = Tryz.pinned.checked.prog.looks [] ∧ ∀ (j : Nat) t, fn.params[j]? = some t → Tryz.pinned.checked.prog.wantsStandIn t = false := by
  obtain rfl : f = 6 := Option.some.inj ((show Tryz.prog.funcNamed "theodolite/theodolitelaw3.RatOrder" = some 6 by kernel_rfl).symm.trans hf) |>.symm
  obtain rfl : fn = Tryz.f6 := (Option.some.inj (Tryz.func6.symm.trans hfn)).symm
  refine ⟨by kernel_rfl, fun j t ht => ?_⟩
  rw [Tryz.params6] at ht
  have hm : t ∈ [24, 24, 24] := by simpa using Array.mem_of_getElem? ht
  have hall : ([24, 24, 24].all fun u => !Tryz.prog.wantsStandIn u) = true := by kernel_rfl
  exact (show Tryz.prog.wantsStandIn t = false by simpa using List.all_eq_true.1 hall t hm)

/-- The statement's card. -/
theorem card : Rows.RatOrderCardSaid :=
  Claim7.holds_tied_plain_at .later [] _ _ _ _ said (fun _ h => by cases h) (by kernel_rfl) (fun _ h => by cases h) ratOrder_row_tie rfl ⟨rfl, rfl⟩ (by kernel_rfl) rfl plain (by kernel_rfl)
end Nt.ratOrder
theorem ratOrder_card : Rows.RatOrderCardSaid := Nt.ratOrder.card
#print axioms ratOrder_card
end Go.Proofs.YtofofabmidpbhaaGreatDoor
