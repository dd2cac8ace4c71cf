/-
  The statement LinearSums: proved for every argument; no further condition.
-/
import Derived.Test.YtgimmmmpollkhaaGreatLZk
import Derived.Test.YtgimmmmpollkhaaGreatLZw
namespace Go.Proofs.YtgimmmmpollkhaaGreat
open Go.ChangeShapes Go.WideShapes Go.ChangeAt Go.RowKit
open Go.ChangeMaps (open_string shut_string)
namespace Nt.linearSums

set_option maxRecDepth 100000 in
theorem contract (H : Type) (enc : TypeId × Value → H) (W : World) (base : Nat) (args : Array Value) (ds gs : List (DataW H)) (before : List MemPlace)
    (hval : ∀ (j : Nat) t v, Tryz.f3.params[j]? = some t → args[j]? = some v → Value.okWide Tryz.prog W .any base t v)
    (hW : DataW.Whole enc Tryz.prog Tryz.f3.params.toList Rows.linearSumsSpec.vars false W args.toList ds gs before) :
    Calls Tryz.prog 3 args W fun e W' => ∃ v, e = .returned v ∧ Rows.linearSumsSpec.post enc Tryz.prog Tryz.f3 false true false false W args v W' := by
  have hW' := hW
  obtain ⟨p, q, hA0, hV, rfl, hfz, hnd⟩ := hW
  have hA : DataW.TrodAll enc Tryz.prog W 0 (fun _ => true) true Tryz.f3.params.toList args.toList ds p := hA0
  rw [Tryz.params3] at hA hval
  obtain ⟨v0, vs0, d0, ds0, p0, q0, hargs, rfl, rfl, h0, r0⟩ := trodAll_cons hA
  obtain ⟨v1, vs1, d1, ds1, p1, q1, rfl, rfl, rfl, h1, r1⟩ := trodAll_cons r0
  obtain ⟨v2, vs2, d2, ds2, p2, q2, rfl, rfl, rfl, h2, r2⟩ := trodAll_cons r1
  obtain ⟨v3, vs3, d3, ds3, p3, q3, rfl, rfl, rfl, h3, r3⟩ := trodAll_cons r2
  obtain ⟨v4, vs4, d4, ds4, p4, q4, rfl, rfl, rfl, h4, r4⟩ := trodAll_cons r3
  obtain ⟨rfl, rfl, rfl⟩ := trodAll_nil r4
  obtain rfl : args = #[v0, v1, v2, v3, v4] := by cases args; simp_all
  obtain ⟨rfl, rfl⟩ := trodVars_none hV
  obtain ⟨A0, k0, l0, c0, rfl, s0, a0, j0, i0, m0, u0, g0⟩ := arg_poly (hval 0 27 v0 rfl rfl) h0
  obtain ⟨A1, k1, l1, c1, rfl, s1, a1, j1, i1, m1, u1, g1⟩ := arg_poly (hval 1 27 v1 rfl rfl) h1
  obtain ⟨c2, rfl, a2, i2, g2⟩ := arg_ratP (hval 2 25 v2 rfl rfl) h2
  obtain ⟨n3, rfl, rfl, rfl, w3⟩ := open_int Tryz.underlying3 (hval 3 3 v3 rfl rfl) h3
  obtain ⟨A4, k4, l4, rfl, s4, i4, m4, u4, g4⟩ := arg_binds8 (hval 4 28 v4 rfl rfl) h4
  clear hA0
  refine (lsums_law A0 A1 A4 l0 l1 l4 k0 k1 k4 c0 c1 c2 n3 W s0 s1 a0 a1 a2 s4 j0 j1 i0 i1 i2 i4 m0 u0 m1 u1 m4 u4).mono fun e W' ⟨he, hb⟩ => ?_
  subst he
  exact ⟨_, rfl, law_post (before := _) hW' hb (fun sp hsp => by
    have t : DataW.TrodAll enc Tryz.prog W' 0 sp true [27, 27, 25, 3, 28] [polyV A0 l0.length k0 c0, polyV A1 l1.length k1 c1, rv c2, .int .i64 n3, .slice A4 l4.length k4] [d0, d1, d2, .lit (.int .i64 n3), d4] _ := (trodAll_cons_mk (g0 W' hb sp (fun x hx => hsp x (by simp [hx]))) (trodAll_cons_mk (g1 W' hb sp (fun x hx => hsp x (by simp [hx]))) (trodAll_cons_mk (g2 W' hb sp (fun x hx => hsp x (by simp [hx]))) (trodAll_cons_mk (shut_int Tryz.underlying3 w3) (trodAll_cons_mk (g4 W' hb sp (fun x hx => hsp x (by simp [hx]))) trodAll_mk0)))))
    simp only [List.append_nil] at t ⊢
    exact t) (fun _ => rfl) (fun _ _ _ => trodAll_cons_mk (shut_bool Tryz.underlying4 _) trodAll_mk0) (ok_one (by kernel_rfl) rfl (okWide_bool_mk Tryz.underlying4 _))⟩

theorem reads (os : Os) {H : Type} (enc : TypeId × Value → H) : ∃ places, DataW.whole enc Tryz.prog ((lw os).forCall (fun _ _ => 0) ⟨#[], #[.agg #[.slice none 0 0, .bool false, .slice none 0 0, .slice none 0 0], .agg #[.slice none 0 0, .bool false, .slice none 0 0, .slice none 0 0], .agg #[.bool false, .slice none 0 0, .slice none 0 0], .int .i64 0, .slice none 0 0], []⟩).memory Tryz.f3.params.toList Rows.linearSumsSpec.vars false #[Value.agg #[.slice none 0 0, .bool false, .slice none 0 0, .slice none 0 0], Value.agg #[.slice none 0 0, .bool false, .slice none 0 0, .slice none 0 0], Value.agg #[.bool false, .slice none 0 0, .slice none 0 0], Value.int .i64 0, Value.slice none 0 0].toList 8 = some ([.agg [.nil, .agg [.lit (.bool false), .nil, .nil]], .agg [.nil, .agg [.lit (.bool false), .nil, .nil]], .agg [.lit (.bool false), .nil, .nil], .lit (.int .i64 0), .nil], [], places) :=
  ⟨[], by kernel_rfl⟩

set_option maxRecDepth 100000 in
theorem lifted (os : Os) (started : os.Started) (H : Type) (enc : TypeId × Value → H) (F : Stop.Interp) :
    ReturnsInHanded {} Tryz.checked os 3 .any ((OpenSpec.ofChange Rows.linearSumsSpec).preRow enc Tryz.prog Tryz.f3 Rows.linearSumsRow.domain false Rows.linearSumsRow.laid) (((OpenSpec.ofChange Rows.linearSumsSpec).at F).post enc Tryz.prog Tryz.f3 false true false false) := by
  obtain ⟨places, hx⟩ := reads os enc
  refine returnsInHanded_of_row (C := Tryz.checked) (s := OpenSpec.ofChange Rows.linearSumsSpec) own started (by kernel_rfl) Tryz.func3
    (witness_row_at (enc := enc) (C := Tryz.checked) false (lw os) #[.agg #[.slice none 0 0, .bool false, .slice none 0 0, .slice none 0 0], .agg #[.slice none 0 0, .bool false, .slice none 0 0, .slice none 0 0], .agg #[.bool false, .slice none 0 0, .slice none 0 0], .int .i64 0, .slice none 0 0] rfl (by kernel_rfl) (by kernel_rfl) (by kernel_rfl)
      (OpenSpec.preRow_of_cond 8 hx (by kernel_rfl) (fun k hk => by cases hk) (by kernel_rfl) (lw_met os _))) ?_
  intro W base args ds gs before hval hW _ _ _ _ _ _
  exact contract H enc W base args ds gs before hval hW

theorem said : Rows.LinearSumsSaid :=
  OpenClaim.holds_of_cond 3 Tryz.f3 rfl rfl rfl rfl rfl rfl rfl ⟨rfl, rfl, rfl, rfl, rfl⟩ rfl rfl rfl rfl rfl (by kernel_rfl) Tryz.func3 (by kernel_rfl)
    (of_decide_eq_true (by kernel_rfl)) (by unfold Func.isWrapper; first | (rw [if_pos (by decide +kernel)]; kernel_rfl) | (rw [if_neg (by decide +kernel)]; exact ⟨rfl, rfl⟩))
    (fun os started H enc _ F => by rw [OpenClaim.pre_eq_preRow]; exact lifted os started H enc F)

end Nt.linearSums
theorem linearSums_said : Rows.LinearSumsSaid := Nt.linearSums.said
#print axioms linearSums_said
end Go.Proofs.YtgimmmmpollkhaaGreat
