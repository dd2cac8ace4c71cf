/-
  All functions of a table: the call.
-/
import Derived.Test.YtlcgdiciiibeeaaTw
namespace Go.Proofs.Ytlcgdiciiibeeaa
open Go.ChangeShapes Go.RowKit Go.Lib Go.Sort
namespace Nt
set_option maxRecDepth 100000
variable {X : List Nat}
set_option linter.unusedSimpArgs false
set_option linter.unusedVariables false

theorem TbP.below {w w' : World} {p : Nat} {T : List Nat} {N lv : Nat} {so fu : List (ByteArray × Nat)} {ty : List Fn} {v1 : Value} {m1 : Option Nat} {v2 : Value} {m2 : Option Nat} {v3 : Value} (h : TbP X w p T N lv so fu ty v1 m1 v2 m2 v3) (hb : Below w.heap.size w w') : TbP X w' p T N lv so fu ty v1 m1 v2 m2 v3 := h.off (S := []) (.of_below hb [])
theorem Tb.below {w w' : World} {p : Nat} {T : List Nat} {N lv : Nat} {so fu : List (ByteArray × Nat)} {ty : List Fn} (h : Tb X w p T N lv so fu ty) (hb : Below w.heap.size w w') : Tb X w' p T N lv so fu ty := by
  obtain ⟨⟨v1, m1, v2, m2, v3, h⟩, hn⟩ := h
  exact ⟨⟨v1, m1, v2, m2, v3, h.below hb⟩, hn⟩

set_option maxHeartbeats 2000000 in
theorem funs_some (p : Nat) (T : List Nat) (N lv : Nat) (so fu : List (ByteArray × Nat)) (ty : List Fn) (v1 : Value) (m1 : Option Nat) (v2 : Value) (m2 : Option Nat) (A : Option Addr) (cap : Nat) (w : World) (h : TbP X w p T N lv so fu ty v1 m1 v2 m2 (.slice A ty.length cap)) (hn : ty.length ≤ 1000000) :
    Calls Try.prog 25 #[.pointer (some ⟨p, 0, none⟩)] w fun e w' => ∃ g c, e = .returned (.slice (some ⟨g, 0, none⟩) ty.length c) ∧ w.heap.size ≤ g ∧ (∃ l : List Fn, l.Perm ty ∧ l.Pairwise (fun f h => ¬ h.nm.data.toList < f.nm.data.toList) ∧ FunsAt w' g l) ∧ Below w.heap.size w w' := by
  obtain ⟨B, hBs⟩ : ∃ B, B = w.heap.size := ⟨_, rfl⟩
  have a5 : w.cell? ⟨p, 5, none⟩ = some (.slice A ty.length cap) := h.bk.cell rfl
  obtain ⟨i, hinf, hz, h1, h8⟩ := info_parts (P := Try.prog) (e := 35) (z := .agg #[.string ⟨#[]⟩, .slice none 0 0, .int .i64 0]) (size := 3) (bytes := 48) (by kernel_rfl)
  obtain ⟨W0, hmk, hrow0, hg0⟩ := run_make_own (P := Try.prog) w w.heap.size 29 35 i (.agg #[.string ⟨#[]⟩, .slice none 0 0, .int .i64 0]) 3 Try.underlying29 hinf hz h1 .i64 .i64 ty.length (by rw [h8]; omega) (by unfold maxLen; omega) (Nat.le_refl _)
  have hb0 : Below w.heap.size w W0 := (Off.of_grown (T := []) hg0 (by simp)).below (Nat.le_refl _) (by simp)
  have hM0 : Made B W0 (.slice (some ⟨w.heap.size, 0, none⟩) 0 ty.length) [] := ⟨[], rfl, by rw [hBs]; exact hrow0, ⟨_, rfl⟩, by simp⟩
  have a5' : W0.cell? ⟨p, 5, none⟩ = some (.slice A ty.length cap) := (h.below hb0).bk.cell rfl
  have hrd : ∀ wr, Below B w wr → ∀ k (hk : k < ty.length), ∃ gt A' c', A = some ⟨gt, 0, none⟩ ∧ wr.cell? ⟨gt, k * 3, none⟩ = some (.string ty[k].nm) ∧ wr.cell? ⟨gt, k * 3 + 1, none⟩ = some (.slice A' ty[k].ar.length c') ∧ wr.cell? ⟨gt, k * 3 + 2, none⟩ = some (.int .i64 ty[k].rs) ∧ Ir (T ++ X) wr A' ty[k].ar ∧ ty[k].ar.length ≤ 64 := by
    intro wr hb k hk
    have h' := h.below (w' := wr) (by rw [← hBs]; exact hb)
    obtain ⟨xs, hrow, hF⟩ := h'.tS
    obtain ⟨A', c', q0, q1, q2, q3, q4⟩ := Fs.get hF k hk
    rcases hrow.2 with ⟨e, h0⟩ | ⟨g, cap, cu, e, _⟩
    · omega
    cases e
    have r0 := hrow.cells (g := g) rfl _ _ q0
    have r1 := hrow.cells (g := g) rfl _ _ q1
    have r2 := hrow.cells (g := g) rfl _ _ q2
    rw [Addr.add_lit, Nat.zero_add] at r0 r1 r2
    exact ⟨g, A', c', rfl, r0, r1, r2, q3, q4⟩
  obtain ⟨n, hnn⟩ : ∃ n, n = ty.length := ⟨_, rfl⟩
  rw [← hBs] at hmk hM0
  have hM0 := hide hM0
  have hb0 : Hid (Below B w W0) := by rw [hBs]; exact hb0
  replace hrd := hide hrd
  rw [← hnn] at a5 a5' hmk hM0
  have hn' : n ≤ 1000000 := by omega
  replace hnn := hide hnn
  replace hBs := hide hBs
  clear h hrow0 hg0 hinf hz h1 h8 hn
  go_enter Try.func25, Try.ntmps25
  go_wp2
  go_loopw [3, 19] (fun v i wr => ∃ k : Nat, k ≤ ty.length ∧ i = .int .i64 (k : Int) ∧ Made B wr v (ty.take k) ∧ Below B w wr) (fun _ i _ => n - (intOf i).toNat)
  case atStart => exact ⟨0, Nat.zero_le _, rfl, hM0.out, hb0.out⟩
  case round =>
    obtain ⟨k, hk, rfl, hM, hb⟩ := hrel
    by_cases hkl : k < ty.length
    · obtain ⟨gt, A', c', rfl, r0, r1, r2, q3, q4⟩ := hrd.out _ hb k hkl
      have hkn : k < n := by rw [hnn.out]; exact hkl
      have htk : ty.take (k + 1) = ty.take k ++ [⟨ty[k].nm, ty[k].ar, ty[k].rs⟩] := by rw [List.take_add_one, List.getElem?_eq_getElem hkl]; rfl
      have htl : (ty.take k).length ≤ 1000000 := by rw [List.length_take]; omega
      replace htk := hide htk
      obtain ⟨W, hW⟩ : ∃ W, W = wr.alloc (.cells #[.string ty[k].nm, .slice A' ty[k].ar.length c', .int .i64 ty[k].rs] 35) := ⟨_, rfl⟩
      have hbW : Below wr.heap.size wr W := by rw [hW]; exact (Below.refl _ _).alloc (Nat.le_refl _) _
      have hMW := hM.next hbW
      have hX : Bk wr.heap.size #[.string ty[k].nm, .slice A' ty[k].ar.length c', .int .i64 ty[k].rs] 35 W := by rw [hW]; exact Bk.new _ _ _
      have hown := own_any ty[k].nm A' ty[k].ar c' ty[k].rs [] W (q3.off (Off.of_below hbW []) (by simp) (by simp)) (by omega)
      have hBw : B ≤ W.heap.size := by have := hb.size; have := hbW.size; have := hBs.out; omega
      have hstep := fun (w1 : World) (A2 : Option Addr) (c2 : Nat) (hI : ∀ S : List Nat, (∀ b ∈ S, b < W.heap.size) → Ir S w1 A2 ty[k].ar) (hb1 : Below W.heap.size W w1) => made_step ty[k].nm ty[k].ar ty[k].rs A2 c2 hMW hBw hb1 hI htl q4
      have hbWW : Below B w W := hb.trans (hbW.mono (by have := hb.size; have := hBs.out; omega))
      replace hstep := hide hstep
      replace hbWW := hide hbWW
      replace hown := hide hown
      have e0 : W.cell? ⟨wr.heap.size, 0, none⟩ = some (.string ty[k].nm) := hX.cell rfl
      have e1 : W.cell? ⟨wr.heap.size, 1, none⟩ = some (.slice A' ty[k].ar.length c') := hX.cell rfl
      have e2 : W.cell? ⟨wr.heap.size, 2, none⟩ = some (.int .i64 ty[k].rs) := hX.cell rfl
      replace hW := hide hW
      generalize ty[k].nm = nm at *
      generalize ty[k].rs = rs at *
      generalize ty[k].ar = ar at *
      clear hM hb hMW hX hbW q3 hkl hBw
      go_wp2_with first
        | (go_at_call 38; rw [← hW.out]; (with_reducible refine hown.out.mono ?_); rintro e w1 ⟨A2, c2, rfl, hI, hb1⟩; obtain ⟨v', w2, hrun, hM2, hb2⟩ := hstep.out w1 A2 c2 hI hb1; have hfin := hide (And.intro hM2 (hbWW.out.trans hb2)); clear hI hb1 hM2 hb2)
        | (at_builtin; refine wpList_append_run _ rfl _ _ _ rfl _ _ _ _ rfl rfl hrun ?_)
      go_roundw
      all_goals (try simp only [Array.getD_eq_getD_getElem?, List.getElem?_toArray, List.getElem?_cons_succ, List.getElem?_cons_zero, Option.getD_some])
      case rel => exact ⟨k + 1, by rw [← hnn.out]; omega, by go_num, by rw [htk.out]; exact hfin.out.1, hfin.out.2⟩
      case measure => simp [intOf]; omega
    · have hkn : k = ty.length := by omega
      subst hkn
      rw [List.take_length] at hM
      obtain ⟨g, cp, rfl, hBg, hsort⟩ := made_sorted hM (by rw [← hnn.out]; exact hn')
      rw [← hnn.out] at hsort ⊢
      have hb' := hide hb
      clear hM hb hkl hk
      go_wp2_with (go_at_call 43; (with_reducible refine hsort.mono ?_); rintro e w' ⟨rfl, l, hp, hso, hF, hO⟩)
      go_ret
      exact ⟨g, cp, by rw [← hnn.out]; rfl, by rw [← hBs.out]; exact hBg, ⟨l, hp, hso, hF⟩, by rw [← hBs.out]; exact hb'.out.trans (hO.below (by have := hb'.out.size; rw [hBs.out]; exact this) (by intro b hb; simp at hb; omega))⟩

/-- All functions of a table. -/
theorem funs_any (p : Nat) (T : List Nat) (N lv : Nat) (so fu : List (ByteArray × Nat)) (ty : List Fn) (w : World) (h : Tb X w p T N lv so fu ty) (hN : N ≤ 1000000) :
    Calls Try.prog 25 #[.pointer (some ⟨p, 0, none⟩)] w fun e w' => ∃ g c, e = .returned (.slice (some ⟨g, 0, none⟩) ty.length c) ∧ w.heap.size ≤ g ∧ (∃ l : List Fn, l.Perm ty ∧ l.Pairwise (fun f h => ¬ h.nm.data.toList < f.nm.data.toList) ∧ FunsAt w' g l) ∧ Below w.heap.size w w' := by
  obtain ⟨⟨v1, m1, v2, m2, v3, h⟩, hnames⟩ := h
  have hn : ty.length ≤ 1000000 := by
    have := congrArg List.length hnames
    simp only [List.length_map] at this
    have := h.fS.le
    omega
  obtain ⟨xs, hx, hF⟩ := id h.tS
  have hform : ∃ A c, v3 = .slice A ty.length c := by
    rcases hx.2 with ⟨e, h⟩ | ⟨g, cap, cu, e, _⟩
    · exact ⟨none, 0, by rw [e, h]⟩
    · exact ⟨_, _, e⟩
  obtain ⟨A, c, rfl⟩ := hform
  exact funs_some p T N lv so fu ty v1 m1 v2 m2 A c w h hn
end Nt
end Go.Proofs.Ytlcgdiciiibeeaa
