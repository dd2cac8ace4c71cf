/-
  Levels are ended: the walk.
-/
import Derived.Test.YtlcgdiciiibeeaaTt
namespace Go.Proofs.Ytlcgdiciiibeeaa
open Go.ChangeShapes Go.RowKit
namespace Nt
set_option maxRecDepth 100000
variable {X : List Nat}
set_option linter.unusedSimpArgs false
set_option linter.unusedVariables false

theorem sub_i (t : TypeId) (x y z : Nat) (h : z + y = x) (hx : x ≤ 1000000) : binOp .sub t (.int .i64 (x : Int)) (.int .i64 (y : Int)) = pure (.int .i64 (z : Int)) := by
  have e : IntKind.i64.wrap ((x : Int) - (y : Int)) = (z : Int) := by rw [IntWalk.i64_in _ ⟨by omega, by omega⟩]; omega
  rw [← e]; rfl

set_option maxHeartbeats 2000000 in
theorem pop_none (p : Nat) (T : List Nat) (N lv n l : Nat) (so fu : List (ByteArray × Nat)) (ty : List Fn) (v1 : Value) (m1 : Option Nat) (v2 : Value) (m2 : Option Nat) (hnil : ty = []) (w : World) (h : TbP X w p T N lv so fu ty v1 m1 v2 m2 (.slice none 0 0)) (hN : N ≤ 1000000) (h1 : 1 ≤ n) (hl : l + n = lv) (hlv : lv ≤ 1000000)
    (hty : fu.length = ty.length) :
    Calls Try.prog 16 #[.pointer (some ⟨p, 0, none⟩), .int .i64 (n : Int)] w fun e w' => e = .returned (.int .i64 0) ∧ (∃ v1 m1 v2 m2 v3, TbP X w' p T N l (keepL l so) (keepL l fu) (ty.take (keepL l fu).length) v1 m1 v2 m2 v3) ∧ Off T w w' := by
  have a0 : w.cell? ⟨p, 0, none⟩ = some (.int .i64 (lv : Int)) := h.bk.cell rfl
  have f0 := h.bk.free 0
  have hlev := levels_any p lv w (h.bk.cell rfl)
  have hsub := sub_i 3 lv n l hl hlv
  have hg : decide (lv < n) = false := decide_eq_false (by omega)
  have hz : ((n : Int) == 0) = false := by simp; omega
  have hng : decide ((n : Int) < 0) = false := decide_eq_false (by omega)
  obtain ⟨t1, o1⟩ := tb_lv h l
  have pn : ∀ {w T N lv so fu ty v1 m1 v2 m2 v3}, TbP X w p T N lv so fu ty v1 m1 v2 m2 v3 → p ∉ bks v1 m1 ∧ p ∉ bks v2 m2 := by
    intro w T N lv so fu ty v1 m1 v2 m2 v3 h
    have := h.once
    rw [h.eT] at this
    simp only [List.nodup_cons, List.mem_append, not_or] at this
    exact ⟨this.1.1, this.1.2.1⟩
  have hkl := keepL_le l fu
  have hcut1 : ∀ W, TbP X W p T N l so fu ty v1 m1 v2 m2 (.slice none 0 0) → Calls Try.prog 40 #[.pointer (some ⟨p, 1, none⟩), .int .i64 (l : Int)] W fun e w' => e = .returned (.tuple #[]) ∧ ∃ v1', TbP X w' p T N l (keepL l so) fu ty v1' m1 v2 m2 (.slice none 0 0) ∧ Off T W w' ∧ w'.cell? ⟨p, 0, none⟩ = some (.int .i64 (l : Int)) := fun W hW =>
    (cut_any p 1 70 _ v1 m1 N l so W hW.bk rfl rfl hW.sS (pn hW).1 hN).mono fun e w' ⟨he, hc⟩ => by
      obtain ⟨v1', hb, ho⟩ := tb_cut1 hW hc
      exact ⟨he, v1', hb, ho, hb.bk.cell rfl⟩
  have hcut2 : ∀ W v1', TbP X W p T N l (keepL l so) fu ty v1' m1 v2 m2 (.slice none 0 0) → Calls Try.prog 40 #[.pointer (some ⟨p, 3, none⟩), .int .i64 (l : Int)] W fun e w' => e = .returned (.tuple #[]) ∧ ∃ v2', TbP X w' p T N l (keepL l so) (keepL l fu) ty v1' m1 v2' m2 (.slice none 0 0) ∧ Off T W w' ∧ w'.cell? ⟨p, 0, none⟩ = some (.int .i64 (l : Int)) := fun W v1' hW =>
    (cut_any p 3 70 _ v2 m2 N l fu W hW.bk rfl rfl hW.fS (pn hW).2 hN).mono fun e w' ⟨he, hc⟩ => by
      obtain ⟨v2', hb, ho⟩ := tb_cut2 hW hc
      exact ⟨he, v2', hb, ho, hb.bk.cell rfl⟩
  have hlen3 : ∀ W v1' v2', TbP X W p T N l (keepL l so) (keepL l fu) ty v1' m1 v2' m2 (.slice none 0 0) → Calls Try.prog 34 #[.pointer (some ⟨p, 3, none⟩)] W fun e w' => e = .returned (.int .i64 ((keepL l fu).length : Int)) ∧ W = w' := by
    intro W v1' v2' hW
    have hform : ∃ A c, v2' = .slice A (keepL l fu).length c := by
      rcases hW.fS.row.2 with ⟨e, h⟩ | ⟨g, cap, cu, e, _⟩
      · exact ⟨none, 0, by rw [e, h]⟩
      · exact ⟨_, _, e⟩
    obtain ⟨A, c, rfl⟩ := hform
    exact len_any p 3 _ c A W (hW.bk.cell rfl)
  have hN' := hide hN
  obtain ⟨W1, hW1⟩ : ∃ W1, W1 = w.setCell ⟨p, 0, none⟩ (.int .i64 (l : Int)) := ⟨_, rfl⟩
  rw [← hW1] at t1 o1
  have a1 : W1.cell? ⟨p, 0, none⟩ = some (.int .i64 (l : Int)) := t1.bk.cell rfl
  have t1d := t1.drew
  replace hcut1 := hide hcut1; replace hcut2 := hide hcut2; replace hlen3 := hide hlen3; replace t1 := hide t1; replace t1d := hide t1d; replace o1 := hide o1; replace hkl := hide hkl; replace hty := hide hty
  clear h hN hl h1
  replace hnil := hide hnil
  obtain ⟨k, hk⟩ : ∃ k, k = (keepL l fu).length := ⟨_, rfl⟩
  replace hk := hide hk
  go_enter Try.func16, Try.ntmps16
  go_wp2_with (go_at_call 27; (with_reducible refine hlev.mono ?_); rintro e w' ⟨rfl, rfl⟩)
  rw [← hW1]
  clear hW1
  refine wp_region_held_drew (S := (fun W => W.cell? ⟨p, 0, none⟩ = some (.int .i64 (l : Int)))) (by kernel_rfl) ?_ (fun hHeld => ?_)
  · (try dsimp only)
    exact a1
  refine wpAnyH_take (i := 0) (v := ?vva0) (by (simp only [List.getElem?_toArray, List.getElem?_cons_zero, List.getElem?_cons_succ]) <;> rfl) (by kernel_rfl) (by kernel_rfl) (by kernel_rfl) ?hqa0 (Or.inl ⟨by rfl, ?hya0⟩) (by assumption) ?_
  case hqa0 => exact fun _ _ _ h => h
  case hya0 => ((intro w hSw; (try dsimp only at hSw); go_simp) <;> (with_reducible rfl))
  (try simp only [Act.put, List.setIfInBounds_toArray, List.set_cons_zero, List.set_cons_succ])
  refine wpAnyH_take (i := 1) (v := ?vva1) (by (simp only [List.getElem?_toArray, List.getElem?_cons_zero, List.getElem?_cons_succ]) <;> rfl) (by kernel_rfl) (by kernel_rfl) (by kernel_rfl) ?hqa1 (Or.inl ⟨by rfl, ?hya1⟩) (by assumption) ?_
  case hqa1 => exact fun _ _ _ h => h
  case hya1 => ((intro w hSw; (try dsimp only at hSw); go_simp) <;> (with_reducible rfl))
  (try simp only [Act.put, List.setIfInBounds_toArray, List.set_cons_zero, List.set_cons_succ])
  refine wpAnyH_take (i := 2) (v := ?vva2) (by (simp only [List.getElem?_toArray, List.getElem?_cons_zero, List.getElem?_cons_succ]) <;> rfl) (by kernel_rfl) (by kernel_rfl) (by kernel_rfl) ?hqa2 (Or.inl ⟨by rfl, ?hya2⟩) (by assumption) ?_
  case hqa2 => exact fun _ _ _ h => h
  case hya2 => ((intro w hSw; (try dsimp only at hSw); go_simp) <;> (with_reducible rfl))
  (try simp only [Act.put, List.setIfInBounds_toArray, List.set_cons_zero, List.set_cons_succ])
  refine wpAnyH_take (i := 3) (v := ?vva3) (by (simp only [List.getElem?_toArray, List.getElem?_cons_zero, List.getElem?_cons_succ]) <;> rfl) (by kernel_rfl) (by kernel_rfl) (by kernel_rfl) ?hqa3 (Or.inl ⟨by rfl, ?hya3⟩) (by assumption) ?_
  case hqa3 => exact fun _ _ _ h => h
  case hya3 => ((intro w hSw; (try dsimp only at hSw); go_simp) <;> (with_reducible rfl))
  (try simp only [Act.put, List.setIfInBounds_toArray, List.set_cons_zero, List.set_cons_succ])
  refine wpAnyH_take (i := 4) (v := ?vva4) (by (simp only [List.getElem?_toArray, List.getElem?_cons_zero, List.getElem?_cons_succ]) <;> rfl) (by kernel_rfl) (by kernel_rfl) (by kernel_rfl) ?hqa4 (Or.inl ⟨by rfl, ?hya4⟩) (by assumption) ?_
  case hqa4 => exact fun _ _ _ h => h
  case hya4 => ((intro w hSw; (try dsimp only at hSw); go_simp) <;> (with_reducible rfl))
  (try simp only [Act.put, List.setIfInBounds_toArray, List.set_cons_zero, List.set_cons_succ])
  refine wpAnyH_take (i := 5) (v := ?vva5) (by (simp only [List.getElem?_toArray, List.getElem?_cons_zero, List.getElem?_cons_succ]) <;> rfl) (by kernel_rfl) (by kernel_rfl) (by kernel_rfl) ?hqa5 (Or.inl ⟨by rfl, ?hya5⟩) (by assumption) ?_
  case hqa5 => exact fun _ _ _ h => h
  case hya5 => ((intro w hSw; (try dsimp only at hSw); go_simp) <;> (with_reducible rfl))
  (try simp only [Act.put, List.setIfInBounds_toArray, List.set_cons_zero, List.set_cons_succ])
  refine wpAnyH_take (i := 6) (v := ?vva6) (by (simp only [List.getElem?_toArray, List.getElem?_cons_zero, List.getElem?_cons_succ]) <;> rfl) (by kernel_rfl) (by kernel_rfl) (by kernel_rfl) ?hqa6 (Or.inl ⟨by rfl, ?hya6⟩) (by assumption) ?_
  case hqa6 => exact fun _ _ _ h => h
  case hya6 => ((intro w hSw; (try dsimp only at hSw); go_simp) <;> (with_reducible rfl))
  (try simp only [Act.put, List.setIfInBounds_toArray, List.set_cons_zero, List.set_cons_succ])
  refine wpAnyH_ready (rs := [7]) (by kernel_rfl) (by simp) ?_
  refine AllReadyH.cons (by (simp only [List.getElem?_toArray, List.getElem?_cons_zero, List.getElem?_cons_succ]) <;> rfl) (fun K hK => ?_) AllReadyH.nil
  go_simp
  go_at_call 40; (with_reducible refine (hcut1.out _ t1d.out).mono ?_); rintro e w2 ⟨rfl, v1', t2, o2, a2⟩; have t2d := hide t2.drew; replace o2 := hide o2; clear t2
  (try go_wp2_with fail)
  refine hK.out _ _ ?_ (fun hHeld => ?_)
  · (try dsimp only)
    exact (by assumption)
  (try clear hK K)
  (try simp only [Act.put, List.setIfInBounds_toArray, List.set_cons_zero, List.set_cons_succ])
  refine wpAnyH_done (by kernel_rfl) ?_ _
  (try clear hHeld)
  go_wp2
  refine wp_region_held_drew (S := (fun W => W.cell? ⟨p, 0, none⟩ = some (.int .i64 (l : Int)))) (by kernel_rfl) ?_ (fun hHeld => ?_)
  · (try dsimp only)
    exact (by assumption)
  refine wpAnyH_take (i := 0) (v := ?vvb0) (by (simp only [List.getElem?_toArray, List.getElem?_cons_zero, List.getElem?_cons_succ]) <;> rfl) (by kernel_rfl) (by kernel_rfl) (by kernel_rfl) ?hqb0 (Or.inl ⟨by rfl, ?hyb0⟩) (by assumption) ?_
  case hqb0 => exact fun _ _ _ h => h
  case hyb0 => ((intro w hSw; (try dsimp only at hSw); go_simp) <;> (with_reducible rfl))
  (try simp only [Act.put, List.setIfInBounds_toArray, List.set_cons_zero, List.set_cons_succ])
  refine wpAnyH_take (i := 1) (v := ?vvb1) (by (simp only [List.getElem?_toArray, List.getElem?_cons_zero, List.getElem?_cons_succ]) <;> rfl) (by kernel_rfl) (by kernel_rfl) (by kernel_rfl) ?hqb1 (Or.inl ⟨by rfl, ?hyb1⟩) (by assumption) ?_
  case hqb1 => exact fun _ _ _ h => h
  case hyb1 => ((intro w hSw; (try dsimp only at hSw); go_simp) <;> (with_reducible rfl))
  (try simp only [Act.put, List.setIfInBounds_toArray, List.set_cons_zero, List.set_cons_succ])
  refine wpAnyH_take (i := 2) (v := ?vvb2) (by (simp only [List.getElem?_toArray, List.getElem?_cons_zero, List.getElem?_cons_succ]) <;> rfl) (by kernel_rfl) (by kernel_rfl) (by kernel_rfl) ?hqb2 (Or.inl ⟨by rfl, ?hyb2⟩) (by assumption) ?_
  case hqb2 => exact fun _ _ _ h => h
  case hyb2 => ((intro w hSw; (try dsimp only at hSw); go_simp) <;> (with_reducible rfl))
  (try simp only [Act.put, List.setIfInBounds_toArray, List.set_cons_zero, List.set_cons_succ])
  refine wpAnyH_take (i := 3) (v := ?vvb3) (by (simp only [List.getElem?_toArray, List.getElem?_cons_zero, List.getElem?_cons_succ]) <;> rfl) (by kernel_rfl) (by kernel_rfl) (by kernel_rfl) ?hqb3 (Or.inl ⟨by rfl, ?hyb3⟩) (by assumption) ?_
  case hqb3 => exact fun _ _ _ h => h
  case hyb3 => ((intro w hSw; (try dsimp only at hSw); go_simp) <;> (with_reducible rfl))
  (try simp only [Act.put, List.setIfInBounds_toArray, List.set_cons_zero, List.set_cons_succ])
  refine wpAnyH_take (i := 4) (v := ?vvb4) (by (simp only [List.getElem?_toArray, List.getElem?_cons_zero, List.getElem?_cons_succ]) <;> rfl) (by kernel_rfl) (by kernel_rfl) (by kernel_rfl) ?hqb4 (Or.inl ⟨by rfl, ?hyb4⟩) (by assumption) ?_
  case hqb4 => exact fun _ _ _ h => h
  case hyb4 => ((intro w hSw; (try dsimp only at hSw); go_simp) <;> (with_reducible rfl))
  (try simp only [Act.put, List.setIfInBounds_toArray, List.set_cons_zero, List.set_cons_succ])
  refine wpAnyH_take (i := 5) (v := ?vvb5) (by (simp only [List.getElem?_toArray, List.getElem?_cons_zero, List.getElem?_cons_succ]) <;> rfl) (by kernel_rfl) (by kernel_rfl) (by kernel_rfl) ?hqb5 (Or.inl ⟨by rfl, ?hyb5⟩) (by assumption) ?_
  case hqb5 => exact fun _ _ _ h => h
  case hyb5 => ((intro w hSw; (try dsimp only at hSw); go_simp) <;> (with_reducible rfl))
  (try simp only [Act.put, List.setIfInBounds_toArray, List.set_cons_zero, List.set_cons_succ])
  refine wpAnyH_take (i := 6) (v := ?vvb6) (by (simp only [List.getElem?_toArray, List.getElem?_cons_zero, List.getElem?_cons_succ]) <;> rfl) (by kernel_rfl) (by kernel_rfl) (by kernel_rfl) ?hqb6 (Or.inl ⟨by rfl, ?hyb6⟩) (by assumption) ?_
  case hqb6 => exact fun _ _ _ h => h
  case hyb6 => ((intro w hSw; (try dsimp only at hSw); go_simp) <;> (with_reducible rfl))
  (try simp only [Act.put, List.setIfInBounds_toArray, List.set_cons_zero, List.set_cons_succ])
  refine wpAnyH_ready (rs := [7]) (by kernel_rfl) (by simp) ?_
  refine AllReadyH.cons (by (simp only [List.getElem?_toArray, List.getElem?_cons_zero, List.getElem?_cons_succ]) <;> rfl) (fun K hK => ?_) AllReadyH.nil
  go_simp
  go_at_call 40; (with_reducible refine (hcut2.out _ _ t2d.out).mono ?_); rintro e w3 ⟨rfl, v2', t3, o3, a3⟩; have hl3 := hlen3.out _ _ _ t3; rw [← hk.out] at hl3; replace t3 := hide t3; replace o3 := hide o3
  (try go_wp2_with fail)
  refine hK.out _ _ ?_ (fun hHeld => ?_)
  · (try dsimp only)
    exact (by assumption)
  (try clear hK K)
  (try simp only [Act.put, List.setIfInBounds_toArray, List.set_cons_zero, List.set_cons_succ])
  refine wpAnyH_done (by kernel_rfl) ?_ _
  (try clear hHeld)
  have y5 : w3.cell? ⟨p, 5, none⟩ = some (.slice none 0 0) := t3.out.bk.cell rfl
  have g5 := t3.out.bk.free 5
  have hk0 : k = 0 := by have h1 := hk.out; have h2 := hkl.out; have h3 := hty.out; have h4 := hnil.out; rw [h4, List.length_nil] at h3; omega
  subst hk0
  have hcl : ∀ ty, (Builtin.clear_ #[29] ty #[.slice none 0 0]).run Try.prog w3 = .ok (.tuple #[]) w3 := fun ty => by simp [Builtin.clear_, run_underlying Try.underlying29]
  go_wp2_with (go_at_call 34; (with_reducible refine hl3.mono ?_); rintro e w' ⟨rfl, rfl⟩)
  go_ret
  have hO := (((o1.out.trans ((Off.refl T _).drew.trans o2.out (fun b hb => .inl hb)) (fun b hb => .inl hb)).trans ((Off.refl T _).drew.trans o3.out (fun b hb => .inl hb)) (fun b hb => .inl hb)))
  have hsc : w3.setCell ⟨p, 5, none⟩ (.slice none 0 0) = w3 := setCell_same t3.out.bk (j := 5) rfl
  rw [hsc]
  refine ⟨rfl, ⟨v1', m1, v2', m2, .slice none 0 0, ?_⟩, hO⟩
  rw [← hk.out, List.take_of_length_le (by have h4 := hnil.out; simp [h4])]
  exact t3.out

set_option maxHeartbeats 2000000 in
theorem pop_some (p : Nat) (T : List Nat) (N lv n l : Nat) (so fu : List (ByteArray × Nat)) (ty : List Fn) (v1 : Value) (m1 : Option Nat) (v2 : Value) (m2 : Option Nat) (g cap : Nat) (hcap : ty.length ≤ cap) (hcm : cap ≤ 9223372036854775807) (w : World) (h : TbP X w p T N lv so fu ty v1 m1 v2 m2 (.slice (some ⟨g, 0, none⟩) ty.length cap)) (hN : N ≤ 1000000) (h1 : 1 ≤ n) (hl : l + n = lv) (hlv : lv ≤ 1000000)
    (hty : fu.length = ty.length) :
    Calls Try.prog 16 #[.pointer (some ⟨p, 0, none⟩), .int .i64 (n : Int)] w fun e w' => e = .returned (.int .i64 0) ∧ (∃ v1 m1 v2 m2 v3, TbP X w' p T N l (keepL l so) (keepL l fu) (ty.take (keepL l fu).length) v1 m1 v2 m2 v3) ∧ Off T w w' := by
  have a0 : w.cell? ⟨p, 0, none⟩ = some (.int .i64 (lv : Int)) := h.bk.cell rfl
  have f0 := h.bk.free 0
  have hlev := levels_any p lv w (h.bk.cell rfl)
  have hsub := sub_i 3 lv n l hl hlv
  have hg : decide (lv < n) = false := decide_eq_false (by omega)
  have hz : ((n : Int) == 0) = false := by simp; omega
  have hng : decide ((n : Int) < 0) = false := decide_eq_false (by omega)
  obtain ⟨t1, o1⟩ := tb_lv h l
  have pn : ∀ {w T N lv so fu ty v1 m1 v2 m2 v3}, TbP X w p T N lv so fu ty v1 m1 v2 m2 v3 → p ∉ bks v1 m1 ∧ p ∉ bks v2 m2 := by
    intro w T N lv so fu ty v1 m1 v2 m2 v3 h
    have := h.once
    rw [h.eT] at this
    simp only [List.nodup_cons, List.mem_append, not_or] at this
    exact ⟨this.1.1, this.1.2.1⟩
  have hkl := keepL_le l fu
  have hcut1 : ∀ W, TbP X W p T N l so fu ty v1 m1 v2 m2 (.slice (some ⟨g, 0, none⟩) ty.length cap) → Calls Try.prog 40 #[.pointer (some ⟨p, 1, none⟩), .int .i64 (l : Int)] W fun e w' => e = .returned (.tuple #[]) ∧ ∃ v1', TbP X w' p T N l (keepL l so) fu ty v1' m1 v2 m2 (.slice (some ⟨g, 0, none⟩) ty.length cap) ∧ Off T W w' ∧ w'.cell? ⟨p, 0, none⟩ = some (.int .i64 (l : Int)) := fun W hW =>
    (cut_any p 1 70 _ v1 m1 N l so W hW.bk rfl rfl hW.sS (pn hW).1 hN).mono fun e w' ⟨he, hc⟩ => by
      obtain ⟨v1', hb, ho⟩ := tb_cut1 hW hc
      exact ⟨he, v1', hb, ho, hb.bk.cell rfl⟩
  have hcut2 : ∀ W v1', TbP X W p T N l (keepL l so) fu ty v1' m1 v2 m2 (.slice (some ⟨g, 0, none⟩) ty.length cap) → Calls Try.prog 40 #[.pointer (some ⟨p, 3, none⟩), .int .i64 (l : Int)] W fun e w' => e = .returned (.tuple #[]) ∧ ∃ v2', TbP X w' p T N l (keepL l so) (keepL l fu) ty v1' m1 v2' m2 (.slice (some ⟨g, 0, none⟩) ty.length cap) ∧ Off T W w' ∧ w'.cell? ⟨p, 0, none⟩ = some (.int .i64 (l : Int)) := fun W v1' hW =>
    (cut_any p 3 70 _ v2 m2 N l fu W hW.bk rfl rfl hW.fS (pn hW).2 hN).mono fun e w' ⟨he, hc⟩ => by
      obtain ⟨v2', hb, ho⟩ := tb_cut2 hW hc
      exact ⟨he, v2', hb, ho, hb.bk.cell rfl⟩
  have hlen3 : ∀ W v1' v2', TbP X W p T N l (keepL l so) (keepL l fu) ty v1' m1 v2' m2 (.slice (some ⟨g, 0, none⟩) ty.length cap) → Calls Try.prog 34 #[.pointer (some ⟨p, 3, none⟩)] W fun e w' => e = .returned (.int .i64 ((keepL l fu).length : Int)) ∧ W = w' := by
    intro W v1' v2' hW
    have hform : ∃ A c, v2' = .slice A (keepL l fu).length c := by
      rcases hW.fS.row.2 with ⟨e, h⟩ | ⟨g, cap, cu, e, _⟩
      · exact ⟨none, 0, by rw [e, h]⟩
      · exact ⟨_, _, e⟩
    obtain ⟨A, c, rfl⟩ := hform
    exact len_any p 3 _ c A W (hW.bk.cell rfl)
  have hN' := hide hN
  obtain ⟨W1, hW1⟩ : ∃ W1, W1 = w.setCell ⟨p, 0, none⟩ (.int .i64 (l : Int)) := ⟨_, rfl⟩
  rw [← hW1] at t1 o1
  have a1 : W1.cell? ⟨p, 0, none⟩ = some (.int .i64 (l : Int)) := t1.bk.cell rfl
  have t1d := t1.drew
  replace hcut1 := hide hcut1; replace hcut2 := hide hcut2; replace hlen3 := hide hlen3; replace t1 := hide t1; replace t1d := hide t1d; replace o1 := hide o1; replace hkl := hide hkl; replace hty := hide hty
  clear h hN hl h1
  obtain ⟨k, hk⟩ : ∃ k, k = (keepL l fu).length := ⟨_, rfl⟩
  replace hk := hide hk
  go_enter Try.func16, Try.ntmps16
  go_wp2_with (go_at_call 27; (with_reducible refine hlev.mono ?_); rintro e w' ⟨rfl, rfl⟩)
  rw [← hW1]
  clear hW1
  refine wp_region_held_drew (S := (fun W => W.cell? ⟨p, 0, none⟩ = some (.int .i64 (l : Int)))) (by kernel_rfl) ?_ (fun hHeld => ?_)
  · (try dsimp only)
    exact a1
  refine wpAnyH_take (i := 0) (v := ?vva0) (by (simp only [List.getElem?_toArray, List.getElem?_cons_zero, List.getElem?_cons_succ]) <;> rfl) (by kernel_rfl) (by kernel_rfl) (by kernel_rfl) ?hqa0 (Or.inl ⟨by rfl, ?hya0⟩) (by assumption) ?_
  case hqa0 => exact fun _ _ _ h => h
  case hya0 => ((intro w hSw; (try dsimp only at hSw); go_simp) <;> (with_reducible rfl))
  (try simp only [Act.put, List.setIfInBounds_toArray, List.set_cons_zero, List.set_cons_succ])
  refine wpAnyH_take (i := 1) (v := ?vva1) (by (simp only [List.getElem?_toArray, List.getElem?_cons_zero, List.getElem?_cons_succ]) <;> rfl) (by kernel_rfl) (by kernel_rfl) (by kernel_rfl) ?hqa1 (Or.inl ⟨by rfl, ?hya1⟩) (by assumption) ?_
  case hqa1 => exact fun _ _ _ h => h
  case hya1 => ((intro w hSw; (try dsimp only at hSw); go_simp) <;> (with_reducible rfl))
  (try simp only [Act.put, List.setIfInBounds_toArray, List.set_cons_zero, List.set_cons_succ])
  refine wpAnyH_take (i := 2) (v := ?vva2) (by (simp only [List.getElem?_toArray, List.getElem?_cons_zero, List.getElem?_cons_succ]) <;> rfl) (by kernel_rfl) (by kernel_rfl) (by kernel_rfl) ?hqa2 (Or.inl ⟨by rfl, ?hya2⟩) (by assumption) ?_
  case hqa2 => exact fun _ _ _ h => h
  case hya2 => ((intro w hSw; (try dsimp only at hSw); go_simp) <;> (with_reducible rfl))
  (try simp only [Act.put, List.setIfInBounds_toArray, List.set_cons_zero, List.set_cons_succ])
  refine wpAnyH_take (i := 3) (v := ?vva3) (by (simp only [List.getElem?_toArray, List.getElem?_cons_zero, List.getElem?_cons_succ]) <;> rfl) (by kernel_rfl) (by kernel_rfl) (by kernel_rfl) ?hqa3 (Or.inl ⟨by rfl, ?hya3⟩) (by assumption) ?_
  case hqa3 => exact fun _ _ _ h => h
  case hya3 => ((intro w hSw; (try dsimp only at hSw); go_simp) <;> (with_reducible rfl))
  (try simp only [Act.put, List.setIfInBounds_toArray, List.set_cons_zero, List.set_cons_succ])
  refine wpAnyH_take (i := 4) (v := ?vva4) (by (simp only [List.getElem?_toArray, List.getElem?_cons_zero, List.getElem?_cons_succ]) <;> rfl) (by kernel_rfl) (by kernel_rfl) (by kernel_rfl) ?hqa4 (Or.inl ⟨by rfl, ?hya4⟩) (by assumption) ?_
  case hqa4 => exact fun _ _ _ h => h
  case hya4 => ((intro w hSw; (try dsimp only at hSw); go_simp) <;> (with_reducible rfl))
  (try simp only [Act.put, List.setIfInBounds_toArray, List.set_cons_zero, List.set_cons_succ])
  refine wpAnyH_take (i := 5) (v := ?vva5) (by (simp only [List.getElem?_toArray, List.getElem?_cons_zero, List.getElem?_cons_succ]) <;> rfl) (by kernel_rfl) (by kernel_rfl) (by kernel_rfl) ?hqa5 (Or.inl ⟨by rfl, ?hya5⟩) (by assumption) ?_
  case hqa5 => exact fun _ _ _ h => h
  case hya5 => ((intro w hSw; (try dsimp only at hSw); go_simp) <;> (with_reducible rfl))
  (try simp only [Act.put, List.setIfInBounds_toArray, List.set_cons_zero, List.set_cons_succ])
  refine wpAnyH_take (i := 6) (v := ?vva6) (by (simp only [List.getElem?_toArray, List.getElem?_cons_zero, List.getElem?_cons_succ]) <;> rfl) (by kernel_rfl) (by kernel_rfl) (by kernel_rfl) ?hqa6 (Or.inl ⟨by rfl, ?hya6⟩) (by assumption) ?_
  case hqa6 => exact fun _ _ _ h => h
  case hya6 => ((intro w hSw; (try dsimp only at hSw); go_simp) <;> (with_reducible rfl))
  (try simp only [Act.put, List.setIfInBounds_toArray, List.set_cons_zero, List.set_cons_succ])
  refine wpAnyH_ready (rs := [7]) (by kernel_rfl) (by simp) ?_
  refine AllReadyH.cons (by (simp only [List.getElem?_toArray, List.getElem?_cons_zero, List.getElem?_cons_succ]) <;> rfl) (fun K hK => ?_) AllReadyH.nil
  go_simp
  go_at_call 40; (with_reducible refine (hcut1.out _ t1d.out).mono ?_); rintro e w2 ⟨rfl, v1', t2, o2, a2⟩; have t2d := hide t2.drew; replace o2 := hide o2; clear t2
  (try go_wp2_with fail)
  refine hK.out _ _ ?_ (fun hHeld => ?_)
  · (try dsimp only)
    exact (by assumption)
  (try clear hK K)
  (try simp only [Act.put, List.setIfInBounds_toArray, List.set_cons_zero, List.set_cons_succ])
  refine wpAnyH_done (by kernel_rfl) ?_ _
  (try clear hHeld)
  go_wp2
  refine wp_region_held_drew (S := (fun W => W.cell? ⟨p, 0, none⟩ = some (.int .i64 (l : Int)))) (by kernel_rfl) ?_ (fun hHeld => ?_)
  · (try dsimp only)
    exact (by assumption)
  refine wpAnyH_take (i := 0) (v := ?vvb0) (by (simp only [List.getElem?_toArray, List.getElem?_cons_zero, List.getElem?_cons_succ]) <;> rfl) (by kernel_rfl) (by kernel_rfl) (by kernel_rfl) ?hqb0 (Or.inl ⟨by rfl, ?hyb0⟩) (by assumption) ?_
  case hqb0 => exact fun _ _ _ h => h
  case hyb0 => ((intro w hSw; (try dsimp only at hSw); go_simp) <;> (with_reducible rfl))
  (try simp only [Act.put, List.setIfInBounds_toArray, List.set_cons_zero, List.set_cons_succ])
  refine wpAnyH_take (i := 1) (v := ?vvb1) (by (simp only [List.getElem?_toArray, List.getElem?_cons_zero, List.getElem?_cons_succ]) <;> rfl) (by kernel_rfl) (by kernel_rfl) (by kernel_rfl) ?hqb1 (Or.inl ⟨by rfl, ?hyb1⟩) (by assumption) ?_
  case hqb1 => exact fun _ _ _ h => h
  case hyb1 => ((intro w hSw; (try dsimp only at hSw); go_simp) <;> (with_reducible rfl))
  (try simp only [Act.put, List.setIfInBounds_toArray, List.set_cons_zero, List.set_cons_succ])
  refine wpAnyH_take (i := 2) (v := ?vvb2) (by (simp only [List.getElem?_toArray, List.getElem?_cons_zero, List.getElem?_cons_succ]) <;> rfl) (by kernel_rfl) (by kernel_rfl) (by kernel_rfl) ?hqb2 (Or.inl ⟨by rfl, ?hyb2⟩) (by assumption) ?_
  case hqb2 => exact fun _ _ _ h => h
  case hyb2 => ((intro w hSw; (try dsimp only at hSw); go_simp) <;> (with_reducible rfl))
  (try simp only [Act.put, List.setIfInBounds_toArray, List.set_cons_zero, List.set_cons_succ])
  refine wpAnyH_take (i := 3) (v := ?vvb3) (by (simp only [List.getElem?_toArray, List.getElem?_cons_zero, List.getElem?_cons_succ]) <;> rfl) (by kernel_rfl) (by kernel_rfl) (by kernel_rfl) ?hqb3 (Or.inl ⟨by rfl, ?hyb3⟩) (by assumption) ?_
  case hqb3 => exact fun _ _ _ h => h
  case hyb3 => ((intro w hSw; (try dsimp only at hSw); go_simp) <;> (with_reducible rfl))
  (try simp only [Act.put, List.setIfInBounds_toArray, List.set_cons_zero, List.set_cons_succ])
  refine wpAnyH_take (i := 4) (v := ?vvb4) (by (simp only [List.getElem?_toArray, List.getElem?_cons_zero, List.getElem?_cons_succ]) <;> rfl) (by kernel_rfl) (by kernel_rfl) (by kernel_rfl) ?hqb4 (Or.inl ⟨by rfl, ?hyb4⟩) (by assumption) ?_
  case hqb4 => exact fun _ _ _ h => h
  case hyb4 => ((intro w hSw; (try dsimp only at hSw); go_simp) <;> (with_reducible rfl))
  (try simp only [Act.put, List.setIfInBounds_toArray, List.set_cons_zero, List.set_cons_succ])
  refine wpAnyH_take (i := 5) (v := ?vvb5) (by (simp only [List.getElem?_toArray, List.getElem?_cons_zero, List.getElem?_cons_succ]) <;> rfl) (by kernel_rfl) (by kernel_rfl) (by kernel_rfl) ?hqb5 (Or.inl ⟨by rfl, ?hyb5⟩) (by assumption) ?_
  case hqb5 => exact fun _ _ _ h => h
  case hyb5 => ((intro w hSw; (try dsimp only at hSw); go_simp) <;> (with_reducible rfl))
  (try simp only [Act.put, List.setIfInBounds_toArray, List.set_cons_zero, List.set_cons_succ])
  refine wpAnyH_take (i := 6) (v := ?vvb6) (by (simp only [List.getElem?_toArray, List.getElem?_cons_zero, List.getElem?_cons_succ]) <;> rfl) (by kernel_rfl) (by kernel_rfl) (by kernel_rfl) ?hqb6 (Or.inl ⟨by rfl, ?hyb6⟩) (by assumption) ?_
  case hqb6 => exact fun _ _ _ h => h
  case hyb6 => ((intro w hSw; (try dsimp only at hSw); go_simp) <;> (with_reducible rfl))
  (try simp only [Act.put, List.setIfInBounds_toArray, List.set_cons_zero, List.set_cons_succ])
  refine wpAnyH_ready (rs := [7]) (by kernel_rfl) (by simp) ?_
  refine AllReadyH.cons (by (simp only [List.getElem?_toArray, List.getElem?_cons_zero, List.getElem?_cons_succ]) <;> rfl) (fun K hK => ?_) AllReadyH.nil
  go_simp
  go_at_call 40; (with_reducible refine (hcut2.out _ _ t2d.out).mono ?_); rintro e w3 ⟨rfl, v2', t3, o3, a3⟩; have hl3 := hlen3.out _ _ _ t3; rw [← hk.out] at hl3; replace t3 := hide t3; replace o3 := hide o3
  (try go_wp2_with fail)
  refine hK.out _ _ ?_ (fun hHeld => ?_)
  · (try dsimp only)
    exact (by assumption)
  (try clear hK K)
  (try simp only [Act.put, List.setIfInBounds_toArray, List.set_cons_zero, List.set_cons_succ])
  refine wpAnyH_done (by kernel_rfl) ?_ _
  (try clear hHeld)
  obtain ⟨w4, hcl, hcl2, y5, g5, t4, o4⟩ := tys_cut t3.out k (by have h1 := hk.out; have h2 := hkl.out; have h3 := hty.out; omega)
  have y6 : w3.cell? ⟨p, 5, none⟩ = some (.slice (some ⟨g, 0, none⟩) ty.length cap) := t3.out.bk.cell rfl
  have hk9 : k ≤ ty.length := by have h1 := hk.out; have h2 := hkl.out; have h3 := hty.out; omega
  replace t4 := hide t4
  replace o4 := hide o4
  clear t3
  by_cases hck : cap = k
  · have hcl2 := hcl2 hck
    clear hcl
    subst hck
    obtain ⟨n9, hn9⟩ : ∃ n, n = ty.length := ⟨_, rfl⟩
    rw [← hn9] at y5 y6 hk9 hcap
    replace hn9 := hide hn9
    go_wp2_with (go_at_call 34; (with_reducible refine hl3.mono ?_); rintro e w' ⟨rfl, rfl⟩)
    go_ret
    have hO := (((o1.out.trans ((Off.refl T _).drew.trans o2.out (fun b hb => .inl hb)) (fun b hb => .inl hb)).trans ((Off.refl T _).drew.trans o3.out (fun b hb => .inl hb)) (fun b hb => .inl hb)))
    refine ⟨rfl, ⟨v1', m1, v2', m2, .slice (some ⟨g, 0, none⟩) cap cap, ?_⟩, hO.trans o4.out (fun b hb => .inl hb)⟩
    rw [← hk.out]
    exact t4.out
  · clear hcl2
    obtain ⟨n9, hn9⟩ : ∃ n, n = ty.length := ⟨_, rfl⟩
    rw [← hn9] at y5 y6 hk9 hcap hcl
    replace hn9 := hide hn9
    go_wp2_with (go_at_call 34; (with_reducible refine hl3.mono ?_); rintro e w' ⟨rfl, rfl⟩)
    go_ret
    have hO := (((o1.out.trans ((Off.refl T _).drew.trans o2.out (fun b hb => .inl hb)) (fun b hb => .inl hb)).trans ((Off.refl T _).drew.trans o3.out (fun b hb => .inl hb)) (fun b hb => .inl hb)))
    refine ⟨rfl, ⟨v1', m1, v2', m2, .slice (some ⟨g, 0, none⟩) k cap, ?_⟩, hO.trans o4.out (fun b hb => .inl hb)⟩
    rw [← hk.out]
    exact t4.out

/-- Levels that are there are ended. -/
theorem pop_yes (p : Nat) (T : List Nat) (N lv n l : Nat) (so fu : List (ByteArray × Nat)) (ty : List Fn) (w : World) (h : Tb X w p T N lv so fu ty) (hN : N ≤ 1000000) (h1 : 1 ≤ n) (hl : l + n = lv) (hlv : lv ≤ 1000000) :
    Calls Try.prog 16 #[.pointer (some ⟨p, 0, none⟩), .int .i64 (n : Int)] w fun e w' => e = .returned (.int .i64 0) ∧ Tb X w' p T N l (keepL l so) (keepL l fu) (ty.take (keepL l fu).length) ∧ Off T w w' := by
  obtain ⟨⟨v1, m1, v2, m2, v3, h⟩, hnames⟩ := h
  have hty : fu.length = ty.length := by simpa using congrArg List.length hnames
  obtain ⟨xs, hx, hF⟩ := id h.tS
  rcases hx.2 with ⟨e, hn⟩ | ⟨g, cap, cu, e, _, hg, hcap, hmax, hsz, htk⟩
  · subst e
    exact (pop_none p T N lv n l so fu ty v1 m1 v2 m2 (List.eq_nil_of_length_eq_zero hn) w h hN h1 hl hlv hty).mono fun e w' ⟨he, hT, hO⟩ => ⟨he, ⟨hT, keep_names hnames⟩, hO⟩
  · subst e
    exact (pop_some p T N lv n l so fu ty v1 m1 v2 m2 g cap hcap (by unfold maxLen at hmax; omega) w h hN h1 hl hlv hty).mono fun e w' ⟨he, hT, hO⟩ => ⟨he, ⟨hT, keep_names hnames⟩, hO⟩
end Nt
end Go.Proofs.Ytlcgdiciiibeeaa
