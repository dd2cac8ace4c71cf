/-
  Levels are ended: what a table is behind it.
-/
import Derived.Test.YtlcgdiciiibeeaaTs
namespace Go.Proofs.Ytlcgdiciiibeeaa
open Go.ChangeShapes Go.RowKit
namespace Nt
set_option maxRecDepth 100000
variable {X : List Nat}
set_option linter.unusedSimpArgs false
set_option linter.unusedVariables false

theorem Fs.take {T : List Nat} {w : World} : ∀ {fs : List Fn} {vs : List Value}, Fs T w fs vs → ∀ k, Fs T w (fs.take k) (vs.take (k * 3))
  | [], vs, h, k => by cases h; simp; exact rfl
  | f :: fs, vs, ⟨A, c, r, e, h1, h2, h3⟩, 0 => by simp; exact rfl
  | f :: fs, vs, ⟨A, c, r, e, h1, h2, h3⟩, k + 1 => by
    subst e
    have e0 : (k + 1) * 3 = k * 3 + 1 + 1 + 1 := by omega
    rw [e0]
    exact ⟨A, c, r.take (k * 3), by simp, h1, h2, Fs.take h3 k⟩

theorem keepL_take (lv : Nat) (es : List (ByteArray × Nat)) : keepL lv es = es.take (keepL lv es).length := by
  have h : keepL lv es <+: es := by
    unfold keepL
    have := List.dropWhile_suffix (fun e : ByteArray × Nat => decide (lv < e.2)) (l := es.reverse)
    have := this.reverse
    rwa [List.reverse_reverse] at this
  exact List.prefix_iff_eq_take.1 h
theorem keepL_le (lv : Nat) (es : List (ByteArray × Nat)) : (keepL lv es).length ≤ es.length := by
  have h := congrArg List.length (keepL_take lv es)
  rw [List.length_take] at h
  omega

/-- Another number of levels. -/
theorem tb_lv {w : World} {p : Nat} {T : List Nat} {N lv : Nat} {so fu : List (ByteArray × Nat)} {ty : List Fn} {v1 : Value} {m1 : Option Nat} {v2 : Value} {m2 : Option Nat} {v3 : Value} (h : TbP X w p T N lv so fu ty v1 m1 v2 m2 v3) (l : Nat) :
    TbP X (w.setCell ⟨p, 0, none⟩ (.int .i64 (l : Int))) p T N l so fu ty v1 m1 v2 m2 v3 ∧ Off T w (w.setCell ⟨p, 0, none⟩ (.int .i64 (l : Int))) := by
  have hO : Off [p] w (w.setCell ⟨p, 0, none⟩ (.int .i64 (l : Int))) := (Off.refl _ _).setCell _ _ (.inl (by simp))
  have hn := h.once
  rw [h.eT] at hn
  simp only [List.nodup_cons, List.mem_append, not_or] at hn
  obtain ⟨⟨n1, n2, n3⟩, _⟩ := hn
  obtain ⟨xs, hx, hF⟩ := h.tS
  have hpT : p ∈ T := by rw [h.eT]; simp
  refine ⟨⟨?_, h.sS.off hO ?_ (Nat.le_refl _), h.fS.off hO ?_ (Nat.le_refl _), ⟨xs, Off.row hx hO ?_, Fs.off hO ?_ (fun b hb => .inl hb) hF⟩, h.eT, h.once, xs_off h.xs hO.size (fun b hb => .inl hb)⟩, hO.more (by intro b hb; simp at hb; subst hb; exact hpT)⟩
  · exact h.bk.set _ rfl
  · intro k hk hm; simp at hm; subst hm; exact n1 hk
  · intro k hk hm; simp at hm; subst hm; exact n2 hk
  · intro k hk hm; simp at hm; subst hm; exact n3 (by rw [Option.mem_toList]; exact hk)
  · intro b hb; simp at hb; subst hb; exact .inl (List.mem_append_left _ hpT)

/-- The types are cut. -/
theorem tys_cut {w : World} {p : Nat} {T : List Nat} {N lv : Nat} {so fu : List (ByteArray × Nat)} {ty : List Fn} {v1 : Value} {m1 : Option Nat} {v2 : Value} {m2 : Option Nat} {g cap : Nat} (h : TbP X w p T N lv so fu ty v1 m1 v2 m2 (.slice (some ⟨g, 0, none⟩) ty.length cap)) (k : Nat) (hk : k ≤ ty.length) :
    ∃ w2, (∀ t, (Builtin.clear_ #[29] t #[.slice (some ⟨g, k * 3, none⟩) (ty.length - k) (cap - k)]).run Try.prog w = .ok (.tuple #[]) w2) ∧ (cap = k → ∀ t, (Builtin.clear_ #[29] t #[.slice (some ⟨g, 0, none⟩) 0 0]).run Try.prog w = .ok (.tuple #[]) w2) ∧
      w2.cell? ⟨p, 5, none⟩ = some (.slice (some ⟨g, 0, none⟩) ty.length cap) ∧ w2.frozen? ⟨p, 5, none⟩ = false ∧
      TbP X (w2.setCell ⟨p, 5, none⟩ (.slice (some ⟨g, 0, none⟩) k cap)) p T N lv so fu (ty.take k) v1 m1 v2 m2 (.slice (some ⟨g, 0, none⟩) k cap) ∧ Off T w (w2.setCell ⟨p, 5, none⟩ (.slice (some ⟨g, 0, none⟩) k cap)) := by
  have hz : ∀ w, (zeroValue 35).run Try.prog w = .ok (.agg #[.string ⟨#[]⟩, .slice none 0 0, .int .i64 0]) w := fun w => by kernel_rfl
  obtain ⟨xs, hx, hF⟩ := h.tS
  rcases hx.2 with ⟨e, _⟩ | ⟨g', cap', cu, e, _, hg, hcap, hmax, hsz, htk⟩
  · cases e
  cases e
  have hgr : Bk g cu 35 w := hg
  obtain ⟨w2, cu', hrun, hB2, hsz2, htk2, hO2⟩ := run_clear_row (P := Try.prog) w 29 35 35 0 (.agg #[.string ⟨#[]⟩, .slice none 0 0, .int .i64 0]) 3 Try.underlying29 hz rfl (by decide) (by intro v hv; simp [Value.cells] at hv; rcases hv with rfl | rfl | rfl <;> rfl) g k ty.length (cap - k) cu hgr hk (by rw [hsz]; exact Nat.mul_le_mul_right _ hcap)
  have ho := h.once
  have hT := h.eT
  rw [hT] at ho
  simp only [List.nodup_cons, List.nodup_append, List.mem_append, not_or, Value.ownBlock, Option.toList_some, List.mem_singleton] at ho
  obtain ⟨⟨n1, n2, n3⟩, o1, ⟨o2, o3, o4⟩, o5⟩ := ho
  have hBp : Bk p _ _ w2 := h.bk.off hO2 (by simpa using n3)
  have hO4 : Off [p] w2 (w2.setCell ⟨p, 5, none⟩ (.slice (some ⟨g, 0, none⟩) k cap)) := (Off.refl _ _).setCell _ _ (.inl (by simp))
  have hpT : p ∈ T := by rw [hT]; simp
  have hgT : g ∈ T := by rw [hT]; simp [Value.ownBlock]
  have hO5 : Off [p, g] w (w2.setCell ⟨p, 5, none⟩ (.slice (some ⟨g, 0, none⟩) k cap)) :=
    (hO2.more (T' := [p, g]) (by intro b hb; simp at hb; simp [hb])).trans hO4 (by intro b hb; simp at hb; exact .inl (by simp [hb]))
  have hsub : ∀ b ∈ [p, g], b ∈ T := by
    intro b hb
    simp at hb
    rcases hb with rfl | rfl
    · exact hpT
    · exact hgT
  have hrun2 : cap = k → ∀ t, (Builtin.clear_ #[29] t #[.slice (some ⟨g, 0, none⟩) 0 0]).run Try.prog w = .ok (.tuple #[]) w2 := by
    intro hck t
    have e0 : ty.length - k = 0 := by omega
    rw [e0] at hrun
    simp [Builtin.clear_, run_underlying Try.underlying29] at hrun ⊢
    exact hrun
  refine ⟨w2, fun ty => hrun, hrun2, hBp.cell rfl, hBp.free 5, ⟨hBp.set _ rfl, h.sS.off hO5 ?_ (Nat.le_refl _), h.fS.off hO5 ?_ (Nat.le_refl _), ⟨xs.take (k * 3), ?_, (Fs.off hO5 (fun b hb => .inl (List.mem_append_left _ (hsub b hb))) (fun b hb => .inl hb) hF).take k⟩, hT, h.once, xs_off h.xs hO5.size (fun b hb => .inl hb)⟩, hO5.more hsub⟩
  · intro x hx1 hm
    simp at hm
    rcases hm with rfl | rfl
    · exact n1 hx1
    · exact o5 x hx1 x (.inr rfl) rfl
  · intro x hx1 hm
    simp at hm
    rcases hm with rfl | rfl
    · exact n2 hx1
    · exact o4 x hx1 x rfl rfl
  · have hl : (ty.take k).length = k := by rw [List.length_take]; omega
    have hxl := Fs.length hF
    rw [hl]
    refine Off.row ⟨by rw [List.length_take, hxl]; omega, .inr ⟨g, cap, cu', rfl, Nat.zero_le _, hB2, Nat.le_trans hk hcap, hmax, by rw [hsz2, hsz], ?_⟩⟩ hO4 (by intro x hx hm; cases hx; simp at hm; exact n3 hm.symm)
    rw [htk2]
    have e1 : cu.toList.take (k * 3) = (cu.toList.take (ty.length * 3)).take (k * 3) := by
      rw [List.take_take]; congr 1; omega
    rw [e1, htk]

/-- A table behind a cut of all three. -/
theorem keep_names {lv : Nat} {fu : List (ByteArray × Nat)} {ty : List Fn} (h : fu.map Prod.fst = ty.map Fn.nm) : (keepL lv fu).map Prod.fst = (ty.take (keepL lv fu).length).map Fn.nm := by
  rw [List.map_take, ← h, ← List.map_take, ← keepL_take]
end Nt
end Go.Proofs.Ytlcgdiciiibeeaa
