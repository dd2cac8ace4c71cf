/-
  A table whose stacks are cut.
-/
import Derived.Test.YtlcgdiciiibeeaaTq
namespace Go.Proofs.Ytlcgdiciiibeeaa
open Go.ChangeShapes Go.RowKit
namespace Nt
set_option maxRecDepth 100000
variable {X : List Nat}
set_option linter.unusedSimpArgs false
set_option linter.unusedVariables false

/-- The sorts are cut. -/
theorem tb_cut1 {w w' : World} {p : Nat} {T : List Nat} {N lv : Nat} {so so' fu : List (ByteArray × Nat)} {ty : List Fn} {v1 : Value} {m1 : Option Nat} {v2 : Value} {m2 : Option Nat} {v3 : Value} (h : TbP X w p T N lv so fu ty v1 m1 v2 m2 v3)
    (hp : Cut p 1 70 #[.int .i64 (lv : Int), v1, .map m1, v2, .map m2, v3] v1 m1 N so' w w') :
    ∃ v1', TbP X w' p T N lv so' fu ty v1' m1 v2 m2 v3 ∧ Off T w w' := by
  obtain ⟨v', hS', hB', hO, hv⟩ := hp
  obtain ⟨xs, hx, hF⟩ := h.tS
  have ho := h.once
  have hT := h.eT
  have hbk : bks v' m1 = bks v1 m1 := by unfold bks; rw [hv]
  rw [hT] at ho
  simp only [List.nodup_cons, List.nodup_append, List.mem_append, not_or] at ho
  obtain ⟨⟨n1, n2, n3⟩, o1, ⟨o2, o3, o4⟩, o5⟩ := ho
  have hsub : ∀ b ∈ p :: bks v1 m1, b ∈ T := by
    intro b hb
    rw [hT]
    rcases List.mem_cons.1 hb with rfl | hb
    · simp
    · exact List.mem_cons_of_mem _ (List.mem_append_left _ hb)
  refine ⟨v', ⟨hB', hS', h.fS.off hO ?_ (Nat.le_refl _), ⟨xs, Off.row hx hO ?_, Fs.off hO (fun b hb => .inl (List.mem_append_left _ (hsub b hb))) (fun b hb => .inl hb) hF⟩, by rw [hbk]; exact hT, h.once, xs_off h.xs hO.size (fun b hb => .inl hb)⟩, hO.more hsub⟩
  · intro k hk hm
    rcases List.mem_cons.1 hm with rfl | hm
    · exact n2 hk
    · exact o5 k hm k (.inl hk) rfl
  · intro k hk hm
    have hk : k ∈ v3.ownBlock.toList := by rw [Option.mem_toList]; exact hk
    rcases List.mem_cons.1 hm with rfl | hm
    · exact n3 hk
    · exact o5 k hm k (.inr hk) rfl

/-- The functions' names are cut. -/
theorem tb_cut2 {w w' : World} {p : Nat} {T : List Nat} {N lv : Nat} {so fu fu' : List (ByteArray × Nat)} {ty : List Fn} {v1 : Value} {m1 : Option Nat} {v2 : Value} {m2 : Option Nat} {v3 : Value} (h : TbP X w p T N lv so fu ty v1 m1 v2 m2 v3)
    (hp : Cut p 3 70 #[.int .i64 (lv : Int), v1, .map m1, v2, .map m2, v3] v2 m2 N fu' w w') :
    ∃ v2', TbP X w' p T N lv so fu' ty v1 m1 v2' m2 v3 ∧ Off T w w' := by
  obtain ⟨v', hS', hB', hO, hv⟩ := hp
  obtain ⟨xs, hx, hF⟩ := h.tS
  have ho := h.once
  have hT := h.eT
  have hbk : bks v' m2 = bks v2 m2 := by unfold bks; rw [hv]
  rw [hT] at ho
  simp only [List.nodup_cons, List.nodup_append, List.mem_append, not_or] at ho
  obtain ⟨⟨n1, n2, n3⟩, o1, ⟨o2, o3, o4⟩, o5⟩ := ho
  have hsub : ∀ b ∈ p :: bks v2 m2, b ∈ T := by
    intro b hb
    rw [hT]
    rcases List.mem_cons.1 hb with rfl | hb
    · simp
    · exact List.mem_cons_of_mem _ (List.mem_append_right _ (List.mem_append_left _ hb))
  refine ⟨v', ⟨hB', h.sS.off hO ?_ (Nat.le_refl _), hS', ⟨xs, Off.row hx hO ?_, Fs.off hO (fun b hb => .inl (List.mem_append_left _ (hsub b hb))) (fun b hb => .inl hb) hF⟩, by rw [hbk]; exact hT, h.once, xs_off h.xs hO.size (fun b hb => .inl hb)⟩, hO.more hsub⟩
  · intro k hk hm
    rcases List.mem_cons.1 hm with rfl | hm
    · exact n1 hk
    · exact o5 k hk k (.inl hm) rfl
  · intro k hk hm
    have hk : k ∈ v3.ownBlock.toList := by rw [Option.mem_toList]; exact hk
    rcases List.mem_cons.1 hm with rfl | hm
    · exact n3 hk
    · exact o4 k hm k hk rfl
end Nt
end Go.Proofs.Ytlcgdiciiibeeaa
