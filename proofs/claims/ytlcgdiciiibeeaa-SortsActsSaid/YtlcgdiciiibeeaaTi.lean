/-
  A table takes a function: what it is behind it.
-/
import Derived.Test.YtlcgdiciiibeeaaTh
namespace Go.Proofs.Ytlcgdiciiibeeaa
open Go.ChangeShapes Go.RowKit
namespace Nt
set_option maxRecDepth 100000
variable {X : List Nat}
set_option linter.unusedSimpArgs false
set_option linter.unusedVariables false

/-- A function's name more. -/
theorem tb_name {w w' : World} {p : Nat} {T : List Nat} {N lv : Nat} {so fu fu' : List (ByteArray × Nat)} {ty : List Fn} {v1 : Value} {m1 : Option Nat} {v2 : Value} {m2 : Option Nat} {v3 : Value} (h : TbP X w p T N lv so fu ty v1 m1 v2 m2 v3)
    (hp : Pushed p 3 70 #[.int .i64 (lv : Int), v1, .map m1, v2, .map m2, v3] v2 m2 (N + 1) fu' w w') :
    ∃ T' v2' m2', TbP X w' p T' (N + 1) lv so fu' ty v1 m1 v2' m2' v3 ∧ Off T w w' ∧ ∀ b ∈ T', b ∈ T ∨ w.heap.size ≤ b := by
  obtain ⟨v', m', hS', hB', hO, hnew⟩ := hp
  obtain ⟨xs, hx, hF⟩ := h.tS
  have hlt := h.lt
  have ho := h.once
  have hT := h.eT
  subst hT
  simp only [List.nodup_cons, List.nodup_append, List.mem_append, not_or] at ho
  obtain ⟨⟨n1, n2, n3⟩, o1, ⟨o2, o3, o4⟩, o5⟩ := ho
  have hsub : ∀ b ∈ p :: bks v2 m2, b ∈ p :: (bks v1 m1 ++ (bks v2 m2 ++ v3.ownBlock.toList)) := by
    intro b hb
    rcases List.mem_cons.1 hb with rfl | hb
    · simp
    · exact List.mem_cons_of_mem _ (List.mem_append_right _ (List.mem_append_left _ hb))
  have hsub2 : ∀ b ∈ p :: (bks v1 m1 ++ (bks v' m' ++ v3.ownBlock.toList)), b ∈ p :: (bks v1 m1 ++ (bks v2 m2 ++ v3.ownBlock.toList)) ∨ w.heap.size ≤ b := by
    intro b hb
    rcases List.mem_cons.1 hb with rfl | hb
    · exact .inl (by simp)
    · rcases List.mem_append.1 hb with hb | hb
      · exact .inl (List.mem_cons_of_mem _ (List.mem_append_left _ hb))
      · rcases List.mem_append.1 hb with hb | hb
        · exact (hnew b hb).imp (fun h => List.mem_cons_of_mem _ (List.mem_append_right _ (List.mem_append_left _ h))) id
        · exact .inl (List.mem_cons_of_mem _ (List.mem_append_right _ (List.mem_append_right _ hb)))
  have hX1 : ∀ b ∈ bks v1 m1, b < w.heap.size := fun b hb => hlt b (List.mem_cons_of_mem _ (List.mem_append_left _ hb))
  have hX3 : ∀ b ∈ v3.ownBlock.toList, b < w.heap.size := fun b hb => hlt b (List.mem_cons_of_mem _ (List.mem_append_right _ (List.mem_append_right _ hb)))
  have hpl := h.bk.lt
  refine ⟨p :: (bks v1 m1 ++ (bks v' m' ++ v3.ownBlock.toList)), v', m', ⟨hB', h.sS.off hO ?_ (Nat.le_succ _), hS', ⟨xs, Off.row hx hO ?_, Fs.off hO (fun b hb => .inl (List.mem_append_left _ (hsub b hb))) (app_sub hsub2) hF⟩, rfl, ?_, xs_off h.xs hO.size hsub2⟩, hO.more hsub, hsub2⟩
  · intro k hk hm
    rcases List.mem_cons.1 hm with rfl | hm
    · exact n1 hk
    · exact o5 k hk k (.inl hm) rfl
  · intro k hk hm
    have hk : k ∈ v3.ownBlock.toList := by rw [Option.mem_toList]; exact hk
    rcases List.mem_cons.1 hm with rfl | hm
    · exact n3 hk
    · exact o4 k hm k hk rfl
  · simp only [List.nodup_cons, List.nodup_append, List.mem_append, not_or]
    refine ⟨⟨n1, fun hm => ?_, n3⟩, o1, ⟨hS'.once, o3, fun a ha b hb e => ?_⟩, fun a ha b hb e => ?_⟩
    · rcases hnew p hm with hm | hm
      · exact n2 hm
      · omega
    · subst e
      rcases hnew a ha with hm | hm
      · exact o4 a hm a hb rfl
      · have := hX3 a hb
        omega
    · subst e
      rcases hb with hb | hb
      · rcases hnew a hb with hm | hm
        · exact o5 a ha a (.inl hm) rfl
        · have := hX1 a ha
          omega
      · exact o5 a ha a (.inr hb) rfl

theorem Fs.length {T : List Nat} {w : World} : ∀ {fs : List Fn} {vs : List Value}, Fs T w fs vs → vs.length = fs.length * 3
  | [], _, h => by cases h; rfl
  | _ :: fs, _, ⟨A, c, r, e, _, _, h⟩ => by
    rw [e]
    have := Fs.length h
    simp only [List.length_cons, this]
    omega
theorem Fs.snoc {T : List Nat} {w : World} {f : Fn} {A : Option Addr} {c : Nat} (hi : Ir T w A f.ar) (hl : f.ar.length ≤ 64) : ∀ {fs : List Fn} {vs : List Value}, Fs T w fs vs → Fs T w (fs ++ [f]) (vs ++ [.string f.nm, .slice A f.ar.length c, .int .i64 f.rs])
  | [], _, h => by cases h; exact ⟨A, c, [], rfl, hi, hl, rfl⟩
  | _ :: _, _, ⟨A', c', r, e, h1, h2, h3⟩ => by
    subst e
    exact ⟨A', c', r ++ [.string f.nm, .slice A f.ar.length c, .int .i64 f.rs], rfl, h1, h2, Fs.snoc hi hl h3⟩

/-- A function behind a list of functions. -/
theorem app_fun (w : World) (v : Value) (n : Nat) (xs : List Value) (hrow : w.ownsRow 0 35 3 v n xs) (nm : ByteArray) (A : Option Addr) (k c : Nat) (rs : Int) (hl : n ≤ 1000000) :
    ∃ v' w', (∀ ty, (Builtin.append_ #[29, 29] ty #[v, .slice (some ⟨w.heap.size, 0, none⟩) 1 1]).run Try.prog (w.alloc (.cells #[.string nm, .slice A k c, .int .i64 rs] 35)) = .ok v' w') ∧
      w'.ownsRow 0 35 3 v' (n + 1) (xs ++ [.string nm, .slice A k c, .int .i64 rs]) ∧ Off v.ownBlock.toList w w' ∧ (∀ b, v'.ownBlock = some b → v.ownBlock = some b ∨ w.heap.size ≤ b) := by
  obtain ⟨i, hinf, hz, h1, h8⟩ := info_parts (P := Try.prog) (e := 35) (z := .agg #[.string ⟨#[]⟩, .slice none 0 0, .int .i64 0]) (size := 3) (bytes := 48) (by kernel_rfl)
  have hB : Bk w.heap.size #[.string nm, .slice A k c, .int .i64 rs] 35 (w.alloc (.cells #[.string nm, .slice A k c, .int .i64 rs] 35)) := Bk.new _ _ _
  have hcells : ∀ j u, ([.string nm, .slice A k c, .int .i64 rs] : List Value)[j]? = some u → (w.alloc (.cells #[.string nm, .slice A k c, .int .i64 rs] 35)).cell? ((⟨w.heap.size, 0, none⟩ : Addr).add j) = some u := by
    intro j u hu
    rw [Addr.add_lit, Nat.zero_add]
    refine hB.cell ?_
    rw [← Array.getElem?_toList]
    exact hu
  obtain ⟨v', w', hr, h2, h3, h4, h5⟩ := run_append_own_at (P := Try.prog) (w.alloc (.cells #[.string nm, .slice A k c, .int .i64 rs] 35)) 0 29 0 35 i (.agg #[.string ⟨#[]⟩, .slice none 0 0, .int .i64 0]) 3 48 Try.underlying29 hinf hz h1 h8 rfl (by decide) v n xs (hrow.alloc _) ⟨w.heap.size, 0, none⟩ 1 1 [.string nm, .slice A k c, .int .i64 rs] rfl hcells
    (by intro u hu; simp at hu; rcases hu with rfl | rfl | rfl <;> rfl) (by unfold maxLen; omega) (by omega) (Nat.zero_le _)
  refine ⟨v', w', fun ty => hr, h2, ?_, ?_⟩
  · exact ((Off.refl _ _).alloc _).trans (Off.of_grown (T := v.ownBlock.toList) h3 (fun k hk => .inl (by simp [hk]))) (fun b hb => .inl hb)
  · intro b hb
    rcases h5 with h5 | h5
    · exact .inl (h5 ▸ hb)
    · rw [h5] at hb
      have : (w.alloc (.cells #[.string nm, .slice A k c, .int .i64 rs] 35)).heap.size = w.heap.size + 1 := by simp
      injection hb with hb
      exact .inr (by omega)

/-- What a table is behind a function that is laid at its end. -/
theorem tb_type {w w2 : World} {p : Nat} {T : List Nat} {N lv : Nat} {so fu : List (ByteArray × Nat)} {ty : List Fn} {v1 : Value} {m1 : Option Nat} {v2 : Value} {m2 : Option Nat} {v3 v3' : Value} {f : Fn} {xs : List Value} {A : Option Addr} {c : Nat}
    (h : TbP X w p T N lv so fu ty v1 m1 v2 m2 v3) (hF : Fs (T ++ X) w ty xs) (hi : ∀ S : List Nat, (∀ b ∈ S, b ∈ T ++ X ∨ w.heap.size ≤ b) → Ir S w A f.ar) (hl : f.ar.length ≤ 64)
    (hrow : w2.ownsRow 0 35 3 v3' (ty.length + 1) (xs ++ [.string f.nm, .slice A f.ar.length c, .int .i64 f.rs])) (hO : Off v3.ownBlock.toList w w2) (hloc : ∀ b, v3'.ownBlock = some b → v3.ownBlock = some b ∨ w.heap.size ≤ b) :
    ∃ T', (∃ v1 m1 v2 m2 v3, TbP X (w2.setCell ⟨p, 5, none⟩ v3') p T' N lv so fu (ty ++ [f]) v1 m1 v2 m2 v3) ∧ Off T w (w2.setCell ⟨p, 5, none⟩ v3') ∧ ∀ b ∈ T', b ∈ T ∨ w.heap.size ≤ b := by
  have hlt := h.lt
  have ho := h.once
  have hT := h.eT
  subst hT
  simp only [List.nodup_cons, List.nodup_append, List.mem_append, not_or] at ho
  obtain ⟨⟨n1, n2, n3⟩, o1, ⟨o2, o3, o4⟩, o5⟩ := ho
  have hpl := h.bk.lt
  have hO2 : Off (p :: v3.ownBlock.toList) w (w2.setCell ⟨p, 5, none⟩ v3') := (hO.more (fun b hb => List.mem_cons_of_mem _ hb)).setCell _ _ (.inl (by simp))
  have hsub : ∀ b ∈ p :: v3.ownBlock.toList, b ∈ p :: (bks v1 m1 ++ (bks v2 m2 ++ v3.ownBlock.toList)) := by
    intro b hb
    rcases List.mem_cons.1 hb with rfl | hb
    · simp
    · exact List.mem_cons_of_mem _ (List.mem_append_right _ (List.mem_append_right _ hb))
  have hsub2 : ∀ b ∈ p :: (bks v1 m1 ++ (bks v2 m2 ++ v3'.ownBlock.toList)), b ∈ p :: (bks v1 m1 ++ (bks v2 m2 ++ v3.ownBlock.toList)) ∨ w.heap.size ≤ b := by
    intro b hb
    rcases List.mem_cons.1 hb with rfl | hb
    · exact .inl (by simp)
    · rcases List.mem_append.1 hb with hb | hb
      · exact .inl (List.mem_cons_of_mem _ (List.mem_append_left _ hb))
      · rcases List.mem_append.1 hb with hb | hb
        · exact .inl (List.mem_cons_of_mem _ (List.mem_append_right _ (List.mem_append_left _ hb)))
        · rw [Option.mem_toList] at hb
          exact (hloc b hb).imp (fun h => List.mem_cons_of_mem _ (List.mem_append_right _ (List.mem_append_right _ (by rw [Option.mem_toList]; exact h)))) id
  have hX1 : ∀ b ∈ bks v1 m1, b < w.heap.size := fun b hb => hlt b (List.mem_cons_of_mem _ (List.mem_append_left _ hb))
  have hX2 : ∀ b ∈ bks v2 m2, b < w.heap.size := fun b hb => hlt b (List.mem_cons_of_mem _ (List.mem_append_right _ (List.mem_append_left _ hb)))
  have hn3' : ∀ k, v3'.ownBlock = some k → k ≠ p := by
    intro k hk e
    subst e
    rcases hloc k hk with h | h
    · exact n3 (by rw [Option.mem_toList]; exact h)
    · omega
  have hO4 : Off [p] w2 (w2.setCell ⟨p, 5, none⟩ v3') := (Off.refl _ _).setCell _ _ (.inl (by simp))
  refine ⟨p :: (bks v1 m1 ++ (bks v2 m2 ++ v3'.ownBlock.toList)), ⟨v1, m1, v2, m2, v3', (h.bk.off hO n3).set _ rfl, h.sS.off hO2 ?_ (Nat.le_refl _), h.fS.off hO2 ?_ (Nat.le_refl _), ⟨xs ++ [.string f.nm, .slice A f.ar.length c, .int .i64 f.rs], ?_, Fs.snoc (c := c) ((hi _ (fun b hb => .inl hb)).off hO2 (fun b hb => .inl (List.mem_append_left _ (hsub b hb))) (app_sub hsub2)) hl (Fs.off hO2 (fun b hb => .inl (List.mem_append_left _ (hsub b hb))) (app_sub hsub2) hF)⟩, rfl, ?_, xs_off h.xs hO2.size hsub2⟩, hO2.more hsub, hsub2⟩
  · intro k hk hm
    rcases List.mem_cons.1 hm with rfl | hm
    · exact n1 hk
    · exact o5 k hk k (.inr hm) rfl
  · intro k hk hm
    rcases List.mem_cons.1 hm with rfl | hm
    · exact n2 hk
    · exact o4 k hk k hm rfl
  · have : (ty ++ [f]).length = ty.length + 1 := by simp
    rw [this]
    exact Off.row hrow hO4 (fun k hk hm => by simp at hm; exact hn3' k hk hm)
  · simp only [List.nodup_cons, List.nodup_append, List.mem_append, not_or]
    refine ⟨⟨n1, n2, fun hm => ?_⟩, o1, ⟨o2, by cases v3'.ownBlock <;> simp, fun a ha b hb e => ?_⟩, fun a ha b hb e => ?_⟩
    · rw [Option.mem_toList] at hm
      exact hn3' p hm rfl
    · subst e
      rw [Option.mem_toList] at hb
      rcases hloc a hb with hm | hm
      · exact o4 a ha a (by rw [Option.mem_toList]; exact hm) rfl
      · have := hX2 a ha
        omega
    · subst e
      rcases hb with hb | hb
      · exact o5 a ha a (.inl hb) rfl
      · rw [Option.mem_toList] at hb
        rcases hloc a hb with hm | hm
        · exact o5 a ha a (.inr (by rw [Option.mem_toList]; exact hm)) rfl
        · have := hX1 a ha
          omega
end Nt
end Go.Proofs.Ytlcgdiciiibeeaa
