/-
  A table of a call's own, beside the blocks of X: what each call on it does.
-/
import Derived.Test.YtlcgdiciiibeeaaTx
namespace Go.Proofs.Ytlcgdiciiibeeaa
open Go.ChangeShapes Go.RowKit
namespace Nt
set_option maxRecDepth 100000
set_option linter.unusedSimpArgs false
set_option linter.unusedVariables false

/-- The blocks of X stand. -/
def Same (X : List Nat) (w w' : World) : Prop := ∀ b ∈ X, w'.heap[b]? = w.heap[b]?
theorem Same.refl (X : List Nat) (w : World) : Same X w w := fun _ _ => rfl
theorem Same.trans {X : List Nat} {w w1 w' : World} (h : Same X w w1) (k : Same X w1 w') : Same X w w' := fun b hb => (k b hb).trans (h b hb)
theorem Same.less {X Y : List Nat} {w w' : World} (h : Same X w w') (hY : ∀ b ∈ Y, b ∈ X) : Same Y w w' := fun b hb => h b (hY b hb)
theorem Same.bk {X : List Nat} {w w' : World} (h : Same X w w') {g : Nat} {cur : Array Value} {t : TypeId} (hB : Bk g cur t w) (hg : g ∈ X) : Bk g cur t w' := (h g hg).trans hB
theorem Same.of_below {X : List Nat} {w w' : World} (h : Below w.heap.size w w') (hX : ∀ b ∈ X, b < w.heap.size) : Same X w w' := fun b hb => h.block b (hX b hb)

/-- A table of the call's own. -/
def Tw (X : List Nat) (B : Nat) (w0 w : World) (p N lv : Nat) (so fu : List (ByteArray × Nat)) (ty : List Fn) : Prop :=
  ∃ T, Tb X w p T N lv so fu ty ∧ (∀ b ∈ T, B ≤ b) ∧ Below B w0 w ∧ B ≤ w.heap.size

section
variable {X : List Nat} {B : Nat} {w0 w w' : World} {p N lv : Nat} {so fu so' fu' : List (ByteArray × Nat)} {ty ty' : List Fn}
theorem Tb.lt {T : List Nat} (h : Tb X w p T N lv so fu ty) : ∀ b ∈ T, b < w.heap.size := by
  obtain ⟨⟨v1, m1, v2, m2, v3, h⟩, _⟩ := h
  exact h.lt
theorem Tb.xs {T : List Nat} (h : Tb X w p T N lv so fu ty) : ∀ b ∈ X, b < w.heap.size ∧ b ∉ T := by
  obtain ⟨⟨v1, m1, v2, m2, v3, h⟩, _⟩ := h
  exact h.xs
theorem Tw.next (h : Tw X B w0 w p N lv so fu ty) (hb : Below w.heap.size w w') : Tw X B w0 w' p N lv so fu ty := by
  obtain ⟨T, h1, h2, h3, h4⟩ := h
  exact ⟨T, h1.below hb, h2, h3.trans (hb.mono h4), Nat.le_trans h4 hb.size⟩
theorem Tw.drew (h : Tw X B w0 w p N lv so fu ty) : Tw X B w0 w.drew p N lv so fu ty := h.next (((Off.refl [] w).drew).below (Nat.le_refl _) (by simp))
theorem Tw.drewN (h : Tw X B w0 w p N lv so fu ty) (n : Nat) : Tw X B w0 (w.drewN n) p N lv so fu ty := h.next (((Off.refl [] w).drewN n).below (Nat.le_refl _) (by simp))
theorem Tw.below (h : Tw X B w0 w p N lv so fu ty) : Below B w0 w := by obtain ⟨T, h1, h2, h3, h4⟩ := h; exact h3
theorem Tw.base (h : Tw X B w0 w p N lv so fu ty) : B ≤ w.heap.size := by obtain ⟨T, h1, h2, h3, h4⟩ := h; exact h4
theorem Tw.lt (h : Tw X B w0 w p N lv so fu ty) {b : Nat} (hb : b ∈ X) : b < w.heap.size := by obtain ⟨T, h1, h2, h3, h4⟩ := h; exact (h1.xs b hb).1
theorem Tw.mono (h : Tw X B w0 w p N lv so fu ty) {N' : Nat} (hN : N ≤ N') : Tw X B w0 w p N' lv so fu ty := by
  obtain ⟨T, ⟨⟨v1, m1, v2, m2, v3, h1⟩, hn⟩, h2, h3, h4⟩ := h
  exact ⟨T, ⟨⟨v1, m1, v2, m2, v3, h1.bk, h1.sS.off (Off.refl [] w) (by simp) hN, h1.fS.off (Off.refl [] w) (by simp) hN, h1.tS, h1.eT, h1.once, h1.xs⟩, hn⟩, h2, h3, h4⟩
/-- Another X: less, or what is laid anew. -/
theorem Tw.turn {Y : List Nat} (h : Tw X B w0 w p N lv so fu ty) (hb : Below w.heap.size w w') (hY : ∀ b ∈ Y, (b ∈ X ∨ w.heap.size ≤ b) ∧ b < w'.heap.size) : Tw Y B w0 w' p N lv so fu ty := by
  obtain ⟨T, ⟨⟨v1, m1, v2, m2, v3, h1⟩, hn⟩, h2, h3, h4⟩ := h
  have h1' := h1.below hb
  obtain ⟨xs, hx, hF⟩ := h1.tS
  have hO := Off.of_below hb []
  refine ⟨T, ⟨⟨v1, m1, v2, m2, v3, h1'.bk, h1'.sS, h1'.fS, ⟨xs, Off.row hx hO (by simp), Fs.off hO (by simp) (fun b hb => ?_) hF⟩, h1'.eT, h1'.once, fun b hb => ⟨(hY b hb).2, fun hm => ?_⟩⟩, hn⟩, h2, h3.trans (hb.mono h4), Nat.le_trans h4 hb.size⟩
  · rcases List.mem_append.1 hb with hb | hb
    · exact .inl (List.mem_append_left _ hb)
    · exact (hY b hb).1.imp (List.mem_append_right _) id
  · rcases (hY b hb).1 with hx | hx
    · exact (h1.xs b hx).2 hm
    · exact Nat.not_lt.2 hx (h1.lt b hm)
theorem Tw.less {Y : List Nat} (h : Tw X B w0 w p N lv so fu ty) (hY : ∀ b ∈ Y, b ∈ X) : Tw Y B w0 w p N lv so fu ty :=
  h.turn (.refl _ _) (fun b hb => ⟨.inl (hY b hb), h.lt (hY b hb)⟩)
theorem Tw.alloc (h : Tw X B w0 w p N lv so fu ty) (o : Obj) : Tw (w.heap.size :: X) B w0 (w.alloc o) p N lv so fu ty := by
  have hb : Below w.heap.size w (w.alloc o) := (Below.refl _ _).alloc (Nat.le_refl _) o
  refine h.turn hb (fun b hm => ?_)
  rcases List.mem_cons.1 hm with rfl | hm
  · exact ⟨.inr (Nat.le_refl _), by simp⟩
  · exact ⟨.inl hm, Nat.lt_of_lt_of_le (h.lt hm) hb.size⟩
/-- What writes into blocks of X alone, or lays new ones. -/
theorem Tw.offX {S : List Nat} (h : Tw X B w0 w p N lv so fu ty) (hO : Off S w w') (hS : ∀ b ∈ S, b ∈ X ∧ B ≤ b) : Tw X B w0 w' p N lv so fu ty := by
  obtain ⟨T, ⟨⟨v1, m1, v2, m2, v3, h1⟩, hn⟩, h2, h3, h4⟩ := h
  have hd : ∀ b ∈ T, b ∉ S := fun b hb hm => (h1.xs b (hS b hm).1).2 hb
  have hT := h1.eT
  obtain ⟨xs, hx, hF⟩ := h1.tS
  have s0 : p ∈ T := by rw [hT]; simp
  have s1 : ∀ k ∈ bks v1 m1, k ∈ T := fun k hk => by rw [hT]; exact List.mem_cons_of_mem _ (List.mem_append_left _ hk)
  have s2 : ∀ k ∈ bks v2 m2, k ∈ T := fun k hk => by rw [hT]; exact List.mem_cons_of_mem _ (List.mem_append_right _ (List.mem_append_left _ hk))
  have s3 : ∀ k, v3.ownBlock = some k → k ∈ T := fun k hk => by rw [hT]; exact List.mem_cons_of_mem _ (List.mem_append_right _ (List.mem_append_right _ (by rw [Option.mem_toList]; exact hk)))
  exact ⟨T, ⟨⟨v1, m1, v2, m2, v3, h1.bk.off hO (hd _ s0), h1.sS.off hO (fun k hk => hd k (s1 k hk)) (Nat.le_refl _), h1.fS.off hO (fun k hk => hd k (s2 k hk)) (Nat.le_refl _), ⟨xs, Off.row hx hO (fun k hk => hd k (s3 k hk)), Fs.off hO (fun b hb => .inl (List.mem_append_right _ (hS b hb).1)) (fun b hb => .inl hb) hF⟩, h1.eT, h1.once, xs_off h1.xs hO.size (fun b hb => .inl hb)⟩, hn⟩, h2, h3.trans (hO.below h4 (fun b hb => (hS b hb).2)), Nat.le_trans h4 hO.size⟩
theorem Tw.setCell (h : Tw X B w0 w p N lv so fu ty) (a : Addr) (u : Value) (ha : a.block ∈ X) (hB : B ≤ a.block) : Tw X B w0 (w.setCell a u) p N lv so fu ty :=
  h.offX (S := [a.block]) ((Off.refl _ _).setCell _ _ (.inl (by simp))) (by intro b hb; simp at hb; subst hb; exact ⟨ha, hB⟩)

/-- What a call on the table leaves. -/
theorem Tw.step {T T' : List Nat} {N' lv' : Nat} (h1 : Tb X w p T N lv so fu ty) (h2 : ∀ b ∈ T, B ≤ b) (h3 : Below B w0 w) (h4 : B ≤ w.heap.size) (k1 : Tb X w' p T' N' lv' so' fu' ty') (k2 : Off T w w') (k3 : ∀ b ∈ T', b ∈ T ∨ w.heap.size ≤ b) :
    Tw X B w0 w' p N' lv' so' fu' ty' ∧ Same X w w' :=
  ⟨⟨T', k1, fun b hb => (k3 b hb).elim (h2 b) (fun h => Nat.le_trans h4 h), h3.trans (k2.below h4 h2), Nat.le_trans h4 k2.size⟩, fun b hb => k2.block b (h1.xs b hb).1 (h1.xs b hb).2⟩

theorem tw_new (hB : B ≤ w.heap.size) (hb : Below B w0 w) (hX : ∀ b ∈ X, b < w.heap.size) :
    Calls Try.prog 9 #[] w fun e w' => e = .returned (.pointer (some ⟨w.heap.size, 0, none⟩)) ∧ Tw X B w0 w' w.heap.size 0 0 [] [] [] ∧ Below w.heap.size w w' :=
  (new_any (X := X) w hX).mono fun e w' ⟨he, h1, h2⟩ => ⟨he, ⟨_, h1, by simpa using hB, hb.trans (h2.mono hB), Nat.le_trans hB h2.size⟩, h2⟩

theorem tw_sort (h : Tw X B w0 w p N lv so fu ty) (s : ByteArray) (hf : freeB so s = true) (hs : s.size ≤ maxLen) (hN : N ≤ 1000000) :
    Calls Try.prog 10 #[.pointer (some ⟨p, 0, none⟩), .string s] w fun e w' => e = .returned (.tuple #[.int .i64 ((so.length : Int) + 2), .int .i64 0]) ∧ Tw X B w0 w' p (N + 1) lv (so ++ [(s, lv)]) fu ty ∧ Same X w w' := by
  obtain ⟨T, h1, h2, h3, h4⟩ := h
  exact (sort_yes p T N lv so fu ty s w h1 hf hs hN).mono fun e w' ⟨he, T', k1, k2, k3⟩ => ⟨he, Tw.step h1 h2 h3 h4 k1 k2 k3⟩
theorem tw_sort_no (h : Tw X B w0 w p N lv so fu ty) (s : ByteArray) (hf : freeB so s = false) (hs : s.size ≤ maxLen) :
    Calls Try.prog 10 #[.pointer (some ⟨p, 0, none⟩), .string s] w fun e w' => e = .returned (.tuple #[.int .i64 0, .int .i64 1]) ∧ w = w' := by
  obtain ⟨T, h1, h2, h3, h4⟩ := h
  exact sort_no p T N lv so fu ty s w h1 hf hs
/-- A list of sorts that may be handed over. -/
def Ar (X : List Nat) (w : World) (A : Option Addr) (ar : List Int) : Prop := ar = [] ∨ ∃ b o, A = some ⟨b, o, none⟩ ∧ b ∈ X ∧ ∀ j, j < ar.length → w.cell? ⟨b, o + j, none⟩ = some (.int .i64 (ar.getD j 0))
theorem Ar.ir {T : List Nat} {A : Option Addr} {ar : List Int} (h : Ar X w A ar) (hX : ∀ b ∈ X, b < w.heap.size ∧ b ∉ T) : Ir T w A ar := by
  rcases h with h | ⟨b, o, h1, h2, h3⟩
  · exact .inl h
  · exact .inr ⟨b, o, h1, (hX b h2).1, (hX b h2).2, h3⟩
theorem tw_fun (h : Tw X B w0 w p N lv so fu ty) (nm : ByteArray) (A : Option Addr) (ar : List Int) (d : Nat) (rs : Int) (hi : Ar X w A ar) (hf : freeB fu nm = true) (ht : typedB so.length ar rs = true) (hs : nm.size ≤ maxLen) (hN : N ≤ 1000000) (hfu : fu.length < 1000) :
    Calls Try.prog 12 #[.pointer (some ⟨p, 0, none⟩), .agg #[.string nm, .slice A ar.length d, .int .i64 rs]] w fun e w' => e = .returned (.int .i64 0) ∧ Tw X B w0 w' p (N + 1) lv so (fu ++ [(nm, lv)]) (ty ++ [⟨nm, ar, rs⟩]) ∧ Same X w w' := by
  obtain ⟨T, h1, h2, h3, h4⟩ := h
  exact (fun_yes p T N lv so fu ty nm A ar d rs w h1 (hi.ir h1.xs) hf ht hs hN hfu).mono fun e w' ⟨he, T', k1, k2, k3⟩ => ⟨he, Tw.step h1 h2 h3 h4 k1 k2 k3⟩
theorem tw_fun_no (h : Tw X B w0 w p N lv so fu ty) (nm : ByteArray) (A : Option Addr) (ar : List Int) (d : Nat) (rs : Int) (hi : Ar X w A ar) (hf : (freeB fu nm && typedB so.length ar rs) = false) (hs : nm.size ≤ maxLen) (hN : N ≤ 1000000) (hl : ar.length ≤ 1000000) :
    Calls Try.prog 12 #[.pointer (some ⟨p, 0, none⟩), .agg #[.string nm, .slice A ar.length d, .int .i64 rs]] w fun e w' => e = .returned (.int .i64 1) ∧ Below w.heap.size w w' := by
  obtain ⟨T, h1, h2, h3, h4⟩ := h
  cases hc : freeB fu nm
  · exact fun_no1 p T N lv so fu ty nm A ar d rs w h1 (hi.ir h1.xs) hc hs hN hl
  · rw [hc, Bool.true_and] at hf
    exact fun_no2 p T N lv so fu ty nm A ar d rs w h1 (hi.ir h1.xs) hc hf hs hN hl
theorem tw_push (h : Tw X B w0 w p N lv so fu ty) (hl : lv ≤ 1000000) :
    Calls Try.prog 14 #[.pointer (some ⟨p, 0, none⟩)] w fun e w' => e = .returned (.tuple #[]) ∧ Tw X B w0 w' p N (lv + 1) so fu ty ∧ Same X w w' := by
  obtain ⟨T, h1, h2, h3, h4⟩ := h
  exact (push_level p T N lv so fu ty w h1 hl).mono fun e w' ⟨he, k1, k2⟩ => ⟨he, Tw.step h1 h2 h3 h4 k1 k2 (fun b hb => .inl hb)⟩
theorem tw_levels (h : Tw X B w0 w p N lv so fu ty) : Calls Try.prog 27 #[.pointer (some ⟨p, 0, none⟩)] w fun e w' => e = .returned (.int .i64 (lv : Int)) ∧ w = w' := by
  obtain ⟨T, ⟨⟨v1, m1, v2, m2, v3, h1⟩, _⟩, h2, h3, h4⟩ := h
  exact levels_any p lv w (h1.bk.cell rfl)
theorem tw_pop_many (h : Tw X B w0 w p N lv so fu ty) (n : Nat) (hn : lv < n) :
    Calls Try.prog 16 #[.pointer (some ⟨p, 0, none⟩), .int .i64 (n : Int)] w fun e w' => e = .returned (.int .i64 5) ∧ w = w' := by
  obtain ⟨T, h1, h2, h3, h4⟩ := h
  exact pop_many p T N lv so fu ty w h1 n hn
theorem tw_pop_zero (h : Tw X B w0 w p N lv so fu ty) :
    Calls Try.prog 16 #[.pointer (some ⟨p, 0, none⟩), .int .i64 0] w fun e w' => e = .returned (.int .i64 0) ∧ w = w' := by
  obtain ⟨T, h1, h2, h3, h4⟩ := h
  exact pop_zero p T N lv so fu ty w h1
theorem tw_pop (h : Tw X B w0 w p N lv so fu ty) (n l : Nat) (hn : 1 ≤ n) (hl : l + n = lv) (hN : N ≤ 1000000) (hlv : lv ≤ 1000000) :
    Calls Try.prog 16 #[.pointer (some ⟨p, 0, none⟩), .int .i64 (n : Int)] w fun e w' => e = .returned (.int .i64 0) ∧ Tw X B w0 w' p N l (keepL l so) (keepL l fu) (ty.take (keepL l fu).length) ∧ Same X w w' := by
  obtain ⟨T, h1, h2, h3, h4⟩ := h
  exact (pop_yes p T N lv n l so fu ty w h1 hN hn hl hlv).mono fun e w' ⟨he, k1, k2⟩ => ⟨he, Tw.step h1 h2 h3 h4 k1 k2 (fun b hb => .inl hb)⟩
theorem tw_find (h : Tw X B w0 w p N lv so fu ty) (s : ByteArray) (hs : s.size ≤ maxLen) (hN : N ≤ 1000000) (i : Nat) (hi : i < ty.length) (hx : ty[i].nm.data.toList = s.data.toList) :
    Calls Try.prog 18 #[.pointer (some ⟨p, 0, none⟩), .string s] w fun e w' => ∃ A c, e = .returned (.tuple #[.agg #[.string ty[i].nm, .slice A ty[i].ar.length c, .int .i64 ty[i].rs], .bool true]) ∧ (∀ S : List Nat, (∀ b ∈ S, b < w.heap.size) → Ir S w' A ty[i].ar) ∧ Below w.heap.size w w' := by
  obtain ⟨T, h1, h2, h3, h4⟩ := h
  have hn := h1.2
  have hl := congrArg List.length hn
  simp only [List.length_map] at hl
  have he : fu[i].1 = ty[i].nm := by
    have := congrArg (fun l => l[i]?) hn
    simp only [List.getElem?_map, List.getElem?_eq_getElem hi, List.getElem?_eq_getElem (show i < fu.length by omega), Option.map_some] at this
    injection this
  exact find_yes p T N lv so fu ty s w h1 hs hN i (by omega) hi (by rw [he]; exact hx)
theorem tw_find_no (h : Tw X B w0 w p N lv so fu ty) (s : ByteArray) (hs : s.size ≤ maxLen) (hno : hasB fu s = false) :
    Calls Try.prog 18 #[.pointer (some ⟨p, 0, none⟩), .string s] w fun e w' => e = .returned (.tuple #[.agg #[.string ⟨#[]⟩, .slice none 0 0, .int .i64 0], .bool false]) ∧ Below w.heap.size w w' := by
  obtain ⟨T, h1, h2, h3, h4⟩ := h
  exact find_no p T N lv so fu ty s w h1 hs hno
theorem tw_fsort (h : Tw X B w0 w p N lv so fu ty) (s : ByteArray) (hs : s.size ≤ maxLen) (hN : N ≤ 1000000) :
    Calls Try.prog 21 #[.pointer (some ⟨p, 0, none⟩), .string s] w fun e w' => e = .returned (.tuple #[.int .i64 (fsI so s), .bool (fsB so s)]) ∧ w = w' := by
  obtain ⟨T, h1, h2, h3, h4⟩ := h
  exact fsort_any p T N lv so fu ty s w h1 hs hN
theorem tw_name (h : Tw X B w0 w p N lv so fu ty) (hN : N ≤ 1000000) (i : Nat) (hi : i < so.length) :
    Calls Try.prog 23 #[.pointer (some ⟨p, 0, none⟩), .int .i64 ((i : Int) + 2)] w fun e w' => e = .returned (.tuple #[.string so[i].1, .bool true]) ∧ w = w' := by
  obtain ⟨T, h1, h2, h3, h4⟩ := h
  exact name_yes p T N lv so fu ty w h1 hN i hi
theorem tw_funs (h : Tw X B w0 w p N lv so fu ty) (hN : N ≤ 1000000) :
    Calls Try.prog 25 #[.pointer (some ⟨p, 0, none⟩)] w fun e w' => ∃ g c, e = .returned (.slice (some ⟨g, 0, none⟩) ty.length c) ∧ w.heap.size ≤ g ∧ (∃ l : List Fn, l.Perm ty ∧ l.Pairwise (fun f h => ¬ h.nm.data.toList < f.nm.data.toList) ∧ FunsAt w' g l) ∧ Below w.heap.size w w' := by
  obtain ⟨T, h1, h2, h3, h4⟩ := h
  exact funs_any p T N lv so fu ty w h1 hN
end
end Nt
end Go.Proofs.Ytlcgdiciiibeeaa
