/-
  The declarations and the reference's side by side: what keeps both.
-/
import Derived.Test.YtlcgdiciiibeeaaRh
import Derived.Test.YtlcgdiciiibeeaaTy
namespace Go.Proofs.Ytlcgdiciiibeeaa
open Go.ChangeShapes Go.RowKit
namespace Nt
set_option maxRecDepth 100000
set_option linter.unusedSimpArgs false
set_option linter.unusedVariables false

theorem dropWhile_comp {α : Type} (p q : α → Bool) (h : ∀ x, p x = true → q x = true) : ∀ l : List α, (l.dropWhile p).dropWhile q = l.dropWhile q
  | [] => rfl
  | a :: l => by
    by_cases hp : p a = true
    · rw [List.dropWhile_cons_of_pos hp, List.dropWhile_cons_of_pos (h a hp), dropWhile_comp p q h l]
    · rw [List.dropWhile_cons_of_neg hp]
theorem keepL_comp {j l : Nat} (h : j ≤ l) (es : List (ByteArray × Nat)) : keepL j (keepL l es) = keepL j es := by
  unfold keepL
  rw [List.reverse_reverse, dropWhile_comp]
  intro e he
  simp only [decide_eq_true_eq] at *
  omega
theorem keepL_last {l : Nat} {es : List (ByteArray × Nat)} {e : ByteArray × Nat} (h : e.2 ≤ l) : keepL l (es ++ [e]) = es ++ [e] := by
  have : ¬ l < e.2 := by omega
  unfold keepL; simp [this]
theorem keepL_mono {l m : Nat} {es : List (ByteArray × Nat)} (h : keepL l es = es) (hlm : l ≤ m) : keepL m es = es := by
  rcases List.eq_nil_or_concat es with rfl | ⟨r, a, e⟩
  · rfl
  · have e2 : es = r ++ [a] := by simpa using e
    subst e2
    by_cases hl : l < a.2
    · rw [keepL_drop hl] at h
      have := keepL_take l r
      have h2 := congrArg List.length h
      have h3 : (keepL l r).length ≤ r.length := by rw [this]; simp; omega
      simp at h2
      omega
    · exact keepL_last (by omega)
/-- How the levels of the two agree. -/
structure LevOk (L : List (Nat × Nat)) (so fu : List (ByteArray × Nat)) : Prop where
  s : keepL L.length so = so
  f : keepL L.length fu = fu
  at_ : ∀ j (h : j < L.length), L[j].1 ≤ so.length ∧ L[j].2 ≤ fu.length ∧ keepL j so = so.take L[j].1 ∧ keepL j fu = fu.take L[j].2
section
variable {L : List (Nat × Nat)} {so fu : List (ByteArray × Nat)}
theorem LevOk.nil : LevOk [] [] [] := ⟨rfl, rfl, fun j h => by simp at h⟩
theorem LevOk.sort (h : LevOk L so fu) (s : ByteArray) : LevOk L (so ++ [(s, L.length)]) fu := by
  refine ⟨keepL_last (Nat.le_refl _), h.f, fun j hj => ?_⟩
  obtain ⟨h1, h2, h3, h4⟩ := h.at_ j hj
  exact ⟨by simp; omega, h2, by rw [keepL_drop (by exact hj), h3, List.take_append_of_le_length h1], h4⟩
theorem LevOk.fn (h : LevOk L so fu) (s : ByteArray) : LevOk L so (fu ++ [(s, L.length)]) := by
  refine ⟨h.s, keepL_last (Nat.le_refl _), fun j hj => ?_⟩
  obtain ⟨h1, h2, h3, h4⟩ := h.at_ j hj
  exact ⟨h1, by simp; omega, h3, by rw [keepL_drop (by exact hj), h4, List.take_append_of_le_length h2]⟩
theorem LevOk.push (h : LevOk L so fu) : LevOk (L ++ [(so.length, fu.length)]) so fu := by
  refine ⟨keepL_mono h.s (by simp), keepL_mono h.f (by simp), fun j hj => ?_⟩
  by_cases hjl : j < L.length
  · rw [List.getElem_append_left hjl]
    exact h.at_ j hjl
  · have e : j = L.length := by simp at hj; omega
    subst e
    simp [h.s, h.f]
theorem LevOk.pop (h : LevOk L so fu) {l : Nat} (hl : l < L.length) : keepL l so = so.take L[l].1 ∧ keepL l fu = fu.take L[l].2 ∧ LevOk (L.take l) (keepL l so) (keepL l fu) := by
  obtain ⟨h1, h2, h3, h4⟩ := h.at_ l hl
  have hlen : (L.take l).length = l := by rw [List.length_take]; omega
  refine ⟨h3, h4, ⟨by rw [hlen]; exact keepL_comp (Nat.le_refl _) _, by rw [hlen]; exact keepL_comp (Nat.le_refl _) _, fun j hj => ?_⟩⟩
  rw [hlen] at hj
  have hjL : j < L.length := by omega
  obtain ⟨q1, q2, q3, q4⟩ := h.at_ j hjL
  rw [List.getElem_take]
  have c1 := keepL_comp (Nat.le_of_lt hj) so
  have c2 := keepL_comp (Nat.le_of_lt hj) fu
  have le1 : L[j].1 ≤ L[l].1 := by
    have e1 := keepL_le j (keepL l so)
    rw [c1, q3, h3, List.length_take, List.length_take] at e1
    omega
  have le2 : L[j].2 ≤ L[l].2 := by
    have e1 := keepL_le j (keepL l fu)
    rw [c2, q4, h4, List.length_take, List.length_take] at e1
    omega
  have t1 : (keepL l so).length = L[l].1 := by rw [h3, List.length_take]; omega
  have t2 : (keepL l fu).length = L[l].2 := by rw [h4, List.length_take]; omega
  refine ⟨Nat.le_trans le1 (Nat.le_of_eq t1.symm), Nat.le_trans le2 (Nat.le_of_eq t2.symm), ?_, ?_⟩
  · rw [c1, q3, h3, List.take_take, Nat.min_eq_left le1]
  · rw [c2, q4, h4, List.take_take, Nat.min_eq_left le2]
end

section
variable {X : List Nat} {B : Nat} {w0 w w' : World} {p r g N lv k : Nat} {so fu : List (ByteArray × Nat)} {ty : List Fn} {T T' R : List Nat} {L : List (Nat × Nat)} {cs : Array Value}
/-- What writes into X alone, or lays what is new; another X behind it. -/
theorem Tb.side {Y S : List Nat} (h : Tb X w p T N lv so fu ty) (hO : Off S w w') (hS : ∀ b ∈ S, b ∈ X) (hY : ∀ b ∈ Y, (b ∈ X ∨ w.heap.size ≤ b) ∧ b < w'.heap.size) : Tb Y w' p T N lv so fu ty := by
  obtain ⟨⟨v1, m1, v2, m2, v3, h1⟩, hn⟩ := h
  have hd : ∀ b ∈ T, b ∉ S := fun b hb hm => (h1.xs b (hS b hm)).2 hb
  have hT := h1.eT
  obtain ⟨xs, hx, hF⟩ := h1.tS
  have s0 : p ∈ T := by rw [hT]; simp
  have s1 : ∀ k ∈ bks v1 m1, k ∈ T := fun k hk => by rw [hT]; exact List.mem_cons_of_mem _ (List.mem_append_left _ hk)
  have s2 : ∀ k ∈ bks v2 m2, k ∈ T := fun k hk => by rw [hT]; exact List.mem_cons_of_mem _ (List.mem_append_right _ (List.mem_append_left _ hk))
  have s3 : ∀ k, v3.ownBlock = some k → k ∈ T := fun k hk => by rw [hT]; exact List.mem_cons_of_mem _ (List.mem_append_right _ (List.mem_append_right _ (by rw [Option.mem_toList]; exact hk)))
  refine ⟨⟨v1, m1, v2, m2, v3, h1.bk.off hO (hd _ s0), h1.sS.off hO (fun k hk => hd k (s1 k hk)) (Nat.le_refl _), h1.fS.off hO (fun k hk => hd k (s2 k hk)) (Nat.le_refl _), ⟨xs, Off.row hx hO (fun k hk => hd k (s3 k hk)), Fs.off hO (fun b hb => .inl (List.mem_append_right _ (hS b hb))) (fun b hb => ?_) hF⟩, h1.eT, h1.once, fun b hb => ⟨(hY b hb).2, fun hm => ?_⟩⟩, hn⟩
  · rcases List.mem_append.1 hb with hb | hb
    · exact .inl (List.mem_append_left _ hb)
    · exact (hY b hb).1.imp (List.mem_append_right _) id
  · rcases (hY b hb).1 with hx | hx
    · exact (h1.xs b hx).2 hm
    · exact Nat.not_lt.2 hx (h1.lt b hm)
theorem Tb.mono (h : Tb X w p T N lv so fu ty) {N' : Nat} (hN : N ≤ N') : Tb X w p T N' lv so fu ty := by
  obtain ⟨⟨v1, m1, v2, m2, v3, h1⟩, hn⟩ := h
  exact ⟨⟨v1, m1, v2, m2, v3, h1.bk, h1.sS.off (Off.refl [] w) (by simp) hN, h1.fS.off (Off.refl [] w) (by simp) hN, h1.tS, h1.eT, h1.once, h1.xs⟩, hn⟩
def RfE (T : List Nat) (w : World) (r : Nat) (R : List Nat) (nm : List ByteArray) (fs : List Fn) (L : List (Nat × Nat)) : Prop := ∃ AN cN AF cF vL, RfP T w r R nm fs L AN cN AF cF vL
/-- The two, and the act (block g). -/
structure Jn (B : Nat) (w0 w : World) (p r g : Nat) (cs : Array Value) (k : Nat) (lv : Nat) (so fu : List (ByteArray × Nat)) (ty : List Fn) (so' : List ByteArray) (ty' : List Fn) (L : List (Nat × Nat)) (T R : List Nat) : Prop where
  tb : Tb (g :: R) w p T k lv so fu ty
  rf : RfE T w r R so' ty' L
  tB : ∀ b ∈ T, B ≤ b
  rB : ∀ b ∈ R, B ≤ b
  sz : B ≤ w.heap.size
  bl : Below B w0 w
  bk : Bk g cs 37 w
  gR : g ∉ R
structure Jk (k : Nat) (lv : Nat) (so fu : List (ByteArray × Nat)) (ty : List Fn) (L : List (Nat × Nat)) : Prop where
  hl : L.length = lv
  ok : LevOk L so fu
  ks : so.length ≤ k
  kf : ty.length ≤ k
  kl : lv ≤ k
  nd : (ty.map fun f => f.nm.data.toList).Nodup
variable {so' : List ByteArray} {ty' : List Fn} {so2 fu2 : List (ByteArray × Nat)} {ty2 : List Fn} {lv2 : Nat} {nm2 : List ByteArray} {L2 : List (Nat × Nat)}
/-- The table's turn. -/
theorem Jn.code (h : Jn B w0 w p r g cs k lv so fu ty so' ty' L T R) {k' : Nat} (ht : Tb (g :: R) w' p T' k' lv2 so2 fu2 ty2) (hO : Off T w w') (hT : ∀ b ∈ T', b ∈ T ∨ w.heap.size ≤ b) : Jn B w0 w' p r g cs k' lv2 so2 fu2 ty2 so' ty' L T' R := by
  obtain ⟨AN, cN, AF, cF, vL, hr⟩ := h.rf
  have hg : g ∉ T := (h.tb.xs g (by simp)).2
  exact ⟨ht, ⟨AN, cN, AF, cF, vL, hr.off hO (fun b hb => .inl hb) hT⟩, fun b hb => (hT b hb).elim (h.tB b) (fun h' => Nat.le_trans h.sz h'), h.rB, Nat.le_trans h.sz hO.size, h.bl.trans (hO.below h.sz h.tB), h.bk.off hO hg, h.gR⟩
/-- The reference's turn. -/
theorem Jn.ref (h : Jn B w0 w p r g cs k lv so fu ty so' ty' L T R) {R' : List Nat} (hr : RfE T w' r R' nm2 ty2 L2) (hO : Off R w w') (hR : ∀ b ∈ R', b ∈ R ∨ w.heap.size ≤ b) : Jn B w0 w' p r g cs k lv so fu ty nm2 ty2 L2 T R' := by
  have hgw : g < w.heap.size := h.bk.lt
  have hlt : ∀ b ∈ R', b < w'.heap.size := by
    obtain ⟨AN, cN, AF, cF, vL, hr⟩ := hr
    exact hr.lt
  refine ⟨h.tb.side hO (fun b hb => List.mem_cons_of_mem _ hb) (fun b hb => ?_), hr, h.tB, fun b hb => (hR b hb).elim (h.rB b) (fun h' => Nat.le_trans h.sz h'), Nat.le_trans h.sz hO.size, h.bl.trans (hO.below h.sz h.rB), h.bk.off hO h.gR, fun hm => (hR g hm).elim h.gR (fun h' => Nat.not_lt.2 h' hgw)⟩
  rcases List.mem_cons.1 hb with rfl | hb
  · exact ⟨.inl (by simp), Nat.lt_of_lt_of_le hgw hO.size⟩
  · exact ⟨(hR b hb).imp (List.mem_cons_of_mem _) id, hlt b hb⟩
theorem Jn.next (h : Jn B w0 w p r g cs k lv so fu ty so' ty' L T R) (hb : Below w.heap.size w w') : Jn B w0 w' p r g cs k lv so fu ty so' ty' L T R := by
  obtain ⟨AN, cN, AF, cF, vL, hr⟩ := h.rf
  exact ⟨h.tb.below hb, ⟨AN, cN, AF, cF, vL, hr.next hb⟩, h.tB, h.rB, Nat.le_trans h.sz hb.size, h.bl.trans (hb.mono h.sz), h.bk.next hb, h.gR⟩
/-- A list of the arguments' own: it lies below B. -/
def Ib (B : Nat) (w : World) (A : Option Addr) (ar : List Int) : Prop := ar = [] ∨ ∃ b o, A = some ⟨b, o, none⟩ ∧ b < B ∧ ∀ j, j < ar.length → w.cell? ⟨b, o + j, none⟩ = some (.int .i64 (ar.getD j 0))
theorem Ib.ir {A : Option Addr} {ar : List Int} (h : Ib B w0 A ar) (hb : Below B w0 w) (hB : B ≤ w.heap.size) {S : List Nat} (hS : ∀ b ∈ S, B ≤ b) : Ir S w A ar := by
  rcases h with h | ⟨b, o, h1, h2, h3⟩
  · exact .inl h
  · refine .inr ⟨b, o, h1, Nat.lt_of_lt_of_le h2 hB, fun hm => Nat.not_lt.2 (hS b hm) h2, fun j hj => ?_⟩
    have := h3 j hj
    unfold World.cell? at this ⊢
    rw [hb.block b h2]
    exact this
end
end Nt
end Go.Proofs.Ytlcgdiciiibeeaa
