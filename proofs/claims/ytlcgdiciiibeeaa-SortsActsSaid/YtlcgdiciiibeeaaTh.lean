/-
  A table: what it is in memory; a sort is declared.
-/
import Derived.Test.YtlcgdiciiibeeaaTg
namespace Go.Proofs.Ytlcgdiciiibeeaa
open Go.ChangeShapes Go.RowKit
namespace Nt
set_option maxRecDepth 100000
variable {X : List Nat}
set_option linter.unusedSimpArgs false
set_option linter.unusedVariables false

theorem push_any (p o : Nat) (t : TypeId) (cur : Array Value) (v : Value) (m : Option Nat) (N : Nat) (es : List (ByteArray × Nat)) (s : ByteArray) (l : Nat) (w : World)
    (hB : Bk p cur t w) (h0 : cur[o]? = some v) (h1 : cur[o + 1]? = some (.map m)) (hS : Stk w v m N es) (hp : p ∉ bks v m) (hno : hasB es s = false) (hs : s.size ≤ 200) (hN : N ≤ 1000000) :
    Calls Try.prog 35 #[.pointer (some ⟨p, o, none⟩), .string s, .int .i64 (l : Int)] w fun e w' => e = .returned (.string s) ∧ Pushed p o t cur v m (N + 1) (es ++ [(s, l)]) w w' := by
  have hform : ∃ A c, v = .slice A es.length c := by
    rcases hS.row.2 with ⟨e, h⟩ | ⟨g, cap, cu, e, _⟩
    · exact ⟨none, 0, by rw [e, h]⟩
    · exact ⟨_, _, e⟩
  obtain ⟨A, c, rfl⟩ := hform
  cases m with
  | none =>
    rcases hS.map with ⟨_, rfl⟩ | ⟨b, _, h, _⟩
    · exact push_none p o t cur A c N s l w hB h0 h1 hS hp hs hN
    · cases h
  | some b =>
    refine push_some p o t cur A c b N es s l w hB h0 h1 hS hp (fun k hk e => ?_) hno hs hN
    subst e
    rcases hS.map with ⟨h, _⟩ | ⟨b, D, h, ⟨en, cl, hb, _⟩, _⟩
    · cases h
    · cases h
      rcases hS.row.2 with ⟨e, _⟩ | ⟨g, cap, cu, e, _, hg, _⟩
      · rw [e] at hk; cases hk
      · rw [e] at hk
        cases hk
        rw [hb] at hg
        cases hg

/-- A function that is declared. -/
structure Fn where
  nm : ByteArray
  ar : List Int
  rs : Int
/-- The cells of a list of functions. -/
def Fs (T : List Nat) (w : World) : List Fn → List Value → Prop
  | [], vs => vs = []
  | f :: fs, vs => ∃ A c r, vs = .string f.nm :: .slice A f.ar.length c :: .int .i64 f.rs :: r ∧ Ir T w A f.ar ∧ f.ar.length ≤ 64 ∧ Fs T w fs r
theorem Fs.off {T S T' : List Nat} {w w' : World} (hf : Off S w w') (hS : ∀ b ∈ S, b ∈ T ∨ w.heap.size ≤ b) (hT : ∀ b ∈ T', b ∈ T ∨ w.heap.size ≤ b) : ∀ {fs : List Fn} {vs : List Value}, Fs T w fs vs → Fs T' w' fs vs
  | [], _, h => h
  | _ :: _, _, ⟨A, c, r, e, h1, h2, h3⟩ => ⟨A, c, r, e, h1.off hf hS hT, h2, Fs.off hf hS hT h3⟩
/-- The functions of a table. -/
def Tys (T : List Nat) (w : World) (v : Value) (ty : List Fn) : Prop := ∃ xs, w.ownsRow 0 35 3 v ty.length xs ∧ Fs T w ty xs

theorem xs_off {T T' X : List Nat} {w w' : World} (h : ∀ b ∈ X, b < w.heap.size ∧ b ∉ T) (hz : w.heap.size ≤ w'.heap.size) (hT : ∀ b ∈ T', b ∈ T ∨ w.heap.size ≤ b) : ∀ b ∈ X, b < w'.heap.size ∧ b ∉ T' :=
  fun b hb => ⟨Nat.lt_of_lt_of_le (h b hb).1 hz, fun hm => (hT b hm).elim (h b hb).2 (fun hle => Nat.not_lt.2 hle (h b hb).1)⟩
theorem app_sub {T T' X : List Nat} {n : Nat} (h : ∀ b ∈ T', b ∈ T ∨ n ≤ b) : ∀ b ∈ T' ++ X, b ∈ T ++ X ∨ n ≤ b := by
  intro b hb
  rcases List.mem_append.1 hb with hb | hb
  · exact (h b hb).imp (List.mem_append_left _) id
  · exact .inl (List.mem_append_right _ hb)
/-- A table in memory. -/
structure TbP (X : List Nat) (w : World) (p : Nat) (T : List Nat) (N lv : Nat) (so fu : List (ByteArray × Nat)) (ty : List Fn) (v1 : Value) (m1 : Option Nat) (v2 : Value) (m2 : Option Nat) (v3 : Value) : Prop where
  bk : Bk p #[.int .i64 (lv : Int), v1, .map m1, v2, .map m2, v3] 70 w
  sS : Stk w v1 m1 N so
  fS : Stk w v2 m2 N fu
  tS : Tys (T ++ X) w v3 ty
  eT : T = p :: (bks v1 m1 ++ (bks v2 m2 ++ v3.ownBlock.toList))
  once : T.Nodup
  xs : ∀ b ∈ X, b < w.heap.size ∧ b ∉ T
def Tb (X : List Nat) (w : World) (p : Nat) (T : List Nat) (N lv : Nat) (so fu : List (ByteArray × Nat)) (ty : List Fn) : Prop := (∃ v1 m1 v2 m2 v3, TbP X w p T N lv so fu ty v1 m1 v2 m2 v3) ∧ fu.map Prod.fst = ty.map Fn.nm

theorem Stk.off {T : List Nat} {w w' : World} {v : Value} {m : Option Nat} {N N' : Nat} {es : List (ByteArray × Nat)} (h : Stk w v m N es) (hf : Off T w w') (hn : ∀ k ∈ bks v m, k ∉ T) (hN : N ≤ N') : Stk w' v m N' es :=
  ⟨Off.row h.row hf (fun k hk => hn k (List.mem_append_left _ (by rw [Option.mem_toList]; exact hk))), (Off.map h.map hf (fun k hk => hn k (List.mem_append_right _ (by rw [Option.mem_toList]; exact hk)))).mono hN, Nat.le_trans h.le hN⟩
theorem Stk.lt {w : World} {v : Value} {m : Option Nat} {N : Nat} {es : List (ByteArray × Nat)} (h : Stk w v m N es) : ∀ k ∈ bks v m, k < w.heap.size := by
  intro k hk
  rcases List.mem_append.1 hk with hk | hk
  · rw [Option.mem_toList] at hk; exact row_lt h.row hk
  · rw [Option.mem_toList] at hk; exact map_lt h.map hk
theorem Stk.once {w : World} {v : Value} {m : Option Nat} {N : Nat} {es : List (ByteArray × Nat)} (h : Stk w v m N es) : (bks v m).Nodup := by
  unfold bks
  rw [List.nodup_append]
  refine ⟨by cases v.ownBlock <;> simp, by cases m <;> simp, ?_⟩
  intro a ha b hb e
  subst e
  rw [Option.mem_toList] at ha hb
  rcases h.map with ⟨rfl, _⟩ | ⟨b, D, rfl, ⟨en, cl, hb', _⟩, _⟩
  · cases hb
  · cases hb
    rcases h.row.2 with ⟨e, _⟩ | ⟨g, cap, cu, e, _, hg, _⟩
    · rw [e] at ha; cases ha
    · rw [e] at ha
      cases ha
      rw [hb'] at hg
      cases hg
theorem TbP.lt {w : World} {p : Nat} {T : List Nat} {N lv : Nat} {so fu : List (ByteArray × Nat)} {ty : List Fn} {v1 : Value} {m1 : Option Nat} {v2 : Value} {m2 : Option Nat} {v3 : Value} (h : TbP X w p T N lv so fu ty v1 m1 v2 m2 v3) : ∀ k ∈ T, k < w.heap.size := by
  intro k hk
  rw [h.eT] at hk
  rcases List.mem_cons.1 hk with rfl | hk
  · exact h.bk.lt
  rcases List.mem_append.1 hk with hk | hk
  · exact h.sS.lt k hk
  rcases List.mem_append.1 hk with hk | hk
  · exact h.fS.lt k hk
  · rw [Option.mem_toList] at hk
    obtain ⟨xs, hx, _⟩ := h.tS
    exact row_lt hx hk

theorem TbP.drew {w : World} {p : Nat} {T : List Nat} {N lv : Nat} {so fu : List (ByteArray × Nat)} {ty : List Fn} {v1 : Value} {m1 : Option Nat} {v2 : Value} {m2 : Option Nat} {v3 : Value} (h : TbP X w p T N lv so fu ty v1 m1 v2 m2 v3) : TbP X w.drew p T N lv so fu ty v1 m1 v2 m2 v3 := by
  have hf : Off [] w w.drew := (Off.refl _ _).drew
  obtain ⟨xs, hx, hF⟩ := h.tS
  exact ⟨h.bk, h.sS.off hf (by simp) (Nat.le_refl _), h.fS.off hf (by simp) (Nat.le_refl _), ⟨xs, Off.row hx hf (by simp), Fs.off hf (by simp) (fun b hb => .inl hb) hF⟩, h.eT, h.once, xs_off h.xs hf.size (fun b hb => .inl hb)⟩

/-- A sort more. -/
theorem tb_sort {w w' : World} {p : Nat} {T : List Nat} {N lv : Nat} {so so' fu : List (ByteArray × Nat)} {ty : List Fn} {v1 : Value} {m1 : Option Nat} {v2 : Value} {m2 : Option Nat} {v3 : Value} (h : TbP X w p T N lv so fu ty v1 m1 v2 m2 v3)
    (hp : Pushed p 1 70 #[.int .i64 (lv : Int), v1, .map m1, v2, .map m2, v3] v1 m1 (N + 1) so' w w') :
    ∃ T', (∃ v1 m1 v2 m2 v3, TbP X w' p T' (N + 1) lv so' fu ty v1 m1 v2 m2 v3) ∧ Off T w w' ∧ ∀ b ∈ T', b ∈ T ∨ w.heap.size ≤ b := by
  obtain ⟨v', m', hS', hB', hO, hnew⟩ := hp
  obtain ⟨xs, hx, hF⟩ := h.tS
  have hlt := h.lt
  have ho := h.once
  have hT := h.eT
  subst hT
  simp only [List.nodup_cons, List.nodup_append, List.mem_append, not_or] at ho
  obtain ⟨⟨n1, n2, n3⟩, o1, ⟨o2, o3, o4⟩, o5⟩ := ho
  have hsub : ∀ b ∈ p :: bks v1 m1, b ∈ p :: (bks v1 m1 ++ (bks v2 m2 ++ v3.ownBlock.toList)) := by
    intro b hb
    rcases List.mem_cons.1 hb with rfl | hb
    · simp
    · exact List.mem_cons_of_mem _ (List.mem_append_left _ hb)
  have hsub2 : ∀ b ∈ p :: (bks v' m' ++ (bks v2 m2 ++ v3.ownBlock.toList)), b ∈ p :: (bks v1 m1 ++ (bks v2 m2 ++ v3.ownBlock.toList)) ∨ w.heap.size ≤ b := by
    intro b hb
    rcases List.mem_cons.1 hb with rfl | hb
    · exact .inl (by simp)
    · rcases List.mem_append.1 hb with hb | hb
      · exact (hnew b hb).imp (fun h => List.mem_cons_of_mem _ (List.mem_append_left _ h)) id
      · exact .inl (List.mem_cons_of_mem _ (List.mem_append_right _ hb))
  have hX : ∀ b ∈ bks v2 m2 ++ v3.ownBlock.toList, b < w.heap.size := fun b hb => hlt b (List.mem_cons_of_mem _ (List.mem_append_right _ hb))
  have hpl := h.bk.lt
  refine ⟨p :: (bks v' m' ++ (bks v2 m2 ++ v3.ownBlock.toList)), ⟨v', m', v2, m2, v3, hB', hS', h.fS.off hO ?_ (Nat.le_succ _), ⟨xs, Off.row hx hO ?_, Fs.off hO (fun b hb => .inl (List.mem_append_left _ (hsub b hb))) (app_sub hsub2) hF⟩, rfl, ?_, xs_off h.xs hO.size hsub2⟩, hO.more hsub, hsub2⟩
  · intro k hk hm
    rcases List.mem_cons.1 hm with rfl | hm
    · exact n2 hk
    · exact o5 k hm k (.inl hk) rfl
  · intro k hk hm
    have hk : k ∈ v3.ownBlock.toList := by rw [Option.mem_toList]; exact hk
    rcases List.mem_cons.1 hm with rfl | hm
    · exact n3 hk
    · exact o5 k hm k (.inr hk) rfl
  · simp only [List.nodup_cons, List.nodup_append, List.mem_append, not_or]
    refine ⟨⟨fun hm => ?_, n2, n3⟩, hS'.once, ⟨o2, o3, o4⟩, fun a ha b hb e => ?_⟩
    · rcases hnew p hm with hm | hm
      · exact n1 hm
      · omega
    · subst e
      rcases hnew a ha with hm | hm
      · exact o5 a hm a hb rfl
      · have := hX a (List.mem_append.2 hb)
        omega

set_option maxHeartbeats 1000000 in
theorem sort_yes (p : Nat) (T : List Nat) (N lv : Nat) (so fu : List (ByteArray × Nat)) (ty : List Fn) (s : ByteArray) (w : World) (h : Tb X w p T N lv so fu ty) (hf : freeB so s = true) (hs : s.size ≤ maxLen) (hN : N ≤ 1000000) :
    Calls Try.prog 10 #[.pointer (some ⟨p, 0, none⟩), .string s] w fun e w' => e = .returned (.tuple #[.int .i64 ((so.length : Int) + 2), .int .i64 0]) ∧ ∃ T', Tb X w' p T' (N + 1) lv (so ++ [(s, lv)]) fu ty ∧ Off T w w' ∧ ∀ b ∈ T', b ∈ T ∨ w.heap.size ≤ b := by
  obtain ⟨⟨v1, m1, v2, m2, v3, h⟩, hnames⟩ := h
  have hfree := free_any p 1 m1 N so s w (h.bk.cell rfl) h.sS.map hs
  rw [hf] at hfree
  have hnm : s.size ≤ 200 ∧ hasB so s = false := by
    simp only [freeB, nameB, Bool.and_eq_true, decide_eq_true_eq, Bool.not_eq_true'] at hf
    exact ⟨hf.1.1.2, hf.2⟩
  have hn1 : so.length ≤ 1000000 := Nat.le_trans h.sS.le hN
  have hform : ∃ A c, v1 = .slice A so.length c := by
    rcases h.sS.row.2 with ⟨e, h⟩ | ⟨g, cap, cu, e, _⟩
    · exact ⟨none, 0, by rw [e, h]⟩
    · exact ⟨_, _, e⟩
  obtain ⟨A, c, rfl⟩ := hform
  have hlen := len_any p 1 so.length c A w (h.bk.cell rfl)
  have a0 : w.drew.cell? ⟨p, 0, none⟩ = some (.int .i64 (lv : Int)) := h.drew.bk.cell rfl
  have hpn : p ∉ bks (.slice A so.length c) m1 := by
    have := h.once
    rw [h.eT] at this
    simp only [List.nodup_cons, List.mem_append, not_or] at this
    exact this.1.1
  have hpush := push_any p 1 70 _ (.slice A so.length c) m1 N so s lv w.drew h.drew.bk rfl rfl h.drew.sS hpn hnm.2 hnm.1 hN
  have hcell : ∀ w', Pushed p 1 70 #[.int .i64 (lv : Int), .slice A so.length c, .map m1, v2, .map m2, v3] (.slice A so.length c) m1 (N + 1) (so ++ [(s, lv)]) w.drew w' → w'.cell? ⟨p, 0, none⟩ = some (.int .i64 (lv : Int)) := by
    rintro w' ⟨v', m', _, hB', _⟩
    exact hB'.cell rfl
  have hcell := hide hcell
  have hpush := hide hpush
  have h := hide h
  clear hpn hnm hf hs
  obtain ⟨n, hn⟩ : ∃ n, n = so.length := ⟨_, rfl⟩
  go_enter Try.func10, Try.ntmps10
  go_wp2_with first
    | (go_at_call 33; (with_reducible refine hfree.mono ?_); rintro e w1 ⟨rfl, rfl⟩)
    | (go_at_call 34; (with_reducible refine hlen.mono ?_); rintro e w1 ⟨rfl, rfl⟩)
  refine wp_region_held_drew (S := (fun W => W.cell? ⟨p, 0, none⟩ = some (.int .i64 (lv : Int)))) (by kernel_rfl) ?_ (fun hHeld => ?_)
  · (try dsimp only)
    exact a0
  refine wpAnyH_take (i := 0) (v := ?vvx0) (by (simp only [List.getElem?_toArray, List.getElem?_cons_zero, List.getElem?_cons_succ]) <;> rfl) (by kernel_rfl) (by kernel_rfl) (by kernel_rfl) ?hqx0 (Or.inl ⟨by rfl, ?hyx0⟩) (by assumption) ?_
  case hqx0 => exact fun _ _ _ h => h
  case hyx0 => ((intro w hSw; (try dsimp only at hSw); go_simp) <;> (with_reducible rfl))
  (try simp only [Act.put, List.setIfInBounds_toArray, List.set_cons_zero, List.set_cons_succ])
  refine wpAnyH_take (i := 1) (v := ?vvx1) (by (simp only [List.getElem?_toArray, List.getElem?_cons_zero, List.getElem?_cons_succ]) <;> rfl) (by kernel_rfl) (by kernel_rfl) (by kernel_rfl) ?hqx1 (Or.inl ⟨by rfl, ?hyx1⟩) (by assumption) ?_
  case hqx1 => exact fun _ _ _ h => h
  case hyx1 => ((intro w hSw; (try dsimp only at hSw); go_simp) <;> (with_reducible rfl))
  (try simp only [Act.put, List.setIfInBounds_toArray, List.set_cons_zero, List.set_cons_succ])
  refine wpAnyH_take (i := 2) (v := ?vvx2) (by (simp only [List.getElem?_toArray, List.getElem?_cons_zero, List.getElem?_cons_succ]) <;> rfl) (by kernel_rfl) (by kernel_rfl) (by kernel_rfl) ?hqx2 (Or.inl ⟨by rfl, ?hyx2⟩) (by assumption) ?_
  case hqx2 => exact fun _ _ _ h => h
  case hyx2 => ((intro w hSw; (try dsimp only at hSw); go_simp) <;> (with_reducible rfl))
  (try simp only [Act.put, List.setIfInBounds_toArray, List.set_cons_zero, List.set_cons_succ])
  refine wpAnyH_take (i := 3) (v := ?vvx3) (by (simp only [List.getElem?_toArray, List.getElem?_cons_zero, List.getElem?_cons_succ]) <;> rfl) (by kernel_rfl) (by kernel_rfl) (by kernel_rfl) ?hqx3 (Or.inl ⟨by rfl, ?hyx3⟩) (by assumption) ?_
  case hqx3 => exact fun _ _ _ h => h
  case hyx3 => ((intro w hSw; (try dsimp only at hSw); go_simp) <;> (with_reducible rfl))
  (try simp only [Act.put, List.setIfInBounds_toArray, List.set_cons_zero, List.set_cons_succ])
  refine wpAnyH_take (i := 4) (v := ?vvx4) (by (simp only [List.getElem?_toArray, List.getElem?_cons_zero, List.getElem?_cons_succ]) <;> rfl) (by kernel_rfl) (by kernel_rfl) (by kernel_rfl) ?hqx4 (Or.inl ⟨by rfl, ?hyx4⟩) (by assumption) ?_
  case hqx4 => exact fun _ _ _ h => h
  case hyx4 => ((intro w hSw; (try dsimp only at hSw); go_simp) <;> (with_reducible rfl))
  (try simp only [Act.put, List.setIfInBounds_toArray, List.set_cons_zero, List.set_cons_succ])
  refine wpAnyH_take (i := 5) (v := ?vvx5) (by (simp only [List.getElem?_toArray, List.getElem?_cons_zero, List.getElem?_cons_succ]) <;> rfl) (by kernel_rfl) (by kernel_rfl) (by kernel_rfl) ?hqx5 (Or.inl ⟨by rfl, ?hyx5⟩) (by assumption) ?_
  case hqx5 => exact fun _ _ _ h => h
  case hyx5 => ((intro w hSw; (try dsimp only at hSw); go_simp) <;> (with_reducible rfl))
  (try simp only [Act.put, List.setIfInBounds_toArray, List.set_cons_zero, List.set_cons_succ])
  refine wpAnyH_take (i := 6) (v := ?vvx6) (by (simp only [List.getElem?_toArray, List.getElem?_cons_zero, List.getElem?_cons_succ]) <;> rfl) (by kernel_rfl) (by kernel_rfl) (by kernel_rfl) ?hqx6 (Or.inl ⟨by rfl, ?hyx6⟩) (by assumption) ?_
  case hqx6 => exact fun _ _ _ h => h
  case hyx6 => ((intro w hSw; (try dsimp only at hSw); go_simp) <;> (with_reducible rfl))
  (try simp only [Act.put, List.setIfInBounds_toArray, List.set_cons_zero, List.set_cons_succ])
  refine wpAnyH_take (i := 7) (v := ?vvx7) (by (simp only [List.getElem?_toArray, List.getElem?_cons_zero, List.getElem?_cons_succ]) <;> rfl) (by kernel_rfl) (by kernel_rfl) (by kernel_rfl) ?hqx7 (Or.inl ⟨by rfl, ?hyx7⟩) (by assumption) ?_
  case hqx7 => exact fun _ _ _ h => h
  case hyx7 => ((intro w hSw; (try dsimp only at hSw); go_simp) <;> (with_reducible rfl))
  (try simp only [Act.put, List.setIfInBounds_toArray, List.set_cons_zero, List.set_cons_succ])
  refine wpAnyH_ready (rs := [8]) (by kernel_rfl) (by simp) ?_
  refine AllReadyH.cons (by (simp only [List.getElem?_toArray, List.getElem?_cons_zero, List.getElem?_cons_succ]) <;> rfl) (fun K hK => ?_) AllReadyH.nil
  go_simp
  go_at_call 35; (with_reducible refine hpush.out.mono ?_); rintro e w1 ⟨rfl, hpu⟩; have a0 := hcell.out _ hpu
  (try go_wp2_with fail)
  refine hK.out _ _ ?_ (fun hHeld => ?_)
  · (try dsimp only)
    exact (by assumption)
  clear hK K
  (try simp only [Act.put, List.setIfInBounds_toArray, List.set_cons_zero, List.set_cons_succ])
  refine wpAnyH_done (by kernel_rfl) ?_ _
  (try clear hHeld)
  go_wp2
  go_ret2
  obtain ⟨T', h1, h2, h3⟩ := tb_sort h.out.drew hpu
  exact ⟨rfl, T', ⟨h1, hnames⟩, ((Off.refl T _).drew).trans h2 (fun b hb => .inl hb), h3⟩

theorem sort_no (p : Nat) (T : List Nat) (N lv : Nat) (so fu : List (ByteArray × Nat)) (ty : List Fn) (s : ByteArray) (w : World) (h : Tb X w p T N lv so fu ty) (hf : freeB so s = false) (hs : s.size ≤ maxLen) :
    Calls Try.prog 10 #[.pointer (some ⟨p, 0, none⟩), .string s] w fun e w' => e = .returned (.tuple #[.int .i64 0, .int .i64 1]) ∧ w = w' := by
  obtain ⟨⟨v1, m1, v2, m2, v3, h⟩, hnames⟩ := h
  have hfree := free_any p 1 m1 N so s w (h.bk.cell rfl) h.sS.map hs
  rw [hf] at hfree
  clear h hf hs
  go_enter Try.func10, Try.ntmps10
  go_wp2_with (go_at_call 33; (with_reducible refine hfree.mono ?_); rintro e w1 ⟨rfl, rfl⟩)
  go_ret2
  exact ⟨rfl, rfl⟩

/-- A table of which nothing is declared. -/
theorem new_any (w : World) (hX : ∀ b ∈ X, b < w.heap.size) : Calls Try.prog 9 #[] w fun e w' => e = .returned (.pointer (some ⟨w.heap.size, 0, none⟩)) ∧ Tb X w' w.heap.size [w.heap.size] 0 0 [] [] [] ∧ Below w.heap.size w w' := by
  have key : Tb X (w.alloc (.cells #[.int .i64 0, .slice none 0 0, .map none, .slice none 0 0, .map none, .slice none 0 0] 70)) w.heap.size [w.heap.size] 0 0 [] [] [] :=
    ⟨⟨.slice none 0 0, none, .slice none 0 0, none, .slice none 0 0, Bk.new _ _ w, ⟨World.ownsRow_nil _ _ _ _, .inl ⟨rfl, rfl⟩, Nat.le_refl _⟩, ⟨World.ownsRow_nil _ _ _ _, .inl ⟨rfl, rfl⟩, Nat.le_refl _⟩, ⟨[], World.ownsRow_nil _ _ _ _, rfl⟩, rfl, by simp, fun b hb => ⟨by have := hX b hb; simp; omega, by have := hX b hb; simp; omega⟩⟩, rfl⟩
  have key := hide key
  go_enter Try.func9, Try.ntmps9
  go_wp2
  go_ret
  exact ⟨rfl, key.out, (Below.refl _ _).alloc (Nat.le_refl _) _⟩

/-- A level more. -/
theorem push_level (p : Nat) (T : List Nat) (N lv : Nat) (so fu : List (ByteArray × Nat)) (ty : List Fn) (w : World) (h : Tb X w p T N lv so fu ty) (hl : lv ≤ 1000000) :
    Calls Try.prog 14 #[.pointer (some ⟨p, 0, none⟩)] w fun e w' => e = .returned (.tuple #[]) ∧ Tb X w' p T N (lv + 1) so fu ty ∧ Off T w w' := by
  obtain ⟨⟨v1, m1, v2, m2, v3, h⟩, hnames⟩ := h
  have a0 : w.cell? ⟨p, 0, none⟩ = some (.int .i64 (lv : Int)) := h.bk.cell rfl
  have f0 := h.bk.free 0
  have key : Tb X (w.setCell ⟨p, 0, none⟩ (.int .i64 ((lv : Int) + 1))) p T N (lv + 1) so fu ty ∧ Off T w (w.setCell ⟨p, 0, none⟩ (.int .i64 ((lv : Int) + 1))) := by
    have hO : Off [p] w (w.setCell ⟨p, 0, none⟩ (.int .i64 ((lv : Int) + 1))) := (Off.refl _ _).setCell _ _ (.inl (by simp))
    have hn := h.once
    rw [h.eT] at hn
    simp only [List.nodup_cons, List.mem_append, not_or] at hn
    obtain ⟨⟨n1, n2, n3⟩, _⟩ := hn
    obtain ⟨xs, hx, hF⟩ := h.tS
    have hpT : p ∈ T := by rw [h.eT]; simp
    refine ⟨⟨⟨v1, m1, v2, m2, v3, ?_, h.sS.off hO ?_ (Nat.le_refl _), h.fS.off hO ?_ (Nat.le_refl _), ⟨xs, Off.row hx hO ?_, Fs.off hO ?_ (fun b hb => .inl hb) hF⟩, h.eT, h.once, xs_off h.xs hO.size (fun b hb => .inl hb)⟩, hnames⟩, hO.more (by intro b hb; simp at hb; subst hb; exact hpT)⟩
    · exact h.bk.set _ rfl
    · intro k hk hm; simp at hm; subst hm; exact n1 hk
    · intro k hk hm; simp at hm; subst hm; exact n2 hk
    · intro k hk hm; simp at hm; subst hm; exact n3 (by rw [Option.mem_toList]; exact hk)
    · intro b hb; simp at hb; subst hb; exact .inl (List.mem_append_left _ hpT)
  have key := hide key
  clear h
  go_enter Try.func14, Try.ntmps14
  go_wp2
  go_end0
  exact ⟨rfl, key.out⟩
end Nt
end Go.Proofs.Ytlcgdiciiibeeaa
