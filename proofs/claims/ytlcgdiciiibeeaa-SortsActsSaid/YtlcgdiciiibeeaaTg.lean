/-
  A name is laid on a stack: the walk.
-/
import Derived.Test.YtlcgdiciiibeeaaTf
namespace Go.Proofs.Ytlcgdiciiibeeaa
open Go.ChangeShapes Go.RowKit
open Go.ChangeMaps Go.MapKept Go.WideMaps
namespace Nt
set_option maxRecDepth 100000
set_option linter.unusedSimpArgs false
set_option linter.unusedVariables false

theorem Off.row {T : List Nat} {w w' : World} {base : Nat} {e : TypeId} {size : Nat} {v : Value} {n : Nat} {xs : List Value} (h : w.ownsRow base e size v n xs) (hf : Off T w w') (hn : ∀ k, v.ownBlock = some k → k ∉ T) : w'.ownsRow base e size v n xs := by
  refine ⟨h.1, ?_⟩
  rcases h.2 with h2 | ⟨g, cap, cur, rfl, h3, h4, h5⟩
  · exact .inl h2
  · exact .inr ⟨g, cap, cur, rfl, h3, (hf.block g (Array.getElem?_eq_some_iff.1 h4).1 (hn g rfl)).trans h4, h5⟩
theorem Off.map {T : List Nat} {w w' : World} {m : Option Nat} {N : Nat} {es : List (ByteArray × Nat)} (h : Mp w m N es) (hf : Off T w w') (hn : ∀ k, m = some k → k ∉ T) : Mp w' m N es := by
  rcases h with h | ⟨b, D, rfl, hown, hD⟩
  · exact .inl h
  · obtain ⟨en, cl, hb, hF⟩ := hown
    exact .inr ⟨b, D, rfl, ⟨en, cl, (hf.block b (Array.getElem?_eq_some_iff.1 hb).1 (hn b rfl)).trans hb, hF⟩, hD⟩
theorem row_lt {w : World} {base : Nat} {e : TypeId} {size : Nat} {v : Value} {n : Nat} {xs : List Value} (h : w.ownsRow base e size v n xs) {k : Nat} (hk : v.ownBlock = some k) : k < w.heap.size := (h.lt k hk).2
theorem map_lt {w : World} {m : Option Nat} {N : Nat} {es : List (ByteArray × Nat)} (h : Mp w m N es) {k : Nat} (hk : m = some k) : k < w.heap.size := by
  rcases h with ⟨rfl, _⟩ | ⟨b, D, rfl, hown, _⟩
  · cases hk
  · cases hk; exact hown.lt
theorem Mp.mono {w : World} {m : Option Nat} {N N' : Nat} {es : List (ByteArray × Nat)} (h : Mp w m N es) (hN : N ≤ N') : Mp w m N' es := by
  rcases h with h | ⟨b, D, rfl, hown, hD⟩
  · exact .inl h
  · exact .inr ⟨b, D, rfl, hown.mono hN, hD⟩

theorem set_same {cur : Array Value} {j : Nat} {v : Value} (h : cur[j]? = some v) : cur.setIfInBounds j v = cur := by
  apply Array.ext_getElem?
  intro k
  by_cases hk : j = k
  · subst hk
    have := (Array.getElem?_eq_some_iff.1 h).1
    rw [Array.getElem?_setIfInBounds_self_of_lt this, h]
  · rw [Array.getElem?_setIfInBounds_ne hk]

/-- What the walk of a push wants to know. -/
def PF (p o : Nat) (t : TypeId) (cur : Array Value) (A : Option Addr) (n c b N : Nat) (es : List (ByteArray × Nat)) (s : ByteArray) (l : Nat) (w w1 : World) : Prop :=
  ∃ w2 A' c' w3, (Instr.mapUpdate 66 (.map (some b)) (.string s) (.int .i64 (n : Int))).run Try.prog w1.drew = .ok () w2 ∧ w2.cell? ⟨p, o, none⟩ = some (.slice A n c) ∧ w2.cell? ⟨p, o + 1, none⟩ = some (.map (some b)) ∧
      (∀ ty, (Builtin.append_ #[65, 65] ty #[.slice A n c, .slice (some ⟨w2.heap.size, 0, none⟩) 1 1]).run Try.prog (w2.alloc (.cells #[.string s, .int .i64 (l : Int)] 81)) = .ok (.slice A' (n + 1) c') w3) ∧
      w3.cell? ⟨p, o, none⟩ = some (.slice A n c) ∧ w3.frozen? ⟨p, o, none⟩ = false ∧ Pushed p o t cur (.slice A n c) (some b) (N + 1) (es ++ [(s, l)]) w (w3.setCell ⟨p, o, none⟩ (.slice A' (n + 1) c'))

/-- What the walk of a push wants to know: from the world behind the copy on. -/
theorem push_facts (p o : Nat) (t : TypeId) (cur : Array Value) (A : Option Addr) (c b N : Nat) (es : List (ByteArray × Nat)) (s : ByteArray) (l : Nat) (w w1 : World)
    (hB : Bk p cur t w1) (h1 : cur[o + 1]? = some (.map (some b))) (h0 : cur[o]? = some (.slice A es.length c)) (hrow : w1.ownsRow 0 81 2 (.slice A es.length c) es.length (ecs es)) (hM : Mp w1 (some b) N es) (hle : es.length ≤ N)
    (hp : p ∉ bks (.slice A es.length c) (some b)) (hAb : ∀ k, (Value.slice A es.length c).ownBlock = some k → k ≠ b) (hno : hasB es s = false) (hs : s.size ≤ 200) (hN : N ≤ 1000000) (hO : Off (p :: bks (.slice A es.length c) (some b)) w w1) (hbw : ∀ k ∈ p :: bks (.slice A es.length c) (some b), k < w1.heap.size) :
    PF p o t cur A es.length c b N es s l w w1 := by
  have hpb : p ≠ b := fun e => hp (by simp [bks, e])
  have hpA : ∀ k, (Value.slice A es.length c).ownBlock = some k → p ≠ k := fun k hk e => hp (by simp [bks, hk, e])
  rcases hM with ⟨h, _⟩ | ⟨b', D, hb', hown, hD⟩
  · cases h
  cases hb'
  obtain ⟨w2, hup, hM2, hg2⟩ := Mp.upd hown.drew hD s (by unfold maxLen; omega) hN hle l hno
  have hO2 : Off [b] w1 w2 := ((Off.refl [b] w1).drew).trans (T' := [b]) (Off.of_grown hg2 (fun k hk => by injection hk with hk; simp [hk])) (fun x hx => .inl hx)
  have hB2 : Bk p cur t w2 := hB.off hO2 (by simpa using hpb)
  have hrow2 := Off.row hrow hO2 (fun k hk => by simpa using hAb k hk)
  obtain ⟨v', w3, happ, hrow3, hO3, hloc⟩ := app_entry w2 _ es hrow2 s l (Nat.le_trans hle hN)
  have hB3 : Bk p cur t w3 := hB2.off hO3 (fun hm => by rw [Option.mem_toList] at hm; exact hpA p hm rfl)
  have hform : ∃ A' c', v' = .slice A' (es.length + 1) c' := by
    rcases hrow3.2 with ⟨_, h⟩ | ⟨g, cap, cu, e, _⟩
    · omega
    · exact ⟨_, _, e⟩
  obtain ⟨A', c', rfl⟩ := hform
  refine ⟨w2, A', c', w3, hup, hB2.cell h0, hB2.cell h1, happ, hB3.cell h0, hB3.free o, .slice A' (es.length + 1) c', some b, ?_, ?_, ?_, ?_⟩
  · have hO4 : Off [p] w3 (w3.setCell ⟨p, o, none⟩ (.slice A' (es.length + 1) c')) := (Off.refl _ _).setCell _ _ (.inl (by simp))
    have hn : ∀ k, (Value.slice A' (es.length + 1) c').ownBlock = some k → k ∉ [p] := by
      intro k hk hm
      simp at hm
      subst hm
      rcases hloc _ hk with h | h
      · exact hpA _ h rfl
      · exact Nat.not_lt.2 h hB2.lt
    refine ⟨?_, ?_, by simp; omega⟩
    · have : (es ++ [(s, l)]).length = es.length + 1 := by simp
      rw [this]
      exact Off.row hrow3 hO4 hn
    · refine Off.map (Off.map hM2 hO3 ?_) hO4 ?_
      · intro k hk
        cases hk
        intro hm
        rw [Option.mem_toList] at hm
        exact hAb _ hm rfl
      · intro k hk hm
        cases hk
        simp at hm
        exact hpb hm.symm
  · rw [set_same (by rw [Array.getElem?_setIfInBounds_ne (by omega)]; exact h1)]
    exact hB3.set _ rfl
  · refine ((hO.trans (T' := [b]) hO2 ?_).trans hO3 ?_).setCell _ _ (.inl (by simp))
    · intro x hx
      simp at hx
      exact .inl (by simp [bks, hx])
    · intro x hx
      exact .inl (by simp only [bks]; exact List.mem_cons_of_mem _ (List.mem_append_left _ hx))
  · intro k hk
    rcases List.mem_append.1 hk with hk | hk
    · rw [Option.mem_toList] at hk
      rcases hloc k hk with h | h
      · exact .inl (List.mem_append_left _ (by rw [Option.mem_toList]; exact h))
      · exact .inr (Nat.le_trans (hO.trans (T' := [b]) hO2 (by intro x hx; simp at hx; exact .inl (by simp [bks, hx]))).size h)
    · exact .inl (List.mem_append_right _ hk)

set_option maxHeartbeats 1000000 in
theorem push_some (p o : Nat) (t : TypeId) (cur : Array Value) (A : Option Addr) (c b N : Nat) (es : List (ByteArray × Nat)) (s : ByteArray) (l : Nat) (w : World)
    (hB : Bk p cur t w) (h0 : cur[o]? = some (.slice A es.length c)) (h1 : cur[o + 1]? = some (.map (some b))) (hS : Stk w (.slice A es.length c) (some b) N es) (hp : p ∉ bks (.slice A es.length c) (some b)) (hAb : ∀ k, (Value.slice A es.length c).ownBlock = some k → k ≠ b) (hno : hasB es s = false) (hs : s.size ≤ 200) (hN : N ≤ 1000000) :
    Calls Try.prog 35 #[.pointer (some ⟨p, o, none⟩), .string s, .int .i64 (l : Int)] w fun e w' => e = .returned (.string s) ∧ Pushed p o t cur (.slice A es.length c) (some b) (N + 1) (es ++ [(s, l)]) w w' := by
  have hcl := clone_any s w hs
  have hmq : ∀ W, (binOp .eql 66 (.map (some b)) (.map none)).run Try.prog W = .ok (.bool false) W := fun _ => by kernel_rfl
  have hbw : ∀ k ∈ p :: bks (.slice A es.length c) (some b), k < w.heap.size := by
    intro k hk
    rcases List.mem_cons.1 hk with rfl | hk
    · exact hB.lt
    · rcases List.mem_append.1 hk with hk | hk
      · rw [Option.mem_toList] at hk; exact row_lt hS.row hk
      · rw [Option.mem_toList] at hk; exact map_lt hS.map hk
  have hfacts : ∀ w1, Below w.heap.size w w1 → w1.cell? ⟨p, o, none⟩ = some (.slice A es.length c) ∧ w1.cell? ⟨p, o + 1, none⟩ = some (.map (some b)) ∧ PF p o t cur A es.length c b N es s l w w1 := fun w1 hb =>
    ⟨(hB.next hb).cell h0, (hB.next hb).cell h1, push_facts p o t cur A c b N es s l w w1 (hB.next hb) h1 h0 (Off.row hS.row (.of_below hb []) (by simp)) (Off.map hS.map (.of_below hb []) (by simp)) hS.le hp hAb hno hs hN (.of_below hb _) (fun k hk => Nat.lt_of_lt_of_le (hbw k hk) hb.size)⟩
  have hfacts := hide hfacts
  clear h0 h1 hp hAb hbw hB hS
  go_enter Try.func35, Try.ntmps35
  go_wp2_with (go_at_call 46; (with_reducible refine hcl.mono ?_); rintro e w1 ⟨rfl, hb⟩; obtain ⟨a0, a1, w2, A', c', w3, hup, b0, b1, happ, d0, d1, hfin⟩ := hfacts.out _ hb)
  refine wp_region_held_drew (S := (fun W => W.cell? ⟨p, o, none⟩ = some (.slice A es.length c) ∧ W.cell? ⟨p, o + 1, none⟩ = some (.map (some b)))) (by kernel_rfl) ?_ (fun hHeld => ?_)
  · (try dsimp only)
    exact ⟨by assumption, by assumption⟩
  refine wpAnyH_take (i := 0) (v := ?vvx0) (by (simp only [List.getElem?_toArray, List.getElem?_cons_zero, List.getElem?_cons_succ]) <;> rfl) (by kernel_rfl) (by kernel_rfl) (by kernel_rfl) ?hqx0 (Or.inl ⟨by rfl, ?hyx0⟩) (by assumption) ?_
  case hqx0 => exact fun _ _ _ h => h
  case hyx0 => ((intro w hSw; (try dsimp only at hSw); go_simp) <;> (with_reducible rfl))
  (try simp only [Act.put, List.setIfInBounds_toArray, List.set_cons_zero, List.set_cons_succ])
  refine wpAnyH_take (i := 1) (v := ?vvx1) (by (simp only [List.getElem?_toArray, List.getElem?_cons_zero, List.getElem?_cons_succ]) <;> rfl) (by kernel_rfl) (by kernel_rfl) (by kernel_rfl) ?hqx1 (Or.inl ⟨by rfl, ?hyx1⟩) (by assumption) ?_
  case hqx1 => exact fun _ _ _ h => h
  case hyx1 => ((intro w hSw; (try dsimp only at hSw); go_simp) <;> (with_reducible rfl))
  (try simp only [Act.put, List.setIfInBounds_toArray, List.set_cons_zero, List.set_cons_succ])
  refine wpAnyH_take (i := 2) (v := ?vvx2) (by (simp only [List.getElem?_toArray, List.getElem?_cons_zero, List.getElem?_cons_succ]) <;> rfl) (by kernel_rfl) (by kernel_rfl) (by kernel_rfl) ?hqx2 (Or.inl ⟨by rfl, ?hyx2⟩) (by assumption) ?_
  case hqx2 => exact fun _ _ _ h => h
  case hyx2 => ((intro w hSw; (try dsimp only at hSw); go_simp) <;> (with_reducible rfl))
  (try simp only [Act.put, List.setIfInBounds_toArray, List.set_cons_zero, List.set_cons_succ])
  refine wpAnyH_take (i := 3) (v := ?vvx3) (by (simp only [List.getElem?_toArray, List.getElem?_cons_zero, List.getElem?_cons_succ]) <;> rfl) (by kernel_rfl) (by kernel_rfl) (by kernel_rfl) ?hqx3 (Or.inl ⟨by rfl, ?hyx3⟩) (by assumption) ?_
  case hqx3 => exact fun _ _ _ h => h
  case hyx3 => ((intro w hSw; (try dsimp only at hSw); go_simp) <;> (with_reducible rfl))
  (try simp only [Act.put, List.setIfInBounds_toArray, List.set_cons_zero, List.set_cons_succ])
  refine wpAnyH_take (i := 4) (v := ?vvx4) (by (simp only [List.getElem?_toArray, List.getElem?_cons_zero, List.getElem?_cons_succ]) <;> rfl) (by kernel_rfl) (by kernel_rfl) (by kernel_rfl) ?hqx4 (Or.inl ⟨by rfl, ?hyx4⟩) (by assumption) ?_
  case hqx4 => exact fun _ _ _ h => h
  case hyx4 => ((intro w hSw; (try dsimp only at hSw); go_simp) <;> (with_reducible rfl))
  (try simp only [Act.put, List.setIfInBounds_toArray, List.set_cons_zero, List.set_cons_succ])
  refine wpAnyH_take (i := 5) (v := ?vvx5) (by (simp only [List.getElem?_toArray, List.getElem?_cons_zero, List.getElem?_cons_succ]) <;> rfl) (by kernel_rfl) (by kernel_rfl) (by kernel_rfl) ?hqx5 (Or.inl ⟨by rfl, ?hyx5⟩) (by assumption) ?_
  case hqx5 => exact fun _ _ _ h => h
  case hyx5 => ((intro w hSw; (try dsimp only at hSw); go_simp) <;> (with_reducible rfl))
  (try simp only [Act.put, List.setIfInBounds_toArray, List.set_cons_zero, List.set_cons_succ])
  refine wpAnyH_take (i := 6) (v := ?vvx6) (by (simp only [List.getElem?_toArray, List.getElem?_cons_zero, List.getElem?_cons_succ]) <;> rfl) (by kernel_rfl) (by kernel_rfl) (by kernel_rfl) ?hqx6 (Or.inl ⟨by rfl, ?hyx6⟩) (by assumption) ?_
  case hqx6 => exact fun _ _ _ h => h
  case hyx6 => ((intro w hSw; (try dsimp only at hSw); go_simp) <;> (with_reducible rfl))
  (try simp only [Act.put, List.setIfInBounds_toArray, List.set_cons_zero, List.set_cons_succ])
  refine wpAnyH_take (i := 7) (v := ?vvx7) (by (simp only [List.getElem?_toArray, List.getElem?_cons_zero, List.getElem?_cons_succ]) <;> rfl) (by kernel_rfl) (by kernel_rfl) (by kernel_rfl) ?hqx7 (Or.inl ⟨by rfl, ?hyx7⟩) (by assumption) ?_
  case hqx7 => exact fun _ _ _ h => h
  case hyx7 => ((intro w hSw; (try dsimp only at hSw); go_simp) <;> (with_reducible rfl))
  (try simp only [Act.put, List.setIfInBounds_toArray, List.set_cons_zero, List.set_cons_succ])
  refine wpAnyH_take (i := 8) (v := ?vvx8) (by (simp only [List.getElem?_toArray, List.getElem?_cons_zero, List.getElem?_cons_succ]) <;> rfl) (by kernel_rfl) (by kernel_rfl) (by kernel_rfl) ?hqx8 (Or.inl ⟨by rfl, ?hyx8⟩) (by assumption) ?_
  case hqx8 => exact fun _ _ _ h => h
  case hyx8 => ((intro w hSw; (try dsimp only at hSw); go_simp) <;> (with_reducible rfl))
  (try simp only [Act.put, List.setIfInBounds_toArray, List.set_cons_zero, List.set_cons_succ])
  refine wpAnyH_take (i := 9) (v := ?vvx9) (by (simp only [List.getElem?_toArray, List.getElem?_cons_zero, List.getElem?_cons_succ]) <;> rfl) (by kernel_rfl) (by kernel_rfl) (by kernel_rfl) ?hqx9 (Or.inl ⟨by rfl, ?hyx9⟩) (by assumption) ?_
  case hqx9 => exact fun _ _ _ h => h
  case hyx9 => ((intro w hSw; (try dsimp only at hSw); go_simp) <;> (with_reducible rfl))
  (try simp only [Act.put, List.setIfInBounds_toArray, List.set_cons_zero, List.set_cons_succ])
  refine wpAnyH_ready (rs := [10]) (by kernel_rfl) (by simp) ?_
  refine AllReadyH.cons (by (simp only [List.getElem?_toArray, List.getElem?_cons_zero, List.getElem?_cons_succ]) <;> rfl) (fun K hK => ?_) AllReadyH.nil
  go_simp
  refine hK.out _ _ ?_ (fun hHeld => ?_)
  · (try dsimp only)
    exact ⟨by assumption, by assumption⟩
  clear hK K
  (try simp only [Act.put, List.setIfInBounds_toArray, List.set_cons_zero, List.set_cons_succ])
  refine wpAnyH_done (by kernel_rfl) ?_ _
  clear hHeld
  go_wp2_with (at_builtin; refine wpList_append_run _ rfl _ _ _ rfl _ _ _ _ rfl rfl happ ?_)
  go_ret
  exact ⟨rfl, hfin⟩

theorem Off.less {T S : List Nat} {w w' : World} (h : Off S w w') (hS : ∀ b ∈ S, b ∈ T ∨ w.heap.size ≤ b) : Off T w w' :=
  (Off.refl T w).trans h hS

/-- The map is made first. -/
theorem Pushed.made {p o : Nat} {t : TypeId} {cur : Array Value} {v : Value} {b N : Nat} {es : List (ByteArray × Nat)} {w w' : World} {x : Value} (h : Pushed p o t (cur.setIfInBounds (o + 1) x) v (some b) N es w w') (hb : w.heap.size ≤ b) (ho : o < cur.size) : Pushed p o t cur v none N es w w' := by
  obtain ⟨v', m', h1, h2, h3, h4⟩ := h
  refine ⟨v', m', h1, ?_, h3.less ?_, ?_⟩
  · have e : ((cur.setIfInBounds (o + 1) x).setIfInBounds o v').setIfInBounds (o + 1) (.map m') = (cur.setIfInBounds o v').setIfInBounds (o + 1) (.map m') := by
      apply Array.ext_getElem?
      intro k
      simp only [Array.getElem?_setIfInBounds, Array.size_setIfInBounds]
      by_cases h1 : o + 1 = k
      · simp [h1]
      · simp [h1]
    rw [e] at h2
    exact h2
  · intro k hk
    rcases List.mem_cons.1 hk with rfl | hk
    · exact .inl (by simp)
    · rcases List.mem_append.1 hk with hk | hk
      · exact .inl (by simp only [bks]; exact List.mem_cons_of_mem _ (List.mem_append_left _ hk))
      · simp at hk
        exact .inr (by omega)
  · intro k hk
    rcases h4 k hk with hk | hk
    · rcases List.mem_append.1 hk with hk | hk
      · exact .inl (by simp only [bks]; exact List.mem_append_left _ hk)
      · simp at hk
        exact .inr (by omega)
    · exact .inr hk

set_option maxHeartbeats 1000000 in
theorem push_none (p o : Nat) (t : TypeId) (cur : Array Value) (A : Option Addr) (c N : Nat) (s : ByteArray) (l : Nat) (w : World)
    (hB : Bk p cur t w) (h0 : cur[o]? = some (.slice A 0 c)) (h1 : cur[o + 1]? = some (.map none)) (hS : Stk w (.slice A 0 c) none N []) (hp : p ∉ bks (.slice A 0 c) none) (hs : s.size ≤ 200) (hN : N ≤ 1000000) :
    Calls Try.prog 35 #[.pointer (some ⟨p, o, none⟩), .string s, .int .i64 (l : Int)] w fun e w' => e = .returned (.string s) ∧ Pushed p o t cur (.slice A 0 c) none (N + 1) [(s, l)] w w' := by
  have hcl := clone_any s w hs
  have hmm := @run_makeMap Try.prog
  have hmq : ∀ W, (binOp .eql 66 (.map none) (.map none)).run Try.prog W = .ok (.bool true) W := fun _ => by kernel_rfl
  have hfacts : ∀ w1, Below w.heap.size w w1 → w1.cell? ⟨p, o + 1, none⟩ = some (.map none) ∧ w1.frozen? ⟨p, o + 1, none⟩ = false ∧ p < w1.heap.size ∧ ∃ W1 b, W1 = (w1.setCell ⟨p, o + 1, none⟩ (.map (some w1.heap.size))).alloc (.map #[] 0) ∧ b = w1.heap.size ∧ w.heap.size ≤ b ∧ W1.cell? ⟨p, o, none⟩ = some (.slice A 0 c) ∧ W1.cell? ⟨p, o + 1, none⟩ = some (.map (some b)) ∧ PF p o t (cur.setIfInBounds (o + 1) (.map (some w1.heap.size))) A 0 c b N [] s l w W1 := fun w1 hb => by
    have hB1 := hB.next hb
    have hB2 : Bk p (cur.setIfInBounds (o + 1) (.map (some w1.heap.size))) t ((w1.setCell ⟨p, o + 1, none⟩ (.map (some w1.heap.size))).alloc (.map #[] 0)) := (hB1.set _ rfl).al _
    have hlt : o + 1 < cur.size := (Array.getElem?_eq_some_iff.1 h1).1
    have e0 : (cur.setIfInBounds (o + 1) (.map (some w1.heap.size)))[o]? = some (.slice A 0 c) := by rw [Array.getElem?_setIfInBounds_ne (by omega)]; exact h0
    have e1 : (cur.setIfInBounds (o + 1) (.map (some w1.heap.size)))[o + 1]? = some (.map (some w1.heap.size)) := Array.getElem?_setIfInBounds_self_of_lt hlt
    have hO1 : Off [p] w ((w1.setCell ⟨p, o + 1, none⟩ (.map (some w1.heap.size))).alloc (.map #[] 0)) := ((Off.of_below hb [p]).setCell _ _ (.inl (by simp))).alloc _
    have hn : ∀ k, (Value.slice A 0 c).ownBlock = some k → k ∉ [p] := by
      intro k hk hm
      simp at hm
      subst hm
      exact hp (by simp [bks, hk])
    have hown : ((w1.setCell ⟨p, o + 1, none⟩ (.map (some w1.heap.size))).alloc (.map #[] 0)).ownsMap Try.prog 9 (plainElem (H := Unit) Try.prog 3) w1.heap.size 0 (.map []) :=
      by
        have := World.ownsMap_made (H := Unit) (w1.setCell ⟨p, o + 1, none⟩ (.map (some w1.heap.size))) Try.prog 9 (plainElem (H := Unit) Try.prog 3)
        rwa [setCell_size] at this
    exact ⟨hB1.cell h1, hB1.free _, hB1.lt, _, _, rfl, rfl, hb.size, hB2.cell e0, hB2.cell e1, push_facts p o t _ A c w1.heap.size N [] s l w _ hB2 e1 e0 (Off.row hS.row hO1 hn) ((show Mp _ (some w1.heap.size) 0 [] from .inr ⟨_, _, rfl, hown, .nil⟩).mono (Nat.zero_le _)) (Nat.zero_le _)
      (by
        intro hm
        rcases List.mem_append.1 hm with hm | hm
        · exact hp (by simp only [bks]; exact List.mem_append_left _ hm)
        · simp at hm; have := hB1.lt; omega)
      (by
        intro k hk e
        have h1 := row_lt hS.row hk
        have h2 := hb.size
        omega)
      rfl hs hN (hO1.more (by intro x hx; simp at hx; simp [hx]))
      (by
        intro k hk
        have hsz : w1.heap.size + 1 = ((w1.setCell ⟨p, o + 1, none⟩ (.map (some w1.heap.size))).alloc (.map #[] 0)).heap.size := by simp [setCell_size]
        rw [← hsz]
        rcases List.mem_cons.1 hk with rfl | hk
        · have := hB1.lt; omega
        · rcases List.mem_append.1 hk with hk | hk
          · rw [Option.mem_toList] at hk
            have := row_lt hS.row hk
            have := hb.size
            omega
          · simp at hk; omega)⟩
  have hfacts := hide hfacts
  have hfin : ∀ (b : Nat) (x : Value) (w' : World), Pushed p o t (cur.setIfInBounds (o + 1) x) (.slice A 0 c) (some b) (N + 1) [(s, l)] w w' → w.heap.size ≤ b → Pushed p o t cur (.slice A 0 c) none (N + 1) [(s, l)] w w' := fun _ _ _ h hb => h.made hb (Array.getElem?_eq_some_iff.1 h0).1
  have hfin := hide hfin
  clear h0 h1 hp hB hS
  go_enter Try.func35, Try.ntmps35
  go_wp2_with (go_at_call 46; (with_reducible refine hcl.mono ?_); rintro e w1 ⟨rfl, hb⟩; obtain ⟨z0, z1, z2, W1, b, hW1, hb1, hbw, a0, a1, w2, A', c', w3, hup, b0, b1, happ, d0, d1, hpu⟩ := hfacts.out _ hb)
  rw [← hW1, ← hb1]
  have hup : (Instr.mapUpdate 66 (.map (some b)) (.string s) (.int .i64 0)).run Try.prog W1.drew = .ok () w2 := hup
  have hup2 := hup
  rw [hb1] at hup2
  clear hW1 z0 z1 hmm
  refine wp_region_held_drew (S := (fun W => W.cell? ⟨p, o, none⟩ = some (.slice A 0 c) ∧ W.cell? ⟨p, o + 1, none⟩ = some (.map (some b)))) (by kernel_rfl) ?_ (fun hHeld => ?_)
  · (try dsimp only)
    exact ⟨by assumption, by assumption⟩
  refine wpAnyH_take (i := 0) (v := ?vvx0) (by (simp only [List.getElem?_toArray, List.getElem?_cons_zero, List.getElem?_cons_succ]) <;> rfl) (by kernel_rfl) (by kernel_rfl) (by kernel_rfl) ?hqx0 (Or.inl ⟨by rfl, ?hyx0⟩) (by assumption) ?_
  case hqx0 => exact fun _ _ _ h => h
  case hyx0 => ((intro w hSw; (try dsimp only at hSw); go_simp) <;> (with_reducible rfl))
  (try simp only [Act.put, List.setIfInBounds_toArray, List.set_cons_zero, List.set_cons_succ])
  refine wpAnyH_take (i := 1) (v := ?vvx1) (by (simp only [List.getElem?_toArray, List.getElem?_cons_zero, List.getElem?_cons_succ]) <;> rfl) (by kernel_rfl) (by kernel_rfl) (by kernel_rfl) ?hqx1 (Or.inl ⟨by rfl, ?hyx1⟩) (by assumption) ?_
  case hqx1 => exact fun _ _ _ h => h
  case hyx1 => ((intro w hSw; (try dsimp only at hSw); go_simp) <;> (with_reducible rfl))
  (try simp only [Act.put, List.setIfInBounds_toArray, List.set_cons_zero, List.set_cons_succ])
  refine wpAnyH_take (i := 2) (v := ?vvx2) (by (simp only [List.getElem?_toArray, List.getElem?_cons_zero, List.getElem?_cons_succ]) <;> rfl) (by kernel_rfl) (by kernel_rfl) (by kernel_rfl) ?hqx2 (Or.inl ⟨by rfl, ?hyx2⟩) (by assumption) ?_
  case hqx2 => exact fun _ _ _ h => h
  case hyx2 => ((intro w hSw; (try dsimp only at hSw); go_simp) <;> (with_reducible rfl))
  (try simp only [Act.put, List.setIfInBounds_toArray, List.set_cons_zero, List.set_cons_succ])
  refine wpAnyH_take (i := 3) (v := ?vvx3) (by (simp only [List.getElem?_toArray, List.getElem?_cons_zero, List.getElem?_cons_succ]) <;> rfl) (by kernel_rfl) (by kernel_rfl) (by kernel_rfl) ?hqx3 (Or.inl ⟨by rfl, ?hyx3⟩) (by assumption) ?_
  case hqx3 => exact fun _ _ _ h => h
  case hyx3 => ((intro w hSw; (try dsimp only at hSw); go_simp) <;> (with_reducible rfl))
  (try simp only [Act.put, List.setIfInBounds_toArray, List.set_cons_zero, List.set_cons_succ])
  refine wpAnyH_take (i := 4) (v := ?vvx4) (by (simp only [List.getElem?_toArray, List.getElem?_cons_zero, List.getElem?_cons_succ]) <;> rfl) (by kernel_rfl) (by kernel_rfl) (by kernel_rfl) ?hqx4 (Or.inl ⟨by rfl, ?hyx4⟩) (by assumption) ?_
  case hqx4 => exact fun _ _ _ h => h
  case hyx4 => ((intro w hSw; (try dsimp only at hSw); go_simp) <;> (with_reducible rfl))
  (try simp only [Act.put, List.setIfInBounds_toArray, List.set_cons_zero, List.set_cons_succ])
  refine wpAnyH_take (i := 5) (v := ?vvx5) (by (simp only [List.getElem?_toArray, List.getElem?_cons_zero, List.getElem?_cons_succ]) <;> rfl) (by kernel_rfl) (by kernel_rfl) (by kernel_rfl) ?hqx5 (Or.inl ⟨by rfl, ?hyx5⟩) (by assumption) ?_
  case hqx5 => exact fun _ _ _ h => h
  case hyx5 => ((intro w hSw; (try dsimp only at hSw); go_simp) <;> (with_reducible rfl))
  (try simp only [Act.put, List.setIfInBounds_toArray, List.set_cons_zero, List.set_cons_succ])
  refine wpAnyH_take (i := 6) (v := ?vvx6) (by (simp only [List.getElem?_toArray, List.getElem?_cons_zero, List.getElem?_cons_succ]) <;> rfl) (by kernel_rfl) (by kernel_rfl) (by kernel_rfl) ?hqx6 (Or.inl ⟨by rfl, ?hyx6⟩) (by assumption) ?_
  case hqx6 => exact fun _ _ _ h => h
  case hyx6 => ((intro w hSw; (try dsimp only at hSw); go_simp) <;> (with_reducible rfl))
  (try simp only [Act.put, List.setIfInBounds_toArray, List.set_cons_zero, List.set_cons_succ])
  refine wpAnyH_take (i := 7) (v := ?vvx7) (by (simp only [List.getElem?_toArray, List.getElem?_cons_zero, List.getElem?_cons_succ]) <;> rfl) (by kernel_rfl) (by kernel_rfl) (by kernel_rfl) ?hqx7 (Or.inl ⟨by rfl, ?hyx7⟩) (by assumption) ?_
  case hqx7 => exact fun _ _ _ h => h
  case hyx7 => ((intro w hSw; (try dsimp only at hSw); go_simp) <;> (with_reducible rfl))
  (try simp only [Act.put, List.setIfInBounds_toArray, List.set_cons_zero, List.set_cons_succ])
  refine wpAnyH_take (i := 8) (v := ?vvx8) (by (simp only [List.getElem?_toArray, List.getElem?_cons_zero, List.getElem?_cons_succ]) <;> rfl) (by kernel_rfl) (by kernel_rfl) (by kernel_rfl) ?hqx8 (Or.inl ⟨by rfl, ?hyx8⟩) (by assumption) ?_
  case hqx8 => exact fun _ _ _ h => h
  case hyx8 => ((intro w hSw; (try dsimp only at hSw); go_simp) <;> (with_reducible rfl))
  (try simp only [Act.put, List.setIfInBounds_toArray, List.set_cons_zero, List.set_cons_succ])
  refine wpAnyH_take (i := 9) (v := ?vvx9) (by (simp only [List.getElem?_toArray, List.getElem?_cons_zero, List.getElem?_cons_succ]) <;> rfl) (by kernel_rfl) (by kernel_rfl) (by kernel_rfl) ?hqx9 (Or.inl ⟨by rfl, ?hyx9⟩) (by assumption) ?_
  case hqx9 => exact fun _ _ _ h => h
  case hyx9 => ((intro w hSw; (try dsimp only at hSw); go_simp) <;> (with_reducible rfl))
  (try simp only [Act.put, List.setIfInBounds_toArray, List.set_cons_zero, List.set_cons_succ])
  refine wpAnyH_ready (rs := [10]) (by kernel_rfl) (by simp) ?_
  refine AllReadyH.cons (by (simp only [List.getElem?_toArray, List.getElem?_cons_zero, List.getElem?_cons_succ]) <;> rfl) (fun K hK => ?_) AllReadyH.nil
  go_simp
  refine hK.out _ _ ?_ (fun hHeld => ?_)
  · (try dsimp only)
    exact ⟨by assumption, by assumption⟩
  clear hK K
  (try simp only [Act.put, List.setIfInBounds_toArray, List.set_cons_zero, List.set_cons_succ])
  refine wpAnyH_done (by kernel_rfl) ?_ _
  clear hHeld
  go_wp2_with (at_builtin; refine wpList_append_run _ rfl _ _ _ rfl _ _ _ _ rfl rfl happ ?_)
  go_ret
  exact ⟨rfl, hfin.out _ _ _ hpu hbw⟩
end Nt
end Go.Proofs.Ytlcgdiciiibeeaa
