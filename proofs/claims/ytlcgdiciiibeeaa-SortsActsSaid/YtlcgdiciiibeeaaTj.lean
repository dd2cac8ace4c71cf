/-
  A function is declared: the walk.
-/
import Derived.Test.YtlcgdiciiibeeaaTi
namespace Go.Proofs.Ytlcgdiciiibeeaa
open Go.ChangeShapes Go.RowKit
namespace Nt
set_option maxRecDepth 100000
variable {X : List Nat}
set_option linter.unusedSimpArgs false
set_option linter.unusedVariables false

theorem TbP.off {S : List Nat} {w w' : World} {p : Nat} {T : List Nat} {N lv : Nat} {so fu : List (ByteArray × Nat)} {ty : List Fn} {v1 : Value} {m1 : Option Nat} {v2 : Value} {m2 : Option Nat} {v3 : Value} (h : TbP X w p T N lv so fu ty v1 m1 v2 m2 v3) (hf : Off [] w w') : TbP X w' p T N lv so fu ty v1 m1 v2 m2 v3 := by
  obtain ⟨xs, hx, hF⟩ := h.tS
  exact ⟨h.bk.off hf (by simp), h.sS.off hf (by simp) (Nat.le_refl _), h.fS.off hf (by simp) (Nat.le_refl _), ⟨xs, Off.row hx hf (by simp), Fs.off hf (by simp) (fun b hb => .inl hb) hF⟩, h.eT, h.once, xs_off h.xs hf.size (fun b hb => .inl hb)⟩

theorem setCell_same {w : World} {g j : Nat} {cur : Array Value} {t : TypeId} {v : Value} (h : Bk g cur t w) (hv : cur[j]? = some v) : w.setCell ⟨g, j, none⟩ v = w := by
  have hh : (w.setCell ⟨g, j, none⟩ v).heap = w.heap := by
    unfold World.setCell
    apply Array.ext_getElem?
    intro k
    simp only [Array.getElem?_modify]
    by_cases hk : g = k
    · subst hk
      unfold Bk at h
      rw [h]
      simp [set_same hv, Addr.spot]
    · simp [hk]
  have h2 : ∀ x : World, x.heap = w.heap → x.tape = w.tape → x.drawn = w.drawn → x.os = w.os → x.output = w.output → x = w := by
    rintro ⟨⟩ h1 h2 h3 h4 h5
    cases w
    simp only at h1 h2 h3 h4 h5
    subst h1 h2 h3 h4 h5
    rfl
  exact h2 _ hh rfl rfl rfl rfl

/-- An append whose run is known, at the operation. -/
theorem wp_append_run {P : Program} (w : World) {o : Oper} {a : Act} {K : Act → World → Prop} {Q : Exit → Act → World → Prop} (s x : Operand) (t : TypeId)
    (ho : o.op = .call { callee := .builtin .append, args := #[s, x], argTypes := #[t, t] }) (u v r : Value) (w' : World) (hs : a.eval s = u) (hx : a.eval x = v)
    (hrun : ∀ ty, (Builtin.append_ #[t, t] ty #[u, v]).run P w = .ok r w') (hK : K (a.put o.dst r) w') : Oper.wp P o a w K Q := by
  unfold Oper.wp execOp
  simp only [ho, resolve, invoke, builtin, Sem.run_bind, Sem.run_pure, Result.andThen_ok, List.map_toArray, List.map_cons, List.map_nil, hs, hx, hrun]
  exact hK

/-- What is known behind the tests. -/
structure FunMid (X : List Nat) (g p : Nat) (T : List Nat) (N lv : Nat) (so fu : List (ByteArray × Nat)) (ty : List Fn) (v1 : Value) (m1 : Option Nat) (v2 : Value) (m2 : Option Nat) (v3 : Value) (nm : ByteArray) (B : Option Addr) (ar : List Int) (d : Nat) (rs : Int) (w : World) : Prop where
  tb : TbP X w p T N lv so fu ty v1 m1 v2 m2 v3
  bx : Bk g #[.string nm, .slice B ar.length d, .int .i64 rs] 35 w
  gT : g ∉ T
  ir : Ir T w B ar
theorem FunMid.off {g p : Nat} {T : List Nat} {N lv : Nat} {so fu : List (ByteArray × Nat)} {ty : List Fn} {v1 : Value} {m1 : Option Nat} {v2 : Value} {m2 : Option Nat} {v3 : Value} {nm : ByteArray} {B : Option Addr} {ar : List Int} {d : Nat} {rs : Int} {w w' : World} (h : FunMid X g p T N lv so fu ty v1 m1 v2 m2 v3 nm B ar d rs w) (hf : Off [] w w') : FunMid X g p T N lv so fu ty v1 m1 v2 m2 v3 nm B ar d rs w' :=
  ⟨h.tb.off (S := []) hf, h.bx.off hf (by simp), h.gT, h.ir.off hf (by simp) (fun b hb => .inl hb)⟩
theorem FunMid.start {p : Nat} {T : List Nat} {N lv : Nat} {so fu : List (ByteArray × Nat)} {ty : List Fn} {v1 : Value} {m1 : Option Nat} {v2 : Value} {m2 : Option Nat} {v3 : Value} {nm : ByteArray} {B : Option Addr} {ar : List Int} {d : Nat} {rs : Int} {w : World} (h : TbP X w p T N lv so fu ty v1 m1 v2 m2 v3) (hi : Ir T w B ar) :
    FunMid X w.heap.size p T N lv so fu ty v1 m1 v2 m2 v3 nm B ar d rs (w.alloc (.cells #[.string nm, .slice B ar.length d, .int .i64 rs] 35)) :=
  ⟨h.off (S := []) ((Off.refl _ _).alloc _), Bk.new _ _ _, fun hm => Nat.lt_irrefl _ (h.lt _ hm), hi.off ((Off.refl [] _).alloc _) (by simp) (fun b hb => .inl hb)⟩

theorem FunMid.push {g p : Nat} {T : List Nat} {N lv : Nat} {so fu fu' : List (ByteArray × Nat)} {ty : List Fn} {v1 : Value} {m1 : Option Nat} {v2 : Value} {m2 : Option Nat} {v3 : Value} {nm : ByteArray} {B : Option Addr} {ar : List Int} {d : Nat} {rs : Int} {w w' : World} (h : FunMid X g p T N lv so fu ty v1 m1 v2 m2 v3 nm B ar d rs w)
    (hp : Pushed p 3 70 #[.int .i64 (lv : Int), v1, .map m1, v2, .map m2, v3] v2 m2 (N + 1) fu' w w') :
    ∃ T' v2' m2', FunMid X g p T' (N + 1) lv so fu' ty v1 m1 v2' m2' v3 nm B ar d rs w' ∧ Off T w w' ∧ ∀ b ∈ T', b ∈ T ∨ w.heap.size ≤ b := by
  obtain ⟨T', v2', m2', h1, h2, h3⟩ := tb_name h.tb hp
  exact ⟨T', v2', m2', ⟨h1, h.bx.off h2 h.gT, fun hm => (h3 g hm).elim h.gT (fun hle => Nat.not_lt.2 hle h.bx.lt), h.ir.off h2 (fun b hb => .inl hb) h3⟩, h2, h3⟩

/-- The end: the function is laid at its place. -/
theorem FunMid.fin {g p : Nat} {T : List Nat} {N lv : Nat} {so fu : List (ByteArray × Nat)} {ty : List Fn} {v1 : Value} {m1 : Option Nat} {v2 : Value} {m2 : Option Nat} {A3 : Option Addr} {k3 : Nat} {nm : ByteArray} {B : Option Addr} {ar : List Int} {d : Nat} {rs : Int} {w : World} (h : FunMid X g p T N lv so fu ty v1 m1 v2 m2 (.slice A3 ty.length k3) nm B ar d rs w)
    (hl : ar.length ≤ 64) (hn : ty.length ≤ 1000000) {A : Option Addr} {c : Nat} {w4 : World} (hI : ∀ S : List Nat, (∀ b ∈ S, b < w.heap.size) → Ir S w4 A ar) (hb : Below w.heap.size w w4) :
    ∃ A' c' w5, (∀ t, (Builtin.append_ #[29, 29] t #[.slice A3 ty.length k3, .slice (some ⟨w4.heap.size, 0, none⟩) 1 1]).run Try.prog (w4.alloc (.cells #[.string nm, .slice A ar.length c, .int .i64 rs] 35)) = .ok (.slice A' (ty.length + 1) c') w5) ∧
      w5.cell? ⟨p, 5, none⟩ = some (.slice A3 ty.length k3) ∧ w5.frozen? ⟨p, 5, none⟩ = false ∧ w4.cell? ⟨p, 5, none⟩ = some (.slice A3 ty.length k3) ∧
      ∃ T', (∃ v1 m1 v2 m2 v3, TbP X (w5.setCell ⟨p, 5, none⟩ (.slice A' (ty.length + 1) c')) p T' N lv so fu (ty ++ [⟨nm, ar, rs⟩]) v1 m1 v2 m2 v3) ∧ Off T w (w5.setCell ⟨p, 5, none⟩ (.slice A' (ty.length + 1) c')) ∧ ∀ b ∈ T', b ∈ T ∨ w.heap.size ≤ b := by
  have h4 := h.off (.of_below hb [])
  obtain ⟨xs, hx, hF⟩ := h4.tb.tS
  obtain ⟨v', w5, e1, e2, e3, e4⟩ := app_fun w4 _ ty.length xs hx nm A ar.length c rs hn
  have hform : ∃ A' c', v' = .slice A' (ty.length + 1) c' := by
    rcases e2.2 with ⟨_, h⟩ | ⟨g, cap, cu, e, _⟩
    · omega
    · exact ⟨_, _, e⟩
  obtain ⟨A', c', rfl⟩ := hform
  have hTn := h4.tb.once
  rw [h4.tb.eT] at hTn
  simp only [List.nodup_cons, List.mem_append, not_or] at hTn
  have hB5 := h4.tb.bk.off e3 hTn.1.2.2
  have hsubT : ∀ b ∈ (Value.slice A3 ty.length k3).ownBlock.toList, b ∈ T := by
    intro b hb
    rw [h4.tb.eT]
    exact List.mem_cons_of_mem _ (List.mem_append_right _ (List.mem_append_right _ hb))
  have hg5 : Bk g #[.string nm, .slice B ar.length d, .int .i64 rs] 35 w5 := h4.bx.off e3 (fun hm => h4.gT (hsubT g hm))
  have hpT : p ∈ T := by rw [h4.tb.eT]; simp
  obtain ⟨T', f1, f2, f3⟩ := tb_type (f := ⟨nm, ar, rs⟩) (c := c) h4.tb hF (fun S hS => (hI (T ++ X) (fun b hb => (List.mem_append.1 hb).elim (h.tb.lt b) (fun hm => (h.tb.xs b hm).1))).more hS) hl e2 e3 e4
  exact ⟨A', c', w5, e1, hB5.cell rfl, hB5.free 5, h4.tb.bk.cell rfl, T', f1, (Off.of_below hb T).trans f2 (fun b hb => .inl hb), fun b hm => (f3 b hm).imp id (fun hle => Nat.le_trans hb.size hle)⟩

set_option maxHeartbeats 2000000 in
set_option maxRecDepth 100000 in
theorem fun_yes (p : Nat) (T : List Nat) (N lv : Nat) (so fu : List (ByteArray × Nat)) (ty : List Fn) (nm : ByteArray) (B : Option Addr) (ar : List Int) (d : Nat) (rs : Int) (w : World) (h : Tb X w p T N lv so fu ty) (hi : Ir T w B ar) (hf : freeB fu nm = true) (ht : typedB so.length ar rs = true) (hs : nm.size ≤ maxLen) (hN : N ≤ 1000000) (hfu : fu.length < 1000) :
    Calls Try.prog 12 #[.pointer (some ⟨p, 0, none⟩), .agg #[.string nm, .slice B ar.length d, .int .i64 rs]] w fun e w' => e = .returned (.int .i64 0) ∧ ∃ T', Tb X w' p T' (N + 1) lv so (fu ++ [(nm, lv)]) (ty ++ [⟨nm, ar, rs⟩]) ∧ Off T w w' ∧ ∀ b ∈ T', b ∈ T ∨ w.heap.size ≤ b := by
  obtain ⟨⟨v1, m1, v2, m2, v3, h⟩, hnames⟩ := h
  have M0 := FunMid.start (nm := nm) (d := d) (rs := rs) h hi
  obtain ⟨W0, hW0⟩ : ∃ W, W = w.alloc (.cells #[.string nm, .slice B ar.length d, .int .i64 rs] 35) := ⟨_, rfl⟩
  rw [← hW0] at M0
  obtain ⟨g, hg⟩ : ∃ g, g = w.heap.size := ⟨_, rfl⟩
  rw [← hg] at M0
  have M1 : FunMid X g p T N lv so fu ty v1 m1 v2 m2 v3 nm B ar d rs W0.drew := M0.off ((Off.refl _ _).drew)
  have hO1 : Off T w W0.drew := by rw [hW0]; exact ((Off.refl _ _).alloc _).drew
  have hal : ar.length ≤ 64 := by
    simp only [typedB, Bool.and_eq_true, decide_eq_true_eq] at ht
    exact ht.1.1
  have hfree := free_any p 3 m2 N fu nm W0.drew (M1.tb.bk.cell rfl) M1.tb.fS.map hs
  rw [hf] at hfree
  have hn1 : so.length ≤ 1000000 := Nat.le_trans h.sS.le hN
  have hform1 : ∃ A c, v1 = .slice A so.length c := by
    rcases h.sS.row.2 with ⟨e, h⟩ | ⟨g, cap, cu, e, _⟩
    · exact ⟨none, 0, by rw [e, h]⟩
    · exact ⟨_, _, e⟩
  obtain ⟨A1, k1, rfl⟩ := hform1
  have hform2 : ∃ A c, v2 = .slice A fu.length c := by
    rcases h.fS.row.2 with ⟨e, h⟩ | ⟨g, cap, cu, e, _⟩
    · exact ⟨none, 0, by rw [e, h]⟩
    · exact ⟨_, _, e⟩
  obtain ⟨A2, k2, rfl⟩ := hform2
  have hform3 : ∃ A c, v3 = .slice A ty.length c := by
    obtain ⟨xs, hx, _⟩ := h.tS
    rcases hx.2 with ⟨e, h⟩ | ⟨g, cap, cu, e, _⟩
    · exact ⟨none, 0, by rw [e, h]⟩
    · exact ⟨_, _, e⟩
  obtain ⟨A3, k3, rfl⟩ := hform3
  have hn2 : ty.length ≤ 1000000 := by
    have := congrArg List.length hnames
    simp only [List.length_map] at this
    omega
  have htyped := typed_any p so.length k1 A1 B nm ar d rs T W0.drew (M1.tb.bk.cell rfl) hn1 M1.ir (by omega)
  rw [ht] at htyped
  have x0 : W0.drew.cell? ⟨g, 0, none⟩ = some (.string nm) := M1.bx.cell rfl
  have x1 : W0.drew.cell? ⟨g, 1, none⟩ = some (.slice B ar.length d) := M1.bx.cell rfl
  have x2 : W0.drew.cell? ⟨g, 2, none⟩ = some (.int .i64 rs) := M1.bx.cell rfl
  have hfree := hide hfree
  have htyped := hide htyped
  have hnext : ∀ w2, Below W0.drew.heap.size W0.drew w2 → FunMid X g p T N lv so fu ty (.slice A1 so.length k1) m1 (.slice A2 fu.length k2) m2 (.slice A3 ty.length k3) nm B ar d rs w2 ∧ w2.cell? ⟨g, 0, none⟩ = some (.string nm) ∧ w2.cell? ⟨g, 1, none⟩ = some (.slice B ar.length d) ∧ w2.cell? ⟨g, 2, none⟩ = some (.int .i64 rs) ∧
      Calls Try.prog 34 #[.pointer (some ⟨p, 3, none⟩)] w2 (fun e w' => e = .returned (.int .i64 (fu.length : Int)) ∧ w2 = w') := by
    intro w2 hb2
    have M2 := M1.off (.of_below hb2 [])
    exact ⟨M2, M2.bx.cell rfl, M2.bx.cell rfl, M2.bx.cell rfl, len_any p 3 fu.length k2 A2 w2 (M2.tb.bk.cell rfl)⟩
  have hnext := hide hnext
  have hT := hide h
  have hM1 := hide M1
  have hnm : nm.size ≤ 200 ∧ hasB fu nm = false := by
    simp only [freeB, nameB, Bool.and_eq_true, decide_eq_true_eq, Bool.not_eq_true'] at hf
    exact ⟨hf.1.1.2, hf.2⟩
  have hO1 := hide hO1
  have hG := hide hg
  have hW := hide hW0
  clear M0 h hf ht hs hn1 M1 hi hg hW0
  go_enter Try.func12, Try.ntmps12
  go_wp2
  rw [← hW.out, ← hG.out]
  refine wp_region_held_drew (S := (fun W => W.cell? ⟨g, 0, none⟩ = some (.string nm) ∧ W.cell? ⟨g, 1, none⟩ = some (.slice B ar.length d) ∧ W.cell? ⟨g, 2, none⟩ = some (.int .i64 rs))) (by kernel_rfl) ?_ (fun hHeld => ?_)
  · (try dsimp only)
    exact ⟨x0, x1, x2⟩
  refine wpAnyH_take (i := 0) (v := ?vvx0) (by (simp only [List.getElem?_toArray, List.getElem?_cons_zero, List.getElem?_cons_succ]) <;> rfl) (by kernel_rfl) (by kernel_rfl) (by kernel_rfl) ?hqx0 (Or.inl ⟨by rfl, ?hyx0⟩) (by assumption) ?_
  case hqx0 => exact fun _ _ _ h => h
  case hyx0 => ((intro w hSw; (try dsimp only at hSw); go_simp) <;> (with_reducible rfl))
  (try simp only [Act.put, List.setIfInBounds_toArray, List.set_cons_zero, List.set_cons_succ])
  refine wpAnyH_take (i := 1) (v := ?vvx1) (by (simp only [List.getElem?_toArray, List.getElem?_cons_zero, List.getElem?_cons_succ]) <;> rfl) (by kernel_rfl) (by kernel_rfl) (by kernel_rfl) ?hqx1 (Or.inl ⟨by rfl, ?hyx1⟩) (by assumption) ?_
  case hqx1 => exact fun _ _ _ h => h
  case hyx1 => ((intro w hSw; (try dsimp only at hSw); go_simp) <;> (with_reducible rfl))
  (try simp only [Act.put, List.setIfInBounds_toArray, List.set_cons_zero, List.set_cons_succ])
  refine wpAnyH_take (i := 2) (v := ?vvx2) (by (simp only [List.getElem?_toArray, List.getElem?_cons_zero, List.getElem?_cons_succ]) <;> rfl) (by kernel_rfl) (by kernel_rfl) (by kernel_rfl) ?hqx2 (Or.inl ⟨by rfl, ?hyx2⟩) (by assumption) ?_
  case hqx2 => exact fun _ _ _ h => h
  case hyx2 => ((intro w hSw; (try dsimp only at hSw); go_simp) <;> (with_reducible rfl))
  (try simp only [Act.put, List.setIfInBounds_toArray, List.set_cons_zero, List.set_cons_succ])
  refine wpAnyH_take (i := 3) (v := ?vvx3) (by (simp only [List.getElem?_toArray, List.getElem?_cons_zero, List.getElem?_cons_succ]) <;> rfl) (by kernel_rfl) (by kernel_rfl) (by kernel_rfl) ?hqx3 (Or.inl ⟨by rfl, ?hyx3⟩) (by assumption) ?_
  case hqx3 => exact fun _ _ _ h => h
  case hyx3 => ((intro w hSw; (try dsimp only at hSw); go_simp) <;> (with_reducible rfl))
  (try simp only [Act.put, List.setIfInBounds_toArray, List.set_cons_zero, List.set_cons_succ])
  refine wpAnyH_take (i := 4) (v := ?vvx4) (by (simp only [List.getElem?_toArray, List.getElem?_cons_zero, List.getElem?_cons_succ]) <;> rfl) (by kernel_rfl) (by kernel_rfl) (by kernel_rfl) ?hqx4 (Or.inl ⟨by rfl, ?hyx4⟩) (by assumption) ?_
  case hqx4 => exact fun _ _ _ h => h
  case hyx4 => ((intro w hSw; (try dsimp only at hSw); go_simp) <;> (with_reducible rfl))
  (try simp only [Act.put, List.setIfInBounds_toArray, List.set_cons_zero, List.set_cons_succ])
  refine wpAnyH_take (i := 5) (v := ?vvx5) (by (simp only [List.getElem?_toArray, List.getElem?_cons_zero, List.getElem?_cons_succ]) <;> rfl) (by kernel_rfl) (by kernel_rfl) (by kernel_rfl) ?hqx5 (Or.inl ⟨by rfl, ?hyx5⟩) (by assumption) ?_
  case hqx5 => exact fun _ _ _ h => h
  case hyx5 => ((intro w hSw; (try dsimp only at hSw); go_simp) <;> (with_reducible rfl))
  (try simp only [Act.put, List.setIfInBounds_toArray, List.set_cons_zero, List.set_cons_succ])
  refine wpAnyH_take (i := 6) (v := ?vvx6) (by (simp only [List.getElem?_toArray, List.getElem?_cons_zero, List.getElem?_cons_succ]) <;> rfl) (by kernel_rfl) (by kernel_rfl) (by kernel_rfl) ?hqx6 (Or.inl ⟨by rfl, ?hyx6⟩) (by assumption) ?_
  case hqx6 => exact fun _ _ _ h => h
  case hyx6 => ((intro w hSw; (try dsimp only at hSw); go_simp) <;> (with_reducible rfl))
  (try simp only [Act.put, List.setIfInBounds_toArray, List.set_cons_zero, List.set_cons_succ])
  refine wpAnyH_take (i := 7) (v := ?vvx7) (by (simp only [List.getElem?_toArray, List.getElem?_cons_zero, List.getElem?_cons_succ]) <;> rfl) (by kernel_rfl) (by kernel_rfl) (by kernel_rfl) ?hqx7 (Or.inl ⟨by rfl, ?hyx7⟩) (by assumption) ?_
  case hqx7 => exact fun _ _ _ h => h
  case hyx7 => ((intro w hSw; (try dsimp only at hSw); go_simp) <;> (with_reducible rfl))
  (try simp only [Act.put, List.setIfInBounds_toArray, List.set_cons_zero, List.set_cons_succ])
  refine wpAnyH_ready (rs := [8]) (by kernel_rfl) (by simp) ?_
  refine AllReadyH.cons (by (simp only [List.getElem?_toArray, List.getElem?_cons_zero, List.getElem?_cons_succ]) <;> rfl) (fun K hK => ?_) AllReadyH.nil
  go_simp
  go_at_call 33; (with_reducible refine (hfree.out).mono ?_); rintro e w1 ⟨rfl, rfl⟩
  (try go_wp2_with fail)
  refine hK.out _ _ ?_ (fun hHeld => ?_)
  · (try dsimp only)
    (first | exact ⟨x0, x1, x2⟩ | exact ⟨z0, z1, z2⟩)
  (try clear hK K)
  (try simp only [Act.put, List.setIfInBounds_toArray, List.set_cons_zero, List.set_cons_succ])
  refine wpAnyH_take (i := 9) (v := ?vvx9) (by (simp only [List.getElem?_toArray, List.getElem?_cons_zero, List.getElem?_cons_succ]) <;> rfl) (by kernel_rfl) (by kernel_rfl) (by kernel_rfl) ?hqx9 (Or.inl ⟨by rfl, ?hyx9⟩) (by assumption) ?_
  case hqx9 => exact fun _ _ _ h => h
  case hyx9 => ((intro w hSw; (try dsimp only at hSw); go_simp) <;> (with_reducible rfl))
  (try simp only [Act.put, List.setIfInBounds_toArray, List.set_cons_zero, List.set_cons_succ])
  refine wpAnyH_take (i := 10) (v := ?vvx10) (by (simp only [List.getElem?_toArray, List.getElem?_cons_zero, List.getElem?_cons_succ]) <;> rfl) (by kernel_rfl) (by kernel_rfl) (by kernel_rfl) ?hqx10 (Or.inl ⟨by rfl, ?hyx10⟩) (by assumption) ?_
  case hqx10 => exact fun _ _ _ h => h
  case hyx10 => ((intro w hSw; (try dsimp only at hSw); go_simp) <;> (with_reducible rfl))
  (try simp only [Act.put, List.setIfInBounds_toArray, List.set_cons_zero, List.set_cons_succ])
  refine wpAnyH_take (i := 11) (v := ?vvx11) (by (simp only [List.getElem?_toArray, List.getElem?_cons_zero, List.getElem?_cons_succ]) <;> rfl) (by kernel_rfl) (by kernel_rfl) (by kernel_rfl) ?hqx11 (Or.inl ⟨by rfl, ?hyx11⟩) (by assumption) ?_
  case hqx11 => exact fun _ _ _ h => h
  case hyx11 => ((intro w hSw; (try dsimp only at hSw); go_simp) <;> (with_reducible rfl))
  (try simp only [Act.put, List.setIfInBounds_toArray, List.set_cons_zero, List.set_cons_succ])
  refine wpAnyH_take (i := 12) (v := ?vvx12) (by (simp only [List.getElem?_toArray, List.getElem?_cons_zero, List.getElem?_cons_succ]) <;> rfl) (by kernel_rfl) (by kernel_rfl) (by kernel_rfl) ?hqx12 (Or.inl ⟨by rfl, ?hyx12⟩) (by assumption) ?_
  case hqx12 => exact fun _ _ _ h => h
  case hyx12 => ((intro w hSw; (try dsimp only at hSw); go_simp) <;> (with_reducible rfl))
  (try simp only [Act.put, List.setIfInBounds_toArray, List.set_cons_zero, List.set_cons_succ])
  refine wpAnyH_take (i := 13) (v := ?vvx13) (by (simp only [List.getElem?_toArray, List.getElem?_cons_zero, List.getElem?_cons_succ]) <;> rfl) (by kernel_rfl) (by kernel_rfl) (by kernel_rfl) ?hqx13 (Or.inl ⟨by rfl, ?hyx13⟩) (by assumption) ?_
  case hqx13 => exact fun _ _ _ h => h
  case hyx13 => ((intro w hSw; (try dsimp only at hSw); go_simp) <;> (with_reducible rfl))
  (try simp only [Act.put, List.setIfInBounds_toArray, List.set_cons_zero, List.set_cons_succ])
  refine wpAnyH_ready (rs := [14]) (by kernel_rfl) (by simp) ?_
  refine AllReadyH.cons (by (simp only [List.getElem?_toArray, List.getElem?_cons_zero, List.getElem?_cons_succ]) <;> rfl) (fun K hK => ?_) AllReadyH.nil
  go_simp
  go_at_call 37; (with_reducible refine (htyped.out).mono ?_); rintro e w2 ⟨rfl, hb2⟩; obtain ⟨M2, z0, z1, z2, hlen2⟩ := hnext.out _ hb2
  (try go_wp2_with fail)
  refine hK.out _ _ ?_ (fun hHeld => ?_)
  · (try dsimp only)
    (first | exact ⟨x0, x1, x2⟩ | exact ⟨z0, z1, z2⟩)
  (try clear hK K)
  (try simp only [Act.put, List.setIfInBounds_toArray, List.set_cons_zero, List.set_cons_succ])
  refine wpAnyH_take (i := 15) (v := ?vvx15) (by (simp only [List.getElem?_toArray, List.getElem?_cons_zero, List.getElem?_cons_succ]) <;> rfl) (by kernel_rfl) (by kernel_rfl) (by kernel_rfl) ?hqx15 (Or.inl ⟨by rfl, ?hyx15⟩) (by assumption) ?_
  case hqx15 => exact fun _ _ _ h => h
  case hyx15 => ((intro w hSw; (try dsimp only at hSw); go_simp) <;> (with_reducible rfl))
  (try simp only [Act.put, List.setIfInBounds_toArray, List.set_cons_zero, List.set_cons_succ])
  refine wpAnyH_take (i := 16) (v := ?vvx16) (by (simp only [List.getElem?_toArray, List.getElem?_cons_zero, List.getElem?_cons_succ]) <;> rfl) (by kernel_rfl) (by kernel_rfl) (by kernel_rfl) ?hqx16 (Or.inl ⟨by rfl, ?hyx16⟩) (by assumption) ?_
  case hqx16 => exact fun _ _ _ h => h
  case hyx16 => ((intro w hSw; (try dsimp only at hSw); go_simp) <;> (with_reducible rfl))
  (try simp only [Act.put, List.setIfInBounds_toArray, List.set_cons_zero, List.set_cons_succ])
  refine wpAnyH_take (i := 17) (v := ?vvx17) (by (simp only [List.getElem?_toArray, List.getElem?_cons_zero, List.getElem?_cons_succ]) <;> rfl) (by kernel_rfl) (by kernel_rfl) (by kernel_rfl) ?hqx17 (Or.inl ⟨by rfl, ?hyx17⟩) (by assumption) ?_
  case hqx17 => exact fun _ _ _ h => h
  case hyx17 => ((intro w hSw; (try dsimp only at hSw); go_simp) <;> (with_reducible rfl))
  (try simp only [Act.put, List.setIfInBounds_toArray, List.set_cons_zero, List.set_cons_succ])
  refine wpAnyH_done (by kernel_rfl) ?_ _
  clear hHeld
  go_wp2_with (go_at_call 34; (with_reducible refine (hlen2).mono ?_); rintro e w1 ⟨rfl, rfl⟩)
  have M2d := M2.off ((Off.refl [] w2).drew)
  have y0 : w2.drew.cell? ⟨p, 0, none⟩ = some (.int .i64 (lv : Int)) := M2d.tb.bk.cell rfl
  have hpn : p ∉ bks (.slice A2 fu.length k2) m2 := by
    have := M2d.tb.once
    rw [M2d.tb.eT] at this
    simp only [List.nodup_cons, List.mem_append, not_or] at this
    exact this.1.2.1
  have hpush := push_any p 3 70 _ (.slice A2 fu.length k2) m2 N fu nm lv w2.drew M2d.tb.bk rfl rfl M2d.tb.fS hpn hnm.2 hnm.1 hN
  have hcell : ∀ w3, Pushed p 3 70 #[.int .i64 (lv : Int), .slice A1 so.length k1, .map m1, .slice A2 fu.length k2, .map m2, .slice A3 ty.length k3] (.slice A2 fu.length k2) m2 (N + 1) (fu ++ [(nm, lv)]) w2.drew w3 →
      w3.cell? ⟨g, 0, none⟩ = some (.string nm) ∧ w3.cell? ⟨p, 0, none⟩ = some (.int .i64 (lv : Int)) ∧ w3.frozen? ⟨g, 0, none⟩ = false ∧ w3.setCell ⟨g, 0, none⟩ (.string nm) = w3 ∧ ∃ T3 v2' m2', FunMid X g p T3 (N + 1) lv so (fu ++ [(nm, lv)]) ty (.slice A1 so.length k1) m1 v2' m2' (.slice A3 ty.length k3) nm B ar d rs w3 ∧ Off T w2.drew w3 ∧ ∀ b ∈ T3, b ∈ T ∨ w2.drew.heap.size ≤ b := by
    intro w3 hpu
    obtain ⟨T3, v2', m2', M3, h1, h2⟩ := M2d.push hpu
    exact ⟨M3.bx.cell rfl, M3.tb.bk.cell rfl, M3.bx.free 0, setCell_same M3.bx rfl, T3, v2', m2', M3, h1, h2⟩
  refine wp_region_held_drew (S := (fun W => W.cell? ⟨g, 0, none⟩ = some (.string nm) ∧ W.cell? ⟨p, 0, none⟩ = some (.int .i64 (lv : Int)))) (by kernel_rfl) ?_ (fun hHeld => ?_)
  · (try dsimp only)
    exact ⟨z0, y0⟩
  refine wpAnyH_take (i := 0) (v := ?vvy0) (by (simp only [List.getElem?_toArray, List.getElem?_cons_zero, List.getElem?_cons_succ]) <;> rfl) (by kernel_rfl) (by kernel_rfl) (by kernel_rfl) ?hqy0 (Or.inl ⟨by rfl, ?hyy0⟩) (by assumption) ?_
  case hqy0 => exact fun _ _ _ h => h
  case hyy0 => ((intro w hSw; (try dsimp only at hSw); go_simp) <;> (with_reducible rfl))
  (try simp only [Act.put, List.setIfInBounds_toArray, List.set_cons_zero, List.set_cons_succ])
  refine wpAnyH_take (i := 1) (v := ?vvy1) (by (simp only [List.getElem?_toArray, List.getElem?_cons_zero, List.getElem?_cons_succ]) <;> rfl) (by kernel_rfl) (by kernel_rfl) (by kernel_rfl) ?hqy1 (Or.inl ⟨by rfl, ?hyy1⟩) (by assumption) ?_
  case hqy1 => exact fun _ _ _ h => h
  case hyy1 => ((intro w hSw; (try dsimp only at hSw); go_simp) <;> (with_reducible rfl))
  (try simp only [Act.put, List.setIfInBounds_toArray, List.set_cons_zero, List.set_cons_succ])
  refine wpAnyH_take (i := 2) (v := ?vvy2) (by (simp only [List.getElem?_toArray, List.getElem?_cons_zero, List.getElem?_cons_succ]) <;> rfl) (by kernel_rfl) (by kernel_rfl) (by kernel_rfl) ?hqy2 (Or.inl ⟨by rfl, ?hyy2⟩) (by assumption) ?_
  case hqy2 => exact fun _ _ _ h => h
  case hyy2 => ((intro w hSw; (try dsimp only at hSw); go_simp) <;> (with_reducible rfl))
  (try simp only [Act.put, List.setIfInBounds_toArray, List.set_cons_zero, List.set_cons_succ])
  refine wpAnyH_take (i := 3) (v := ?vvy3) (by (simp only [List.getElem?_toArray, List.getElem?_cons_zero, List.getElem?_cons_succ]) <;> rfl) (by kernel_rfl) (by kernel_rfl) (by kernel_rfl) ?hqy3 (Or.inl ⟨by rfl, ?hyy3⟩) (by assumption) ?_
  case hqy3 => exact fun _ _ _ h => h
  case hyy3 => ((intro w hSw; (try dsimp only at hSw); go_simp) <;> (with_reducible rfl))
  (try simp only [Act.put, List.setIfInBounds_toArray, List.set_cons_zero, List.set_cons_succ])
  refine wpAnyH_take (i := 4) (v := ?vvy4) (by (simp only [List.getElem?_toArray, List.getElem?_cons_zero, List.getElem?_cons_succ]) <;> rfl) (by kernel_rfl) (by kernel_rfl) (by kernel_rfl) ?hqy4 (Or.inl ⟨by rfl, ?hyy4⟩) (by assumption) ?_
  case hqy4 => exact fun _ _ _ h => h
  case hyy4 => ((intro w hSw; (try dsimp only at hSw); go_simp) <;> (with_reducible rfl))
  (try simp only [Act.put, List.setIfInBounds_toArray, List.set_cons_zero, List.set_cons_succ])
  refine wpAnyH_take (i := 5) (v := ?vvy5) (by (simp only [List.getElem?_toArray, List.getElem?_cons_zero, List.getElem?_cons_succ]) <;> rfl) (by kernel_rfl) (by kernel_rfl) (by kernel_rfl) ?hqy5 (Or.inl ⟨by rfl, ?hyy5⟩) (by assumption) ?_
  case hqy5 => exact fun _ _ _ h => h
  case hyy5 => ((intro w hSw; (try dsimp only at hSw); go_simp) <;> (with_reducible rfl))
  (try simp only [Act.put, List.setIfInBounds_toArray, List.set_cons_zero, List.set_cons_succ])
  refine wpAnyH_take (i := 6) (v := ?vvy6) (by (simp only [List.getElem?_toArray, List.getElem?_cons_zero, List.getElem?_cons_succ]) <;> rfl) (by kernel_rfl) (by kernel_rfl) (by kernel_rfl) ?hqy6 (Or.inl ⟨by rfl, ?hyy6⟩) (by assumption) ?_
  case hqy6 => exact fun _ _ _ h => h
  case hyy6 => ((intro w hSw; (try dsimp only at hSw); go_simp) <;> (with_reducible rfl))
  (try simp only [Act.put, List.setIfInBounds_toArray, List.set_cons_zero, List.set_cons_succ])
  refine wpAnyH_take (i := 7) (v := ?vvy7) (by (simp only [List.getElem?_toArray, List.getElem?_cons_zero, List.getElem?_cons_succ]) <;> rfl) (by kernel_rfl) (by kernel_rfl) (by kernel_rfl) ?hqy7 (Or.inl ⟨by rfl, ?hyy7⟩) (by assumption) ?_
  case hqy7 => exact fun _ _ _ h => h
  case hyy7 => ((intro w hSw; (try dsimp only at hSw); go_simp) <;> (with_reducible rfl))
  (try simp only [Act.put, List.setIfInBounds_toArray, List.set_cons_zero, List.set_cons_succ])
  refine wpAnyH_take (i := 8) (v := ?vvy8) (by (simp only [List.getElem?_toArray, List.getElem?_cons_zero, List.getElem?_cons_succ]) <;> rfl) (by kernel_rfl) (by kernel_rfl) (by kernel_rfl) ?hqy8 (Or.inl ⟨by rfl, ?hyy8⟩) (by assumption) ?_
  case hqy8 => exact fun _ _ _ h => h
  case hyy8 => ((intro w hSw; (try dsimp only at hSw); go_simp) <;> (with_reducible rfl))
  (try simp only [Act.put, List.setIfInBounds_toArray, List.set_cons_zero, List.set_cons_succ])
  refine wpAnyH_ready (rs := [9]) (by kernel_rfl) (by simp) ?_
  refine AllReadyH.cons (by (simp only [List.getElem?_toArray, List.getElem?_cons_zero, List.getElem?_cons_succ]) <;> rfl) (fun K hK => ?_) AllReadyH.nil
  go_simp
  go_at_call 35; (with_reducible refine (hpush).mono ?_); rintro e w3 ⟨rfl, hpu⟩; obtain ⟨c0, c5, c1, c3, T3, v23, m23, M3, hO3, hs3⟩ := hcell _ hpu
  (try go_wp2_with fail)
  refine hK.out _ _ ?_ (fun hHeld => ?_)
  · (try dsimp only)
    first | exact ⟨c0, c5⟩ | (rw [c3]; exact ⟨c0, c5⟩)
  (try clear hK K)
  (try simp only [Act.put, List.setIfInBounds_toArray, List.set_cons_zero, List.set_cons_succ])
  refine wpAnyH_take (i := 10) (v := ?vvy10) (by (simp only [List.getElem?_toArray, List.getElem?_cons_zero, List.getElem?_cons_succ]) <;> rfl) (by kernel_rfl) (by kernel_rfl) (by kernel_rfl) ?hqy10 (Or.inl ⟨by rfl, ?hyy10⟩) (by assumption) ?_
  case hqy10 => exact fun _ _ _ h => h
  case hyy10 => ((intro w hSw; (try dsimp only at hSw); go_simp) <;> (with_reducible rfl))
  (try simp only [Act.put, List.setIfInBounds_toArray, List.set_cons_zero, List.set_cons_succ])
  refine wpAnyH_ready (rs := [11]) (by kernel_rfl) (by simp) ?_
  refine AllReadyH.cons (by (simp only [List.getElem?_toArray, List.getElem?_cons_zero, List.getElem?_cons_succ]) <;> rfl) (fun K hK => ?_) AllReadyH.nil
  go_simp
  refine hK.out _ _ ?_ (fun hHeld => ?_)
  · (try dsimp only)
    first | exact ⟨c0, c5⟩ | (rw [c3]; exact ⟨c0, c5⟩)
  (try clear hK K)
  (try simp only [Act.put, List.setIfInBounds_toArray, List.set_cons_zero, List.set_cons_succ])
  refine wpAnyH_done (by kernel_rfl) ?_ _
  clear hHeld
  go_wp2
  have M3d := M3.off ((Off.refl [] w3).drew)
  have hown := own_any nm B ar d rs T3 w3.drew M3d.ir (by omega)
  have u0 : w3.drew.cell? ⟨g, 0, none⟩ = some (.string nm) := M3d.bx.cell rfl
  have u1 : w3.drew.cell? ⟨g, 1, none⟩ = some (.slice B ar.length d) := M3d.bx.cell rfl
  have u2 : w3.drew.cell? ⟨g, 2, none⟩ = some (.int .i64 rs) := M3d.bx.cell rfl
  have y5 : w3.drew.cell? ⟨p, 5, none⟩ = some (.slice A3 ty.length k3) := M3d.tb.bk.cell rfl
  have hend : ∀ (A' : Option Addr) (c' : Nat) (w5 : World), Off T w2.drew w3 → (∀ b ∈ T3, b ∈ T ∨ w2.drew.heap.size ≤ b) →
      (∃ T', (∃ v1 m1 v2 m2 v3, TbP X (w5.setCell ⟨p, 5, none⟩ (.slice A' (ty.length + 1) c')) p T' (N + 1) lv so (fu ++ [(nm, lv)]) (ty ++ [⟨nm, ar, rs⟩]) v1 m1 v2 m2 v3) ∧ Off T3 w3.drew (w5.setCell ⟨p, 5, none⟩ (.slice A' (ty.length + 1) c')) ∧ ∀ b ∈ T', b ∈ T3 ∨ w3.drew.heap.size ≤ b) →
      ∃ T', Tb X (w5.setCell ⟨p, 5, none⟩ (.slice A' (ty.length + 1) c')) p T' (N + 1) lv so (fu ++ [(nm, lv)]) (ty ++ [⟨nm, ar, rs⟩]) ∧ Off T w (w5.setCell ⟨p, 5, none⟩ (.slice A' (ty.length + 1) c')) ∧ ∀ b ∈ T', b ∈ T ∨ w.heap.size ≤ b := by
    rintro A' c' w5 h1 h2 ⟨T', h3, h4, h5⟩
    have hw2 : Off T w w2.drew := (hO1.out.trans (T' := T) (Off.of_below hb2 T) (fun b hb => .inl hb)).drew
    have hw3 : Off T w w3.drew := (hw2.trans h1 (fun b hb => .inl hb)).drew
    have hT3 : ∀ b ∈ T3, b ∈ T ∨ w.heap.size ≤ b := fun b hb => (h2 b hb).imp id (fun hle => Nat.le_trans hw2.size hle)
    exact ⟨T', ⟨h3, by simp [hnames]⟩, hw3.trans h4 hT3, fun b hb => (h5 b hb).elim (hT3 b) (fun hle => .inr (Nat.le_trans hw3.size hle))⟩
  have hend := hide hend
  refine wp_region_held_drew (S := fun _ => True) (by kernel_rfl) trivial (fun hHeld => ?_)
  refine wpAnyH_take (i := 0) (v := ?vvm1) (by (simp only [List.getElem?_toArray, List.getElem?_cons_zero, List.getElem?_cons_succ]) <;> rfl) (by kernel_rfl) (by kernel_rfl) (by kernel_rfl) ?hqm1 (Or.inl ⟨by rfl, ?hym1⟩) (by assumption) ?_
  case hqm1 => exact fun _ _ _ h => h
  case hym1 => ((intro w hSw; (try dsimp only at hSw); go_simp) <;> (with_reducible rfl))
  (try simp only [Act.put, List.setIfInBounds_toArray, List.set_cons_zero, List.set_cons_succ])
  refine wpAnyH_take (i := 1) (v := ?vvm2) (by (simp only [List.getElem?_toArray, List.getElem?_cons_zero, List.getElem?_cons_succ]) <;> rfl) (by kernel_rfl) (by kernel_rfl) (by kernel_rfl) ?hqm2 (Or.inl ⟨by rfl, ?hym2⟩) (by assumption) ?_
  case hqm2 => exact fun _ _ _ h => h
  case hym2 => ((intro w hSw; (try dsimp only at hSw); go_simp) <;> (with_reducible rfl))
  (try simp only [Act.put, List.setIfInBounds_toArray, List.set_cons_zero, List.set_cons_succ])
  refine wpAnyH_take (i := 2) (v := ?vvm3) (by (simp only [List.getElem?_toArray, List.getElem?_cons_zero, List.getElem?_cons_succ]) <;> rfl) (by kernel_rfl) (by kernel_rfl) (by kernel_rfl) ?hqm3 (Or.inl ⟨by rfl, ?hym3⟩) (by assumption) ?_
  case hqm3 => exact fun _ _ _ h => h
  case hym3 => ((intro w hSw; (try dsimp only at hSw); go_simp) <;> (with_reducible rfl))
  (try simp only [Act.put, List.setIfInBounds_toArray, List.set_cons_zero, List.set_cons_succ])
  refine wpAnyH_take (i := 3) (v := ?vvm4) (by (simp only [List.getElem?_toArray, List.getElem?_cons_zero, List.getElem?_cons_succ]) <;> rfl) (by kernel_rfl) (by kernel_rfl) (by kernel_rfl) ?hqm4 (Or.inl ⟨by rfl, ?hym4⟩) (by assumption) ?_
  case hqm4 => exact fun _ _ _ h => h
  case hym4 => ((intro w hSw; (try dsimp only at hSw); go_simp) <;> (with_reducible rfl))
  (try simp only [Act.put, List.setIfInBounds_toArray, List.set_cons_zero, List.set_cons_succ])
  refine wpAnyH_ready (rs := [4, 5]) (by kernel_rfl) (by simp) ?_
  refine (AllReadyH.cons (by (simp only [List.getElem?_toArray, List.getElem?_cons_zero, List.getElem?_cons_succ]) <;> rfl) (fun K hK => ?_) (AllReadyH.cons (by (simp only [List.getElem?_toArray, List.getElem?_cons_zero, List.getElem?_cons_succ]) <;> rfl) (fun K hK => ?_) AllReadyH.nil))
  · go_simp
    refine hK.out _ _ trivial (fun hHeld => ?_)
    (try clear hK K)
    (try simp only [Act.put, List.setIfInBounds_toArray, List.set_cons_zero, List.set_cons_succ])
    refine wpAnyH_ready (rs := [5]) (by kernel_rfl) (by simp) ?_
    refine (AllReadyH.cons (by (simp only [List.getElem?_toArray, List.getElem?_cons_zero, List.getElem?_cons_succ]) <;> rfl) (fun K hK => ?_) AllReadyH.nil)
    go_simp
    refine hK.out _ _ trivial (fun hHeld => ?_)
    (try clear hK K)
    (try simp only [Act.put, List.setIfInBounds_toArray, List.set_cons_zero, List.set_cons_succ])
    refine wpAnyH_ready (rs := [6]) (by kernel_rfl) (by simp) ?_
    refine (AllReadyH.cons (by (simp only [List.getElem?_toArray, List.getElem?_cons_zero, List.getElem?_cons_succ]) <;> rfl) (fun K hK => ?_) AllReadyH.nil)
    go_simp
    go_at_call 38; (with_reducible refine (hown).mono ?_); rintro e w4 ⟨A, c, rfl, hI, hb4⟩; obtain ⟨A', c', w5, happ, p0, p1, p2, hfin⟩ := M3d.fin (c := c) hal hn2 hI hb4; have p3 := fun x => cell_al p2 x
    (try go_wp2_with fail)
    refine hK.out _ _ trivial (fun hHeld => ?_)
    (try clear hK K)
    (try simp only [Act.put, List.setIfInBounds_toArray, List.set_cons_zero, List.set_cons_succ])
    refine wpAnyH_ready (rs := [7]) (by kernel_rfl) (by simp) ?_
    refine (AllReadyH.cons (by (simp only [List.getElem?_toArray, List.getElem?_cons_zero, List.getElem?_cons_succ]) <;> rfl) (fun K hK => ?_) AllReadyH.nil)
    go_simp
    refine hK.out _ _ trivial (fun hHeld => ?_)
    (try clear hK K)
    (try simp only [Act.put, List.setIfInBounds_toArray, List.set_cons_zero, List.set_cons_succ])
    refine wpAnyH_ready (rs := [8]) (by kernel_rfl) (by simp) ?_
    refine (AllReadyH.cons (by (simp only [List.getElem?_toArray, List.getElem?_cons_zero, List.getElem?_cons_succ]) <;> rfl) (fun K hK => ?_) AllReadyH.nil)
    refine wp_append_run _ _ _ _ rfl _ _ _ _ rfl rfl happ ?_
    (try go_wp2_with fail)
    refine hK.out _ _ trivial (fun hHeld => ?_)
    (try clear hK K)
    (try simp only [Act.put, List.setIfInBounds_toArray, List.set_cons_zero, List.set_cons_succ])
    refine wpAnyH_take (i := 9) (v := ?vvm5) (by (simp only [List.getElem?_toArray, List.getElem?_cons_zero, List.getElem?_cons_succ]) <;> rfl) (by kernel_rfl) (by kernel_rfl) (by kernel_rfl) ?hqm5 (Or.inl ⟨by rfl, ?hym5⟩) (by assumption) ?_
    case hqm5 => exact fun _ _ _ h => h
    case hym5 => ((intro w hSw; (try dsimp only at hSw); go_simp) <;> (with_reducible rfl))
    (try simp only [Act.put, List.setIfInBounds_toArray, List.set_cons_zero, List.set_cons_succ])
    refine wpAnyH_take (i := 10) (v := ?vvm6) (by (simp only [List.getElem?_toArray, List.getElem?_cons_zero, List.getElem?_cons_succ]) <;> rfl) (by kernel_rfl) (by kernel_rfl) (by kernel_rfl) ?hqm6 (Or.inl ⟨by rfl, ?hym6⟩) (by assumption) ?_
    case hqm6 => exact fun _ _ _ h => h
    case hym6 => ((intro w hSw; (try dsimp only at hSw); go_simp) <;> (with_reducible rfl))
    (try simp only [Act.put, List.setIfInBounds_toArray, List.set_cons_zero, List.set_cons_succ])
    refine wpAnyH_ready (rs := [11]) (by kernel_rfl) (by simp) ?_
    refine (AllReadyH.cons (by (simp only [List.getElem?_toArray, List.getElem?_cons_zero, List.getElem?_cons_succ]) <;> rfl) (fun K hK => ?_) AllReadyH.nil)
    go_simp
    refine hK.out _ _ trivial (fun hHeld => ?_)
    (try clear hK K)
    (try simp only [Act.put, List.setIfInBounds_toArray, List.set_cons_zero, List.set_cons_succ])
    refine wpAnyH_done (by kernel_rfl) ?_ _
    clear hHeld
    go_wp2
    go_ret
    exact ⟨rfl, hend.out _ _ _ hO3 hs3 hfin⟩
  · go_simp
    refine hK.out _ _ trivial (fun hHeld => ?_)
    (try clear hK K)
    (try simp only [Act.put, List.setIfInBounds_toArray, List.set_cons_zero, List.set_cons_succ])
    refine wpAnyH_ready (rs := [4, 6]) (by kernel_rfl) (by simp) ?_
    refine (AllReadyH.cons (by (simp only [List.getElem?_toArray, List.getElem?_cons_zero, List.getElem?_cons_succ]) <;> rfl) (fun K hK => ?_) (AllReadyH.cons (by (simp only [List.getElem?_toArray, List.getElem?_cons_zero, List.getElem?_cons_succ]) <;> rfl) (fun K hK => ?_) AllReadyH.nil))
    · go_simp
      refine hK.out _ _ trivial (fun hHeld => ?_)
      (try clear hK K)
      (try simp only [Act.put, List.setIfInBounds_toArray, List.set_cons_zero, List.set_cons_succ])
      refine wpAnyH_ready (rs := [6]) (by kernel_rfl) (by simp) ?_
      refine (AllReadyH.cons (by (simp only [List.getElem?_toArray, List.getElem?_cons_zero, List.getElem?_cons_succ]) <;> rfl) (fun K hK => ?_) AllReadyH.nil)
      go_simp
      go_at_call 38; (with_reducible refine (hown).mono ?_); rintro e w4 ⟨A, c, rfl, hI, hb4⟩; obtain ⟨A', c', w5, happ, p0, p1, p2, hfin⟩ := M3d.fin (c := c) hal hn2 hI hb4; have p3 := fun x => cell_al p2 x
      (try go_wp2_with fail)
      refine hK.out _ _ trivial (fun hHeld => ?_)
      (try clear hK K)
      (try simp only [Act.put, List.setIfInBounds_toArray, List.set_cons_zero, List.set_cons_succ])
      refine wpAnyH_ready (rs := [7]) (by kernel_rfl) (by simp) ?_
      refine (AllReadyH.cons (by (simp only [List.getElem?_toArray, List.getElem?_cons_zero, List.getElem?_cons_succ]) <;> rfl) (fun K hK => ?_) AllReadyH.nil)
      go_simp
      refine hK.out _ _ trivial (fun hHeld => ?_)
      (try clear hK K)
      (try simp only [Act.put, List.setIfInBounds_toArray, List.set_cons_zero, List.set_cons_succ])
      refine wpAnyH_ready (rs := [8]) (by kernel_rfl) (by simp) ?_
      refine (AllReadyH.cons (by (simp only [List.getElem?_toArray, List.getElem?_cons_zero, List.getElem?_cons_succ]) <;> rfl) (fun K hK => ?_) AllReadyH.nil)
      refine wp_append_run _ _ _ _ rfl _ _ _ _ rfl rfl happ ?_
      (try go_wp2_with fail)
      refine hK.out _ _ trivial (fun hHeld => ?_)
      (try clear hK K)
      (try simp only [Act.put, List.setIfInBounds_toArray, List.set_cons_zero, List.set_cons_succ])
      refine wpAnyH_take (i := 9) (v := ?vvm7) (by (simp only [List.getElem?_toArray, List.getElem?_cons_zero, List.getElem?_cons_succ]) <;> rfl) (by kernel_rfl) (by kernel_rfl) (by kernel_rfl) ?hqm7 (Or.inl ⟨by rfl, ?hym7⟩) (by assumption) ?_
      case hqm7 => exact fun _ _ _ h => h
      case hym7 => ((intro w hSw; (try dsimp only at hSw); go_simp) <;> (with_reducible rfl))
      (try simp only [Act.put, List.setIfInBounds_toArray, List.set_cons_zero, List.set_cons_succ])
      refine wpAnyH_take (i := 10) (v := ?vvm8) (by (simp only [List.getElem?_toArray, List.getElem?_cons_zero, List.getElem?_cons_succ]) <;> rfl) (by kernel_rfl) (by kernel_rfl) (by kernel_rfl) ?hqm8 (Or.inl ⟨by rfl, ?hym8⟩) (by assumption) ?_
      case hqm8 => exact fun _ _ _ h => h
      case hym8 => ((intro w hSw; (try dsimp only at hSw); go_simp) <;> (with_reducible rfl))
      (try simp only [Act.put, List.setIfInBounds_toArray, List.set_cons_zero, List.set_cons_succ])
      refine wpAnyH_ready (rs := [11]) (by kernel_rfl) (by simp) ?_
      refine (AllReadyH.cons (by (simp only [List.getElem?_toArray, List.getElem?_cons_zero, List.getElem?_cons_succ]) <;> rfl) (fun K hK => ?_) AllReadyH.nil)
      go_simp
      refine hK.out _ _ trivial (fun hHeld => ?_)
      (try clear hK K)
      (try simp only [Act.put, List.setIfInBounds_toArray, List.set_cons_zero, List.set_cons_succ])
      refine wpAnyH_done (by kernel_rfl) ?_ _
      clear hHeld
      go_wp2
      go_ret
      exact ⟨rfl, hend.out _ _ _ hO3 hs3 hfin⟩
    · go_simp
      go_at_call 38; (with_reducible refine (hown).mono ?_); rintro e w4 ⟨A, c, rfl, hI, hb4⟩; obtain ⟨A', c', w5, happ, p0, p1, p2, hfin⟩ := M3d.fin (c := c) hal hn2 hI hb4; have p3 := fun x => cell_al p2 x
      (try go_wp2_with fail)
      refine hK.out _ _ trivial (fun hHeld => ?_)
      (try clear hK K)
      (try simp only [Act.put, List.setIfInBounds_toArray, List.set_cons_zero, List.set_cons_succ])
      refine wpAnyH_ready (rs := [4, 7]) (by kernel_rfl) (by simp) ?_
      refine (AllReadyH.cons (by (simp only [List.getElem?_toArray, List.getElem?_cons_zero, List.getElem?_cons_succ]) <;> rfl) (fun K hK => ?_) (AllReadyH.cons (by (simp only [List.getElem?_toArray, List.getElem?_cons_zero, List.getElem?_cons_succ]) <;> rfl) (fun K hK => ?_) AllReadyH.nil))
      · go_simp
        refine hK.out _ _ trivial (fun hHeld => ?_)
        (try clear hK K)
        (try simp only [Act.put, List.setIfInBounds_toArray, List.set_cons_zero, List.set_cons_succ])
        refine wpAnyH_ready (rs := [7]) (by kernel_rfl) (by simp) ?_
        refine (AllReadyH.cons (by (simp only [List.getElem?_toArray, List.getElem?_cons_zero, List.getElem?_cons_succ]) <;> rfl) (fun K hK => ?_) AllReadyH.nil)
        go_simp
        refine hK.out _ _ trivial (fun hHeld => ?_)
        (try clear hK K)
        (try simp only [Act.put, List.setIfInBounds_toArray, List.set_cons_zero, List.set_cons_succ])
        refine wpAnyH_ready (rs := [8]) (by kernel_rfl) (by simp) ?_
        refine (AllReadyH.cons (by (simp only [List.getElem?_toArray, List.getElem?_cons_zero, List.getElem?_cons_succ]) <;> rfl) (fun K hK => ?_) AllReadyH.nil)
        refine wp_append_run _ _ _ _ rfl _ _ _ _ rfl rfl happ ?_
        (try go_wp2_with fail)
        refine hK.out _ _ trivial (fun hHeld => ?_)
        (try clear hK K)
        (try simp only [Act.put, List.setIfInBounds_toArray, List.set_cons_zero, List.set_cons_succ])
        refine wpAnyH_take (i := 9) (v := ?vvm9) (by (simp only [List.getElem?_toArray, List.getElem?_cons_zero, List.getElem?_cons_succ]) <;> rfl) (by kernel_rfl) (by kernel_rfl) (by kernel_rfl) ?hqm9 (Or.inl ⟨by rfl, ?hym9⟩) (by assumption) ?_
        case hqm9 => exact fun _ _ _ h => h
        case hym9 => ((intro w hSw; (try dsimp only at hSw); go_simp) <;> (with_reducible rfl))
        (try simp only [Act.put, List.setIfInBounds_toArray, List.set_cons_zero, List.set_cons_succ])
        refine wpAnyH_take (i := 10) (v := ?vvm10) (by (simp only [List.getElem?_toArray, List.getElem?_cons_zero, List.getElem?_cons_succ]) <;> rfl) (by kernel_rfl) (by kernel_rfl) (by kernel_rfl) ?hqm10 (Or.inl ⟨by rfl, ?hym10⟩) (by assumption) ?_
        case hqm10 => exact fun _ _ _ h => h
        case hym10 => ((intro w hSw; (try dsimp only at hSw); go_simp) <;> (with_reducible rfl))
        (try simp only [Act.put, List.setIfInBounds_toArray, List.set_cons_zero, List.set_cons_succ])
        refine wpAnyH_ready (rs := [11]) (by kernel_rfl) (by simp) ?_
        refine (AllReadyH.cons (by (simp only [List.getElem?_toArray, List.getElem?_cons_zero, List.getElem?_cons_succ]) <;> rfl) (fun K hK => ?_) AllReadyH.nil)
        go_simp
        refine hK.out _ _ trivial (fun hHeld => ?_)
        (try clear hK K)
        (try simp only [Act.put, List.setIfInBounds_toArray, List.set_cons_zero, List.set_cons_succ])
        refine wpAnyH_done (by kernel_rfl) ?_ _
        clear hHeld
        go_wp2
        go_ret
        exact ⟨rfl, hend.out _ _ _ hO3 hs3 hfin⟩
      · go_simp
        refine hK.out _ _ trivial (fun hHeld => ?_)
        (try clear hK K)
        (try simp only [Act.put, List.setIfInBounds_toArray, List.set_cons_zero, List.set_cons_succ])
        refine wpAnyH_ready (rs := [4]) (by kernel_rfl) (by simp) ?_
        refine (AllReadyH.cons (by (simp only [List.getElem?_toArray, List.getElem?_cons_zero, List.getElem?_cons_succ]) <;> rfl) (fun K hK => ?_) AllReadyH.nil)
        go_simp
        refine hK.out _ _ trivial (fun hHeld => ?_)
        (try clear hK K)
        (try simp only [Act.put, List.setIfInBounds_toArray, List.set_cons_zero, List.set_cons_succ])
        refine wpAnyH_ready (rs := [8]) (by kernel_rfl) (by simp) ?_
        refine (AllReadyH.cons (by (simp only [List.getElem?_toArray, List.getElem?_cons_zero, List.getElem?_cons_succ]) <;> rfl) (fun K hK => ?_) AllReadyH.nil)
        refine wp_append_run _ _ _ _ rfl _ _ _ _ rfl rfl happ ?_
        (try go_wp2_with fail)
        refine hK.out _ _ trivial (fun hHeld => ?_)
        (try clear hK K)
        (try simp only [Act.put, List.setIfInBounds_toArray, List.set_cons_zero, List.set_cons_succ])
        refine wpAnyH_take (i := 9) (v := ?vvm11) (by (simp only [List.getElem?_toArray, List.getElem?_cons_zero, List.getElem?_cons_succ]) <;> rfl) (by kernel_rfl) (by kernel_rfl) (by kernel_rfl) ?hqm11 (Or.inl ⟨by rfl, ?hym11⟩) (by assumption) ?_
        case hqm11 => exact fun _ _ _ h => h
        case hym11 => ((intro w hSw; (try dsimp only at hSw); go_simp) <;> (with_reducible rfl))
        (try simp only [Act.put, List.setIfInBounds_toArray, List.set_cons_zero, List.set_cons_succ])
        refine wpAnyH_take (i := 10) (v := ?vvm12) (by (simp only [List.getElem?_toArray, List.getElem?_cons_zero, List.getElem?_cons_succ]) <;> rfl) (by kernel_rfl) (by kernel_rfl) (by kernel_rfl) ?hqm12 (Or.inl ⟨by rfl, ?hym12⟩) (by assumption) ?_
        case hqm12 => exact fun _ _ _ h => h
        case hym12 => ((intro w hSw; (try dsimp only at hSw); go_simp) <;> (with_reducible rfl))
        (try simp only [Act.put, List.setIfInBounds_toArray, List.set_cons_zero, List.set_cons_succ])
        refine wpAnyH_ready (rs := [11]) (by kernel_rfl) (by simp) ?_
        refine (AllReadyH.cons (by (simp only [List.getElem?_toArray, List.getElem?_cons_zero, List.getElem?_cons_succ]) <;> rfl) (fun K hK => ?_) AllReadyH.nil)
        go_simp
        refine hK.out _ _ trivial (fun hHeld => ?_)
        (try clear hK K)
        (try simp only [Act.put, List.setIfInBounds_toArray, List.set_cons_zero, List.set_cons_succ])
        refine wpAnyH_done (by kernel_rfl) ?_ _
        clear hHeld
        go_wp2
        go_ret
        exact ⟨rfl, hend.out _ _ _ hO3 hs3 hfin⟩
end Nt
end Go.Proofs.Ytlcgdiciiibeeaa
