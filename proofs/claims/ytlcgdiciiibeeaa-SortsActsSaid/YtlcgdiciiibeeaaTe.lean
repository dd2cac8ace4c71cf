/-
  A function with a list of its own.
-/
import Derived.OwnWalk
import Derived.Laws.AppendOwn
import Derived.Test.YtlcgdiciiibeeaaTd
namespace Go.Proofs.Ytlcgdiciiibeeaa
open Go.ChangeShapes Go.RowKit
namespace Nt
set_option maxRecDepth 100000

/-- Block g is a row that may be written. -/
def Bk (g : Nat) (cur : Array Value) (t : TypeId) (w : World) : Prop := w.heap[g]? = some (.cells cur t (0, 0))
section
variable {g : Nat} {cur : Array Value} {t : TypeId} {w w' : World}
theorem Bk.lt (h : Bk g cur t w) : g < w.heap.size := (Array.getElem?_eq_some_iff.1 h).1
theorem Bk.off {T : List Nat} (h : Bk g cur t w) (hf : Off T w w') (hn : g ∉ T) : Bk g cur t w' := (hf.block g h.lt hn).trans h
theorem Bk.next (h : Bk g cur t w) (hb : Below w.heap.size w w') : Bk g cur t w' := (hb.block g h.lt).trans h
theorem Bk.al (h : Bk g cur t w) (o : Obj) : Bk g cur t (w.alloc o) := h.next ((Below.refl _ _).alloc (Nat.le_refl _) o)
theorem Bk.new (cur : Array Value) (t : TypeId) (w : World) : Bk w.heap.size cur t (w.alloc (.cells cur t)) := heap_alloc_new w _
theorem Bk.new1 (cur : Array Value) (t : TypeId) (w : World) (o : Obj) : Bk (w.heap.size + 1) cur t ((w.alloc o).alloc (.cells cur t)) := by
  have := Bk.new cur t (w.alloc o)
  simpa using this
theorem Bk.set (h : Bk g cur t w) {j : Nat} {cur' : Array Value} (v : Value) (e : cur' = cur.setIfInBounds j v) : Bk g cur' t (w.setCell ⟨g, j, none⟩ v) := by
  unfold Bk at h ⊢
  subst e
  have hl := (Array.getElem?_eq_some_iff.1 h).1
  simp [World.setCell, Array.getElem?_modify, h]
theorem Bk.set_far (h : Bk g cur t w) (p : Addr) (v : Value) (hn : g ≠ p.block) : Bk g cur t (w.setCell p v) := by
  have := (Off.refl [p.block] w).setCell p v (.inl (by simp))
  exact h.off this (by simpa using hn)
theorem Bk.cell (h : Bk g cur t w) {j : Nat} {v : Value} (hv : cur[j]? = some v) : w.cell? ⟨g, j, none⟩ = some v := by
  rw [cell_of_row w g j cur t (0, 0) h]; exact hv
theorem Bk.free (h : Bk g cur t w) (j : Nat) : w.frozen? ⟨g, j, none⟩ = false := by
  unfold World.frozen?
  unfold Bk at h
  simp [h]
end

/-- A list of ints behind none: its own row. -/
theorem app_ints (w : World) (ty : TypeId) (B : Option Addr) (d : Nat) (ar : List Int) (T : List Nat) (hi : Ir T w B ar) (hl : ar.length ≤ 1000000) :
    ∃ A c w', (Builtin.append_ #[33, 33] ty #[.slice none 0 0, .slice B ar.length d]).run Try.prog w = .ok (.slice A ar.length c) w' ∧ (∀ S : List Nat, (∀ b ∈ S, b < w.heap.size) → Ir S w' A ar) ∧ Below w.heap.size w w' := by
  obtain ⟨i, hinf, hz, h1, h8⟩ := info_parts (P := Try.prog) (e := 3) (z := .int .i64 0) (size := 1) (bytes := 8) (by kernel_rfl)
  rcases hi with rfl | ⟨b, o, rfl, hb, _, hc⟩
  · refine ⟨none, 0, w, ?_, fun _ _ => .nil, .refl _ _⟩
    cases B <;> simp [Builtin.append_, run_underlying Try.underlying33, sizeOf, typeInfo, hinf, Builtin.lenOf, Builtin.firstCells, loadCells, loadCellsFrom]
  · have hcells : ∀ j u, (ar.map (fun x => Value.int .i64 x))[j]? = some u → w.cell? ((⟨b, o, none⟩ : Addr).add j) = some u := by
      intro j u hu
      rw [List.getElem?_map] at hu
      have hj : j < ar.length := by
        rcases Nat.lt_or_ge j ar.length with h | h
        · exact h
        · rw [List.getElem?_eq_none h] at hu; simp at hu
      rw [List.getElem?_eq_getElem hj] at hu
      simp at hu
      subst hu
      have := hc j hj
      have e : ar.getD j 0 = ar[j] := by simp [List.getD, List.getElem?_eq_getElem hj]
      rw [e] at this
      unfold Addr.add
      split
      · rename_i h0; subst h0; simpa using this
      · exact this
    obtain ⟨v', w', hr, h2, h3, h4⟩ := run_append_own (P := Try.prog) w w.heap.size 33 ty 3 i (.int .i64 0) 1 8 Try.underlying33 hinf hz h1 h8 rfl (by decide) (.slice none 0 0) 0 [] (World.ownsRow_nil _ _ _ _) ⟨b, o, none⟩ ar.length d (ar.map (fun x => Value.int .i64 x)) (by simp) hcells
      (by intro u hu; simp only [List.mem_map] at hu; obtain ⟨x, _, rfl⟩ := hu; rfl) (by unfold maxLen; omega) (by omega) (Nat.le_refl _)
    have hbl : Below w.heap.size w w' := (Off.of_grown (T := []) h3 (by simp [Value.ownBlock])).below (Nat.le_refl _) (by simp)
    rw [Nat.zero_add] at h2
    rcases h2.2 with ⟨rfl, h0⟩ | ⟨g, cap, cur, rfl, hg, hcur, _, _, _, htk⟩
    · have : ar = [] := List.eq_nil_of_length_eq_zero h0
      subst this
      exact ⟨none, 0, w', hr, fun _ _ => .nil, hbl⟩
    · refine ⟨_, cap, w', hr, fun S hS => .inr ⟨g, 0, rfl, (Array.getElem?_eq_some_iff.1 hcur).1, fun hm => Nat.not_lt.2 hg (hS g hm), fun j hj => ?_⟩, hbl⟩
      rw [Nat.zero_add]
      have hBk : Bk g cur 3 w' := hcur
      refine hBk.cell ?_
      have e1 : cur.toList[j]? = (cur.toList.take (ar.length * 1))[j]? := by rw [List.getElem?_take]; simp [hj]
      rw [htk, List.nil_append, List.getElem?_map, List.getElem?_eq_getElem hj] at e1
      rw [← Array.getElem?_toList, e1]
      simp [List.getD, List.getElem?_eq_getElem hj]

/-- An append whose run is known, at the operation. -/
theorem wpList_append_run {P : Program} (w : World) {ops : Array Oper} {rest : List Oper} {o : Oper} {a : Act} {Q : Exit → Act → World → Prop} (hg : o.guard = none) (s x : Operand) (t : TypeId)
    (ho : o.op = .call { callee := .builtin .append, args := #[s, x], argTypes := #[t, t] }) (u v r : Value) (w' : World) (hs : a.eval s = u) (hx : a.eval x = v)
    (hrun : ∀ ty, (Builtin.append_ #[t, t] ty #[u, v]).run P w = .ok r w') (hK : wpList P ops Q rest (a.put o.dst r) w') : wpList P ops Q (o :: rest) a w := by
  refine wpList_plain hg fun K' hK' => ?_
  unfold Oper.wp execOp
  simp only [ho, resolve, invoke, builtin, Sem.run_bind, Sem.run_pure, Result.andThen_ok, List.map_toArray, List.map_cons, List.map_nil, hs, hx, hrun]
  exact hK' _ _ hK

/-- What a function reads as. -/
def fv (nm : ByteArray) (A : Option Addr) (n c : Nat) (rs : Int) : Value := .agg #[.string nm, .slice A n c, .int .i64 rs]

set_option maxHeartbeats 1000000 in
theorem own_any (nm : ByteArray) (B : Option Addr) (ar : List Int) (d : Nat) (rs : Int) (T : List Nat) (w : World) (hi : Ir T w B ar) (hl : ar.length ≤ 1000000) :
    Calls Try.prog 38 #[.agg #[.string nm, .slice B ar.length d, .int .i64 rs]] w fun e w' => ∃ A c, e = .returned (.agg #[.string nm, .slice A ar.length c, .int .i64 rs]) ∧ (∀ S : List Nat, (∀ b ∈ S, b < w.heap.size) → Ir S w' A ar) ∧ Below w.heap.size w w' := by
  obtain ⟨W, hW⟩ : ∃ W, W = (w.alloc (.cells #[.string nm, .slice B ar.length d, .int .i64 rs] 35)).alloc (.cells #[.string ⟨#[]⟩, .slice none 0 0, .int .i64 0] 35) := ⟨_, rfl⟩
  have hiW : Ir [] W B ar := by rw [hW]; exact (hi.al _).al _
  have hsz : W.heap.size = w.heap.size + 1 + 1 := by rw [hW]; simp
  have X1 : Bk w.heap.size #[.string nm, .slice B ar.length d, .int .i64 rs] 35 W := by rw [hW]; exact (Bk.new _ _ w).al _
  have X2 : Bk (w.heap.size + 1) #[.string ⟨#[]⟩, .slice none 0 0, .int .i64 0] 35 W := by rw [hW]; exact Bk.new1 _ _ w _
  have hbW : Below w.heap.size w W := by rw [hW]; exact ((Below.refl _ _).alloc (Nat.le_refl _) _).alloc (by simp) _
  obtain ⟨A, c, w1, hrun, hI, hb⟩ : ∃ A c w1, (∀ ty, (Builtin.append_ #[33, 33] ty #[.slice none 0 0, .slice B ar.length d]).run Try.prog W = .ok (.slice A ar.length c) w1) ∧ (∀ S : List Nat, (∀ b ∈ S, b < W.heap.size) → Ir S w1 A ar) ∧ Below W.heap.size W w1 := by
    obtain ⟨A, c, w1, h1, h2, h3⟩ := app_ints W 33 B d ar [] hiW hl
    exact ⟨A, c, w1, fun ty => h1, h2, h3⟩
  have Y1 := X1.next hb
  have Y2 := X2.next hb
  have a0 : w1.cell? ⟨w.heap.size, 0, none⟩ = some (.string nm) := Y1.cell rfl
  have a1 : w1.cell? ⟨w.heap.size, 1, none⟩ = some (.slice B ar.length d) := Y1.cell rfl
  have a2 : w1.cell? ⟨w.heap.size, 2, none⟩ = some (.int .i64 rs) := Y1.cell rfl
  have f1 := Y1.free 1
  have b0 : w1.cell? ⟨w.heap.size + 1, 0, none⟩ = some (.string ⟨#[]⟩) := Y2.cell rfl
  have b1 : w1.cell? ⟨w.heap.size + 1, 1, none⟩ = some (.slice none 0 0) := Y2.cell rfl
  have b2 : w1.cell? ⟨w.heap.size + 1, 2, none⟩ = some (.int .i64 0) := Y2.cell rfl
  have g0 := Y2.free 0
  have g1 := Y2.free 1
  have g2 := Y2.free 2
  rw [hW] at hrun
  have hI := hide hI
  have hb1 := hide (hbW.trans (hb.mono (by omega)))
  have hsz1 : w.heap.size + 1 + 1 ≤ w1.heap.size := by rw [← hsz]; exact hb.size
  have hsz1 := hide hsz1
  have hI2 : ∀ S : List Nat, (∀ b ∈ S, b < w.heap.size) → Ir ([w.heap.size, w.heap.size + 1] ++ S) w1 A ar := by
    intro S hS
    refine hI.out _ fun b hb => ?_
    rcases List.mem_append.1 hb with h | h
    · simp at h; omega
    · have := hS b h; omega
  have hI2 := hide hI2
  have Y2 := hide Y2
  clear X1 X2 Y1 hi hiW hb hbW hsz hW hI
  generalize ar.length = n at *
  go_enter Try.func38, Try.ntmps38
  go_wp2_with (at_builtin; refine wpList_append_run _ rfl _ _ _ rfl _ _ _ _ rfl rfl hrun ?_)
  obtain ⟨F, hF⟩ : ∃ F, F = ((((w1.setCell ⟨w.heap.size, 1, none⟩ (.slice A n c)).setCell ⟨w.heap.size + 1, 0, none⟩ (.string nm)).setCell ⟨w.heap.size + 1, 1, none⟩ (.slice A n c)).setCell ⟨w.heap.size + 1, 2, none⟩ (.int .i64 rs)) := ⟨_, rfl⟩
  rw [← hF]
  have hY : Bk (w.heap.size + 1) #[.string nm, .slice A n c, .int .i64 rs] 35 F := by
    rw [hF]
    exact (((Y2.out.set_far _ _ (by simp)).set _ rfl).set _ rfl).set _ rfl
  have hO : Off [w.heap.size, w.heap.size + 1] w1 F := by
    rw [hF]
    exact ((((Off.refl _ _).setCell _ _ (.inl (by simp))).setCell _ _ (.inl (by simp))).setCell _ _ (.inl (by simp))).setCell _ _ (.inl (by simp))
  have c0 : F.cell? ⟨w.heap.size + 1, 0, none⟩ = some (.string nm) := hY.cell rfl
  have c1 : F.cell? ⟨w.heap.size + 1, 1, none⟩ = some (.slice A n c) := hY.cell rfl
  have c2 : F.cell? ⟨w.heap.size + 1, 2, none⟩ = some (.int .i64 rs) := hY.cell rfl
  refine bodyPost_ret (v := .agg #[.string nm, .slice A n c, .int .i64 rs]) (by simp [results, Try.results38, go_sem, c0, c1, c2]) rfl ⟨A, c, rfl, fun S hS => ?_, ?_⟩
  · exact (hI2.out S hS).off hO (fun b hb => .inl (List.mem_append_left _ hb)) (fun b hb => .inl (List.mem_append_right _ hb))
  · exact hb1.out.trans (hO.below (by have := hsz1.out; omega) (by intro b hb; simp at hb; omega))
end Nt
end Go.Proofs.Ytlcgdiciiibeeaa
