/-
  The law SortsLevels: the mathematics; a row of ints of the law's own.
-/
import Derived.Test.YtlcgdiciiibeeaaSc
namespace Go.Proofs.Ytlcgdiciiibeeaa
open Go.ChangeShapes Go.RowKit
namespace Nt
set_option maxRecDepth 100000
set_option linter.unusedSimpArgs false
set_option linter.unusedVariables false

/-- How many of such levels stay. -/
def kN (lv : Nat) (ds : List Nat) : Nat := (ds.reverse.dropWhile (fun l => decide (lv < l))).length
theorem kN_snoc_gt {lv l : Nat} (ds : List Nat) (h : lv < l) : kN lv (ds ++ [l]) = kN lv ds := by
  unfold kN; simp [h]
theorem kN_snoc_le {lv l : Nat} (ds : List Nat) (h : l ≤ lv) : kN lv (ds ++ [l]) = ds.length + 1 := by
  unfold kN
  have : ¬ lv < l := by omega
  simp [this]
theorem kN_all {lv : Nat} {ds : List Nat} (h : ∀ l ∈ ds, l ≤ lv) : kN lv ds = ds.length := by
  rcases List.eq_nil_or_concat ds with rfl | ⟨r, a, e⟩
  · rfl
  · have e2 : ds = r ++ [a] := by simpa using e
    subst e2
    rw [kN_snoc_le _ (h a (by simp))]
    simp
theorem kN_le (lv : Nat) (ds : List Nat) : kN lv ds ≤ ds.length := by
  unfold kN
  have := (List.dropWhile_suffix (fun l => decide (lv < l)) (l := ds.reverse)).length_le
  simpa using this
theorem keepL_kN (lv : Nat) (es : List (ByteArray × Nat)) : keepL lv es = es.take (kN lv (es.map Prod.snd)) := by
  have h : (keepL lv es).length = kN lv (es.map Prod.snd) := by
    unfold keepL kN
    rw [List.length_reverse, ← List.map_reverse, List.dropWhile_map, List.length_map]
    rfl
  rw [← h]
  exact keepL_take lv es

def sN (j : Nat) : ByteArray := ⟨#[83, UInt8.ofNat (97 + j)]⟩
def fN (j : Nat) : ByteArray := ⟨#[102, UInt8.ofNat (97 + j)]⟩
def soD (ds : List Nat) : List (ByteArray × Nat) := ds.mapIdx fun j l => (sN j, l)
def fuD (ds : List Nat) : List (ByteArray × Nat) := ds.mapIdx fun j l => (fN j, l)
def tyD (ds : List Nat) : List Fn := ds.mapIdx fun j _ => ⟨fN j, [(j : Int) + 2], (j : Int) + 2⟩
theorem soD_snoc (ds : List Nat) (l : Nat) : soD (ds ++ [l]) = soD ds ++ [(sN ds.length, l)] := by simp [soD, List.mapIdx_concat]
theorem fuD_snoc (ds : List Nat) (l : Nat) : fuD (ds ++ [l]) = fuD ds ++ [(fN ds.length, l)] := by simp [fuD, List.mapIdx_concat]
theorem tyD_snoc (ds : List Nat) (l : Nat) : tyD (ds ++ [l]) = tyD ds ++ [⟨fN ds.length, [(ds.length : Int) + 2], (ds.length : Int) + 2⟩] := by simp [tyD, List.mapIdx_concat]
theorem soD_len (ds : List Nat) : (soD ds).length = ds.length := by simp [soD]
theorem fuD_len (ds : List Nat) : (fuD ds).length = ds.length := by simp [fuD]
theorem tyD_len (ds : List Nat) : (tyD ds).length = ds.length := by simp [tyD]
theorem soD_snd (ds : List Nat) : (soD ds).map Prod.snd = ds := by
  apply List.ext_getElem <;> simp [soD]
theorem fuD_snd (ds : List Nat) : (fuD ds).map Prod.snd = ds := by
  apply List.ext_getElem <;> simp [fuD]
theorem soD_fst (ds : List Nat) (m : Nat) (hm : m ≤ ds.length) : ((soD ds).take m).map Prod.fst = (List.range m).map sN := by
  apply List.ext_getElem
  · simp [soD]; omega
  · intro i h1 h2
    simp [soD]
theorem fuD_fst (ds : List Nat) (m : Nat) (hm : m ≤ ds.length) : ((fuD ds).take m).map Prod.fst = (List.range m).map fN := by
  apply List.ext_getElem
  · simp [fuD]; omega
  · intro i h1 h2
    simp [fuD]
theorem tyD_nm (ds : List Nat) (m i : Nat) (h : i < ((tyD ds).take m).length) : ((tyD ds).take m)[i].nm = fN i := by
  simp [tyD]

theorem sN_eq : ∀ a, a < 32 → ∀ b, b < 32 → ((sN a).data.toList == (sN b).data.toList) = (a == b) := by decide +kernel
theorem fN_eq : ∀ a, a < 32 → ∀ b, b < 32 → ((fN a).data.toList == (fN b).data.toList) = (a == b) := by decide +kernel
theorem sN_ok : ∀ a, a < 32 → nameB (sN a) = true := by decide +kernel
theorem fN_ok : ∀ a, a < 32 → nameB (fN a) = true := by decide +kernel
theorem sN_bool : ∀ a, a < 32 → (sN a).data.toList ≠ lBool ∧ (sN a).data.toList ≠ lReal ∧ (sN a).data.toList ≠ [110, 101, 119] := by decide +kernel
theorem has_names {es : List (ByteArray × Nat)} {N : Nat → ByteArray} {m : Nat} (he : es.map Prod.fst = (List.range m).map N) (hN : ∀ a, a < 32 → ∀ b, b < 32 → ((N a).data.toList == (N b).data.toList) = (a == b)) (hm : m ≤ 32) {i : Nat} (hi : i < 32) :
    hasB es (N i) = decide (i < m) := by
  have h1 : hasB es (N i) = (es.map Prod.fst).any (fun x => x.data.toList == (N i).data.toList) := by
    unfold hasB; rw [List.any_map]; rfl
  rw [h1, he, List.any_map, Bool.eq_iff_iff, List.any_eq_true, decide_eq_true_eq]
  constructor
  · rintro ⟨j, hj, hx⟩
    rw [List.mem_range] at hj
    simp only [Function.comp] at hx
    rw [hN j (by omega) i hi] at hx
    have := eq_of_beq hx
    omega
  · intro h
    exact ⟨i, List.mem_range.2 h, by simp only [Function.comp]; rw [hN i hi i hi]; simp⟩
theorem ix_names {es : List (ByteArray × Nat)} {N : Nat → ByteArray} {m : Nat} (he : es.map Prod.fst = (List.range m).map N) (hN : ∀ a, a < 32 → ∀ b, b < 32 → ((N a).data.toList == (N b).data.toList) = (a == b)) (hm : m ≤ 32) {i : Nat} (hi : i < m) :
    ixB es (N i) = i := by
  have hh : hasB es (N i) = true := by rw [has_names he hN hm (by omega)]; exact decide_eq_true hi
  have hl := ixB_lt hh
  have hg := ixB_get hh
  have hlen : es.length = m := by simpa using congrArg List.length he
  have e : es[ixB es (N i)].1 = N (ixB es (N i)) := by
    have := congrArg (fun l => l[ixB es (N i)]?) he
    simp only [List.getElem?_map, List.getElem?_eq_getElem hl, Option.map_some] at this
    rw [List.getElem?_eq_getElem (by simp; omega)] at this
    simpa using this
  rw [e] at hg
  have := hN (ixB es (N i)) (by omega) i (by omega)
  rw [hg] at this
  simpa using this
theorem has_new {es : List (ByteArray × Nat)} {m : Nat} (he : es.map Prod.fst = (List.range m).map sN) (hm : m ≤ 32) : hasB es ⟨#[110, 101, 119]⟩ = false := by
  have h1 : hasB es ⟨#[110, 101, 119]⟩ = (es.map Prod.fst).any (fun x => x.data.toList == [110, 101, 119]) := by
    unfold hasB; rw [List.any_map]; rfl
  rw [h1, he, List.any_map, List.any_eq_false]
  intro j hj
  rw [List.mem_range] at hj
  have := (sN_bool j (by omega)).2.2
  simpa using this

/-- A row of ints of the law's own. -/
def Iw (B : Nat) (w : World) (v : Value) (xs : List Nat) : Prop := w.ownsRow B 3 1 v xs.length (xs.map fun x : Nat => Value.int .i64 (x : Int))
theorem Iw.nil (B : Nat) (w : World) : Iw B w (.slice none 0 0) [] := World.ownsRow_nil _ _ _ _
theorem Iw.keep {B : Nat} {w w' : World} {v : Value} {xs : List Nat} (h : Iw B w v xs) (hs : Same v.ownBlock.toList w w') : Iw B w' v xs := by
  refine ⟨h.1, h.2.imp id ?_⟩
  rintro ⟨g, cap, cur, rfl, h3, h4, h5⟩
  exact ⟨g, cap, cur, rfl, h3, (hs g (by simp [Value.ownBlock])).trans h4, h5⟩
theorem Iw.form {B : Nat} {w : World} {v : Value} {xs : List Nat} (h : Iw B w v xs) : ∃ A c, v = .slice A xs.length c := by
  rcases h.2 with ⟨e, h⟩ | ⟨g, cap, cu, e, _⟩
  · exact ⟨none, 0, by rw [e, h]⟩
  · exact ⟨_, _, e⟩
theorem Iw.get {B : Nat} {w : World} {A : Option Addr} {c : Nat} {xs : List Nat} (h : Iw B w (.slice A xs.length c) xs) (i : Nat) (hi : i < xs.length) : ∃ g, A = some ⟨g, 0, none⟩ ∧ w.cell? ⟨g, i, none⟩ = some (.int .i64 (xs[i] : Int)) := by
  rcases h.2 with ⟨e, h0⟩ | ⟨g, cap, cu, e, _⟩
  · omega
  · cases e
    refine ⟨g, rfl, ?_⟩
    have := h.cells (g := g) rfl i (.int .i64 (xs[i] : Int)) (by rw [List.getElem?_map, List.getElem?_eq_getElem hi]; rfl)
    rwa [Addr.add_lit, Nat.zero_add] at this
theorem Iw.push {B : Nat} {w : World} {v : Value} {xs : List Nat} (h : Iw B w v xs) (hB : B ≤ w.heap.size) (x : Nat) (hl : xs.length ≤ 1000) :
    ∃ A' c' w', (∀ ty, (Builtin.append_ #[33, 33] ty #[v, .slice (some ⟨w.heap.size, 0, none⟩) 1 1]).run Try.prog (w.alloc (.cells #[.int .i64 (x : Int)] 3)) = .ok (.slice A' (xs.length + 1) c') w') ∧ Iw B w' (.slice A' (xs.length + 1) c') (xs ++ [x]) ∧
      Off v.ownBlock.toList w w' ∧ ∀ b ∈ (Value.slice A' (xs.length + 1) c').ownBlock.toList, b ∈ v.ownBlock.toList ∨ w.heap.size ≤ b := by
  obtain ⟨i, hinf, hz, h1, h8⟩ := info_parts (P := Try.prog) (e := 3) (z := .int .i64 0) (size := 1) (bytes := 8) (by kernel_rfl)
  have hb : Bk w.heap.size #[.int .i64 (x : Int)] 3 (w.alloc (.cells #[.int .i64 (x : Int)] 3)) := Bk.new _ _ _
  have hcells : ∀ j u, ([.int .i64 (x : Int)] : List Value)[j]? = some u → (w.alloc (.cells #[.int .i64 (x : Int)] 3)).cell? ((⟨w.heap.size, 0, none⟩ : Addr).add j) = some u := by
    intro j u hu
    rw [Addr.add_lit, Nat.zero_add]
    refine hb.cell ?_
    rw [← Array.getElem?_toList]
    exact hu
  obtain ⟨v', w', hr, h2, h3, h4, h5⟩ := run_append_own_at (P := Try.prog) (w.alloc (.cells #[.int .i64 (x : Int)] 3)) 0 33 0 3 i (.int .i64 0) 1 8 Try.underlying33 hinf hz h1 h8 rfl (by decide) v xs.length _ ((row_zero h).alloc _) ⟨w.heap.size, 0, none⟩ 1 1 [.int .i64 (x : Int)] (by simp) hcells
    (by intro u hu; simp at hu; subst hu; rfl) (by unfold maxLen; omega) (by omega) (Nat.zero_le _)
  have hloc : ∀ b, v'.ownBlock = some b → v.ownBlock = some b ∨ w.heap.size ≤ b := by
    intro b hb
    rcases h5 with h5 | h5
    · exact .inl (h5 ▸ hb)
    · rw [h5] at hb
      have : (w.alloc (.cells #[.int .i64 (x : Int)] 3)).heap.size = w.heap.size + 1 := by simp
      injection hb with hb
      exact .inr (by omega)
  have hform : ∃ A' c', v' = .slice A' (xs.length + 1) c' := by
    rcases h2.2 with ⟨_, h⟩ | ⟨g, cap, cu, e, _⟩
    · omega
    · exact ⟨_, _, e⟩
  obtain ⟨A', c', rfl⟩ := hform
  refine ⟨A', c', w', fun ty => hr, ?_, ?_, ?_⟩
  · have hrow : w'.ownsRow 0 3 1 (.slice A' (xs.length + 1) c') (xs ++ [x]).length ((xs ++ [x]).map fun x : Nat => Value.int .i64 (x : Int)) := by
      simpa using h2
    exact row_rebase hrow (fun k hk => (hloc k hk).elim (fun h' => row_base h h') (fun h' => Nat.le_trans hB h'))
  · exact ((Off.refl _ _).alloc _).trans (Off.of_grown (T := v.ownBlock.toList) h3 (fun k hk => .inl (by simp [hk]))) (fun b hb => .inl hb)
  · intro b hb
    rw [Option.mem_toList] at hb ⊢
    exact hloc b hb

/-- Another X, where blocks of the old one are written. -/
theorem Tw.offY {X Y S : List Nat} {B : Nat} {w0 w w' : World} {p N lv : Nat} {so fu : List (ByteArray × Nat)} {ty : List Fn} (h : Tw X B w0 w p N lv so fu ty) (hO : Off S w w') (hS : ∀ b ∈ S, b ∈ X ∧ B ≤ b) (hY : ∀ b ∈ Y, (b ∈ X ∨ w.heap.size ≤ b) ∧ b < w'.heap.size) : Tw Y B w0 w' p N lv so fu ty := by
  obtain ⟨T, ⟨⟨v1, m1, v2, m2, v3, h1⟩, hn⟩, h2, h3, h4⟩ := h
  have hd : ∀ b ∈ T, b ∉ S := fun b hb hm => (h1.xs b (hS b hm).1).2 hb
  have hT := h1.eT
  obtain ⟨xs, hx, hF⟩ := h1.tS
  have s0 : p ∈ T := by rw [hT]; simp
  have s1 : ∀ k ∈ bks v1 m1, k ∈ T := fun k hk => by rw [hT]; exact List.mem_cons_of_mem _ (List.mem_append_left _ hk)
  have s2 : ∀ k ∈ bks v2 m2, k ∈ T := fun k hk => by rw [hT]; exact List.mem_cons_of_mem _ (List.mem_append_right _ (List.mem_append_left _ hk))
  have s3 : ∀ k, v3.ownBlock = some k → k ∈ T := fun k hk => by rw [hT]; exact List.mem_cons_of_mem _ (List.mem_append_right _ (List.mem_append_right _ (by rw [Option.mem_toList]; exact hk)))
  refine ⟨T, ⟨⟨v1, m1, v2, m2, v3, h1.bk.off hO (hd _ s0), h1.sS.off hO (fun k hk => hd k (s1 k hk)) (Nat.le_refl _), h1.fS.off hO (fun k hk => hd k (s2 k hk)) (Nat.le_refl _), ⟨xs, Off.row hx hO (fun k hk => hd k (s3 k hk)), Fs.off hO (fun b hb => .inl (List.mem_append_right _ (hS b hb).1)) (fun b hb => ?_) hF⟩, h1.eT, h1.once, fun b hb => ⟨(hY b hb).2, fun hm => ?_⟩⟩, hn⟩, h2, h3.trans (hO.below h4 (fun b hb => (hS b hb).2)), Nat.le_trans h4 hO.size⟩
  · rcases List.mem_append.1 hb with hb | hb
    · exact .inl (List.mem_append_left _ hb)
    · exact (hY b hb).1.imp (List.mem_append_right _) id
  · rcases (hY b hb).1 with hx | hx
    · exact (h1.xs b hx).2 hm
    · exact Nat.not_lt.2 hx (h1.lt b hm)
end Nt
end Go.Proofs.Ytlcgdiciiibeeaa
