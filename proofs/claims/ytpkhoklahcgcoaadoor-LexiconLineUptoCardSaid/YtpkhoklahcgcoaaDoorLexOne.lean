/-
  How an argument that is one lexeme is opened, where its bulk is bounded; a slice of one lexeme; how long a line is. Conditions: as each theorem says.
-/
import Derived.Test.YtpkhoklahcgcoaaDoorLexFrame
import Derived.Test.YtpkhoklahcgcoaaDoorLexRefLine
import Derived.Test.YtpkhoklahcgcoaaDoorFtAll
import Derived.Test.YtpkhoklahcgcoaaDoorLexFind
namespace Go.Proofs.YtpkhoklahcgcoaaDoor
open Go.ChangeShapes Go.WideShapes Go.ChangeAt Go.RowKit Go.Deep
open FeatPlain

theorem text_small : ∀ {l : List Ft}, (∀ f ∈ l, f.1.size ≤ 1048576 ∧ f.2.size ≤ 1048576) → (text l).length ≤ l.length * 2097154
  | [], _ => by simp [text]
  | [f], h => by
    have := h f (by simp)
    have q1 : f.1.data.size = f.1.size := rfl
    have q2 : f.2.data.size = f.2.size := rfl
    simp [text, one] at this ⊢
    omega
  | f :: g :: l, h => by
    have h1 := h f (by simp)
    have h2 := text_small (l := g :: l) (fun x hx => h x (by simp [hx]))
    have q1 : f.1.data.size = f.1.size := rfl
    have q2 : f.2.data.size = f.2.size := rfl
    simp [text, one] at h1 h2 ⊢
    omega

theorem feats_small {H : Type} {enc : TypeId × Value → H} {W : World} {a : Option Addr} {len cap : Nat} {d : DataW H} {p : List MemPlace}
    (h : DataW.Trod enc Tryd.prog W 0 (fun _ => true) true 22 (.slice a len cap) d p) {R : Nat} (hR : R ≤ reachBytes) (hs : ∀ el sp, d = .slice el sp → (el.length + sp.length) * 32 ≤ R) {M : Nat} (hM : Rows.uptoBulk d ≤ M) :
    ∃ fs, Sl W a len cap fs ∧ Sized fs ∧ (∀ f ∈ fs, f.1.size ≤ M ∧ f.2.size ≤ M) ∧ cap * 32 ≤ R := by
  obtain ⟨fuel, hf⟩ := h
  rcases open_slice_pairs Tryd.underlying22 Tryd.underlying37 (by kernel_rfl) rfl rfl (by kernel_rfl) (by kernel_rfl) hf with ⟨hcs, hx⟩ | ⟨x, l, c, m, n, V0, V1, D0, D1, P0, P1, hcs, _, hl, hm, hmm, hx, hcell⟩
  · simp [Value.cells] at hcs
    obtain ⟨rfl, rfl, rfl⟩ := hcs
    exact ⟨[], Sl.nil (by omega) (fun _ => rfl), (fun f h => by cases h), (fun f h => by cases h), by omega⟩
  · simp [Value.cells] at hcs
    obtain ⟨rfl, rfl, rfl⟩ := hcs
    simp only [if_true] at hmm
    obtain rfl : m = cap := hmm
    simp only [Prod.mk.injEq] at hx
    have hb := hs _ _ hx.1
    simp only [List.length_map, List.length_range] at hb
    have hcap : m * 32 ≤ R := by rwa [show len + (m - len) = m from by omega] at hb
    have hstr : ∀ i, i < len → ∃ s t, V0 i = .string s ∧ V1 i = .string t ∧ s.size ≤ maxLen ∧ t.size ≤ maxLen ∧ s.size ≤ M ∧ t.size ≤ M := by
      intro i hi
      obtain ⟨_, _, h0, h1⟩ := hcell i (by omega)
      obtain ⟨s, e0, f0, z0⟩ := DataW.trod_string Tryd.underlying9 h0
      obtain ⟨t, e1, f1, z1⟩ := DataW.trod_string Tryd.underlying9 h1
      simp at e0 e1
      have hmem : DataW.agg [D0 i, D1 i] ∈ (List.range len).map fun i => DataW.agg [D0 i, D1 i] := List.mem_map.2 ⟨i, List.mem_range.2 hi, rfl⟩
      have hb1 := bulks.part_le hmem
      rw [hx.1] at hM
      simp only [Prod.mk.injEq] at f0 f1
      rw [f0.1, f1.1] at hb1
      simp only [Rows.uptoBulk, Rows.uptoBulkAll, Array.length_toList] at hb1 hM
      have q0 : s.data.size = s.size := rfl
      have q1 : t.data.size = t.size := rfl
      exact ⟨s, t, e0, e1, z0, z1, by omega, by omega⟩
    refine ⟨(List.range len).map fun i => (toStr (V0 i), toStr (V1 i)), ⟨by simp, hl, by unfold reachBytes at hR; omega, by unfold reachBytes at hR; omega, fun e => (by cases e), ?_⟩, ?_, ?_, hcap⟩
    · intro i f hi
      have hlt : i < len := by have := (List.getElem?_eq_some_iff.1 hi).1; simpa using this
      simp [hlt] at hi
      subst hi
      obtain ⟨c0, c1, _, _⟩ := hcell i (by omega)
      obtain ⟨s, t, e0, e1, _, _, _, _⟩ := hstr i hlt
      obtain ⟨b, off, spot⟩ := x
      obtain ⟨k0, _, _, _⟩ := hcell 0 (by omega)
      have hspot : spot = none := by simpa [Addr.add] using World.cell?_spot k0
      subst hspot
      rw [Addr.add_lit] at c0 c1
      refine ⟨b, off, rfl, ?_, ?_⟩
      · rw [c0, e0]; rfl
      · rw [Nat.add_assoc, c1, e1]; rfl
    · intro f hf
      simp only [List.mem_map, List.mem_range] at hf
      obtain ⟨i, hi, rfl⟩ := hf
      obtain ⟨s, t, e0, e1, z0, z1, _, _⟩ := hstr i hi
      rw [e0, e1]
      exact ⟨z0, z1⟩
    · intro f hf
      simp only [List.mem_map, List.mem_range] at hf
      obtain ⟨i, hi, rfl⟩ := hf
      obtain ⟨s, t, e0, e1, _, _, z0, z1⟩ := hstr i hi
      rw [e0, e1]
      exact ⟨z0, z1⟩

theorem five_val {H : Type} {enc : TypeId × Value → H} {P : Program} {w : World} {base : Nat} {spare : Nat → Bool} {held : Bool} {e : TypeId} {f0 f1 f2 f3 f4 : Field} {n : Nat} {v0 v1 v2 v3 v4 : Value} {D : DataW H} {Pl : List MemPlace}
    (he : P.underlying e = some (.struct #[f0, f1, f2, f3, f4])) (o0 : f0.offset = 0) (o1 : f1.offset = 1) (o2 : f2.offset = 2) (o3 : f3.offset = 3) (o4 : f4.offset = 4)
    (c0 : P.cellsOf f0.type = 1) (c1 : P.cellsOf f1.type = 1) (c2 : P.cellsOf f2.type = 1) (c3 : P.cellsOf f3.type = 1) (c4 : P.cellsOf f4.type = 1)
    (h2 : DataW.trod enc P w base spare held n e [v0, v1, v2, v3, v4] = some (D, Pl)) :
    ∃ y0 y1 y2 y3 y4, DataW.trod enc P w base spare held (n - 1) f0.type [v0] = some y0 ∧ DataW.trod enc P w base spare held (n - 1) f1.type [v1] = some y1 ∧ DataW.trod enc P w base spare held (n - 1) f2.type [v2] = some y2 ∧ DataW.trod enc P w base spare held (n - 1) f3.type [v3] = some y3 ∧ DataW.trod enc P w base spare held (n - 1) f4.type [v4] = some y4 ∧
      D = .agg [y0.1, y1.1, y2.1, y3.1, y4.1] := by
  obtain ⟨xs, k, hk, hxy, _, hxl, hf⟩ := DataW.trod_struct he h2
  have hk' : k = n - 1 := by omega
  subst hk'
  match xs, hxl with
  | [y0, y1, y2, y3, y4], _ =>
    have g0 := hf 0 f0 rfl
    have g1 := hf 1 f1 rfl
    have g2 := hf 2 f2 rfl
    have g3 := hf 3 f3 rfl
    have g4 := hf 4 f4 rfl
    simp [o0, o1, o2, o3, o4, c0, c1, c2, c3, c4] at g0 g1 g2 g3 g4
    simp only [Prod.mk.injEq] at hxy
    exact ⟨y0, y1, y2, y3, y4, g0, g1, g2, g3, g4, by simpa using hxy.1⟩

/-- What an argument that is one lexeme keeps to. -/
structure Lok1 (w : World) (x : Lx) : Prop where
  lw : Lw w x
  fn : x.fn * 32 ≤ 140737488355328
  sz : Sized x.fs
  small : ∀ f ∈ x.fs, f.1.size ≤ 1048576 ∧ f.2.size ≤ 1048576

theorem lex1_of {H : Type} {enc : TypeId × Value → H} {W : World} {v : Value} {d : DataW H} {p : List MemPlace} (hv : ∃ cs, v = .agg cs ∧ cs.size = Tryd.prog.cellsOf 24)
    (h : DataW.Trod enc Tryd.prog W 0 (fun _ => true) true 24 v d p) (hw : ∀ x ∈ d.weights Tryd.prog 24, x ≤ reachBytes) (hM : Rows.uptoBulk d ≤ 1048576) :
    ∃ x : Lx, v = .agg #[.string x.id, .string x.cat, .string x.stem, .string x.par, .slice x.fa x.fn x.fc] ∧ Lok1 W x := by
  obtain ⟨cs, rfl, hcs⟩ := hv
  have h5 : cs.size = 5 := hcs.trans (by kernel_rfl)
  obtain ⟨l⟩ := cs
  match l, h5 with
  | [v0, v1, v2, v3, v4], _ =>
    obtain ⟨fuel, hf⟩ := h
    obtain ⟨y0, y1, y2, y3, y4, t0, t1, t2, t3, t4, hD⟩ := five_val (v0 := v0) (v1 := v1) (v2 := v2) (v3 := v3) (v4 := v4) Tryd.underlying24 rfl rfl rfl rfl rfl (by kernel_rfl) (by kernel_rfl) (by kernel_rfl) (by kernel_rfl) (by kernel_rfl) hf
    obtain ⟨s0, e0, _, z0⟩ := DataW.trod_string Tryd.underlying9 t0
    obtain ⟨s1, e1, _, z1⟩ := DataW.trod_string Tryd.underlying9 t1
    obtain ⟨s2, e2, _, z2⟩ := DataW.trod_string Tryd.underlying9 t2
    obtain ⟨s3, e3, _, z3⟩ := DataW.trod_string Tryd.underlying9 t3
    simp at e0 e1 e2 e3
    subst e0 e1 e2 e3
    have hwi : ∀ x ∈ y4.1.weights Tryd.prog 22, x ≤ reachBytes := fun x hxx => hw x (by
      rw [hD]
      simp only [DataW.weights, Tryd.underlying24]
      simp [DataW.weightsEach, hxx])
    have hM4 : Rows.uptoBulk y4.1 ≤ 1048576 := by
      have := bulks.part_le (d := y4.1) (l := [y0.1, y1.1, y2.1, y3.1, y4.1]) (by simp)
      rw [hD] at hM
      simp only [Rows.uptoBulk] at hM
      omega
    have key : ∃ a' l' c', v4 = .slice a' l' c' := by
      rcases open_slice Tryd.underlying22 t4 with ⟨e, _⟩ | ⟨x', l', c', _, _, _, _, e, _⟩
      · exact ⟨_, _, _, (List.cons.inj e).1⟩
      · exact ⟨_, _, _, (List.cons.inj e).1⟩
    obtain ⟨a', l', c', hV⟩ := key
    subst hV
    obtain ⟨fs, s4, sz, sm, b4⟩ := feats_small (W := W) (a := a') (len := l') (cap := c') (d := y4.1) (p := y4.2) ⟨fuel - 1, t4⟩ (Nat.le_refl _) (fun el sp e => by
      have := hwi ((el.length + sp.length) * Tryd.prog.bytesOf 37) (by rw [e]; simp [DataW.weights, Tryd.underlying22])
      rwa [bytesFt] at this) hM4
    exact ⟨⟨s0, s1, s2, s3, a', l', c', fs⟩, rfl, ⟨s4, z0, z1, z2, z3⟩, by have := s4.le; unfold reachBytes at b4; show l' * 32 ≤ _; omega, sz, sm⟩

theorem one_ls {w : World} {x : Lx} (h : Lw w x) : Ls (w.alloc (.cells #[.string x.id, .string x.cat, .string x.stem, .string x.par, .slice x.fa x.fn x.fc] 24)) (some ⟨w.heap.size, 0, none⟩) 1 1 [x] :=
  ⟨rfl, Nat.le_refl _, by omega, by omega, fun e => (by cases e), fun i y hi => by
    match i, hi with
    | 0, hi =>
      obtain rfl : x = y := by simpa using hi
      exact ⟨w.heap.size, 0, rfl, five_new w x _⟩, fun y hy => by
    rw [List.mem_singleton.1 hy]
    exact h.aft ((Aft.refl w).alloc _)⟩
theorem lineT_size (x : Lx) (s0 : x.id.size ≤ 60) (s1 : x.cat.size ≤ 60) (s2 : x.stem.size ≤ 200) (s3 : x.par.size ≤ 60) : (lineT x).size ≤ 1000 + (text x.fs).length := by
  have h2 := field_size x.stem
  have h3 := field_size x.par
  have q1 : (ByteArray.mk #[32]).size = 1 := rfl
  by_cases h : x.fs = []
  · rw [← lineT_none h]
    simp only [ByteArray.size_append]
    omega
  · rw [← lineT_some h]
    simp only [ByteArray.size_append, text_size]
    omega
theorem short_sizes {x : Lx} (h : shortB x = true) : x.id.size ≤ 60 ∧ x.cat.size ≤ 60 ∧ x.stem.size ≤ 200 ∧ x.par.size ≤ 60 ∧ x.fn ≤ 20 := by
  simp only [shortB, Bool.and_eq_true, decide_eq_true_eq] at h
  omega
end Go.Proofs.YtpkhoklahcgcoaaDoor
