/-
  Sets of features that the call has made ('SetF'): what they hold and how many. Conditions: as each theorem says.
-/
import Derived.Test.YthoppaemlandaaaDoorLexFilter
import Derived.Test.YthoppaemlandaaaDoorFeatSet
import Derived.DeepKeys4
import Derived.Maps.OwnOps
import Derived.Maps.OwnSet
import Derived.Maps.Views
namespace Go.Proofs.YthoppaemlandaaaDoor
open Go.RowKit Go.Maps Go.WideMaps
open FeatPlain

theorem laidOutF : laidOutB Tryd.prog = true := by kernel_rfl
theorem lawKF : Keyed Tryd.prog 57 := Keyed.of_law (deep_law_laid laidOutF (m := 2) (by omega) (of_decide_eq_true (by kernel_rfl)) (by kernel_rfl) (by kernel_rfl))
/-- What a feature reads as as a key. -/
noncomputable def klF (f : Ft) : Lit := (keyOf Tryd.prog 57 (.agg #[.string f.1, .string f.2])).getD (.bool false)
def SzF (f : Ft) : Prop := f.1.size ≤ maxLen ∧ f.2.size ≤ maxLen
theorem keyTypeF : Tryd.prog.keyType 57 = true := by kernel_rfl
theorem klF_some {f : Ft} (h : SzF f) : keyOf Tryd.prog 57 (.agg #[.string f.1, .string f.2]) = some (klF f) := by
  have : ∃ kl, keyOf Tryd.prog 57 (.agg #[.string f.1, .string f.2]) = some kl := by
    obtain ⟨d, hd⟩ : ∃ d, Tryd.prog.types.size = d + 1 := ⟨Tryd.prog.types.size - 1, by have : 0 < Tryd.prog.types.size := of_decide_eq_true (by kernel_rfl); omega⟩
    have k0 : ∀ s : ByteArray, s.size ≤ maxLen → Tryd.prog.keyLits (d + 1) 9 [.string s] = some [.string s.data.toList] := by
      intro s hs
      unfold Program.keyLits
      rw [Tryd.underlying9]
      simp [hs]
    have k1 : ∃ ls, Tryd.prog.keyLits (d + 1 + 1) 57 [.string f.1, .string f.2] = some ls := by
      unfold Program.keyLits
      rw [Tryd.underlying57]
      simp [show Tryd.prog.cellsOf 57 = 2 from by kernel_rfl, show Tryd.prog.cellsOf 9 = 1 from by kernel_rfl, k0 _ h.1, k0 _ h.2]
    obtain ⟨ls, hls⟩ := k1
    have hfm : (Value.agg #[.string f.1, .string f.2]).formed Tryd.prog 57 = true := by
      unfold Value.formed
      rw [Tryd.underlying57]
      simp [show Tryd.prog.cellsOf 57 = 2 from by kernel_rfl]
    unfold keyOf
    rw [Tryd.underlying57]
    simp only [keyTypeF, hfm, Bool.and_self, if_true, hd]
    rw [show (Value.agg #[Value.string f.1, Value.string f.2]).cells.toList = [.string f.1, .string f.2] from rfl, hls]
    exact ⟨_, rfl⟩
  obtain ⟨kl, hk⟩ := this
  unfold klF
  rw [hk]; rfl
theorem klF_inj {f g : Ft} (hf : SzF f) (hg : SzF g) (h : klF f = klF g) : f = g := by
  have h1 := klF_some hf
  have h2 := klF_some hg
  rw [← h] at h2
  have e := lawKF.inj h1 h2
  obtain ⟨a, b⟩ := f
  obtain ⟨c, d⟩ := g
  simpa using e
set_option maxRecDepth 100000 in
theorem klF_key {f : Ft} (hf : SzF f) : WideAt.IsKeyLit (klF f) := by
  have h := klF_some hf
  exact lawKF.key (v := .agg #[.string f.1, .string f.2]) (l := klF f) h

def inF (fs : List Ft) (f : Ft) : Bool := fs.any fun g => decide (g = f)
theorem inF_snoc (fs : List Ft) (g f : Ft) : inF (fs ++ [g]) f = (inF fs f || decide (g = f)) := by simp [inF]
theorem inF_iff (fs : List Ft) (f : Ft) : inF fs f = true ↔ f ∈ fs := by simp [inF]
/-- Each feature once. -/
def dd (fs : List Ft) : List Ft := fs.foldl (fun acc f => if inF acc f then acc else acc ++ [f]) []
theorem dd_snoc (fs : List Ft) (f : Ft) : dd (fs ++ [f]) = if inF (dd fs) f then dd fs else dd fs ++ [f] := by
  unfold dd
  rw [List.foldl_append]
  rfl
theorem dd_spec : ∀ (n : Nat) (fs : List Ft), fs.length = n → (dd fs).Nodup ∧ ∀ f, f ∈ dd fs ↔ f ∈ fs
  | 0, fs, h => by rw [List.length_eq_zero_iff.1 h]; exact ⟨List.nodup_nil, fun f => by simp [dd]⟩
  | n + 1, fs, h => by
    have hne : fs ≠ [] := fun e => by rw [e] at h; cases h
    have ha := List.dropLast_concat_getLast hne
    generalize fs.getLast hne = g at ha
    have hl : fs.dropLast.length = n := by rw [List.length_dropLast]; omega
    generalize fs.dropLast = b at ha hl
    subst ha
    obtain ⟨h1, h2⟩ := dd_spec n b hl
    rw [dd_snoc]
    by_cases q : inF (dd b) g = true
    · rw [if_pos q]
      refine ⟨h1, fun f => ?_⟩
      rw [h2, List.mem_append, List.mem_singleton]
      exact ⟨.inl, fun k => by
        rcases k with k | k
        · exact k
        · rw [k]; exact (h2 g).1 ((inF_iff _ _).1 q)⟩
    · rw [if_neg q]
      have hg : g ∉ dd b := fun k => q ((inF_iff _ _).2 k)
      refine ⟨List.nodup_append.2 ⟨h1, by simp, fun a ha c hc e => hg (by rw [List.mem_singleton.1 hc] at e; exact e ▸ ha)⟩, fun f => ?_⟩
      rw [List.mem_append, List.mem_append, h2]
theorem inF_dd (fs : List Ft) (f : Ft) : inF (dd fs) f = inF fs f := by
  rw [Bool.eq_iff_iff, inF_iff, inF_iff]
  exact (dd_spec _ fs rfl).2 f
theorem nodup_len : ∀ {a b : List Ft}, a.Nodup → (∀ x ∈ a, x ∈ b) → a.length ≤ b.length
  | [], _, _, _ => Nat.zero_le _
  | x :: a, b, hn, h => by
    have hn' := List.nodup_cons.1 hn
    have hx := h x (by simp)
    obtain ⟨b1, b2, rfl⟩ := List.append_of_mem hx
    have := nodup_len (a := a) (b := b1 ++ b2) hn'.2 (fun y hy => by
      have hne : y ≠ x := fun e => hn'.1 (e ▸ hy)
      have hm := h y (List.mem_cons_of_mem _ hy)
      rcases List.mem_append.1 hm with k | k
      · exact List.mem_append_left _ k
      · rcases List.mem_cons.1 k with k | k
        · exact absurd k hne
        · exact List.mem_append_right _ k)
    simp only [List.length_append, List.length_cons] at this ⊢
    omega
/-- The count tells whether all that is wanted is there. -/
theorem count_all (list wanted : List Ft) : decide ((dd (list.filter (inF wanted))).length = (dd wanted).length) = wanted.all (inF list) := by
  obtain ⟨a1, a2⟩ := dd_spec _ (list.filter (inF wanted)) rfl
  obtain ⟨b1, b2⟩ := dd_spec _ wanted rfl
  rw [Bool.eq_iff_iff, decide_eq_true_eq, List.all_eq_true]
  have hsub : ∀ f ∈ dd (list.filter (inF wanted)), f ∈ dd wanted := fun f hf => (b2 f).2 ((inF_iff _ _).1 (List.mem_filter.1 ((a2 f).1 hf)).2)
  constructor
  · intro h f hf
    by_cases q : f ∈ dd (list.filter (inF wanted))
    · exact (inF_iff _ _).2 (List.mem_filter.1 ((a2 f).1 q)).1
    · have := nodup_len (List.nodup_cons.2 ⟨q, a1⟩) (fun g hg => by
        rcases List.mem_cons.1 hg with e | hg
        · rw [e]; exact (b2 f).2 hf
        · exact hsub g hg)
      rw [List.length_cons] at this
      omega
  · intro h
    refine Nat.le_antisymm (nodup_len a1 hsub) (nodup_len b1 (fun f hf => ?_))
    have hw := (b2 f).1 hf
    exact (a2 f).2 (List.mem_filter.2 ⟨(inF_iff _ _).1 (h f hw), (inF_iff _ _).2 hw⟩)

/-- Block Bm is a set that holds the features fs. -/
structure SetF (w : World) (Bm k : Nat) (D : DataW Unit) (fs : List Ft) : Prop where
  own : w.ownsMap Tryd.prog 57 (plainElem Tryd.prog 4) Bm k D
  has : ∀ f, SzF f → Maps.has D (klF f) = inF fs f
  val : ∀ f, SzF f → D.atKey (klF f) (.lit (.bool false)) = .lit (.bool (inF fs f))
  size : Maps.size D = (dd fs).length
  tidy : Maps.Tidy D
theorem SetF.made (w : World) : SetF (w.alloc (.map #[] 0)) w.heap.size 0 (.map []) [] := ⟨World.ownsMap_made _ _ _ _, fun _ _ => rfl, fun _ _ => rfl, rfl, tidy_empty⟩
theorem SetF.aft {w w' : World} {Bm k : Nat} {D : DataW Unit} {fs : List Ft} (h : SetF w Bm k D fs) (a : Aft w w') : SetF w' Bm k D fs := by
  refine ⟨?_, h.has, h.val, h.size, h.tidy⟩
  have hlt := h.own.lt
  obtain ⟨es, clock, hb, r⟩ := h.own
  exact ⟨es, clock, (Below.block a Bm hlt).trans hb, r⟩
set_option maxRecDepth 100000 in
theorem SetF.put {w w' : World} {Bm k : Nat} {D : DataW Unit} {fs : List Ft} (h : SetF w Bm k D fs) {g : Ft} (hg : SzF g) (own' : w'.ownsMap Tryd.prog 57 (plainElem Tryd.prog 4) Bm (k + 1) (D.put (klF g) (.lit (.bool true)))) :
    SetF w' Bm (k + 1) (D.put (klF g) (.lit (.bool true))) (fs ++ [g]) := by
  refine ⟨own', fun f hf => ?_, fun f hf => ?_, ?_, h.tidy.put (klF_key hg) _⟩
  · by_cases e : f = g
    · subst e
      rw [has_put_same h.own.isMap (klF_key hg), inF_snoc]; simp
    · rw [has_put_other (fun k => e (klF_inj hf hg k)), h.has f hf, inF_snoc]
      simp [Ne.symm e]
  · by_cases e : f = g
    · subst e
      rw [atKey_put_same h.own.isMap (klF_key hg), inF_snoc]; simp
    · rw [atKey_put_other (fun k => e (klF_inj hf hg k)), h.val f hf, inF_snoc]
      simp [Ne.symm e]
  · rw [size_put h.tidy, h.has g hg, h.size, dd_snoc, inF_dd]
    split <;> simp
set_option maxRecDepth 100000 in
theorem SetF.run {w : World} {Bm k : Nat} {D : DataW Unit} {fs : List Ft} (h : SetF w Bm k D fs) {f : Ft} (hf : SzF f) :
    (Instr.lookup 67 (.map (some Bm)) (.agg #[.string f.1, .string f.2]) false).run Tryd.prog w = .ok (.bool (inF fs f)) w := by
  obtain ⟨c, hr, hc⟩ := lookup_bool h.own lawKF Tryd.underlying67 Tryd.underlying4 (zeroB w) (klF_some hf)
  rw [h.val f hf] at hc
  simp at hc
  rw [hr, hc]
theorem run_makeMapFt (w : World) : (Instr.makeMap 67 none).run Tryd.prog w = .ok (.map (some w.heap.size)) (w.alloc (.map #[] 0)) := by
  kernel_rfl
end Go.Proofs.YthoppaemlandaaaDoor
