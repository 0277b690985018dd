/-
  A range over an iterator that keeps a state of its own in memory: the caller's invariant must stand such steps ('Stp'), which may depend on what has been handed out. Conditions: as the theorem says.
-/
import Derived.RangeFuncNested
import Derived.RangeFuncBound
import Derived.RangeFuncCalls
import Derived.RangeFuncLeaves
import Derived.RangeFuncWrites
import Derived.RangeFuncBox
namespace Go.Proofs.Ytallloempmmgpaa
open Go.RowKit

section
variable {F : Fence} {n : Nat} {P : Program}

/-- The iterator gives lists that meet S, or, told to stop, such that meet Sp; between two calls of yield it makes steps Stp, and it needs of a round that goes on that it keeps Kp. What it hands out meets G. -/
def SeqY {α : Type} (F : Fence) (n : Nat) (P : Program) (g : Nat) (lb : Array Value) (encs : α → Array Value) (Kp : World → World → Prop) (Stp : List α → World → World → Prop) (G : α → World → Prop) (S Sp : List α → Prop) (N : Nat) (w : World) : Prop :=
  ∀ (l : Nat) (J Jx : List α → World → Prop) (W : World), Below w.heap.size w W → (∀ s A B, J s A → Stp s A B → J s B) → (∀ s A B, Jx s A → Stp s A B → Jx s B) →
    (∀ pre x A, J pre A → pre.length < N → G x A → YieldAt F (n - 1) P l (encs x) A fun e B => (e = .returned (.bool true) ∧ J (pre ++ [x]) B ∧ Kp A B) ∨ (e = .returned (.bool false) ∧ Jx (pre ++ [x]) B)) →
    J [] W → CallsIn F n P g (#[.func (.yield l) #[] #[]] ++ lb) W fun e B => (∃ v, e = .returned v) ∧ ((∃ xs, S xs ∧ J xs B) ∨ (∃ pre, Sp pre ∧ Jx pre B))

/-- The loop's two records: at D the deferred calls, behind it its own. -/
structure LoopAt (D : Nat) (r : Loop) (W : World) : Prop where
  own : W.heap[D + 1]? = some (.loop r)
  defs : W.heap[D]? = some (.deferred (some []))
theorem LoopAt.put {D : Nat} {r : Loop} {W : World} (h : LoopAt D r W) (r' : Loop) : LoopAt D r' (W.putObj (D + 1) (.loop r')) :=
  ⟨World.putObj_heap_same (Array.getElem?_eq_some_iff.1 h.own).1, (World.putObj_heap_other (by omega)).trans h.defs⟩
theorem LoopAt.keeps {D : Nat} {r : Loop} {W W' : World} (h : LoopAt D r W) (k : KeepsFrom D W W') : LoopAt D r W' :=
  ⟨k.same _ _ (Nat.le_succ _) h.own rfl, k.same _ _ (Nat.le_refl _) h.defs rfl⟩
theorem LoopAt.start (w : World) (r : Loop) : LoopAt w.heap.size r ((w.alloc (.deferred (some []))).alloc (.loop r)) := by
  constructor
  · have := World.alloc_heap_new (w.alloc (.deferred (some []))) (.loop r)
    rwa [World.size_alloc] at this
  · exact (Below.heap_alloc _ _ _ (by simp)).trans (World.alloc_heap_new w _)

/-- What is left of a round's body, seen from the call of yield. -/
theorem body_left {α : Type} {D : Nat} {r : Loop} {Kp : World → World → Prop} {I : List α → World → Prop} {Ix : Code → List α → World → Prop} {xs : List α} {W : World}
    (hKt : ∀ {A B C : World}, Kp A B → Kp B C → Kp A C) (hKb : ∀ (W : World) (l : Nat) (o o' : Obj), D ≤ l → W.heap[l]? = some o → o.isCells = false → o.isWalk = false → Kp W (W.putObj l o'))
    (hI : OwnFrom D I) (hIx : ∀ c, OwnFrom D (Ix c)) (hr : r.state = .ready ∧ r.pending = none) (h : LoopAt D r W) (e : Exit) (a : Act) (W3 : World)
    (hp : ownPostG D Kp I Ix xs (W.putObj (D + 1) (.loop { r with state := .busy })) e a W3) :
    roundPost P (D + 1) (fun e B => (e = .returned (.bool true) ∧ (I xs B ∧ LoopAt D r B) ∧ Kp W B) ∨ (e = .returned (.bool false) ∧ ∃ c, Ix c xs B ∧ LoopAt D { r with state := .done, pending := some c } B)) e a W3 := by
  have h2 := h.put { r with state := .busy }
  have k2 := hKb W (D + 1) _ (.loop { r with state := .busy }) (Nat.le_succ _) h.own rfl rfl
  have jump : ∀ c, KeepsFrom D (W.putObj (D + 1) (.loop { r with state := .busy })) W3 → Ix c xs W3 → ∃ v w', (Instr.endRound (D + 1) (some c)).run P W3 = .ok v w' ∧
      ((Ending.returned v = .returned (.bool true) ∧ (I xs w' ∧ LoopAt D r w') ∧ Kp W w') ∨ (Ending.returned v = .returned (.bool false) ∧ ∃ c, Ix c xs w' ∧ LoopAt D { r with state := .done, pending := some c } w')) := fun c hk hx => by
    have h3 := h2.keeps hk
    exact ⟨_, _, run_endRound (some c) h3.own, .inr ⟨rfl, c, (hIx c).putObj _ hx (Nat.le_succ _) h3.own rfl, h3.put _⟩⟩
  cases e with
  | normal =>
    obtain ⟨hk, hkp, hi⟩ := hp
    have h3 := h2.keeps hk
    refine ⟨_, _, run_endRound none h3.own, .inl ⟨rfl, ⟨hI.putObj _ hi (Nat.le_succ _) h3.own rfl, ?_⟩, hKt (hKt k2 hkp) (hKb _ _ _ _ (Nat.le_succ _) h3.own rfl rfl)⟩⟩
    have h4 := h3.put r
    obtain ⟨st, pe, x1, x2, x3, x4, x5, x6⟩ := r
    obtain ⟨rfl, rfl⟩ := hr
    exact h4
  | ret => exact jump .ret hp.1 hp.2
  | exit id => exact jump (.exit id) hp.1 hp.2
  | goto t => exact jump (.goto t) hp.1 hp.2
  | panic ch => exact hp.elim
  | outgrown => exact hp.elim

theorem range_sl {α : Type} {g : Operand} {ps : Array Tmp} {assign body : Code} {Q : Exit → Act → World → Prop} {a : Act} {w : World}
    (hro : F.round = none) (h1 : 1 ≤ n) {gf : Nat} {lb : Array Value} (hg : a.eval g = .func (.func gf) #[] lb) (hFg : F.fn gf) (eg : ∀ args w, (callFunc gf args).run P w = .ok (.enter gf args) w)
    {encs : α → Array Value} {Kp : World → World → Prop} {Stp : List α → World → World → Prop} {G : α → World → Prop} {S Sp : List α → Prop} {N : Nat} (hseq : SeqY F (n - 1) P gf lb encs Kp Stp G S Sp N w) (hps : ∀ x, (encs x).size = ps.size)
    (hKt : ∀ {A B C : World}, Kp A B → Kp B C → Kp A C) (hKb : ∀ (W : World) (l : Nat) (o o' : Obj), w.heap.size ≤ l → W.heap[l]? = some o → o.isCells = false → o.isWalk = false → Kp W (W.putObj l o'))
    (hSt : ∀ s A B, Stp s A B → KeepsFrom w.heap.size A B) (hG : OwnFrom w.heap.size G)
    (I : List α → World → Prop) (Ix : Code → List α → World → Prop) (hI : OwnFrom w.heap.size I) (hIx : ∀ c, OwnFrom w.heap.size (Ix c)) (hIs : ∀ s A B, I s A → Stp s A B → I s B) (hIxs : ∀ c s A B, Ix c s A → Stp s A B → Ix c s B) (h0 : I [] w) (a₁ : α → Act)
    (hassign : ∀ (l : Nat) (x : α) (W : World) (K : Act → World → Prop), K (a₁ x) W → assign.wpIn (F.inRound l) (n - 1 - 1) P (Exit.then K (fun _ _ _ => False)) { tmps := (ps.zip (encs x)).foldl (fun t (p, v) => t.setIfInBounds p v) a.tmps, defers := [] } W)
    (hbody : ∀ (l : Nat) (pre : List α) (x : α) (W : World), I pre W → pre.length < N → G x W → body.wpIn (F.inRound l) (n - 1 - 1) P (ownPostG w.heap.size Kp I Ix (pre ++ [x]) W) (a₁ x) W)
    (hdone : ∀ (D : Nat) (xs : List α) (W : World), w.heap.size ≤ D → S xs → I xs W → W.heap[D]? = some (.deferred (some [])) → Q .normal { a with defers := { target := .collected D, args := #[] } :: a.defers } W)
    (hstop : ∀ (D : Nat) (c : Code) (pre : List α) (W : World), w.heap.size ≤ D → Sp pre → Ix c pre W → W.heap[D]? = some (.deferred (some [])) → c.wpIn F n P Q { a with defers := { target := .collected D, args := #[] } :: a.defers } W) :
    (Code.rangeFunc g ps assign body).wpIn F n P Q a w := by
  refine wpIn_rangeFunc fun fn hfn => ?_
  rw [hro]
  have hL := LoopAt.start w { state := .ready, pending := none, fn, tmps := a.tmps, params := ps, assign, body, defers := w.heap.size }
  have hA : Below w.heap.size w ((w.alloc (.deferred (some []))).alloc (.loop { state := .ready, pending := none, fn, tmps := a.tmps, params := ps, assign, body, defers := w.heap.size })) := ((Below.refl _ w).alloc (Nat.le_refl _) _).alloc (by simp) _
  have hI1 := hI.alloc (.loop { state := .ready, pending := none, fn, tmps := a.tmps, params := ps, assign, body, defers := w.heap.size }) (hI.alloc (.deferred (some [])) h0)
  have hrun := run_enterLoop_outer (P := P) (w := w) fn a.tmps ps assign body
  generalize (w.alloc (.deferred (some []))).alloc (.loop { state := .ready, pending := none, fn, tmps := a.tmps, params := ps, assign, body, defers := w.heap.size }) = W1 at *
  refine ⟨w.heap.size + 1, [{ target := .collected w.heap.size, args := #[] }], W1, { target := .fn (.func gf) lb, args := #[.func (.yield (w.heap.size + 1)) #[] #[]] }, W1, gf, #[.func (.yield (w.heap.size + 1)) #[] #[]] ++ lb, W1, hrun, ?_, ?_, ?_, fun _ => h1, ?_⟩
  · simp only [resolve, hg]
    simp [go_sem]
  · intro f' hf'
    simp [Target.leads] at hf'
    subst hf'
    exact hFg
  · simp [invoke, go_sem, eg]
  · refine (hseq (w.heap.size + 1)
      (fun pre W => I pre W ∧ LoopAt w.heap.size { state := .ready, pending := none, fn, tmps := a.tmps, params := ps, assign, body, defers := w.heap.size } W)
      (fun pre W => ∃ c, Ix c pre W ∧ LoopAt w.heap.size { state := .done, pending := some c, fn, tmps := a.tmps, params := ps, assign, body, defers := w.heap.size } W)
      _ hA (fun s A B h k => ⟨hIs s A B h.1 k, h.2.keeps (hSt s A B k)⟩) (fun s A B ⟨c, h, h'⟩ k => ⟨c, hIxs c s A B h k, h'.keeps (hSt s A B k)⟩) ?_ ⟨hI1, hL⟩).mono ?_
    · rintro pre x W ⟨hi, hl⟩ hlen hg1
      refine ⟨fn, _, assign, body, run_yield hl.own (hps x), roundIn_of_wpIn hfn (hassign _ x W _ ⟨_, run_beginRound hl.own rfl, ?_⟩)⟩
      exact wpIn_mono (hbody _ pre x _ (hI.putObj _ hi (Nat.le_succ _) hl.own rfl) hlen (hG.putObj _ hg1 (Nat.le_succ _) hl.own rfl)) (body_left (fun h k => hKt h k) hKb hI hIx ⟨rfl, rfl⟩ hl)
    · rintro e W2 ⟨⟨v, rfl⟩, ⟨xs, hS, hi, hl⟩ | ⟨pre, hSp, c, hi, hl⟩⟩
      · exact ⟨none, _, run_endLoop hl.own (by simp), hdone _ xs _ (Nat.le_refl _) hS (hI.putObj _ hi (Nat.le_succ _) hl.own rfl) ((World.putObj_heap_other (by omega)).trans hl.defs)⟩
      · exact ⟨some c, _, run_endLoop hl.own (by simp), hstop _ c pre _ (Nat.le_refl _) hSp ((hIx c).putObj _ hi (Nat.le_succ _) hl.own rfl) ((World.putObj_heap_other (by omega)).trans hl.defs)⟩
end
end Go.Proofs.Ytallloempmmgpaa
