/-
  Plain facts of lexicons: what Valid says depends on what the lexemes say; a merged lexicon is valid if both are; a lexeme of a lexicon is found by its ID. Conditions: as each theorem says.
-/
import Derived.Test.YtfoeghabnbjbgaaDoorLexValid
import Derived.Test.YtfoeghabnbjbgaaDoorLexMerge
namespace Go.Proofs.YtfoeghabnbjbgaaDoor
open Go.RowKit
open FeatPlain

/-- What a lexeme says is valid over letters. -/
def okSay (ls : List AlphPlain.Lt) (t : Lxp) : Bool := (nameL t.1 && (nameL t.2.1 && (decide (t.2.2.2.1 = ⟨#[]⟩) || nameL t.2.2.2.1))) && (Al.wordB ls t.2.2.1 && validB t.2.2.2.2)
def validSay (ls : List AlphPlain.Lt) (L : List Lxp) : Bool := Al.validB ls && (decide (L.length ≤ 256) && (L.all (okSay ls) && addB [] (L.map (·.1))))
theorem validLx_say (ls : List AlphPlain.Lt) (xs : List Lx) : validLx ls xs = validSay ls (xs.map Lx.say) := by
  unfold validLx validSay
  rw [List.length_map, List.all_map, List.map_map]
  rfl
theorem addB_append : ∀ (l m ss : List ByteArray), addB ss (l ++ m) = (addB ss l && addB (ss ++ l) m)
  | [], m, ss => by simp [addB]
  | x :: l, m, ss => by
    rw [List.cons_append, addB, addB, addB_append l m, List.append_assoc, List.singleton_append, Bool.and_assoc]
theorem addB_less {ss l : List ByteArray} (h : addB ss l = true) : addB [] l = true := by
  rw [addB_iff] at h ⊢
  intro j t hj
  have := h j t hj
  rw [inB_append, Bool.or_eq_false_iff] at this
  simpa using this.2
theorem mergeE_zero {xs ys : List Lx} (h : mergeE xs ys = 0) : addB (xs.map Lx.id) (ys.map Lx.id) = true ∧ xs.length + ys.length ≤ 256 := by
  unfold mergeE at h
  cases hh : addB (xs.map Lx.id) (ys.map Lx.id) <;> rw [hh] at h
  · simp at h
  · refine ⟨rfl, ?_⟩
    simp only [if_true] at h
    split at h <;> omega
theorem valid_merged {ls : List AlphPlain.Lt} {xs ys zs : List Lx} (h : mergeE xs ys = 0) (hz : zs.map Lx.say = (xs ++ ys).map Lx.say) : validLx ls zs = (validLx ls xs && validLx ls ys) := by
  obtain ⟨h1, h2⟩ := mergeE_zero h
  rw [validLx_say ls zs, hz, ← validLx_say]
  unfold validLx
  rw [List.map_append, addB_append, List.all_append, List.nil_append, h1, addB_less h1, List.length_append, decide_eq_true h2, decide_eq_true (show xs.length ≤ 256 by omega), decide_eq_true (show ys.length ≤ 256 by omega)]
  cases Al.validB ls <;> cases xs.all (lexOk ls) <;> cases ys.all (lexOk ls) <;> cases addB [] (xs.map Lx.id) <;> rfl
theorem find_say (s : ByteArray) : ∀ zs : List Lx, (zs.find? fun z => decide (z.id = s)).map Lx.say = (zs.map Lx.say).find? fun t => decide (t.1 = s)
  | [] => rfl
  | z :: zs => by
    rw [List.map_cons, List.find?_cons, List.find?_cons]
    show Option.map Lx.say (match decide (z.id = s) with | true => some z | false => zs.find? _) = match decide (z.id = s) with | true => some z.say | false => _
    cases decide (z.id = s)
    · exact find_say s zs
    · rfl
theorem find_merged {xs ys zs : List Lx} (s : ByteArray) (hz : zs.map Lx.say = (xs ++ ys).map Lx.say) :
    (zs.find? fun z => decide (z.id = s)).map Lx.say = ((xs.find? fun z => decide (z.id = s)).map Lx.say).or ((ys.find? fun z => decide (z.id = s)).map Lx.say) := by
  rw [find_say, hz, List.map_append, List.find?_append, ← find_say, ← find_say]
theorem find_at {p : Lx → Bool} {xs : List Lx} {k : Nat} {x : Lx} (h : ∀ y ∈ xs.take k, p y = false) (hx : xs[k]? = some x) (hp : p x = true) : xs.find? p = some x := by
  have e : xs = xs.take k ++ x :: xs.drop (k + 1) := by rw [← drop_of_get hx]; simp
  have h1 : (xs.take k).find? p = none := List.find?_eq_none.2 (fun y hy => by simp [h y hy])
  have h2 : (xs.take k ++ x :: xs.drop (k + 1)).find? p = some x := by rw [List.find?_append, h1]; simp [hp]
  rw [← e] at h2
  exact h2
theorem before_ne {xs : List Lx} {k : Nat} {x : Lx} (h : addB [] (xs.map Lx.id) = true) (hx : xs[k]? = some x) : ∀ y ∈ xs.take k, decide (y.id = x.id) = false := by
  intro y hy
  have := (addB_iff _ _).1 h k x.id (by simp [hx])
  rw [decide_eq_false_iff_not]
  intro e
  have hm : inB (([] : List ByteArray) ++ (xs.map Lx.id).take k) x.id = true := by
    rw [List.nil_append, ← List.map_take, inB, List.any_eq_true]
    exact ⟨y.id, List.mem_map.2 ⟨y, hy, rfl⟩, by simp [e]⟩
  rw [hm] at this
  cases this
/-- The lexeme at an index is found by its ID, also among those that a test lets through. -/
theorem found_in {xs ys : List Lx} {k : Nat} {x : Lx} {p : Lx → Bool} (h : addB [] (xs.map Lx.id) = true) (hx : xs[k]? = some x) (hp : p x = true) (hy : ys.map Lx.say = (xs.filter p).map Lx.say) :
    (ys.find? fun y => decide (y.id = x.id)).map Lx.say = some x.say := by
  rw [find_say, hy, ← find_say, List.find?_filter, find_at (k := k) (x := x) (fun y hm => ?_) hx (by simp [hp])]
  · rfl
  · have := before_ne h hx y hm
    simp only [decide_eq_false_iff_not] at this ⊢
    simp [this]
theorem index_own {xs : List Lx} {k : Nat} {x : Lx} (h : addB [] (xs.map Lx.id) = true) (hx : xs[k]? = some x) : idxL (fun y => decide (y.id = x.id)) xs = (k : Nat) := idxL_hit (before_ne h hx) hx (by simp)
theorem validLx_ids {ls : List AlphPlain.Lt} {xs : List Lx} (h : validLx ls xs = true) : addB [] (xs.map Lx.id) = true := by
  unfold validLx at h
  simp only [Bool.and_eq_true] at h
  exact h.2.2.2
theorem few_stems {xs : List Lx} (h : fewB xs = true) : ∀ x ∈ xs, x.stem.size ≤ 200 := fun x hx => by
  simp only [fewB, Bool.and_eq_true, List.all_eq_true] at h
  have := h.1 x hx
  simp only [shortB, Bool.and_eq_true, decide_eq_true_eq] at this
  omega
theorem of_say {P : Lxp → Prop} {xs zs : List Lx} (hz : zs.map Lx.say = xs.map Lx.say) (h : ∀ x ∈ xs, P x.say) : ∀ z ∈ zs, P z.say := fun z hm => by
  have : z.say ∈ xs.map Lx.say := by rw [← hz]; exact List.mem_map.2 ⟨z, hm, rfl⟩
  obtain ⟨x, hx, e⟩ := List.mem_map.1 this
  rw [← e]; exact h x hx
/-- Lexemes that say what short ones say have few features. -/
theorem few_fts {w : World} {xs : List Lx} (h : fewB xs = true) (hl : ∀ x ∈ xs, Lw w x) : ∀ x ∈ xs, x.say.2.2.2.2.length ≤ 20 := fun x hx => by
  simp only [fewB, Bool.and_eq_true, List.all_eq_true] at h
  have := h.1 x hx
  simp only [shortB, Bool.and_eq_true, decide_eq_true_eq] at this
  have e : x.fs.length = x.fn := (hl x hx).fts.len
  show x.fs.length ≤ 20
  omega
theorem fn_small {w : World} {xs ys : List Lx} (hx : ∀ x ∈ xs, x.say.2.2.2.2.length ≤ 20) (hl : ∀ y ∈ ys, Lw w y) (hy : ys.map Lx.say = xs.map Lx.say) : ∀ y ∈ ys, y.fn * 32 ≤ 140737488355328 := fun y hm => by
  have h1 : y.fs.length ≤ 20 := of_say (P := fun t => t.2.2.2.2.length ≤ 20) hy hx y hm
  have e : y.fs.length = y.fn := (hl y hm).fts.len
  omega
theorem filter_all {P : Lx → Prop} {p : Lx → Bool} {xs : List Lx} (h : ∀ x ∈ xs, P x) : ∀ x ∈ xs.filter p, P x := fun x hx => h x (List.mem_filter.1 hx).1
end Go.Proofs.YtfoeghabnbjbgaaDoor
