/-
  Plain mathematics of dimensions: which are valid, the records with one feature per dimension, in the program's order and in the reference's, and that a sorted rearrangement of features with distinct names is what putting them one by one gives. Conditions: as each theorem says.
-/
import Derived.Test.YtallloempmmgpaaFeatPut
import Derived.Test.YtallloempmmgpaaFeatName
import Derived.Test.YtallloempmmgpaaFeatCompare
import Derived.Test.YtallloempmmgpaaFeatSet
namespace Go.Proofs.Ytallloempmmgpaa
open FeatPlain

/-- A dimension: its name and its values. -/
abbrev Dm := ByteArray × List ByteArray

/-- All strings are names, and none stands twice. -/
def distB (l : List ByteArray) : Bool := l.all isName && decide l.Nodup
def dimOk (d : Dm) : Bool := decide (1 ≤ d.2.length) && (decide (d.2.length ≤ 8) && distB d.2)
def dimsB (ds : List Dm) : Bool := decide (ds.length ≤ 4) && (ds.all dimOk && distB (ds.map (·.1)))

def sortF (l : List Ft) : List Ft := l.foldl (fun r f => put f r) []
def allR (ch : List Ft) : List Dm → List (List Ft)
  | [] => [sortF ch]
  | d :: ds => d.2.flatMap fun v => allR (ch ++ [(d.1, v)]) ds
/-- What All yields. -/
def allD (ds : List Dm) : List (List Ft) := if dimsB ds then allR [] ds else []

def stepA (out : List (List Ft)) (d : Dm) : List (List Ft) := out.flatMap fun r => d.2.map fun v => put (d.1, v) r
theorem stepA_sort (chs : List (List Ft)) (d : Dm) : stepA (chs.map sortF) d = (chs.flatMap fun ch => d.2.map fun v => ch ++ [(d.1, v)]).map sortF := by
  unfold stepA
  rw [List.flatMap_map, List.map_flatMap]
  congr 1
  funext ch
  rw [List.map_map]
  congr 1
  funext v
  simp [sortF, List.foldl_append]
theorem fold_all : ∀ (ds : List Dm) (chs : List (List Ft)), ds.foldl stepA (chs.map sortF) = chs.flatMap fun ch => allR ch ds
  | [], chs => by
    simp only [List.foldl_nil, allR]
    induction chs with
    | nil => rfl
    | cons a l ih => rw [List.map_cons, List.flatMap_cons, ih]; rfl
  | d :: ds, chs => by
    rw [List.foldl_cons, stepA_sort, fold_all ds, List.flatMap_assoc]
    congr 1
    funext ch
    rw [allR, List.flatMap_map]
theorem ref_all (ds : List Dm) : ds.foldl stepA [[]] = allR [] ds := by
  have := fold_all ds [[]]
  simpa [sortF] using this

theorem allR_length : ∀ (ds : List Dm) (ch : List Ft), (∀ d ∈ ds, d.2.length ≤ 8) → (allR ch ds).length ≤ 8 ^ ds.length
  | [], ch, _ => by simp [allR]
  | d :: ds, ch, h => by
    rw [allR]
    have h1 : ∀ vs : List ByteArray, (vs.flatMap fun v => allR (ch ++ [(d.1, v)]) ds).length ≤ vs.length * 8 ^ ds.length := by
      intro vs
      induction vs with
      | nil => simp
      | cons v vs ih =>
        rw [List.flatMap_cons, List.length_append, List.length_cons, Nat.succ_mul]
        have := allR_length ds (ch ++ [(d.1, v)]) (fun x hx => h x (List.mem_cons_of_mem _ hx))
        omega
    have h2 := h1 d.2
    have h3 : d.2.length * 8 ^ ds.length ≤ 8 * 8 ^ ds.length := Nat.mul_le_mul_right _ (h d (by simp))
    rw [List.length_cons, Nat.pow_succ, Nat.mul_comm]
    omega
theorem allD_length (ds : List Dm) : (allD ds).length ≤ 4096 := by
  unfold allD
  split
  · rename_i h
    simp only [dimsB, Bool.and_eq_true, decide_eq_true_eq, List.all_eq_true, dimOk] at h
    have h1 := allR_length ds [] (fun d hd => (h.2.1 d hd).2.1)
    have h2 : 8 ^ ds.length ≤ 8 ^ 4 := Nat.pow_le_pow_right (by omega) h.1
    omega
  · simp

/-! ### Sorting -/
theorem put_mem (f : Ft) : ∀ (l : List Ft) (x : Ft), x ∈ put f l ↔ x = f ∨ x ∈ l
  | [], x => by simp [put]
  | g :: l, x => by
    rw [put]
    split
    · rw [List.mem_cons, put_mem f l, List.mem_cons]
      constructor
      · rintro (h | h | h)
        · exact .inr (.inl h)
        · exact .inl h
        · exact .inr (.inr h)
      · rintro (h | h | h)
        · exact .inr (.inl h)
        · exact .inl h
        · exact .inr (.inr h)
    · rw [List.mem_cons]
theorem put_asc (f : Ft) : ∀ {l : List Ft}, Asc l → (∀ g ∈ l, g.1 ≠ f.1) → Asc (put f l)
  | [], _, _ => asc_cons (fun g h => by cases h) asc_nil
  | g :: l, h, hn => by
    rw [put]
    split
    · rename_i hl
      refine asc_cons (fun x hx => ?_) (put_asc f (asc_tail h) (fun y hy => hn y (List.mem_cons_of_mem _ hy)))
      rcases (put_mem f l x).1 hx with rfl | hx
      · exact hl
      · exact asc_head h hx
    · rename_i hl
      have hfg : lt f.1 g.1 = true := by
        cases k : lt f.1 g.1
        · exact absurd (lt_total (by simpa using hl) k) (hn g (by simp))
        · rfl
      refine asc_cons (fun x hx => ?_) h
      rcases List.mem_cons.1 hx with rfl | hx
      · exact hfg
      · exact lt_trans hfg (asc_head h hx)
theorem sortF_snoc (l : List Ft) (f : Ft) : sortF (l ++ [f]) = put f (sortF l) := by simp [sortF, List.foldl_append]
theorem sortF_spec : ∀ (n : Nat) (l : List Ft), l.length = n → (l.map (·.1)).Nodup → Asc (sortF l) ∧ ∀ x, x ∈ sortF l ↔ x ∈ l
  | 0, l, h, _ => by rw [List.length_eq_zero_iff.1 h]; exact ⟨asc_nil, fun x => by simp [sortF]⟩
  | n + 1, l, h, hd => by
    have hne : l ≠ [] := fun e => by rw [e] at h; cases h
    have ha := List.dropLast_concat_getLast hne
    generalize l.getLast hne = f at ha
    have hl : l.dropLast.length = n := by rw [List.length_dropLast]; omega
    generalize l.dropLast = b at ha hl
    subst ha
    rw [List.map_append, List.nodup_append] at hd
    obtain ⟨h1, h2⟩ := sortF_spec n b hl hd.1
    rw [sortF_snoc]
    refine ⟨put_asc f h1 (fun g hg e => ?_), fun x => ?_⟩
    · exact hd.2.2 g.1 (List.mem_map_of_mem ((h2 g).1 hg)) f.1 (by simp) e
    · rw [put_mem, h2, List.mem_append, List.mem_singleton, or_comm]

theorem cmpS_lt (a b : ByteArray) : cmpS a b < 0 ↔ lt a b = true := by
  unfold cmpS
  cases h : lt a b <;> cases k : lt b a <;> simp
theorem cmpS_eq (a b : ByteArray) : cmpS a b = 0 ↔ a = b := by
  unfold cmpS
  constructor
  · intro h
    cases h1 : lt a b <;> cases h2 : lt b a <;> rw [h1, h2] at h <;> simp at h
    exact lt_total h1 h2
  · rintro rfl; simp [lt_irrefl]
theorem cmpF_lt (f g : Ft) : cmpF f g < 0 ↔ lt f.1 g.1 = true ∨ (f.1 = g.1 ∧ lt f.2 g.2 = true) := by
  unfold cmpF orI
  by_cases h : cmpS f.1 g.1 = 0
  · rw [if_pos h, cmpS_lt]
    have e := (cmpS_eq _ _).1 h
    rw [e, lt_irrefl]; simp
  · rw [if_neg h, cmpS_lt]
    have e : f.1 ≠ g.1 := fun e => h ((cmpS_eq _ _).2 e)
    simp [e]
/-- Features with distinct names, none of which comes before an earlier one, are ascending. -/
theorem asc_of_sorted {l : List Ft} (hd : (l.map (·.1)).Nodup) (hs : ∀ (i j : Nat) (f g : Ft), i < j → l[i]? = some f → l[j]? = some g → ¬ cmpF g f < 0) : Asc l := by
  unfold Asc
  rw [List.pairwise_iff_getElem]
  intro i j hi hj hij
  have h1 := hs i j _ _ hij (List.getElem?_eq_getElem hi) (List.getElem?_eq_getElem hj)
  rw [cmpF_lt] at h1
  cases k : lt l[i].1 l[j].1
  · exfalso
    have h2 : lt l[j].1 l[i].1 = false := by
      cases q : lt l[j].1 l[i].1
      · rfl
      · exact absurd (.inl q) h1
    have e : l[i].1 = l[j].1 := lt_total k h2
    have h3 := (List.pairwise_iff_getElem.1 hd) i j (by simpa using hi) (by simpa using hj) hij
    simp at h3
    exact h3 e
  · rfl
theorem sorted_eq {l d : List Ft} (hd : (l.map (·.1)).Nodup) (hp : l.Perm d) (hs : ∀ (i j : Nat) (f g : Ft), i < j → d[i]? = some f → d[j]? = some g → ¬ cmpF g f < 0) : d = sortF l := by
  have hd' : (d.map (·.1)).Nodup := (hp.map _).nodup_iff.1 hd
  have h1 := asc_of_sorted hd' hs
  obtain ⟨h2, h3⟩ := sortF_spec _ l rfl hd
  exact asc_ext h1 h2 (fun x => by rw [h3]; exact hp.mem_iff.symm)
end Go.Proofs.Ytallloempmmgpaa
