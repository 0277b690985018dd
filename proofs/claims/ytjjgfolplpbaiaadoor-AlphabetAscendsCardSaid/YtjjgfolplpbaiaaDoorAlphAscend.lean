/-
  Plain mathematics of Words: the runes of an encoded rune, all lists of n letters in their order, and that the words of n letters are just those. Conditions: the letters are distinct and good, as in a valid alphabet.
-/
import Derived.Test.YtjjgfolplpbaiaaDoorAlphIsWord
import Derived.Test.YtjjgfolplpbaiaaDoorAlphPartner
namespace Go.Proofs.YtjjgfolplpbaiaaDoor
open Go.RowKit
open AlphPlain
open Go.Lib (decodeL decodeN validD)

theorem u8_nat (n : Nat) (h : n < 256) : (UInt8.ofNat n).toNat = n := by
  rw [UInt8.toNat_ofNat']; omega

theorem dec_enc (c : Nat) (hc : c < 55296 ∨ (57344 ≤ c ∧ c ≤ 1114111)) : decodeL (Utf8.encode (c : Int)).data.toList = (c, (Utf8.encode (c : Int)).data.toList.length) := by
  have hv : Utf8.valid (c : Int) = true := by
    unfold Utf8.valid
    rcases hc with h | ⟨h, k⟩
    · rw [decide_eq_true (by omega : (0 : Int) ≤ c), decide_eq_true (by omega : (c : Int) < 55296)]; rfl
    · rw [decide_eq_true (by omega : (57344 : Int) ≤ c), decide_eq_true (by omega : (c : Int) ≤ 1114111)]; simp
  unfold Utf8.encode
  simp only [hv, if_true, Int.toNat_natCast]
  by_cases h1 : c < 128
  · rw [if_pos h1]
    show decodeL [UInt8.ofNat c] = (c, 1)
    rw [Lib.decodeL_N]
    show decodeN 1 (UInt8.ofNat c).toNat (0 : UInt8).toNat (0 : UInt8).toNat (0 : UInt8).toNat = _
    rw [u8_nat c (by omega)]
    unfold decodeN
    rw [if_pos h1]
  rw [if_neg h1]
  by_cases h2 : c < 2048
  · rw [if_pos h2]
    show decodeL [UInt8.ofNat (192 + c / 64), UInt8.ofNat (128 + c % 64)] = (c, 2)
    rw [Lib.decodeL_N]
    show decodeN 2 (UInt8.ofNat (192 + c / 64)).toNat (UInt8.ofNat (128 + c % 64)).toNat (0 : UInt8).toNat (0 : UInt8).toNat = _
    rw [u8_nat _ (by omega), u8_nat _ (by omega)]
    unfold decodeN
    rw [if_neg (by omega), if_pos (by omega), if_pos (by omega)]
    simp only [Prod.mk.injEq, and_true]
    omega
  rw [if_neg h2]
  by_cases h3 : c < 65536
  · rw [if_pos h3]
    show decodeL [UInt8.ofNat (224 + c / 4096), UInt8.ofNat (128 + c / 64 % 64), UInt8.ofNat (128 + c % 64)] = (c, 3)
    rw [Lib.decodeL_N]
    show decodeN 3 (UInt8.ofNat (224 + c / 4096)).toNat (UInt8.ofNat (128 + c / 64 % 64)).toNat (UInt8.ofNat (128 + c % 64)).toNat (0 : UInt8).toNat = _
    rw [u8_nat _ (by omega), u8_nat _ (by omega), u8_nat _ (by omega)]
    unfold decodeN
    rw [if_neg (by omega), if_neg (by omega), if_pos (by omega), if_pos (by omega)]
    simp only [Prod.mk.injEq, and_true]
    omega
  · rw [if_neg h3]
    show decodeL [UInt8.ofNat (240 + c / 262144), UInt8.ofNat (128 + c / 4096 % 64), UInt8.ofNat (128 + c / 64 % 64), UInt8.ofNat (128 + c % 64)] = (c, 4)
    rw [Lib.decodeL_N]
    show decodeN 4 (UInt8.ofNat (240 + c / 262144)).toNat (UInt8.ofNat (128 + c / 4096 % 64)).toNat (UInt8.ofNat (128 + c / 64 % 64)).toNat (UInt8.ofNat (128 + c % 64)).toNat = _
    rw [u8_nat _ (by omega), u8_nat _ (by omega), u8_nat _ (by omega), u8_nat _ (by omega)]
    unfold decodeN
    rw [if_neg (by omega), if_neg (by omega), if_neg (by omega), if_pos (by omega), if_pos (by omega)]
    simp only [Prod.mk.injEq, and_true]
    omega

theorem enc_ne (r : Int) : (Utf8.encode r).data.toList ≠ [] := by
  unfold Utf8.encode
  dsimp only
  generalize (if Utf8.valid r = true then r.toNat else Utf8.runeError) = c
  by_cases h1 : c < 128
  · rw [if_pos h1]; simp
  · rw [if_neg h1]
    by_cases h2 : c < 2048
    · rw [if_pos h2]; simp
    · rw [if_neg h2]
      by_cases h3 : c < 65536
      · rw [if_pos h3]; simp
      · rw [if_neg h3]; simp

theorem good_nat {r : Int} (h : goodB r = true) : ∃ c : Nat, r = c ∧ (c < 55296 ∨ (57344 ≤ c ∧ c ≤ 1114111)) := by
  unfold goodB okRune at h
  simp only [Bool.and_eq_true, Bool.or_eq_true, decide_eq_true_eq] at h
  exact ⟨r.toNat, by omega, by omega⟩

theorem enc_rd {r : Int} (h : goodB r = true) : validD (Utf8.encode r).data.toList = true ∧ rdL (Utf8.encode r).data.toList = [r] := by
  obtain ⟨c, rfl, hc⟩ := good_nat h
  have hd := dec_enc c hc
  have hne := enc_ne (c : Int)
  have hlen : ¬ (c = 65533 ∧ (Utf8.encode (c : Int)).data.toList.length = 1) := by
    rintro ⟨rfl, h⟩
    exact absurd h (by decide)
  generalize (Utf8.encode (c : Int)).data.toList = l at *
  constructor
  · rw [Lib.validD_step l hne, hd, if_neg hlen, List.drop_length]; rfl
  · rw [rdL_step l hne, hd, List.drop_length]; rfl

theorem rd_snoc {s : ByteArray} {r : Int} (hs : validD s.data.toList = true) (h : goodB r = true) :
    validD (s ++ Utf8.encode r).data.toList = true ∧ rdL (s ++ Utf8.encode r).data.toList = rdL s.data.toList ++ [r] := by
  rw [toList_app, validD_append _ _ _ (Nat.le_refl _) hs, rdL_append _ _ _ (Nat.le_refl _) hs, (enc_rd h).2]
  exact ⟨(enc_rd h).1, rfl⟩

/-- All lists of i letters, in their order. -/
def runesN (ls : List Lt) : Nat → List (List Int)
  | 0 => [[]]
  | i + 1 => (runesN ls i).flatMap fun R => ls.map fun l => R ++ [l.1]

theorem has_mem {ls : List Lt} {r : Int} : AlphPlain.has ls r = true ↔ ∃ l ∈ ls, l.1 = r := by
  constructor
  · intro h
    obtain ⟨l, hl, e⟩ := pos_get h
    exact ⟨l, List.mem_of_getElem? hl, e⟩
  · rintro ⟨l, hl, rfl⟩
    obtain ⟨i, hi⟩ := List.getElem?_of_mem hl
    obtain ⟨j, hj, _⟩ := idx_le hi
    unfold AlphPlain.has
    rw [hj]; rfl

theorem mem_runesN (ls : List Lt) : ∀ (i : Nat) (R : List Int), R ∈ runesN ls i ↔ R.length = i ∧ ∀ r ∈ R, AlphPlain.has ls r = true
  | 0, R => by
    simp only [runesN, List.mem_singleton]
    constructor
    · rintro rfl; exact ⟨rfl, fun r h => by cases h⟩
    · rintro ⟨h, _⟩; exact List.length_eq_zero_iff.1 h
  | i + 1, R => by
    simp only [runesN, List.mem_flatMap, List.mem_map]
    constructor
    · rintro ⟨S, hS, l, hl, rfl⟩
      obtain ⟨h1, h2⟩ := (mem_runesN ls i S).1 hS
      refine ⟨by simp [h1], fun r hr => ?_⟩
      rcases List.mem_append.1 hr with h | h
      · exact h2 r h
      · simp at h; subst h; exact has_mem.2 ⟨l, hl, rfl⟩
    · rintro ⟨h1, h2⟩
      have hne : R ≠ [] := fun e => by rw [e] at h1; cases h1
      obtain ⟨l, hl, e⟩ := has_mem.1 (h2 (R.getLast hne) (List.getLast_mem hne))
      refine ⟨R.dropLast, (mem_runesN ls i _).2 ⟨by rw [List.length_dropLast]; omega, fun r hr => h2 r ((List.dropLast_sublist R).subset hr)⟩, l, hl, ?_⟩
      rw [e, List.dropLast_concat_getLast]

theorem lexI_prefix (x a b : List Int) : lexI (x ++ a) (x ++ b) = lexI a b := by
  induction x with
  | nil => rfl
  | cons v x ih => rw [List.cons_append, List.cons_append, lexI, if_pos rfl, ih]
theorem lexI_more : ∀ (x y a b : List Int), x.length = y.length → lexI x y = -1 → lexI (x ++ a) (y ++ b) = -1
  | [], [], _, _, _, h => by simp [lexI] at h
  | [], _ :: _, _, _, h, _ => by simp at h
  | _ :: _, [], _, _, h, _ => by simp at h
  | u :: x, v :: y, a, b, hl, h => by
    rw [List.cons_append, List.cons_append, lexI]
    rw [lexI] at h
    by_cases e : u = v
    · rw [if_pos e] at h ⊢
      exact lexI_more x y a b (by simpa using hl) h
    · rw [if_neg e] at h ⊢
      exact h

theorem key_order {ls : List Lt} (hd : Dist ls) : ls.Pairwise fun l m => key ls l.1 < key ls m.1 := by
  rw [List.pairwise_iff_getElem]
  intro i j hi hj hij
  have h1 := hd i _ (List.getElem?_eq_getElem hi)
  have h2 := hd j _ (List.getElem?_eq_getElem hj)
  unfold key AlphPlain.has pos
  rw [h1, h2]
  simp
  omega

theorem runesN_order {ls : List Lt} (hd : Dist ls) : ∀ i, (runesN ls i).Pairwise fun x y => lexI (x.map (key ls)) (y.map (key ls)) = -1
  | 0 => List.pairwise_singleton _ _
  | i + 1 => by
    rw [runesN, List.pairwise_flatMap]
    constructor
    · intro R _
      rw [List.pairwise_map]
      refine (key_order hd).imp ?_
      intro l m h
      rw [List.map_append, List.map_append, lexI_prefix]
      simp only [List.map_cons, List.map_nil, lexI]
      rw [if_neg (by omega), if_pos h]
    · refine (runesN_order hd i).imp_of_mem ?_
      intro R S hR hS h x hx y hy
      obtain ⟨l, _, rfl⟩ := List.mem_map.1 hx
      obtain ⟨m, _, rfl⟩ := List.mem_map.1 hy
      rw [List.map_append, List.map_append]
      refine lexI_more _ _ _ _ ?_ h
      rw [List.length_map, List.length_map, ((mem_runesN ls i R).1 hR).1, ((mem_runesN ls i S).1 hS).1]

theorem flatMap_same {α β : Type} {f g : α → List β} : ∀ {l : List α}, (∀ a ∈ l, f a = g a) → l.flatMap f = l.flatMap g
  | [], _ => rfl
  | a :: l, h => by rw [List.flatMap_cons, List.flatMap_cons, h a (by simp), flatMap_same (l := l) (fun b hb => h b (by simp [hb]))]

theorem wordsN_runes {ls : List Lt} (hg : ∀ l ∈ ls, goodB l.1 = true) : ∀ {i : Nat} {ws : List ByteArray}, wordsN ls i = some ws → (∀ s ∈ ws, validD s.data.toList = true) ∧ ws.map (fun s => rdL s.data.toList) = runesN ls i
  | 0, ws, h => by
    cases h
    exact ⟨fun s hs => by simp at hs; subst hs; rfl, rfl⟩
  | i + 1, ws, h => by
    rw [wordsN] at h
    cases e : wordsN ls i with
    | none => rw [e] at h; cases h
    | some vs =>
      rw [e] at h
      simp only at h
      split at h
      · cases h
      · cases h
        obtain ⟨h1, h2⟩ := wordsN_runes hg e
        constructor
        · intro s hs
          unfold longer at hs
          obtain ⟨t, ht, hs⟩ := List.mem_flatMap.1 hs
          unfold spread at hs
          obtain ⟨l, hl, rfl⟩ := List.mem_map.1 hs
          exact (rd_snoc (h1 t ht) (hg l hl)).1
        · rw [runesN, ← h2, longer, List.map_flatMap, List.flatMap_map]
          refine flatMap_same ?_
          intro t ht
          unfold spread
          rw [List.map_map]
          refine List.map_congr_left ?_
          intro l hl
          exact (rd_snoc (h1 t ht) (hg l hl)).2

theorem good_of_valid {ls : List Lt} (h : validB ls = true) : ∀ l ∈ ls, goodB l.1 = true := by
  unfold validB at h
  simp only [Bool.and_eq_true, List.all_eq_true] at h
  exact h.1.2

theorem asc_word {ls : List Lt} (hv : validB ls = true) {n : Nat} (hn : n ≤ 40) {ws : List ByteArray} (h : wordsN ls n = some ws) (s : ByteArray) (hs : s ∈ ws) : wordB ls s = true ∧ (runesOf s).length = n := by
  obtain ⟨h1, h2⟩ := wordsN_runes (good_of_valid hv) h
  have hm : rdL s.data.toList ∈ runesN ls n := by rw [← h2]; exact List.mem_map.2 ⟨s, hs, rfl⟩
  obtain ⟨h3, h4⟩ := (mem_runesN ls n _).1 hm
  unfold wordB
  rw [runesOf_rd, h1 s hs, h3, decide_eq_true hn, List.all_eq_true.2 h4]
  exact ⟨rfl, rfl⟩

theorem asc_next {ls : List Lt} (hv : validB ls = true) {n : Nat} {ws : List ByteArray} (h : wordsN ls n = some ws) (i : Nat) (s t : ByteArray) (hs : ws[i]? = some s) (ht : ws[i + 1]? = some t) : cmpL ls s t = -1 := by
  obtain ⟨h1, h2⟩ := wordsN_runes (good_of_valid hv) h
  have ho := runesN_order (dist_of_valid hv) n
  rw [← h2, List.pairwise_map, List.pairwise_iff_getElem] at ho
  obtain ⟨k1, e1⟩ := List.getElem?_eq_some_iff.1 hs
  obtain ⟨k2, e2⟩ := List.getElem?_eq_some_iff.1 ht
  have := ho i (i + 1) k1 k2 (by omega)
  rw [e1, e2] at this
  rw [cmpL_key, runesOf_rd, runesOf_rd]
  exact this

/-- Is s among the words, byte by byte? -/
def foundB (ws : List ByteArray) (s : ByteArray) : Bool := ws.any fun t => t.toList == s.toList
theorem foundB_mem {ws : List ByteArray} {s : ByteArray} : foundB ws s = true ↔ s ∈ ws := by
  unfold foundB
  rw [List.any_eq_true]
  constructor
  · rintro ⟨t, ht, h⟩
    by_cases e : t = s
    · rw [← e]; exact ht
    · rw [bytes_ne e] at h; cases h
  · intro h
    exact ⟨s, h, by simp⟩

theorem asc_mem {ls : List Lt} (hv : validB ls = true) {n : Nat} (hn : n ≤ 40) {ws : List ByteArray} (h : wordsN ls n = some ws) (s : ByteArray) : foundB ws s = (wordB ls s && decide ((runesOf s).length = n)) := by
  by_cases hm : s ∈ ws
  · obtain ⟨a, b⟩ := asc_word hv hn h s hm
    rw [foundB_mem.2 hm, a, decide_eq_true b]; rfl
  · rw [show foundB ws s = false from by cases k : foundB ws s with | false => rfl | true => exact absurd (foundB_mem.1 k) hm]
    cases hw : wordB ls s with
    | false => rfl
    | true =>
      rw [Bool.true_and]
      symm
      refine decide_eq_false (fun hl => hm ?_)
      obtain ⟨h1, h2⟩ := wordsN_runes (good_of_valid hv) h
      unfold wordB at hw
      simp only [Bool.and_eq_true, List.all_eq_true] at hw
      have hr : rdL s.data.toList ∈ runesN ls n := (mem_runesN ls n _).2 ⟨by rw [← hl, runesOf_rd], hw.2⟩
      rw [← h2] at hr
      obtain ⟨t, ht, e⟩ := List.mem_map.1 hr
      have : t = s := runes_inj ((utfB_valid t).trans (h1 t ht)) ((utfB_valid s).trans hw.1.1) (by rw [runesOf_rd, runesOf_rd, e])
      rw [← this]; exact ht

theorem words_cases (ls : List Lt) (x : Int) : words ls x = [] ∨ ∃ n : Nat, x = n ∧ n ≤ 40 ∧ validB ls = true ∧ wordsN ls n = some (words ls x) := by
  unfold words
  cases hv : validB ls
  · left; rfl
  · by_cases h0 : 0 ≤ x
    · by_cases h1 : x ≤ 40
      · rw [decide_eq_true h0, decide_eq_true h1]
        simp only [Bool.and_true, if_true]
        cases e : wordsN ls x.toNat with
        | none => left; rfl
        | some ws =>
          right
          refine ⟨x.toNat, by omega, by omega, trivial, ?_⟩
          rw [e]; rfl
      · left; rw [decide_eq_false h1]; simp
    · left; rw [decide_eq_false h0]; simp
end Go.Proofs.YtjjgfolplpbaiaaDoor
