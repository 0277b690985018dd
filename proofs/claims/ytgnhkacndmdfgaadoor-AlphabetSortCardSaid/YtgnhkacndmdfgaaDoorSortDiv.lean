/-
  Plain mathematics of symMerge's division: where the symmetric search ends, the merge is divided. Conditions: both parts are sorted, lt is a strict weak order.
-/
import Derived.Test.YtgnhkacndmdfgaaDoorSortSymB
namespace Go.Proofs.YtgnhkacndmdfgaaDoor
open SortPlain

section
variable {lt : ByteArray → ByteArray → Bool}

theorem mg_len : ∀ (n : Nat) (A B : List ByteArray), A.length + B.length ≤ n → (mg lt A B).length = A.length + B.length
  | _, [], B, _ => by rw [mg_nilL]; simp
  | _, a :: A, [], _ => by rw [mg_nil]; simp
  | 0, a :: A, b :: B, h => by simp at h
  | n + 1, a :: A, b :: B, h => by
    simp only [List.length_cons] at h
    rw [mg_cons]
    split
    · rw [List.length_cons, mg_len n (a :: A) B (by simp only [List.length_cons]; omega)]; simp only [List.length_cons]; omega
    · rw [List.length_cons, mg_len n A (b :: B) (by simp only [List.length_cons]; omega)]; simp only [List.length_cons]; omega

/-- The places lo to hi of d are sorted. -/
def SegS (lt : ByteArray → ByteArray → Bool) (d : List ByteArray) (lo hi : Nat) : Prop := ∀ i j x y, lo ≤ i → i ≤ j → j < hi → d[i]? = some x → d[j]? = some y → lt y x = false
theorem seg_srt (W : Weak lt) {P L Z : List ByteArray} (h : Srt lt L) : SegS lt (P ++ (L ++ Z)) P.length (P.length + L.length) := by
  intro i j x y h1 h2 h3 hx hy
  rw [List.getElem?_append_right (by omega), List.getElem?_append_left (by omega)] at hx hy
  by_cases e : i = j
  · subst e; rw [hx] at hy; cases hy; exact W.irr _
  · exact srt_at h hx hy (by omega)

theorem lt_le (W : Weak lt) {a b c : ByteArray} (h : lt b c = true) (k : lt b a = false) : lt a c = true := by
  cases e : lt a c with
  | true => rfl
  | false => have := W.low e k; rw [h] at this; cases this
theorem le_lt (W : Weak lt) {a b c : ByteArray} (h : lt a b = true) (k : lt c b = false) : lt a c = true := by
  cases e : lt a c with
  | true => rfl
  | false => have := W.low k e; rw [h] at this; cases this

/-- Where the symmetric search stands. -/
structure BinS (lt : ByteArray → ByteArray → Bool) (d : List ByteArray) (pp s0 r0 st r : Nat) : Prop where
  l0 : s0 ≤ st
  l1 : st ≤ r
  l2 : r ≤ r0
  lo : ∀ c u v, s0 ≤ c → c < st → d[pp - c]? = some u → d[c]? = some v → lt u v = false
  hi : ∀ c u v, r ≤ c → c < r0 → d[pp - c]? = some u → d[c]? = some v → lt u v = true

/-- The frame of the search: the pairs that it compares lie in both parts. -/
structure SymF (lt : ByteArray → ByteArray → Bool) (d : List ByteArray) (a m b mid pp s0 r0 : Nat) : Prop where
  left : SegS lt d a m
  right : SegS lt d m b
  am : a < m
  mb : m < b
  bn : b ≤ d.length
  half : mid = (a + b) / 2
  pq : pp + 1 = mid + m
  cas : (mid < m ∧ s0 + b = mid + m ∧ r0 = mid) ∨ (m ≤ mid ∧ s0 = a ∧ r0 = m)

theorem SymF.range {d : List ByteArray} {a m b mid pp s0 r0 : Nat} (F : SymF lt d a m b mid pp s0 r0) {c : Nat} (h1 : s0 ≤ c) (h2 : c < r0) : a ≤ c ∧ c < m ∧ m ≤ pp - c ∧ pp - c < b ∧ c ≤ pp := by
  have := F.am; have := F.mb; have := F.half; have := F.pq
  rcases F.cas with ⟨h, k, e⟩ | ⟨h, k, e⟩ <;> omega

theorem BinS.up (W : Weak lt) {d : List ByteArray} {a m b mid pp s0 r0 st r c : Nat} (F : SymF lt d a m b mid pp s0 r0) (B : BinS lt d pp s0 r0 st r) {u v : ByteArray} (h1 : st ≤ c) (h2 : c < r) (hu : d[pp - c]? = some u) (hv : d[c]? = some v) (hl : lt u v = false) : BinS lt d pp s0 r0 (c + 1) r := by
  refine ⟨by have := B.l0; omega, by omega, B.l2, fun e x y g1 g2 hx hy => ?_, B.hi⟩
  have rc := F.range (c := c) (by have := B.l0; omega) (by have := B.l2; omega)
  have re := F.range (c := e) g1 (by have := B.l2; omega)
  have hL := F.left e c y v (by omega) (by omega) (by omega) hy hv
  have hR := F.right (pp - c) (pp - e) u x (by omega) (by omega) (by omega) hu hx
  exact W.low (W.low hL hl) hR
theorem BinS.down (W : Weak lt) {d : List ByteArray} {a m b mid pp s0 r0 st r c : Nat} (F : SymF lt d a m b mid pp s0 r0) (B : BinS lt d pp s0 r0 st r) {u v : ByteArray} (h1 : st ≤ c) (h2 : c < r) (hu : d[pp - c]? = some u) (hv : d[c]? = some v) (hl : lt u v = true) : BinS lt d pp s0 r0 st c := by
  refine ⟨B.l0, h1, by have := B.l2; omega, B.lo, fun e x y g1 g2 hx hy => ?_⟩
  have rc := F.range (c := c) (by have := B.l0; omega) (by have := B.l2; omega)
  have re := F.range (c := e) (by have := B.l0; omega) g2
  have hL := F.left c e v y (by omega) (by omega) (by omega) hv hy
  have hR := F.right (pp - e) (pp - c) x u (by omega) (by omega) (by omega) hx hu
  exact le_lt W (lt_le W hl hR) hL

theorem sym_split (W : Weak lt) {P L R Q d : List ByteArray} {a m b mid pp s0 r0 st ee : Nat} (hd : d = P ++ (L ++ (R ++ Q))) (ha : a = P.length) (hm : m = a + L.length) (hb : b = m + R.length)
    (F : SymF lt d a m b mid pp s0 r0) (B : BinS lt d pp s0 r0 st st) (hee : ee + st = mid + m) :
    ∃ L1 L2 R1 R2, L = L1 ++ L2 ∧ R = R1 ++ R2 ∧ L1.length + a = st ∧ L2.length + st = m ∧ R1.length + m = ee ∧ R2.length + ee = b ∧ mg lt L R = mg lt L1 R1 ++ mg lt L2 R2 := by
  have r0' := B.l0
  have r1' := B.l2
  have fa := F.am
  have fm := F.mb
  have fh := F.half
  have fp := F.pq
  have hst : a ≤ st ∧ st ≤ m ∧ m ≤ ee ∧ ee ≤ b := by
    rcases F.cas with ⟨h, k, e⟩ | ⟨h, k, e⟩ <;> omega
  have dl : ∀ i x, L[i]? = some x → d[a + i]? = some x := by
    intro i x hx
    have := (List.getElem?_eq_some_iff.1 hx).1
    rw [hd, List.getElem?_append_right (by omega), List.getElem?_append_left (by omega), ha, Nat.add_sub_cancel_left]
    exact hx
  have dr : ∀ i x, R[i]? = some x → d[m + i]? = some x := by
    intro i x hx
    have := (List.getElem?_eq_some_iff.1 hx).1
    rw [hd, List.getElem?_append_right (by omega), List.getElem?_append_right (by omega), List.getElem?_append_left (by omega), show m + i - P.length - L.length = i by omega]
    exact hx
  have hbn := F.bn
  refine ⟨L.take (st - a), L.drop (st - a), R.take (ee - m), R.drop (ee - m), (List.take_append_drop _ _).symm, (List.take_append_drop _ _).symm, by rw [List.length_take]; omega, by rw [List.length_drop]; omega, by rw [List.length_take]; omega, by rw [List.length_drop]; omega, ?_⟩
  have := mg_split (lt := lt) _ (L.take (st - a)) (R.take (ee - m)) (L.drop (st - a)) (R.drop (ee - m)) (Nat.le_refl _) ?_ ?_
  · rwa [List.take_append_drop, List.take_append_drop] at this
  · intro r hr l hl
    obtain ⟨x, hx⟩ := List.getElem?_of_mem hr
    obtain ⟨y, hy⟩ := List.getElem?_of_mem hl
    have xl := (List.getElem?_eq_some_iff.1 hx).1
    have yl := (List.getElem?_eq_some_iff.1 hy).1
    rw [List.length_take] at xl
    rw [List.length_drop] at yl
    rw [List.getElem?_take_of_lt (by omega)] at hx
    rw [List.getElem?_drop] at hy
    have hx' := dr _ _ hx
    have hy' := dl _ _ hy
    have hlt : st < r0 := by rcases F.cas with ⟨h, k, e⟩ | ⟨h, k, e⟩ <;> omega
    obtain ⟨u, hu⟩ : ∃ u, d[ee - 1]? = some u := ⟨_, List.getElem?_eq_getElem (by omega)⟩
    obtain ⟨v, hv⟩ : ∃ v, d[st]? = some v := ⟨_, List.getElem?_eq_getElem (by omega)⟩
    have h1 := B.hi st u v (Nat.le_refl _) hlt (by rw [show pp - st = ee - 1 by omega]; exact hu) hv
    have h2 := F.right (m + x) (ee - 1) r u (by omega) (by omega) (by omega) hx' hu
    have h3 := F.left st (a + (st - a + y)) v l (by omega) (by omega) (by omega) hv hy'
    exact le_lt W (lt_le W h1 h2) h3
  · intro l hl r hr
    obtain ⟨x, hx⟩ := List.getElem?_of_mem hr
    obtain ⟨y, hy⟩ := List.getElem?_of_mem hl
    have xl := (List.getElem?_eq_some_iff.1 hx).1
    have yl := (List.getElem?_eq_some_iff.1 hy).1
    rw [List.length_drop] at xl
    rw [List.length_take] at yl
    rw [List.getElem?_drop] at hx
    rw [List.getElem?_take_of_lt (by omega)] at hy
    have hx' := dr _ _ hx
    have hy' := dl _ _ hy
    have hlt : s0 < st := by rcases F.cas with ⟨h, k, e⟩ | ⟨h, k, e⟩ <;> omega
    obtain ⟨u, hu⟩ : ∃ u, d[ee]? = some u := ⟨_, List.getElem?_eq_getElem (by omega)⟩
    obtain ⟨v, hv⟩ : ∃ v, d[st - 1]? = some v := ⟨_, List.getElem?_eq_getElem (by omega)⟩
    have h1 := B.lo (st - 1) u v (by omega) (by omega) (by rw [show pp - (st - 1) = ee by omega]; exact hu) hv
    have h2 := F.right ee (m + (ee - m + x)) u r (by omega) (by omega) (by omega) hu hx'
    have h3 := F.left (a + y) (st - 1) l v (by omega) (by omega) (by omega) hy' hv
    exact W.low (W.low h3 h1) h2
end
end Go.Proofs.YtgnhkacndmdfgaaDoor
