/-
  The reference's Sort: the strings in collation order, equal ones in their original order. Conditions: the slices hold the letters and the strings; there are at most 40 strings of at most 200 bytes.
-/
import Derived.Test.YtgnhkacndmdfgaaDoorSortIns
import Derived.Test.YtgnhkacndmdfgaaDoorAlphRefWords
import Derived.Laws.AppendOwnNone
namespace Go.Proofs.YtgnhkacndmdfgaaDoor
open Go.RowKit
open AlphPlain SortPlain

/-- append onto a row of the call's own, from whatever slice. -/
theorem wpList_append_any {P : Program} {w : World} {ops : Array Oper} {rest : List Oper} {o : Oper} {a : Act} {Q : Exit → Act → World → Prop} (hgd : o.guard = none) (s x : Operand) (t : TypeId)
    (ho : o.op = .call { callee := .builtin .append, args := #[s, x], argTypes := #[t, t] })
    (base : Nat) (e : TypeId) (i : TypeInfo) (z : Value) (size bytes : Nat) (ht : P.underlying t = some (.slice e)) (hi : P.info? e = some i) (hz : i.zero = some z)
    (hsize : i.size = size) (hby : i.bytes = bytes) (hzs : z.cells.size = size) (hsz : 0 < size)
    (v : Value) (n : Nat) (xs : List Value) (hs : a.eval s = v) (hown : w.ownsRow base e size v n xs)
    (ao : Option Addr) (m c : Nat) (news : List Value) (hx : a.eval x = .slice ao m c) (hl : news.length = m * size) (hno : ao = none → m = 0 ∧ c = 0)
    (hnews : ∀ ad, ao = some ad → ∀ j u, news[j]? = some u → w.cell? (ad.add j) = some u) (h1 : ∀ u ∈ news, u.oneCell' = true)
    (h63 : n + m ≤ maxLen) (hbytes : (n + m) * bytes ≤ 140737488355328) (hbase : base ≤ w.heap.size)
    (h : ∀ v' w', w'.ownsRow base e size v' (n + m) (xs ++ news) → w.grownBy w' v.ownBlock → wpList P ops Q rest (a.put o.dst v') w') : wpList P ops Q (o :: rest) a w := by
  cases ao with
  | some ad => exact wpList_append_own w hgd s x t ho base e i z size bytes ht hi hz hsize hby hzs hsz v n xs hs hown ad m c news hx hl (hnews ad rfl) h1 h63 hbytes hbase fun v' w' a1 a2 _ => h v' w' a1 a2
  | none =>
    obtain ⟨rfl, rfl⟩ := hno rfl
    have hn : news = [] := List.length_eq_zero_iff.1 (by omega)
    subst hn
    exact wpList_append_own_none hgd s x t ho base e i size ht hi v n xs hs hown hx (h v w (by simpa using hown) (World.grownBy.refl _ _))

theorem strV_get {l : List ByteArray} {j : Nat} {u : Value} (h : (strV l)[j]? = some u) : ∃ s, l[j]? = some s ∧ u = .string s := by
  unfold strV at h
  rw [List.getElem?_map] at h
  obtain ⟨s, h1, h2⟩ := Option.map_eq_some_iff.1 h
  exact ⟨s, h1, h2.symm⟩
theorem Ss.cell0 {w : World} {g i d : Nat} {S : List ByteArray} (h : Ss w (some ⟨g, 0, none⟩) i d S) {j : Nat} {s : ByteArray} (hj : S[j]? = some s) : w.cell? ⟨g, j, none⟩ = some (.string s) := by
  obtain ⟨b, off, e, hc⟩ := h.cells j s hj
  cases e
  rwa [Nat.zero_add] at hc
theorem take_cells {w : World} {g i d k : Nat} {S : List ByteArray} (h : Ss w (some ⟨g, 0, none⟩) i d S) : ∀ j u, (strV (S.take k))[j]? = some u → w.cell? ((⟨g, 0, none⟩ : Addr).add j) = some u := by
  intro j u hj
  obtain ⟨s, h1, rfl⟩ := strV_get hj
  have hjk : j < k := by have := (List.getElem?_eq_some_iff.1 h1).1; rw [List.length_take] at this; omega
  rw [List.getElem?_take_of_lt hjk] at h1
  rw [Addr.add_lit, Nat.zero_add]
  exact h.cell0 h1
theorem drop_cells {w : World} {g i d k : Nat} {S : List ByteArray} (h : Ss w (some ⟨g, 0, none⟩) i d S) : ∀ j u, (strV (S.drop k))[j]? = some u → w.cell? ((⟨g, k, none⟩ : Addr).add j) = some u := by
  intro j u hj
  obtain ⟨s, h1, rfl⟩ := strV_get hj
  rw [List.getElem?_drop] at h1
  rw [Addr.add_lit]
  exact h.cell0 h1
theorem own_Ss {w : World} {base n : Nat} {v : Value} {ss : List ByteArray} (h : w.ownsRow base 9 1 v (n + 1) (strV ss)) (hl : ss.length = n + 1) (hm : (n + 1) * 16 ≤ 281474976710656) : ∃ g c, v = .slice (some ⟨g, 0, none⟩) (n + 1) c ∧ Ss w (some ⟨g, 0, none⟩) (n + 1) c ss := by
  rcases h.2 with ⟨rfl, h0⟩ | ⟨g, cap, cur, rfl, _, _, hle, _, _⟩
  · omega
  · exact ⟨_, _, rfl, Ss.of_own h hl hle hm⟩

theorem insV_mem (lt : ByteArray → ByteArray → Bool) (x z : ByteArray) : ∀ l, z ∈ insV lt x l → z = x ∨ z ∈ l
  | [], h => by simpa [insV] using h
  | y :: l, h => by
    rw [insV] at h
    split at h
    · rcases List.mem_cons.1 h with rfl | h
      · simp
      · rcases insV_mem lt x z l h with h | h
        · exact Or.inl h
        · simp [h]
    · simpa using h
theorem fold_mem (lt : ByteArray → ByteArray → Bool) (z : ByteArray) : ∀ (r acc : List ByteArray), z ∈ r.foldl (fun acc x => insR lt x acc) acc → z ∈ acc ∨ z ∈ r
  | [], acc, h => Or.inl h
  | x :: r, acc, h => by
    rw [List.foldl_cons] at h
    rcases fold_mem lt z r _ h with h | h
    · rcases insV_mem lt x z acc.reverse (List.mem_reverse.1 h) with h | h
      · simp [h]
      · exact Or.inl (List.mem_reverse.1 h)
    · simp [h]
theorem isort_mem {lt : ByteArray → ByteArray → Bool} {z : ByteArray} {l : List ByteArray} (h : z ∈ isort lt l) : z ∈ l := by
  rcases fold_mem lt z l [] h with h | h
  · cases h
  · exact h

theorem ins_step {lt : ByteArray → ByteArray → Bool} {R S : List ByteArray} {x y : ByteArray} {k : Nat} (hk : 0 < k) (h : R = insR lt x (S.take k) ++ S.drop k) (hy : S[k - 1]? = some y) (hl : lt x y = true) : R = insR lt x (S.take (k - 1)) ++ S.drop (k - 1) := by
  obtain ⟨j, rfl⟩ : ∃ j, k = j + 1 := ⟨k - 1, by omega⟩
  rw [Nat.add_sub_cancel] at hy ⊢
  rw [h, take_next hy, insR_snoc, hl, if_pos rfl, drop_of_get hy]; simp
theorem ins_stop {lt : ByteArray → ByteArray → Bool} {R S : List ByteArray} {x y : ByteArray} {k : Nat} (hk : 0 < k) (h : R = insR lt x (S.take k) ++ S.drop k) (hy : S[k - 1]? = some y) (hl : lt x y = false) : R = S.take k ++ x :: S.drop k := by
  obtain ⟨j, rfl⟩ : ∃ j, k = j + 1 := ⟨k - 1, by omega⟩
  rw [Nat.add_sub_cancel] at hy
  rw [h, take_next hy, insR_snoc, hl, if_neg (by simp)]; simp
theorem ins_zero {lt : ByteArray → ByteArray → Bool} {R S : List ByteArray} {x : ByteArray} (h : R = insR lt x (S.take 0) ++ S.drop 0) : R = S.take 0 ++ x :: S.drop 0 := by
  rw [h]; simp [insR_nil]

set_option maxRecDepth 100000 in
set_option maxHeartbeats 3200000 in
theorem refSort_any (A : Option Addr) (n c : Nat) (ls : List Lt) (B : Option Addr) (m e : Nat) (ss : List ByteArray) (w : World) (ha : Ll w A n c ls) (hb : Ss w B m e ss) (h40 : m ≤ 40) (h200 : ∀ s ∈ ss, s.size ≤ 200) :
    Calls Tryd.prog 31 #[.slice A n c, .slice B m e] w (SsPost w (isort (ltb ls) ss)) := by
  have hme := hb.le
  have HLM := Lib.hid hb.len
  obtain ⟨i0, hi, hz0, hz1, hz2⟩ := info_parts Tryd.infoS
  have hst : Ss (w.alloc (.cells #[] 9)) (some ⟨w.heap.size, 0, none⟩) 0 0 [] := Ss.nil (by omega) (fun e => by cases e)
  have HST := Lib.hid hst
  clear hst
  go_enter Tryd.func31, Tryd.ntmps31
  go_wp2
  go_loopw [5, 13] (fun v x wr => ∃ (i g d : Nat), i ≤ m ∧ x = .int .i64 (i : Nat) ∧ v = .slice (some ⟨g, 0, none⟩) i d ∧ Ss wr (some ⟨g, 0, none⟩) i d (isort (ltb ls) (ss.take i)) ∧ Aft w wr) (fun _ x _ => m - (intOf x).toNat)
  case atStart => exact ⟨0, _, 0, Nat.zero_le _, rfl, rfl, HST.out, (Aft.refl _).alloc _⟩
  case round =>
    clear HST
    obtain ⟨i, g, d, him, rfl, rfl, hs, hafw⟩ := hrel
    have hid := hs.le
    have hdm := hs.cmax
    by_cases hlt : i < m
    · obtain ⟨b, off, x, rfl, hf, h1⟩ := hb.at_ hlt
      have c1 := hafw.cell h1
      have hxs : x.size ≤ 200 := h200 x (List.mem_of_getElem? hf)
      have hys : ∀ y ∈ isort (ltb ls) (ss.take i), y.size ≤ 200 := fun y hy => h200 y (List.mem_of_mem_take (isort_mem hy))
      have HI : isort (ltb ls) (ss.take (i + 1)) = insR (ltb ls) x (isort (ltb ls) (ss.take i)) := by rw [take_next hf, isort_snoc]
      obtain ⟨S, hS⟩ : ∃ S, S = isort (ltb ls) (ss.take i) := ⟨_, rfl⟩
      rw [← hS] at hs hys HI
      have HI := Lib.hid HI
      have HLS := Lib.hid hs.len
      clear hf h1 hS
      obtain ⟨w0, hw0⟩ : ∃ w0 : World, w0 = wr := ⟨_, rfl⟩
      have haf0 : Aft w0 wr := by rw [hw0]; exact Aft.refl _
      rw [← hw0] at hs hafw
      clear hw0
      go_wp2
      go_loopw [8] (fun v wr => ∃ (k : Nat), k ≤ i ∧ v = .int .i64 (k : Nat) ∧ isort (ltb ls) (ss.take (i + 1)) = insR (ltb ls) x (S.take k) ++ S.drop k ∧ Aft w0 wr) (fun v _ => (intOf v).toNat)
      case atStart => exact ⟨i, Nat.le_refl _, rfl, by rw [HI.out, List.take_of_length_le (by rw [HLS.out]; exact Nat.le_refl _), List.drop_of_length_le (by rw [HLS.out]; exact Nat.le_refl _), List.append_nil], haf0⟩
      case round =>
        clear haf0 c1
        obtain ⟨k, hki, rfl, hR, haf⟩ := hrel
        have HR := Lib.hid hR
        clear hR
        by_cases hk : k = 0
        · subst hk
          have hfin := Lib.hid (ins_zero HR.out)
          clear HR
          rw [show (((0 : Nat)) : Int) = 0 from rfl]
          obtain ⟨wq, hwq⟩ : ∃ wq : World, wq = wr := ⟨_, rfl⟩
          subst hwq
          by_cases hcut : d = 0
          · obtain rfl : d = 0 := hcut
            obtain rfl : i = 0 := by omega
            have own0 : (wq.alloc (.cells #[] 9)).ownsRow wq.heap.size 9 1 (.slice (some ⟨wq.heap.size, 0, none⟩) 0 0) 0 [] := World.ownsRow_lit wq #[] 0 (Nat.le_refl _) (by unfold maxLen; omega) rfl
            go_wp2_with (first | (at_builtin; refine wpList_append_any rfl (.tmp 34) (.tmp 37) 39 rfl wq.heap.size 9 i0 _ 1 16 Tryd.underlying39 hi hz0 hz1 hz2 rfl (by decide) _ _ _ rfl own0 (some ⟨g, 0, none⟩) 0 0 [] rfl rfl (fun e => by cases e) (by intro ad had j u hj; simp at hj) (by intro u h; cases h) (by unfold maxLen; omega) (by omega) (by simp) ?_; intro v1 w1 own1 grow1; have A1 : Aft w0 w1 := (haf.alloc _).grown grow1 (fun r hr => by have := (own0.lt r hr).1; have := haf.size; omega)) | (at_builtin; refine wpList_append_own _ rfl (.tmp 39) (.tmp 41) 39 rfl wq.heap.size 9 i0 _ 1 16 Tryd.underlying39 hi hz0 hz1 hz2 rfl (by decide) _ _ _ rfl (own1.alloc _) ⟨w1.heap.size, 0, none⟩ 1 1 (strV [x]) rfl rfl (one_str _ _) (strV_one _) (by unfold maxLen; omega) (by omega) (by have := grow1.size; simp at this; simp; omega) ?_; intro v2 w2 own2 grow2 _; have A2 : Aft w0 w2 := (A1.alloc _).grown grow2 (fun r hr => by have := (own1.lt r hr).1; have := haf.size; omega)) | (at_builtin; refine wpList_append_any rfl (.tmp 43) (.tmp 46) 39 rfl wq.heap.size 9 i0 _ 1 16 Tryd.underlying39 hi hz0 hz1 hz2 rfl (by decide) _ _ _ rfl own2 _ _ _ [] rfl rfl (by intro e; first | exact ⟨rfl, rfl⟩ | cases e) (by intro ad _ j u h; simp at h) (by intro u h; cases h) (by unfold maxLen; omega) (by omega) (by have := grow1.size; have := grow2.size; simp at *; omega) ?_; intro v3 w3 own3 grow3))
            have A3 : Aft w0 w3 := A2.grown grow3 (fun r hr => by have := (own2.lt r hr).1; have := haf.size; omega)
            have own3' : w3.ownsRow wq.heap.size 9 1 v3 (0 + 1) (strV (isort (ltb ls) (ss.take (0 + 1)))) := by
              rw [hfin.out, List.append_cons, strV_append, strV_append]
              have e0 : S.drop 0 = [] := List.drop_of_length_le (by rw [HLS.out]; omega)
              rw [e0]
              have e1 : 0 + 1 = 0 + 0 + 1 + 0 := by omega
              rw [e1]
              simpa [strV] using own3
            obtain ⟨g3, c3, rfl, s3⟩ := own_Ss own3' (by rw [isort_len, List.length_take, HLM.out]; omega) (by omega)
            clear own0 own1 own2 own3 own3' grow1 grow2 grow3
            go_wp2
            go_roundw
            case rel => exact ⟨0 + 1, g3, c3, by omega, by go_num, rfl, s3, hafw.trans A3⟩
            case measure => simp [intOf]; omega
          · have hcut' : 0 < d := by omega
            have own0 : (wq.alloc (.cells #[] 9)).ownsRow wq.heap.size 9 1 (.slice (some ⟨wq.heap.size, 0, none⟩) 0 0) 0 [] := World.ownsRow_lit wq #[] 0 (Nat.le_refl _) (by unfold maxLen; omega) rfl
            go_wp2_with (first | (at_builtin; refine wpList_append_any rfl (.tmp 34) (.tmp 37) 39 rfl wq.heap.size 9 i0 _ 1 16 Tryd.underlying39 hi hz0 hz1 hz2 rfl (by decide) _ _ _ rfl own0 (some ⟨g, 0, none⟩) 0 d [] rfl rfl (fun e => by cases e) (by intro ad had j u hj; simp at hj) (by intro u h; cases h) (by unfold maxLen; omega) (by omega) (by simp) ?_; intro v1 w1 own1 grow1; have A1 : Aft w0 w1 := (haf.alloc _).grown grow1 (fun r hr => by have := (own0.lt r hr).1; have := haf.size; omega)) | (at_builtin; refine wpList_append_own _ rfl (.tmp 39) (.tmp 41) 39 rfl wq.heap.size 9 i0 _ 1 16 Tryd.underlying39 hi hz0 hz1 hz2 rfl (by decide) _ _ _ rfl (own1.alloc _) ⟨w1.heap.size, 0, none⟩ 1 1 (strV [x]) rfl rfl (one_str _ _) (strV_one _) (by unfold maxLen; omega) (by omega) (by have := grow1.size; simp at this; simp; omega) ?_; intro v2 w2 own2 grow2 _; have A2 : Aft w0 w2 := (A1.alloc _).grown grow2 (fun r hr => by have := (own1.lt r hr).1; have := haf.size; omega)) | (at_builtin; refine wpList_append_any rfl (.tmp 43) (.tmp 46) 39 rfl wq.heap.size 9 i0 _ 1 16 Tryd.underlying39 hi hz0 hz1 hz2 rfl (by decide) _ _ _ rfl own2 (some ⟨g, 0, none⟩) i d (strV S) rfl (by simp [strV, HLS.out]) (fun e => by cases e) (by intro ad had j u hj; cases had; exact take_cells (k := i) (hs.aft A2) j u (by rw [List.take_of_length_le (by rw [HLS.out]; exact Nat.le_refl _)]; exact hj)) (strV_one _) (by unfold maxLen; omega) (by omega) (by have := grow1.size; have := grow2.size; simp at *; omega) ?_; intro v3 w3 own3 grow3))
            have A3 : Aft w0 w3 := A2.grown grow3 (fun r hr => by have := (own2.lt r hr).1; have := haf.size; omega)
            have own3' : w3.ownsRow wq.heap.size 9 1 v3 (i + 1) (strV (isort (ltb ls) (ss.take (i + 1)))) := by
              rw [hfin.out, List.append_cons, strV_append, strV_append]
              have e1 : i + 1 = 0 + 0 + 1 + i := by omega
              rw [e1]
              simpa [strV] using own3
            obtain ⟨g3, c3, rfl, s3⟩ := own_Ss own3' (by rw [isort_len, List.length_take, HLM.out]; omega) (by omega)
            clear own0 own1 own2 own3 own3' grow1 grow2 grow3
            go_wp2
            go_roundw
            case rel => exact ⟨i + 1, g3, c3, by omega, by go_num, rfl, s3, hafw.trans A3⟩
            case measure => simp [intOf]; omega
        · obtain ⟨y, hy⟩ : ∃ y, S[k - 1]? = some y := ⟨_, List.getElem?_eq_getElem (show k - 1 < S.length by rw [HLS.out]; omega)⟩
          have hyz : y.size ≤ 200 := hys y (List.mem_of_getElem? hy)
          have cy := hs.cell0 hy
          have cy' := haf.cell cy
          have hcmp : ∀ W, Aft w0 W → Calls Tryd.prog 28 #[.slice A n c, .string y, .string x] W (fun e w' => e = .returned (.int .i64 (cmpL ls y x)) ∧ Aft w0 w') := fun W h => by
            have := refCompare_any A n c ls y x W (ha.aft (hafw.trans h)) hyz hxs
            rw [← cmpL_runes] at this
            exact this.mono fun e w' ⟨h1, h2⟩ => ⟨h1, h.trans h2⟩
          have hneg := ord_neg ls x y
          have HY := Lib.hid hy
          clear hy cy
          have g1 : (0 : Int) < (k : Int) := by omega
          have g1' : 0 < k := by omega
          have g4 : (1 : Int) ≤ (k : Int) := by omega
          have g5 : (0 : Int) ≤ (k : Int) - 1 := by omega
          have g6 : (k : Int) - 1 < (i : Int) := by omega
          have g7 : ((k : Int) - 1).toNat = k - 1 := by omega
          have g8 : IntKind.i64.wrap ((k : Int) - 1) = (k : Int) - 1 := wrap_small _ (by omega) (by omega)
          have g9 : 1 ≤ k := by omega
          cases hl : ltb ls x y
          · have hc : ¬ (0 : Int) < cmpL ls y x := by
              have := of_decide_eq_false hl
              omega
            have hfin := Lib.hid (ins_stop g1' HR.out HY.out hl)
            generalize cmpL ls y x = C at *
            have HC := Lib.hid hcmp
            clear hneg HR hcmp
            go_wp2_with fail
            refine (HC.out _ haf).mono ?_
            clear haf HC
            rintro e wq ⟨rfl, haf⟩
            by_cases hcut : d = k
            · subst hcut
              have hdi : d = i := by omega
              subst hdi
              have own0 : (wq.alloc (.cells #[] 9)).ownsRow wq.heap.size 9 1 (.slice (some ⟨wq.heap.size, 0, none⟩) 0 0) 0 [] := World.ownsRow_lit wq #[] 0 (Nat.le_refl _) (by unfold maxLen; omega) rfl
              go_wp2_with (first | (at_builtin; refine wpList_append_any rfl (.tmp 34) (.tmp 37) 39 rfl wq.heap.size 9 i0 _ 1 16 Tryd.underlying39 hi hz0 hz1 hz2 rfl (by decide) _ _ _ rfl own0 (some ⟨g, 0, none⟩) d d (strV (S.take d)) rfl (by simp [strV, HLS.out] <;> omega) (fun e => by cases e) (by intro ad had j u hj; cases had; exact take_cells (hs.aft (haf.alloc _)) j u hj) (strV_one _) (by unfold maxLen; omega) (by omega) (by simp) ?_; intro v1 w1 own1 grow1; have A1 : Aft w0 w1 := (haf.alloc _).grown grow1 (fun r hr => by have := (own0.lt r hr).1; have := haf.size; omega)) | (at_builtin; refine wpList_append_own _ rfl (.tmp 39) (.tmp 41) 39 rfl wq.heap.size 9 i0 _ 1 16 Tryd.underlying39 hi hz0 hz1 hz2 rfl (by decide) _ _ _ rfl (own1.alloc _) ⟨w1.heap.size, 0, none⟩ 1 1 (strV [x]) rfl rfl (one_str _ _) (strV_one _) (by unfold maxLen; omega) (by omega) (by have := grow1.size; simp at this; simp; omega) ?_; intro v2 w2 own2 grow2 _; have A2 : Aft w0 w2 := (A1.alloc _).grown grow2 (fun r hr => by have := (own1.lt r hr).1; have := haf.size; omega)) | (at_builtin; refine wpList_append_any rfl (.tmp 43) (.tmp 46) 39 rfl wq.heap.size 9 i0 _ 1 16 Tryd.underlying39 hi hz0 hz1 hz2 rfl (by decide) _ _ _ rfl own2 _ _ _ [] rfl rfl (by intro e; first | exact ⟨rfl, rfl⟩ | cases e) (by intro ad _ j u h; simp at h) (by intro u h; cases h) (by unfold maxLen; omega) (by omega) (by have := grow1.size; have := grow2.size; simp at *; omega) ?_; intro v3 w3 own3 grow3))
              have A3 : Aft w0 w3 := A2.grown grow3 (fun r hr => by have := (own2.lt r hr).1; have := haf.size; omega)
              have own3' : w3.ownsRow wq.heap.size 9 1 v3 (d + 1) (strV (isort (ltb ls) (ss.take (d + 1)))) := by
                rw [hfin.out, List.append_cons, strV_append, strV_append]
                have e0 : S.drop d = [] := List.drop_of_length_le (by rw [HLS.out]; omega)
                rw [e0]
                have e1 : d + 1 = 0 + d + 1 + 0 := by omega
                rw [e1]
                simpa [strV] using own3
              obtain ⟨g3, c3, rfl, s3⟩ := own_Ss own3' (by rw [isort_len, List.length_take, HLM.out]; omega) (by omega)
              clear own0 own1 own2 own3 own3' grow1 grow2 grow3
              go_wp2
              go_roundw
              case rel => exact ⟨d + 1, g3, c3, by omega, by go_num, rfl, s3, hafw.trans A3⟩
              case measure => simp [intOf]; omega
            · have hcut' : k < d := by omega
              have own0 : (wq.alloc (.cells #[] 9)).ownsRow wq.heap.size 9 1 (.slice (some ⟨wq.heap.size, 0, none⟩) 0 0) 0 [] := World.ownsRow_lit wq #[] 0 (Nat.le_refl _) (by unfold maxLen; omega) rfl
              go_wp2_with (first | (at_builtin; refine wpList_append_any rfl (.tmp 34) (.tmp 37) 39 rfl wq.heap.size 9 i0 _ 1 16 Tryd.underlying39 hi hz0 hz1 hz2 rfl (by decide) _ _ _ rfl own0 (some ⟨g, 0, none⟩) k d (strV (S.take k)) rfl (by simp [strV, HLS.out] <;> omega) (fun e => by cases e) (by intro ad had j u hj; cases had; exact take_cells (hs.aft (haf.alloc _)) j u hj) (strV_one _) (by unfold maxLen; omega) (by omega) (by simp) ?_; intro v1 w1 own1 grow1; have A1 : Aft w0 w1 := (haf.alloc _).grown grow1 (fun r hr => by have := (own0.lt r hr).1; have := haf.size; omega)) | (at_builtin; refine wpList_append_own _ rfl (.tmp 39) (.tmp 41) 39 rfl wq.heap.size 9 i0 _ 1 16 Tryd.underlying39 hi hz0 hz1 hz2 rfl (by decide) _ _ _ rfl (own1.alloc _) ⟨w1.heap.size, 0, none⟩ 1 1 (strV [x]) rfl rfl (one_str _ _) (strV_one _) (by unfold maxLen; omega) (by omega) (by have := grow1.size; simp at this; simp; omega) ?_; intro v2 w2 own2 grow2 _; have A2 : Aft w0 w2 := (A1.alloc _).grown grow2 (fun r hr => by have := (own1.lt r hr).1; have := haf.size; omega)) | (at_builtin; refine wpList_append_any rfl (.tmp 43) (.tmp 46) 39 rfl wq.heap.size 9 i0 _ 1 16 Tryd.underlying39 hi hz0 hz1 hz2 rfl (by decide) _ _ _ rfl own2 _ (i - k) (d - k) (strV (S.drop k)) rfl (by simp [strV, HLS.out]) (fun e => by cases e) (by intro ad had j u hj; cases had; exact drop_cells (hs.aft A2) j u hj) (strV_one _) (by unfold maxLen; omega) (by omega) (by have := grow1.size; have := grow2.size; simp at *; omega) ?_; intro v3 w3 own3 grow3))
              have A3 : Aft w0 w3 := A2.grown grow3 (fun r hr => by have := (own2.lt r hr).1; have := haf.size; omega)
              have own3' : w3.ownsRow wq.heap.size 9 1 v3 (i + 1) (strV (isort (ltb ls) (ss.take (i + 1)))) := by
                rw [hfin.out, List.append_cons, strV_append, strV_append]
                have e1 : i + 1 = 0 + k + 1 + (i - k) := by omega
                rw [e1]
                simpa [strV] using own3
              obtain ⟨g3, c3, rfl, s3⟩ := own_Ss own3' (by rw [isort_len, List.length_take, HLM.out]; omega) (by omega)
              clear own0 own1 own2 own3 own3' grow1 grow2 grow3
              go_wp2
              go_roundw
              case rel => exact ⟨i + 1, g3, c3, by omega, by go_num, rfl, s3, hafw.trans A3⟩
              case measure => simp [intOf]; omega
          · have hc : (0 : Int) < cmpL ls y x := by
              have := of_decide_eq_true hl
              omega
            have hnx := Lib.hid (ins_step g1' HR.out HY.out hl)
            generalize cmpL ls y x = C at *
            have hk1 : Value.int .i64 ((k : Int) - 1) = .int .i64 ((k - 1 : Nat) : Int) := by congr 1; omega
            have HK1 := Lib.hid hk1
            have HC := Lib.hid hcmp
            clear hneg HR hk1 hcmp
            go_wp2_with fail
            refine (HC.out _ haf).mono ?_
            clear haf HC
            rintro e wq ⟨rfl, haf⟩
            go_wp2
            go_roundw
            case rel => exact ⟨k - 1, by omega, HK1.out, hnx.out, haf⟩
            case measure => simp [intOf]; omega
    · obtain rfl : i = m := by omega
      go_wp2
      go_ret
      exact ⟨⟨_, _, _, rfl, by rw [List.take_of_length_le (by rw [HLM.out]; exact Nat.le_refl _)] at hs; exact hs⟩, hafw⟩
end Go.Proofs.YtgnhkacndmdfgaaDoor
