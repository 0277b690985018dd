/-
  The reference's All. Condition: the slice holds the dimensions.
-/
import Derived.Test.YtallloempmmgpaaAllTakeW
import Derived.Test.YtallloempmmgpaaAllRefD
namespace Go.Proofs.Ytallloempmmgpaa
open Go.RowKit
open FeatPlain

/-- The value v is a row of records. -/
def RowR (W : World) (base : Nat) (v : Value) (L : List (List Ft)) : Prop := ∃ rs : List Rc, rs.map (·.2) = L ∧ W.ownsRow base 31 1 v L.length (rs.map (·.1)) ∧ ∀ x ∈ rs, Rec W x
theorem RowR.base {W : World} {base base' : Nat} {v : Value} {L : List (List Ft)} (h : RowR W base v L) (hb : base' ≤ base) : RowR W base' v L := by
  obtain ⟨rs, h1, h2, h3⟩ := h
  exact ⟨rs, h1, row_base h2 hb, h3⟩
theorem RowR.slice {W : World} {base : Nat} {v : Value} {L : List (List Ft)} (h : RowR W base v L) : ∃ a c, v = .slice a L.length c := by
  obtain ⟨rs, h1, h2, h3⟩ := h
  rcases h2.2 with ⟨rfl, h0⟩ | ⟨g, cap, cur, rfl, _⟩
  · exact ⟨none, 0, by rw [h0]⟩
  · exact ⟨_, _, rfl⟩
theorem RowR.sls {W : World} {base : Nat} {a : Option Addr} {n c : Nat} {L : List (List Ft)} (h : RowR W base (.slice a n c) L) (hn : L.length = n) : Sls W a n c L := by
  obtain ⟨rs, h1, h2, h3⟩ := h
  subst h1
  rw [hn] at h2
  have h2' := h2
  rcases h2.2 with ⟨e, e0⟩ | ⟨g, cap, cur, e, _, _, hle, hc, _⟩
  · obtain ⟨rfl, _, rfl⟩ := Value.slice.inj e
    exact ⟨hn, by omega, by omega, fun _ => rfl, fun i fs hi => by have := (List.getElem?_eq_some_iff.1 hi).1; omega⟩
  · obtain ⟨rfl, _, rfl⟩ := Value.slice.inj e
    refine ⟨hn, hle, by unfold maxLen at hc; omega, fun e => (by cases e), fun i fs hi => ?_⟩
    have hlt : i < n := by have := (List.getElem?_eq_some_iff.1 hi).1; omega
    rw [List.getElem?_map] at hi
    obtain ⟨x, hx, rfl⟩ := Option.map_eq_some_iff.1 hi
    obtain ⟨A, m, d, e1, s, hm, _⟩ := h3 x (List.mem_of_getElem? hx)
    refine ⟨g, 0, A, m, d, rfl, ?_, s, hm⟩
    rw [Nat.zero_add, h2'.cellAt _ (by omega), List.getElem?_map, hx, ← e1]
    rfl
theorem RowR.push {wr w2 w3 : World} {base nl : Nat} {v v' : Value} {L : List (List Ft)} {l : List Ft} {pA : Option Addr} {pn pc : Nat} {xs : List Value} {o : Obj} (h : RowR wr base v L ∧ L.length = nl ∧ wr.ownsRow base 31 1 v nl xs) (hA : Aft wr w2) (hs : Sl w2 pA pn pc l) (hb : ∀ r, (Value.slice pA pn pc).ownBlock = some r → ∃ cur, w2.heap[r]? = some (.cells cur 30 (0, 0))) (hpn : l.length ≤ 4)
    (ownN : w2.ownsRow base 31 1 v nl xs) (own3 : w3.ownsRow base 31 1 v' (nl + 1) (xs ++ [.slice pA pn pc])) (grow3 : (w2.alloc o).grownBy w3 v.ownBlock) : RowR w3 base v' (L ++ [l]) := by
  obtain ⟨⟨rs, h1, h2, h3⟩, h4, h5⟩ := h
  have hxs : xs = rs.map (·.1) := by
    rw [h4] at h2
    rcases h2.2 with ⟨e, e0⟩ | ⟨g, cap, cur, e, _, e3, _, _, _, e7⟩
    · have a1 := h5.1; have a2 := h2.1
      rw [e0] at a1 a2
      rw [List.length_eq_zero_iff.1 (by omega : xs.length = 0), List.length_eq_zero_iff.1 (by omega : (rs.map (·.1)).length = 0)]
    · rcases h5.2 with ⟨e', _⟩ | ⟨g', cap', cur', e', _, e3', _, _, _, e7'⟩
      · rw [e] at e'; cases e'
      · rw [e] at e'
        cases e'
        rw [e3] at e3'
        cases e3'
        rw [← e7, ← e7']
  have k : Chg [31] 0 w2 w3 := (Chg.of_aft ((Aft.refl w2).alloc o) (Nat.zero_le _)).trans (Chg.of_grown grow3 (Nat.zero_le _) (fun r e => ⟨Nat.zero_le _, fun cur t ht => by rw [(row_type (ownN.alloc o) r e).2 cur t ht]; simp⟩))
  refine ⟨rs ++ [(.slice pA pn pc, l)], by rw [List.map_append, h1]; rfl, ?_, fun x hx => ?_⟩
  · rw [List.length_append, h4, List.map_append, ← hxs]; exact own3
  · rcases List.mem_append.1 hx with hx | hx
    · exact ((h3 x hx).aft hA).chg k (by decide)
    · rw [List.mem_singleton.1 hx]
      exact Rec.chg ⟨pA, pn, pc, rfl, hs, by have := hs.len; omega, hb⟩ k (by decide)

def st (ds : List Dm) (k : Nat) : List (List Ft) := (ds.take k).foldl stepA [[]]
theorem st_next {ds : List Dm} {k : Nat} {d : Dm} (h : ds[k]? = some d) : st ds (k + 1) = stepA (st ds k) d := by
  unfold st
  rw [take_next h, List.foldl_append]
  rfl
theorem st_length {ds : List Dm} (h : dimsB ds = true) (k : Nat) : (st ds k).length ≤ 4096 := by
  unfold st
  rw [ref_all]
  simp only [dimsB, Bool.and_eq_true, decide_eq_true_eq, List.all_eq_true, dimOk] at h
  have h1 := allR_length (ds.take k) [] (fun d hd => (h.2.1 d (List.mem_of_mem_take hd)).2.1)
  have h2 : 8 ^ (ds.take k).length ≤ 8 ^ 4 := Nat.pow_le_pow_right (by omega) (by rw [List.length_take]; omega)
  omega
theorem put_length (f : Ft) : ∀ l : List Ft, (put f l).length = l.length + 1
  | [] => rfl
  | g :: l => by
    rw [put]
    split
    · rw [List.length_cons, put_length f l, List.length_cons]
    · rfl
theorem stepA_mem {L : List (List Ft)} {d : Dm} {k : Nat} (h : ∀ r ∈ L, r.length ≤ k) : ∀ r ∈ stepA L d, r.length ≤ k + 1 := by
  intro r hr
  obtain ⟨x, hx, hr⟩ := List.mem_flatMap.1 hr
  obtain ⟨s, _, rfl⟩ := List.mem_map.1 hr
  rw [put_length]
  exact Nat.succ_le_succ (h x hx)
theorem st_mem (ds : List Dm) : ∀ k, k ≤ ds.length → ∀ r ∈ st ds k, r.length ≤ k
  | 0, _ => by intro r hr; simp [st] at hr; simp [hr]
  | k + 1, hk => by
    rw [st_next (List.getElem?_eq_getElem (by omega))]
    exact stepA_mem (st_mem ds k (by omega))
/-- What is there of the next list. -/
def nxt (L : List (List Ft)) (d : Dm) (k t : Nat) (r : List Ft) : List (List Ft) := stepA (L.take k) d ++ (d.2.take t).map fun s => put (d.1, s) r
theorem stepA_length : ∀ (L : List (List Ft)) (d : Dm), (stepA L d).length = L.length * d.2.length
  | [], d => by simp [stepA]
  | x :: L, d => by
    have := stepA_length L d
    unfold stepA at this ⊢
    rw [List.flatMap_cons, List.length_append, this, List.length_map, List.length_cons, Nat.succ_mul, Nat.add_comm]
theorem nxt_length (L : List (List Ft)) (d : Dm) (k t : Nat) (r : List Ft) (hL : L.length ≤ 4096) (hd : d.2.length ≤ 8) : (nxt L d k t r).length ≤ 32776 := by
  unfold nxt
  rw [List.length_append, stepA_length, List.length_map, List.length_take, List.length_take]
  have := Nat.mul_le_mul (show min k L.length ≤ 4096 by omega) hd
  omega
theorem nxt_zero (L : List (List Ft)) (d : Dm) (k : Nat) (r : List Ft) : nxt L d k 0 r = stepA (L.take k) d := by simp [nxt]
theorem nxt_push {L : List (List Ft)} {d : Dm} {k t : Nat} {r : List Ft} {s : ByteArray} (h : d.2[t]? = some s) : nxt L d k t r ++ [put (d.1, s) r] = nxt L d k (t + 1) r := by
  unfold nxt
  rw [take_next h, List.map_append, List.append_assoc]; rfl
theorem nxt_full {L : List (List Ft)} {d : Dm} {k : Nat} {r : List Ft} (h : L[k]? = some r) : nxt L d k d.2.length r = stepA (L.take (k + 1)) d := by
  unfold nxt
  rw [take_next h, List.take_length]
  unfold stepA
  rw [List.flatMap_append]
  simp
theorem RowR.aft {W W' : World} {base : Nat} {v : Value} {L : List (List Ft)} (h : RowR W base v L) (k : Aft W W') : RowR W' base v L := by
  obtain ⟨rs, h1, h2, h3⟩ := h
  exact ⟨rs, h1, (Chg.of_aft (ts := []) (B := 0) k (Nat.zero_le _)).row h2 (by simp), fun x hx => (h3 x hx).aft k⟩
theorem RowR.nil {W : World} {base : Nat} (hb : base ≤ W.heap.size) : RowR (W.alloc (.cells #[] 31)) base (.slice (some ⟨W.heap.size, 0, none⟩) 0 0) [] := by
  refine ⟨[], rfl, ?_, fun x hx => by cases hx⟩
  exact row_base (World.ownsRow_lit (base := W.heap.size) (e := 31) (size := 1) W #[] 0 (by simp) (by unfold maxLen; omega) rfl) hb
theorem RowR.own {W : World} {base : Nat} {v : Value} {L : List (List Ft)} (h : RowR W base v L) : ∃ xs, W.ownsRow base 31 1 v L.length xs := by
  obtain ⟨rs, h1, h2, h3⟩ := h
  exact ⟨_, h2⟩
theorem RowR.one (w : World) : RowR ((w.alloc (.cells #[] 30)).alloc (.cells #[.slice (some ⟨w.heap.size, 0, none⟩) 0 0] 31)) w.heap.size (.slice (some ⟨w.heap.size + 1, 0, none⟩) 1 1) [[]] := by
  refine ⟨[(.slice (some ⟨w.heap.size, 0, none⟩) 0 0, [])], rfl, ?_, fun x hx => ?_⟩
  · have := World.ownsRow_lit (base := w.heap.size + 1) (e := 31) (size := 1) (w.alloc (.cells #[] 30)) #[.slice (some ⟨w.heap.size, 0, none⟩) 0 0] 1 (by simp) (by unfold maxLen; omega) rfl
    rw [World.size_alloc] at this
    exact row_base this (Nat.le_succ _)
  · rw [List.mem_singleton.1 hx]
    refine ⟨_, _, _, rfl, ⟨rfl, Nat.le_refl _, by omega, by omega, fun e => (by cases e), fun i f hi => by cases hi⟩, by omega, fun r hr => ?_⟩
    cases hr
    exact ⟨#[], (Below.heap_alloc _ _ _ (by simp)).trans (World.alloc_heap_new _ _)⟩

set_option maxRecDepth 100000 in
set_option maxHeartbeats 3200000 in
theorem refAll_any (A : Option Addr) (n c : Nat) (ds : List Dm) (w : World) (ha : Dd w A n c ds) :
    Calls Try.prog 5 #[.slice A n c] w (TakePost w (allD ds)) := by
  have hn := ha.max
  have hnc := ha.le
  have hcm := ha.cmax
  have hlen := Lib.hid ha.len
  have hD := refDims_any A n c ds w ha
  obtain ⟨i0, hi, hz0, hz1, hz2⟩ := info_parts Try.infoR
  cases hv : dimsB ds
  · rw [hv] at hD
    have he := Lib.hid (show allD ds = [] by simp [allD, hv])
    clear hv
    go_enter Try.func5, Try.ntmps5
    go_wp2_with fail
    refine hD.mono ?_
    rintro e1 w1 ⟨rfl, A1⟩
    clear hD
    go_wp2
    go_ret
    exact ⟨⟨_, _, _, rfl, by rw [he.out]; exact ⟨rfl, Nat.le_refl _, by omega, fun _ => rfl, fun i fs h => by cases h⟩⟩, A1⟩
  · rw [hv] at hD
    have HV := Lib.hid hv
    have hn4 : n ≤ 4 := by
      have := hv
      simp only [dimsB, Bool.and_eq_true, decide_eq_true_eq] at this
      rw [← hlen.out]; exact this.1
    have hd8 : ∀ d ∈ ds, d.2.length ≤ 8 := by
      have := hv
      simp only [dimsB, Bool.and_eq_true, decide_eq_true_eq, List.all_eq_true, dimOk] at this
      exact fun d hd => (this.2.1 d hd).2.1
    have HD8 := Lib.hid hd8
    clear hv hd8
    go_enter Try.func5, Try.ntmps5
    go_wp2_with fail
    refine hD.mono ?_
    rintro e1 w1 ⟨rfl, A1⟩
    clear hD
    have HR1 := Lib.hid (RowR.one w1)
    have A1b : Aft w ((w1.alloc (.cells #[] 30)).alloc (.cells #[.slice (some ⟨w1.heap.size, 0, none⟩) 0 0] 31)) := (A1.alloc _).alloc _
    go_wp2
    go_loopw [3, 4] (fun v i wr => ∃ k, k ≤ n ∧ i = .int .i64 (k : Nat) ∧ RowR wr w.heap.size v (st ds k) ∧ Aft w wr) (fun _ i _ => n - (intOf i).toNat)
    case atStart => exact ⟨0, Nat.zero_le _, rfl, HR1.out.base A1.size, A1b⟩
    case round =>
      obtain ⟨k, hk, rfl, hrow, haf⟩ := hrel
      obtain ⟨oa, oc, rfl⟩ := hrow.slice
      have HROW := Lib.hid hrow
      clear hrow
      by_cases hlt : k < n
      · obtain ⟨b, off, B, m, e, d, rfl, hf, c10, c20, hs⟩ := ha.at_ hlt
        have C2 := haf.cell c10
        have C3 := haf.cell c20
        clear c10 c20
        have hsW := hs.aft haf
        have hml := Lib.hid hs.len
        have hme := hs.le
        have hmc := hs.cmax
        have HF := Lib.hid hf
        have hm8 : m ≤ 8 := by have := HD8.out d (List.mem_of_getElem? hf); rw [hml.out] at this; exact this
        clear hf
        have hL := st_length HV.out k
        have hLm := Lib.hid (st_mem ds k (by rw [hlen.out]; exact hk))
        obtain ⟨L, hLe⟩ : ∃ L, L = st ds k := ⟨_, rfl⟩
        obtain ⟨nL, hnL⟩ : ∃ nL, nL = L.length := ⟨_, rfl⟩
        have HLE := Lib.hid hLe
        have HNL := Lib.hid hnL
        have hsls := Lib.hid (RowR.sls (HROW.out) rfl)
        rw [← hLe] at hL hLm hsls HROW ⊢
        rw [← hnL] at hL hsls HROW ⊢
        clear hLe hnL
        have hr0 := Lib.hid (RowR.nil (W := wr) (Nat.le_refl _))
        have hoc : nL ≤ oc := hsls.out.le
        have hocm := hsls.out.cmax
        obtain ⟨Wb, rfl⟩ : ∃ Wb, Wb = wr := ⟨wr, rfl⟩
        have AWb : Aft Wb (Wb.alloc (.cells #[] 31)) := (Aft.refl _).alloc _
        have HR0 := Lib.hid (show RowR (Wb.alloc (.cells #[] 31)) Wb.heap.size (.slice (some ⟨Wb.heap.size, 0, none⟩) 0 0) (stepA (L.take 0) d) from hr0.out)
        clear hr0
        go_wp2
        go_loopw [5, 6] (fun v i wr => ∃ k2, k2 ≤ nL ∧ i = .int .i64 (k2 : Nat) ∧ RowR wr Wb.heap.size v (stepA (L.take k2) d) ∧ Aft Wb wr) (fun _ i _ => nL - (intOf i).toNat)
        case atStart => exact ⟨0, Nat.zero_le _, rfl, HR0.out, AWb⟩
        case round =>
          clear HR0 AWb
          obtain ⟨k2, hk2, rfl, hrow2, haf2⟩ := hrel
          obtain ⟨na, nc, rfl⟩ := hrow2.slice
          have HROW2 := Lib.hid hrow2
          clear hrow2
          by_cases hlt2 : k2 < nL
          · obtain ⟨bo, oo, rA, rn, rc, r, rfl, hr, C1, hrs, hr4⟩ := hsls.out.at_ hlt2
            have HR := Lib.hid hr
            have hrl := Lib.hid (show r.length + 1 ≤ 4 by have := hLm.out r (List.mem_of_getElem? hr); omega)
            clear hr
            have HR3 := Lib.hid (show RowR wr Wb.heap.size (.slice na (stepA (L.take k2) d).length nc) (nxt L d k2 0 r) by rw [nxt_zero]; exact HROW2.out)
            clear HROW2
            go_wp2
            go_loopw [5, 7] (fun v i wr => ∃ t, t ≤ m ∧ i = .int .i64 (t : Nat) ∧ RowR wr Wb.heap.size v (nxt L d k2 t r) ∧ Aft Wb wr) (fun _ i _ => m - (intOf i).toNat)
            case atStart => exact ⟨0, Nat.zero_le _, rfl, HR3.out, haf2⟩
            case round =>
              clear HR3 haf2
              obtain ⟨t, ht, rfl, hrow3, AB⟩ := hrel
              have D2 := AB.cell C2
              have D3 := AB.cell C3
              by_cases hlt3 : t < m
              · obtain ⟨bx, ox, s, rfl, hst, C4⟩ := hsW.at_ hlt3
                have HST := Lib.hid hst
                clear hst
                obtain ⟨M, hM⟩ : ∃ M, M = nxt L d k2 t r := ⟨_, rfl⟩
                have hM8 : M.length ≤ 32776 := by rw [hM]; exact nxt_length L d k2 t r (by rw [← HNL.out]; exact hL) (by rw [hml.out]; exact hm8)
                have HM := Lib.hid (show nxt L d k2 (t + 1) r = M ++ [put (d.1, s) r] by rw [hM, nxt_push HST.out])
                rw [← hM] at hrow3
                clear hM
                obtain ⟨nl, hnl⟩ : ∃ nl, nl = M.length := ⟨_, rfl⟩
                have HNLM := Lib.hid hnl.symm
                have hnl8 : nl ≤ 32776 := by rw [hnl]; exact hM8
                obtain ⟨xs, hown⟩ := hrow3.own
                rw [← hnl] at hown
                have HOW := Lib.hid hown
                have HRR := Lib.hid (show RowR wr Wb.heap.size _ M ∧ M.length = nl ∧ wr.ownsRow Wb.heap.size 31 1 _ nl xs from ⟨hrow3, hnl.symm, hown⟩)
                obtain ⟨va, vc, rfl⟩ := hrow3.slice
                rw [← hnl] at HOW HRR ⊢
                have hwb := AB.size
                have hpn : (put (d.1, s) r).length ≤ 4 := by rw [put_length]; exact hrl.out
                have HPN := Lib.hid hpn
                clear hpn hnl hrow3 hown hM8
                go_wp2
                refine wp_region_held_drew (S := fun w' => w'.cell? ⟨bo, oo + k2, none⟩ = some (.slice rA rn rc) ∧ w'.cell? ⟨b, off + k * 2, none⟩ = some (.string d.1) ∧ w'.cell? ⟨b, off + k * 2 + 1, none⟩ = some (.slice (some ⟨bx, ox, none⟩) m e) ∧ w'.cell? ⟨bx, ox + t, none⟩ = some (.string s)) (by kernel_rfl) (⟨AB.cell C1, AB.cell C2, AB.cell C3, AB.cell C4⟩) (fun hHeld => ?_)
                refine take_on (i := 0) (v := ?v1) rfl (by kernel_rfl) (by kernel_rfl) (by kernel_rfl) (fun _ _ _ h => h) (by rfl) (by assumption) ?y1 ?_
                case y1 => (intro w hSw; (try dsimp only at hSw); go_simp; (try with_reducible rfl))
                try simp only [Act.put, List.setIfInBounds_toArray, List.set_cons_zero, List.set_cons_succ]
                refine take_on (i := 1) (v := ?v2) rfl (by kernel_rfl) (by kernel_rfl) (by kernel_rfl) (fun _ _ _ h => h) (by rfl) (by assumption) ?y2 ?_
                case y2 => (intro w hSw; (try dsimp only at hSw); go_simp; (try with_reducible rfl))
                try simp only [Act.put, List.setIfInBounds_toArray, List.set_cons_zero, List.set_cons_succ]
                refine take_on (i := 2) (v := ?v3) rfl (by kernel_rfl) (by kernel_rfl) (by kernel_rfl) (fun _ _ _ h => h) (by rfl) (by assumption) ?y3 ?_
                case y3 => (intro w hSw; (try dsimp only at hSw); go_simp; (try with_reducible rfl))
                try simp only [Act.put, List.setIfInBounds_toArray, List.set_cons_zero, List.set_cons_succ]
                refine take_on (i := 3) (v := ?v4) rfl (by kernel_rfl) (by kernel_rfl) (by kernel_rfl) (fun _ _ _ h => h) (by rfl) (by assumption) ?y4 ?_
                case y4 => (intro w hSw; (try dsimp only at hSw); go_simp; (try with_reducible rfl))
                try simp only [Act.put, List.setIfInBounds_toArray, List.set_cons_zero, List.set_cons_succ]
                refine take_on (i := 4) (v := ?v5) rfl (by kernel_rfl) (by kernel_rfl) (by kernel_rfl) (fun _ _ _ h => h) (by rfl) (by assumption) ?y5 ?_
                case y5 => (intro w hSw; (try dsimp only at hSw); go_simp; (try with_reducible rfl))
                try simp only [Act.put, List.setIfInBounds_toArray, List.set_cons_zero, List.set_cons_succ]
                refine take_on (i := 5) (v := ?v6) rfl (by kernel_rfl) (by kernel_rfl) (by kernel_rfl) (fun _ _ _ h => h) (by rfl) (by assumption) ?y6 ?_
                case y6 => (intro w hSw; (try dsimp only at hSw); go_simp; (try with_reducible rfl))
                try simp only [Act.put, List.setIfInBounds_toArray, List.set_cons_zero, List.set_cons_succ]
                refine take_on (i := 6) (v := ?v7) rfl (by kernel_rfl) (by kernel_rfl) (by kernel_rfl) (fun _ _ _ h => h) (by rfl) (by assumption) ?y7 ?_
                case y7 => (intro w hSw; (try dsimp only at hSw); go_simp; (try with_reducible rfl))
                try simp only [Act.put, List.setIfInBounds_toArray, List.set_cons_zero, List.set_cons_succ]
                refine take_on (i := 7) (v := ?v8) rfl (by kernel_rfl) (by kernel_rfl) (by kernel_rfl) (fun _ _ _ h => h) (by rfl) (by assumption) ?y8 ?_
                case y8 => (intro w hSw; (try dsimp only at hSw); go_simp; (try with_reducible rfl))
                try simp only [Act.put, List.setIfInBounds_toArray, List.set_cons_zero, List.set_cons_succ]
                refine take_on (i := 8) (v := ?v9) rfl (by kernel_rfl) (by kernel_rfl) (by kernel_rfl) (fun _ _ _ h => h) (by rfl) (by assumption) ?y9 ?_
                case y9 => (intro w hSw; (try dsimp only at hSw); go_simp; (try with_reducible rfl))
                try simp only [Act.put, List.setIfInBounds_toArray, List.set_cons_zero, List.set_cons_succ]
                refine take_on (i := 9) (v := ?v10) rfl (by kernel_rfl) (by kernel_rfl) (by kernel_rfl) (fun _ _ _ h => h) (by rfl) (by assumption) ?y10 ?_
                case y10 => (intro w hSw; (try dsimp only at hSw); go_simp; (try with_reducible rfl))
                try simp only [Act.put, List.setIfInBounds_toArray, List.set_cons_zero, List.set_cons_succ]
                refine take_on (i := 10) (v := ?v11) rfl (by kernel_rfl) (by kernel_rfl) (by kernel_rfl) (fun _ _ _ h => h) (by rfl) (by assumption) ?y11 ?_
                case y11 => (intro w hSw; (try dsimp only at hSw); go_simp; (try with_reducible rfl))
                try simp only [Act.put, List.setIfInBounds_toArray, List.set_cons_zero, List.set_cons_succ]
                refine take_on (i := 11) (v := ?v12) rfl (by kernel_rfl) (by kernel_rfl) (by kernel_rfl) (fun _ _ _ h => h) (by rfl) (by assumption) ?y12 ?_
                case y12 => (intro w hSw; (try dsimp only at hSw); go_simp; (try with_reducible rfl))
                try simp only [Act.put, List.setIfInBounds_toArray, List.set_cons_zero, List.set_cons_succ]
                refine take_on (i := 12) (v := ?v13) rfl (by kernel_rfl) (by kernel_rfl) (by kernel_rfl) (fun _ _ _ h => h) (by rfl) (by assumption) ?y13 ?_
                case y13 => (intro w hSw; (try dsimp only at hSw); go_simp; (try with_reducible rfl))
                try simp only [Act.put, List.setIfInBounds_toArray, List.set_cons_zero, List.set_cons_succ]
                refine take_on (i := 13) (v := ?v14) rfl (by kernel_rfl) (by kernel_rfl) (by kernel_rfl) (fun _ _ _ h => h) (by rfl) (by assumption) ?y14 ?_
                case y14 => (intro w hSw; (try dsimp only at hSw); go_simp; (try with_reducible rfl))
                try simp only [Act.put, List.setIfInBounds_toArray, List.set_cons_zero, List.set_cons_succ]
                refine take_on (i := 14) (v := ?v15) rfl (by kernel_rfl) (by kernel_rfl) (by kernel_rfl) (fun _ _ _ h => h) (by rfl) (by assumption) ?y15 ?_
                case y15 => (intro w hSw; (try dsimp only at hSw); go_simp; (try with_reducible rfl))
                try simp only [Act.put, List.setIfInBounds_toArray, List.set_cons_zero, List.set_cons_succ]
                refine take_on (i := 15) (v := ?v16) rfl (by kernel_rfl) (by kernel_rfl) (by kernel_rfl) (fun _ _ _ h => h) (by rfl) (by assumption) ?y16 ?_
                case y16 => (intro w hSw; (try dsimp only at hSw); go_simp; (try with_reducible rfl))
                try simp only [Act.put, List.setIfInBounds_toArray, List.set_cons_zero, List.set_cons_succ]
                refine take_on (i := 16) (v := ?v17) rfl (by kernel_rfl) (by kernel_rfl) (by kernel_rfl) (fun _ _ _ h => h) (by rfl) (by assumption) ?y17 ?_
                case y17 => (intro w hSw; (try dsimp only at hSw); go_simp; (try with_reducible rfl))
                try simp only [Act.put, List.setIfInBounds_toArray, List.set_cons_zero, List.set_cons_succ]
                refine take_on (i := 17) (v := ?v18) rfl (by kernel_rfl) (by kernel_rfl) (by kernel_rfl) (fun _ _ _ h => h) (by rfl) (by assumption) ?y18 ?_
                case y18 => (intro w hSw; (try dsimp only at hSw); go_simp; (try with_reducible rfl))
                try simp only [Act.put, List.setIfInBounds_toArray, List.set_cons_zero, List.set_cons_succ]
                refine take_on (i := 18) (v := ?v19) rfl (by kernel_rfl) (by kernel_rfl) (by kernel_rfl) (fun _ _ _ h => h) (by rfl) (by assumption) ?y19 ?_
                case y19 => (intro w hSw; (try dsimp only at hSw); go_simp; (try with_reducible rfl))
                try simp only [Act.put, List.setIfInBounds_toArray, List.set_cons_zero, List.set_cons_succ]
                refine one_ready (i := 19) rfl (by kernel_rfl) (by rfl) (fun K hK => ?_)
                go_simp
                refine (putB_any rA rn rc r (d.1, s) wr.drew (hrs.aft AB.drew) (by omega)).mono ?_
                rintro e1 w2 ⟨⟨pA, pn, pc, rfl, hps, hpb⟩, hA2⟩
                have AK : Aft Wb w2 := AB.drew.trans hA2
                have A2 : Aft wr w2 := (Aft.refl wr).drew.trans hA2
                have ownN := (Chg.of_aft (ts := []) (B := 0) A2 (Nat.zero_le _)).row HOW.out (by simp)
                refine hK.out _ _ (⟨AK.cell C1, AK.cell C2, AK.cell C3, AK.cell C4⟩) (fun hHeld => ?_)
                clear hK K
                try simp only [Act.put, List.setIfInBounds_toArray, List.set_cons_zero, List.set_cons_succ]
                refine one_ready (i := 20) rfl (by kernel_rfl) (by rfl) (fun K hK => ?_)
                go_simp
                have AK := AK.alloc (.cells #[.slice pA pn pc] 31)
                refine hK.out _ _ (⟨AK.cell C1, AK.cell C2, AK.cell C3, AK.cell C4⟩) (fun hHeld => ?_)
                clear hK K
                try simp only [Act.put, List.setIfInBounds_toArray, List.set_cons_zero, List.set_cons_succ]
                refine one_ready (i := 21) rfl (by kernel_rfl) (by rfl) (fun K hK => ?_)
                refine wp_append_own _ (.tmp 36) (.tmp 56) 24 rfl Wb.heap.size 31 i0 _ 1 24 Try.underlying24 hi hz0 hz1 hz2 rfl (by decide) _ nl _ rfl (ownN.alloc _) ⟨w2.heap.size, 0, none⟩ 1 1 [.slice pA pn pc] rfl rfl (cell_one_new _ _ _) (by simp [Value.oneCell']) (by unfold maxLen; omega) (by omega) (by have := AK.size; omega) ?_
                intro v' w3 own3 grow3 _
                have AK : Aft Wb w3 := AK.grown grow3 (fun r hr => (ownN.lt r hr).1)
                have hrow := Lib.hid (RowR.push ⟨HRR.out.1, HNLM.out, HRR.out.2.2⟩ A2 hps hpb HPN.out ownN own3 grow3)
                obtain ⟨g3, c3', rfl⟩ := ownsRow_succ own3
                try go_simp
                refine hK.out _ _ (⟨AK.cell C1, AK.cell C2, AK.cell C3, AK.cell C4⟩) (fun hHeld => ?_)
                clear hK K
                try simp only [Act.put, List.setIfInBounds_toArray, List.set_cons_zero, List.set_cons_succ]
                refine take_on (i := 22) (v := ?v23) rfl (by kernel_rfl) (by kernel_rfl) (by kernel_rfl) (fun _ _ _ h => h) (by rfl) (by assumption) ?y23 ?_
                case y23 => (intro w hSw; (try dsimp only at hSw); go_simp; (try with_reducible rfl))
                try simp only [Act.put, List.setIfInBounds_toArray, List.set_cons_zero, List.set_cons_succ]
                refine wpAnyH_done (by kernel_rfl) ?_ _
                go_wp2
                go_roundw
                case rel => exact ⟨t + 1, by omega, by go_num, by rw [HM.out]; exact hrow.out, AK⟩
                case measure => simp [intOf]; omega
              · obtain rfl : t = m := by omega
                have HRX := Lib.hid (show RowR wr Wb.heap.size _ (stepA (L.take (k2 + 1)) d) by rw [← nxt_full HR.out, hml.out]; exact hrow3)
                obtain ⟨va, vc, rfl⟩ := hrow3.slice
                clear hrow3
                go_wp2
                go_roundw
                case rel => exact ⟨k2 + 1, by omega, by go_num, HRX.out, AB⟩
                case measure => simp [intOf]; omega
          · obtain rfl : k2 = nL := by omega
            have HRX := Lib.hid (show RowR wr w.heap.size (.slice na (stepA (L.take k2) d).length nc) (st ds (k + 1)) by
              rw [st_next HF.out, ← HLE.out]
              have := HROW2.out
              rw [List.take_of_length_le (by rw [← HNL.out]; exact Nat.le_refl _)] at this ⊢
              exact this.base haf.size)
            go_wp2
            go_roundw
            case rel => exact ⟨k + 1, by omega, by go_num, HRX.out, haf.trans haf2⟩
            case measure => simp [intOf]; omega
      · obtain rfl : k = n := by omega
        have HX := Lib.hid (show Sls wr oa (st ds k).length oc (allD ds) by
          have h1 := HROW.out.sls rfl
          have h2 : st ds k = allD ds := by
            unfold st
            rw [List.take_of_length_le (by rw [hlen.out]; exact Nat.le_refl _), ref_all]
            simp [allD, HV.out]
          rw [h2] at h1 ⊢
          exact h1)
        go_wp2
        go_ret
        exact ⟨⟨_, _, _, rfl, HX.out⟩, haf⟩
end Go.Proofs.Ytallloempmmgpaa
