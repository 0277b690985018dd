/-
  The reference's Dimensions. Condition: the slice holds the dimensions.
-/
import Derived.Test.YtallloempmmgpaaAllValid
import Derived.Test.YtallloempmmgpaaRegion
import Derived.Test.YtallloempmmgpaaFeatSet
namespace Go.Proofs.Ytallloempmmgpaa
open Go.RowKit
open FeatPlain

theorem dist_bad {ds : List Dm} {k : Nat} {d : Dm} (h : ds[k]? = some d) (hb : (isName d.1 && !inB (nms (ds.take k)) d.1) = false) : dimsB ds = false := by
  have h1 : distB (nms (ds.take (k + 1))) = false := by
    rw [take_next h]
    have : nms (ds.take k ++ [d]) = nms (ds.take k) ++ [d.1] := by simp [nms]
    rw [this, distB_snoc, hb]; simp
  have h2 := distB_pre _ (nms (ds.drop (k + 1))) h1
  have h3 : nms (ds.take (k + 1)) ++ nms (ds.drop (k + 1)) = ds.map (·.1) := by
    unfold nms
    rw [← List.map_append, List.take_append_drop]
  rw [h3] at h2
  simp [dimsB, h2]
theorem vals_bad {ds : List Dm} {k j : Nat} {d : Dm} {s : ByteArray} (h : ds[k]? = some d) (hs : d.2[j]? = some s) (hb : (isName s && !inB (d.2.take j) s) = false) : dimsB ds = false := by
  refine dims_bad h ?_
  have h1 : distB (d.2.take (j + 1)) = false := by rw [take_next hs, distB_snoc, hb]; simp
  have h2 := distB_pre _ (d.2.drop (j + 1)) h1
  rw [List.take_append_drop] at h2
  simp [dimOk, h2]
/-- The first k dimensions are as they should be. -/
def OkD (ds : List Dm) (k : Nat) : Prop := (ds.take k).all dimOk = true ∧ distB (nms (ds.take k)) = true
theorem OkD.next {ds : List Dm} {k : Nat} {d : Dm} (h : OkD ds k) (hd : ds[k]? = some d) (h1 : isName d.1 = true) (h2 : inB (nms (ds.take k)) d.1 = false) (h3 : dimOk d = true) : OkD ds (k + 1) := by
  unfold OkD
  rw [take_next hd]
  have : nms (ds.take k ++ [d]) = nms (ds.take k) ++ [d.1] := by simp [nms]
  rw [this, distB_snoc, h1, h2, h.2, List.all_append, h.1]
  simp [h3]

set_option maxRecDepth 100000 in
set_option maxHeartbeats 2400000 in
theorem refDims_any (A : Option Addr) (n c : Nat) (ds : List Dm) (w : World) (ha : Dd w A n c ds) :
    Calls Try.prog 12 #[.slice A n c] w (BoolPost w (dimsB ds)) := by
  have hn := ha.max
  have hnc := ha.le
  have hcm := ha.cmax
  have hlen := Lib.hid ha.len
  by_cases h4 : n ≤ 4
  · have h4' : ¬ (4 : Int) < (n : Int) := by omega
    go_enter Try.func12, Try.ntmps12
    go_wp2
    go_loopw [3] (fun i wr => ∃ k, k ≤ n ∧ i = .int .i64 (k : Nat) ∧ OkD ds k ∧ Aft w wr) (fun i _ => n - (intOf i).toNat)
    case atStart => exact ⟨0, Nat.zero_le _, rfl, ⟨rfl, rfl⟩, Aft.refl _⟩
    case round =>
      obtain ⟨k, hk, rfl, hok, haf⟩ := hrel
      have HOK := Lib.hid hok
      clear hok
      by_cases hlt : k < n
      · obtain ⟨b, off, B, m, e, d, rfl, hf, c10, c20, hs⟩ := ha.at_ hlt
        have c1 := haf.cell c10
        have c2 := haf.cell c20
        clear c10 c20
        have hwf := ha.wf d (List.mem_of_getElem? hf)
        have hml := Lib.hid hs.len
        have hme := hs.le
        have hmc := hs.cmax
        have HF := Lib.hid hf
        have hN := name_any d.1 wr hwf.1
        clear hf
        cases hnm : isName d.1
        · rw [hnm] at hN
          have hbad := Lib.hid (dist_bad HF.out (by rw [hnm]; rfl))
          clear hnm
          go_wp2_with fail
          refine hN.mono ?_
          rintro e1 w1 ⟨rfl, rfl⟩
          clear hN
          go_wp2
          go_ret
          exact ⟨by rw [hbad.out]; rfl, haf⟩
        · rw [hnm] at hN
          have HNM := Lib.hid hnm
          clear hnm
          by_cases hm0 : m = 0
          · subst hm0
            have hbad := Lib.hid (dims_bad HF.out (by simp [dimOk, hml.out]))
            go_wp2_with fail
            refine hN.mono ?_
            rintro e1 w1 ⟨rfl, rfl⟩
            clear hN
            go_wp2
            go_ret
            exact ⟨by rw [hbad.out]; rfl, haf⟩
          · have hm1 : ¬ (m : Int) < 1 := by omega
            by_cases hm8 : m ≤ 8
            · have hm8' : ¬ (8 : Int) < (m : Int) := by omega
              go_wp2_with fail
              refine hN.mono ?_
              rintro e1 w1 ⟨rfl, rfl⟩
              clear hN
              go_wp2
              go_loopw [5] (fun i wr => ∃ j, j ≤ k ∧ i = .int .i64 (j : Nat) ∧ inB (nms (ds.take j)) d.1 = false ∧ Aft w wr) (fun i _ => k - (intOf i).toNat)
              case atStart => exact ⟨0, Nat.zero_le _, rfl, rfl, haf⟩
              case round =>
                obtain ⟨j, hj, rfl, hin, hafj⟩ := hrel
                have HIN := Lib.hid hin
                clear hin
                by_cases hjk : j < k
                · obtain ⟨b', off', B', m', e', d', e0, hf', x1, x2, _⟩ := (ha.aft hafj).at_ (show j < n by omega)
                  cases e0
                  obtain ⟨b2, off2, B2, m2, e2, d2, e0, hf2, y1, y2, _⟩ := (ha.aft hafj).at_ hlt
                  cases e0
                  have ed : d2 = d := by have := HF.out; rw [hf2] at this; exact Option.some.inj this
                  subst ed
                  have HF' := Lib.hid hf'
                  clear hf' hf2
                  by_cases hq : d'.1 = d2.1
                  · have hbad := Lib.hid (dist_bad HF.out (by
                      have : inB (nms (ds.take k)) d2.1 = true := by
                        rw [inB_iff]
                        refine List.mem_map.2 ⟨d', ?_, hq⟩
                        have h1 := HF'.out
                        exact List.mem_of_getElem? (show (ds.take k)[j]? = some d' by rw [List.getElem?_take, if_pos hjk]; exact h1)
                      rw [this]; simp))
                    have hq' : (d'.1.toList == d2.1.toList) = true := by rw [toList_beq]; simp [hq]
                    clear hq
                    go_wp2
                    go_quiet (fail)
                    go_wp2
                    go_ret
                    exact ⟨by rw [hbad.out]; rfl, hafj.drewN _⟩
                  · have hq' : (d'.1.toList == d2.1.toList) = false := by rw [toList_beq]; simp [hq]
                    have HQ := Lib.hid hq
                    clear hq
                    go_wp2
                    go_quiet (fail)
                    go_wp2
                    go_roundw
                    case rel => exact ⟨j + 1, by omega, by go_num, by rw [take_next HF'.out, show nms (ds.take j ++ [d']) = nms (ds.take j) ++ [d'.1] from by simp [nms], inB_snoc, HIN.out]; simp [HQ.out], hafj.drewN _⟩
                    case measure => simp [intOf]; omega
                · obtain rfl : j = k := by omega
                  go_wp2
                  go_loopw [6] (fun i wr => ∃ t, t ≤ m ∧ i = .int .i64 (t : Nat) ∧ distB (d.2.take t) = true ∧ Aft w wr) (fun i _ => m - (intOf i).toNat)
                  case atStart => exact ⟨0, Nat.zero_le _, rfl, rfl, hafj⟩
                  case round =>
                    obtain ⟨t, ht3, rfl, hdis, haf3⟩ := hrel
                    have HDI := Lib.hid hdis
                    clear hdis
                    by_cases htm : t < m
                    · obtain ⟨bx, ox, s, rfl, hst, c3⟩ := (hs.aft haf3).at_ htm
                      have hsz := hwf.2 s (List.mem_of_getElem? hst)
                      have ssj := (hs.aft haf3).first ht3
                      have HST := Lib.hid hst
                      have hte : (t : Int) ≤ (e : Int) := by omega
                      have hte' : t ≤ e := by omega
                      clear hst
                      cases hnm : isName s
                      · have hbad := Lib.hid (vals_bad HF.out HST.out (by rw [hnm]; rfl))
                        go_wp2
                        refine wp_region_held_drew (S := fun w' => w'.cell? ⟨bx, ox + t, none⟩ = some (.string s)) (by kernel_rfl) (c3) (fun hHeld => ?_)
                        refine take_on (i := 0) (v := ?v1) rfl (by kernel_rfl) (by kernel_rfl) (by kernel_rfl) (fun _ _ _ h => h) (by rfl) (by assumption) ?y1 ?_
                        case y1 => (intro w hSw; (try dsimp only at hSw); go_simp; (try with_reducible rfl))
                        try simp only [Act.put, List.setIfInBounds_toArray, List.set_cons_zero, List.set_cons_succ]
                        refine take_on (i := 1) (v := ?v2) rfl (by kernel_rfl) (by kernel_rfl) (by kernel_rfl) (fun _ _ _ h => h) (by rfl) (by assumption) ?y2 ?_
                        case y2 => (intro w hSw; (try dsimp only at hSw); go_simp; (try with_reducible rfl))
                        try simp only [Act.put, List.setIfInBounds_toArray, List.set_cons_zero, List.set_cons_succ]
                        refine take_on (i := 2) (v := ?v3) rfl (by kernel_rfl) (by kernel_rfl) (by kernel_rfl) (fun _ _ _ h => h) (by rfl) (by assumption) ?y3 ?_
                        case y3 => (intro w hSw; (try dsimp only at hSw); go_simp; (try with_reducible rfl))
                        try simp only [Act.put, List.setIfInBounds_toArray, List.set_cons_zero, List.set_cons_succ]
                        refine take_on (i := 3) (v := ?v4) rfl (by kernel_rfl) (by kernel_rfl) (by kernel_rfl) (fun _ _ _ h => h) (by rfl) (by assumption) ?y4 ?_
                        case y4 => (intro w hSw; (try dsimp only at hSw); go_simp; (try with_reducible rfl))
                        try simp only [Act.put, List.setIfInBounds_toArray, List.set_cons_zero, List.set_cons_succ]
                        refine one_ready (i := 4) rfl (by kernel_rfl) (by rfl) (fun K hK => ?_)
                        go_simp
                        have hNm := name_any s wr.drew hsz
                        rw [hnm] at hNm
                        refine hNm.mono ?_
                        rintro e w2 ⟨rfl, rfl⟩
                        clear hNm
                        refine hK.out _ _ (c3) (fun hHeld => ?_)
                        clear hK K
                        try simp only [Act.put, List.setIfInBounds_toArray, List.set_cons_zero, List.set_cons_succ]
                        refine take_on (i := 5) (v := ?v6) rfl (by kernel_rfl) (by kernel_rfl) (by kernel_rfl) (fun _ _ _ h => h) (by rfl) (by assumption) ?y6 ?_
                        case y6 => (intro w hSw; (try dsimp only at hSw); go_simp; (try with_reducible rfl))
                        try simp only [Act.put, List.setIfInBounds_toArray, List.set_cons_zero, List.set_cons_succ]
                        refine take_on (i := 6) (v := ?v7) rfl (by kernel_rfl) (by kernel_rfl) (by kernel_rfl) (fun _ _ _ h => h) (by rfl) (by assumption) ?y7 ?_
                        case y7 => (intro w hSw; (try dsimp only at hSw); go_simp; (try with_reducible rfl))
                        try simp only [Act.put, List.setIfInBounds_toArray, List.set_cons_zero, List.set_cons_succ]
                        refine take_off (i := 7) rfl (by kernel_rfl) (by kernel_rfl) (by kernel_rfl) (fun _ _ _ h => h) (by rfl) (by assumption) ?_
                        try simp only [Act.put, List.setIfInBounds_toArray, List.set_cons_zero, List.set_cons_succ]
                        refine take_off (i := 8) rfl (by kernel_rfl) (by kernel_rfl) (by kernel_rfl) (fun _ _ _ h => h) (by rfl) (by assumption) ?_
                        try simp only [Act.put, List.setIfInBounds_toArray, List.set_cons_zero, List.set_cons_succ]
                        refine take_off (i := 9) rfl (by kernel_rfl) (by kernel_rfl) (by kernel_rfl) (fun _ _ _ h => h) (by rfl) (by assumption) ?_
                        try simp only [Act.put, List.setIfInBounds_toArray, List.set_cons_zero, List.set_cons_succ]
                        refine take_off (i := 10) rfl (by kernel_rfl) (by kernel_rfl) (by kernel_rfl) (fun _ _ _ h => h) (by rfl) (by assumption) ?_
                        try simp only [Act.put, List.setIfInBounds_toArray, List.set_cons_zero, List.set_cons_succ]
                        refine take_off (i := 11) rfl (by kernel_rfl) (by kernel_rfl) (by kernel_rfl) (fun _ _ _ h => h) (by rfl) (by assumption) ?_
                        try simp only [Act.put, List.setIfInBounds_toArray, List.set_cons_zero, List.set_cons_succ]
                        refine take_off (i := 12) rfl (by kernel_rfl) (by kernel_rfl) (by kernel_rfl) (fun _ _ _ h => h) (by rfl) (by assumption) ?_
                        try simp only [Act.put, List.setIfInBounds_toArray, List.set_cons_zero, List.set_cons_succ]
                        refine take_off (i := 13) rfl (by kernel_rfl) (by kernel_rfl) (by kernel_rfl) (fun _ _ _ h => h) (by rfl) (by assumption) ?_
                        try simp only [Act.put, List.setIfInBounds_toArray, List.set_cons_zero, List.set_cons_succ]
                        refine take_off (i := 14) rfl (by kernel_rfl) (by kernel_rfl) (by kernel_rfl) (fun _ _ _ h => h) (by rfl) (by assumption) ?_
                        try simp only [Act.put, List.setIfInBounds_toArray, List.set_cons_zero, List.set_cons_succ]
                        refine take_on (i := 15) (v := ?v16) rfl (by kernel_rfl) (by kernel_rfl) (by kernel_rfl) (fun _ _ _ h => h) (by rfl) (by assumption) ?y16 ?_
                        case y16 => (intro w hSw; (try dsimp only at hSw); go_simp; (try with_reducible rfl))
                        try simp only [Act.put, List.setIfInBounds_toArray, List.set_cons_zero, List.set_cons_succ]
                        refine wpAnyH_done (by kernel_rfl) ?_ _
                        go_wp2
                        go_ret
                        exact ⟨by rw [hbad.out]; rfl, haf3.drew⟩
                      · cases hin : inB (d.2.take t) s
                        · have hnx := Lib.hid (show distB (d.2.take (t + 1)) = true by rw [take_next HST.out, distB_snoc, HDI.out, hnm, hin]; rfl)
                          go_wp2
                          refine wp_region_held_drew (S := fun w' => w'.cell? ⟨bx, ox + t, none⟩ = some (.string s)) (by kernel_rfl) (c3) (fun hHeld => ?_)
                          refine take_on (i := 0) (v := ?v17) rfl (by kernel_rfl) (by kernel_rfl) (by kernel_rfl) (fun _ _ _ h => h) (by rfl) (by assumption) ?y17 ?_
                          case y17 => (intro w hSw; (try dsimp only at hSw); go_simp; (try with_reducible rfl))
                          try simp only [Act.put, List.setIfInBounds_toArray, List.set_cons_zero, List.set_cons_succ]
                          refine take_on (i := 1) (v := ?v18) rfl (by kernel_rfl) (by kernel_rfl) (by kernel_rfl) (fun _ _ _ h => h) (by rfl) (by assumption) ?y18 ?_
                          case y18 => (intro w hSw; (try dsimp only at hSw); go_simp; (try with_reducible rfl))
                          try simp only [Act.put, List.setIfInBounds_toArray, List.set_cons_zero, List.set_cons_succ]
                          refine take_on (i := 2) (v := ?v19) rfl (by kernel_rfl) (by kernel_rfl) (by kernel_rfl) (fun _ _ _ h => h) (by rfl) (by assumption) ?y19 ?_
                          case y19 => (intro w hSw; (try dsimp only at hSw); go_simp; (try with_reducible rfl))
                          try simp only [Act.put, List.setIfInBounds_toArray, List.set_cons_zero, List.set_cons_succ]
                          refine take_on (i := 3) (v := ?v20) rfl (by kernel_rfl) (by kernel_rfl) (by kernel_rfl) (fun _ _ _ h => h) (by rfl) (by assumption) ?y20 ?_
                          case y20 => (intro w hSw; (try dsimp only at hSw); go_simp; (try with_reducible rfl))
                          try simp only [Act.put, List.setIfInBounds_toArray, List.set_cons_zero, List.set_cons_succ]
                          refine one_ready (i := 4) rfl (by kernel_rfl) (by rfl) (fun K hK => ?_)
                          go_simp
                          have hNm := name_any s wr.drew hsz
                          rw [hnm] at hNm
                          refine hNm.mono ?_
                          rintro e w2 ⟨rfl, rfl⟩
                          clear hNm
                          refine hK.out _ _ (c3) (fun hHeld => ?_)
                          clear hK K
                          try simp only [Act.put, List.setIfInBounds_toArray, List.set_cons_zero, List.set_cons_succ]
                          refine take_on (i := 5) (v := ?v22) rfl (by kernel_rfl) (by kernel_rfl) (by kernel_rfl) (fun _ _ _ h => h) (by rfl) (by assumption) ?y22 ?_
                          case y22 => (intro w hSw; (try dsimp only at hSw); go_simp; (try with_reducible rfl))
                          try simp only [Act.put, List.setIfInBounds_toArray, List.set_cons_zero, List.set_cons_succ]
                          refine take_on (i := 6) (v := ?v23) rfl (by kernel_rfl) (by kernel_rfl) (by kernel_rfl) (fun _ _ _ h => h) (by rfl) (by assumption) ?y23 ?_
                          case y23 => (intro w hSw; (try dsimp only at hSw); go_simp; (try with_reducible rfl))
                          try simp only [Act.put, List.setIfInBounds_toArray, List.set_cons_zero, List.set_cons_succ]
                          refine take_on (i := 7) (v := ?v24) rfl (by kernel_rfl) (by kernel_rfl) (by kernel_rfl) (fun _ _ _ h => h) (by rfl) (by assumption) ?y24 ?_
                          case y24 => (intro w hSw; (try dsimp only at hSw); go_simp; (try with_reducible rfl))
                          try simp only [Act.put, List.setIfInBounds_toArray, List.set_cons_zero, List.set_cons_succ]
                          refine take_on (i := 8) (v := ?v25) rfl (by kernel_rfl) (by kernel_rfl) (by kernel_rfl) (fun _ _ _ h => h) (by rfl) (by assumption) ?y25 ?_
                          case y25 => (intro w hSw; (try dsimp only at hSw); go_simp; (try with_reducible rfl))
                          try simp only [Act.put, List.setIfInBounds_toArray, List.set_cons_zero, List.set_cons_succ]
                          refine take_on (i := 9) (v := ?v26) rfl (by kernel_rfl) (by kernel_rfl) (by kernel_rfl) (fun _ _ _ h => h) (by rfl) (by assumption) ?y26 ?_
                          case y26 => (intro w hSw; (try dsimp only at hSw); go_simp; (try with_reducible rfl))
                          try simp only [Act.put, List.setIfInBounds_toArray, List.set_cons_zero, List.set_cons_succ]
                          refine take_on (i := 10) (v := ?v27) rfl (by kernel_rfl) (by kernel_rfl) (by kernel_rfl) (fun _ _ _ h => h) (by rfl) (by assumption) ?y27 ?_
                          case y27 => (intro w hSw; (try dsimp only at hSw); go_simp; (try with_reducible rfl))
                          try simp only [Act.put, List.setIfInBounds_toArray, List.set_cons_zero, List.set_cons_succ]
                          refine take_on (i := 11) (v := ?v28) rfl (by kernel_rfl) (by kernel_rfl) (by kernel_rfl) (fun _ _ _ h => h) (by rfl) (by assumption) ?y28 ?_
                          case y28 => (intro w hSw; (try dsimp only at hSw); go_simp; (try with_reducible rfl))
                          try simp only [Act.put, List.setIfInBounds_toArray, List.set_cons_zero, List.set_cons_succ]
                          refine take_on (i := 12) (v := ?v29) rfl (by kernel_rfl) (by kernel_rfl) (by kernel_rfl) (fun _ _ _ h => h) (by rfl) (by assumption) ?y29 ?_
                          case y29 => (intro w hSw; (try dsimp only at hSw); go_simp; (try with_reducible rfl))
                          try simp only [Act.put, List.setIfInBounds_toArray, List.set_cons_zero, List.set_cons_succ]
                          refine take_on (i := 13) (v := ?v30) rfl (by kernel_rfl) (by kernel_rfl) (by kernel_rfl) (fun _ _ _ h => h) (by rfl) (by assumption) ?y30 ?_
                          case y30 => (intro w hSw; (try dsimp only at hSw); go_simp; (try with_reducible rfl))
                          try simp only [Act.put, List.setIfInBounds_toArray, List.set_cons_zero, List.set_cons_succ]
                          refine one_ready (i := 14) rfl (by kernel_rfl) (by rfl) (fun K hK => ?_)
                          go_simp
                          have hIn := refIn_any (some ⟨bx, ox, none⟩) t e (d.2.take t) s wr.drew (ssj.aft (Aft.refl wr).drew)
                          rw [hin] at hIn
                          refine hIn.mono ?_
                          rintro e w2 ⟨rfl, q4, rfl⟩
                          clear hIn
                          refine hK.out _ _ (c3) (fun hHeld => ?_)
                          clear hK K
                          try simp only [Act.put, List.setIfInBounds_toArray, List.set_cons_zero, List.set_cons_succ]
                          refine take_on (i := 15) (v := ?v32) rfl (by kernel_rfl) (by kernel_rfl) (by kernel_rfl) (fun _ _ _ h => h) (by rfl) (by assumption) ?y32 ?_
                          case y32 => (intro w hSw; (try dsimp only at hSw); go_simp; (try with_reducible rfl))
                          try simp only [Act.put, List.setIfInBounds_toArray, List.set_cons_zero, List.set_cons_succ]
                          refine wpAnyH_done (by kernel_rfl) ?_ _
                          go_wp2
                          go_roundw
                          case rel => exact ⟨t + 1, by omega, by go_num, hnx.out, by first | exact haf3.drew.drewN q4 | exact haf3.drewN _⟩
                          case measure => simp [intOf]; omega
                        · have hbad := Lib.hid (vals_bad HF.out HST.out (by rw [hin]; simp))
                          go_wp2
                          refine wp_region_held_drew (S := fun w' => w'.cell? ⟨bx, ox + t, none⟩ = some (.string s)) (by kernel_rfl) (c3) (fun hHeld => ?_)
                          refine take_on (i := 0) (v := ?v33) rfl (by kernel_rfl) (by kernel_rfl) (by kernel_rfl) (fun _ _ _ h => h) (by rfl) (by assumption) ?y33 ?_
                          case y33 => (intro w hSw; (try dsimp only at hSw); go_simp; (try with_reducible rfl))
                          try simp only [Act.put, List.setIfInBounds_toArray, List.set_cons_zero, List.set_cons_succ]
                          refine take_on (i := 1) (v := ?v34) rfl (by kernel_rfl) (by kernel_rfl) (by kernel_rfl) (fun _ _ _ h => h) (by rfl) (by assumption) ?y34 ?_
                          case y34 => (intro w hSw; (try dsimp only at hSw); go_simp; (try with_reducible rfl))
                          try simp only [Act.put, List.setIfInBounds_toArray, List.set_cons_zero, List.set_cons_succ]
                          refine take_on (i := 2) (v := ?v35) rfl (by kernel_rfl) (by kernel_rfl) (by kernel_rfl) (fun _ _ _ h => h) (by rfl) (by assumption) ?y35 ?_
                          case y35 => (intro w hSw; (try dsimp only at hSw); go_simp; (try with_reducible rfl))
                          try simp only [Act.put, List.setIfInBounds_toArray, List.set_cons_zero, List.set_cons_succ]
                          refine take_on (i := 3) (v := ?v36) rfl (by kernel_rfl) (by kernel_rfl) (by kernel_rfl) (fun _ _ _ h => h) (by rfl) (by assumption) ?y36 ?_
                          case y36 => (intro w hSw; (try dsimp only at hSw); go_simp; (try with_reducible rfl))
                          try simp only [Act.put, List.setIfInBounds_toArray, List.set_cons_zero, List.set_cons_succ]
                          refine one_ready (i := 4) rfl (by kernel_rfl) (by rfl) (fun K hK => ?_)
                          go_simp
                          have hNm := name_any s wr.drew hsz
                          rw [hnm] at hNm
                          refine hNm.mono ?_
                          rintro e w2 ⟨rfl, rfl⟩
                          clear hNm
                          refine hK.out _ _ (c3) (fun hHeld => ?_)
                          clear hK K
                          try simp only [Act.put, List.setIfInBounds_toArray, List.set_cons_zero, List.set_cons_succ]
                          refine take_on (i := 5) (v := ?v38) rfl (by kernel_rfl) (by kernel_rfl) (by kernel_rfl) (fun _ _ _ h => h) (by rfl) (by assumption) ?y38 ?_
                          case y38 => (intro w hSw; (try dsimp only at hSw); go_simp; (try with_reducible rfl))
                          try simp only [Act.put, List.setIfInBounds_toArray, List.set_cons_zero, List.set_cons_succ]
                          refine take_on (i := 6) (v := ?v39) rfl (by kernel_rfl) (by kernel_rfl) (by kernel_rfl) (fun _ _ _ h => h) (by rfl) (by assumption) ?y39 ?_
                          case y39 => (intro w hSw; (try dsimp only at hSw); go_simp; (try with_reducible rfl))
                          try simp only [Act.put, List.setIfInBounds_toArray, List.set_cons_zero, List.set_cons_succ]
                          refine take_on (i := 7) (v := ?v40) rfl (by kernel_rfl) (by kernel_rfl) (by kernel_rfl) (fun _ _ _ h => h) (by rfl) (by assumption) ?y40 ?_
                          case y40 => (intro w hSw; (try dsimp only at hSw); go_simp; (try with_reducible rfl))
                          try simp only [Act.put, List.setIfInBounds_toArray, List.set_cons_zero, List.set_cons_succ]
                          refine take_on (i := 8) (v := ?v41) rfl (by kernel_rfl) (by kernel_rfl) (by kernel_rfl) (fun _ _ _ h => h) (by rfl) (by assumption) ?y41 ?_
                          case y41 => (intro w hSw; (try dsimp only at hSw); go_simp; (try with_reducible rfl))
                          try simp only [Act.put, List.setIfInBounds_toArray, List.set_cons_zero, List.set_cons_succ]
                          refine take_on (i := 9) (v := ?v42) rfl (by kernel_rfl) (by kernel_rfl) (by kernel_rfl) (fun _ _ _ h => h) (by rfl) (by assumption) ?y42 ?_
                          case y42 => (intro w hSw; (try dsimp only at hSw); go_simp; (try with_reducible rfl))
                          try simp only [Act.put, List.setIfInBounds_toArray, List.set_cons_zero, List.set_cons_succ]
                          refine take_on (i := 10) (v := ?v43) rfl (by kernel_rfl) (by kernel_rfl) (by kernel_rfl) (fun _ _ _ h => h) (by rfl) (by assumption) ?y43 ?_
                          case y43 => (intro w hSw; (try dsimp only at hSw); go_simp; (try with_reducible rfl))
                          try simp only [Act.put, List.setIfInBounds_toArray, List.set_cons_zero, List.set_cons_succ]
                          refine take_on (i := 11) (v := ?v44) rfl (by kernel_rfl) (by kernel_rfl) (by kernel_rfl) (fun _ _ _ h => h) (by rfl) (by assumption) ?y44 ?_
                          case y44 => (intro w hSw; (try dsimp only at hSw); go_simp; (try with_reducible rfl))
                          try simp only [Act.put, List.setIfInBounds_toArray, List.set_cons_zero, List.set_cons_succ]
                          refine take_on (i := 12) (v := ?v45) rfl (by kernel_rfl) (by kernel_rfl) (by kernel_rfl) (fun _ _ _ h => h) (by rfl) (by assumption) ?y45 ?_
                          case y45 => (intro w hSw; (try dsimp only at hSw); go_simp; (try with_reducible rfl))
                          try simp only [Act.put, List.setIfInBounds_toArray, List.set_cons_zero, List.set_cons_succ]
                          refine take_on (i := 13) (v := ?v46) rfl (by kernel_rfl) (by kernel_rfl) (by kernel_rfl) (fun _ _ _ h => h) (by rfl) (by assumption) ?y46 ?_
                          case y46 => (intro w hSw; (try dsimp only at hSw); go_simp; (try with_reducible rfl))
                          try simp only [Act.put, List.setIfInBounds_toArray, List.set_cons_zero, List.set_cons_succ]
                          refine one_ready (i := 14) rfl (by kernel_rfl) (by rfl) (fun K hK => ?_)
                          go_simp
                          have hIn := refIn_any (some ⟨bx, ox, none⟩) t e (d.2.take t) s wr.drew (ssj.aft (Aft.refl wr).drew)
                          rw [hin] at hIn
                          refine hIn.mono ?_
                          rintro e w2 ⟨rfl, q4, rfl⟩
                          clear hIn
                          refine hK.out _ _ (c3) (fun hHeld => ?_)
                          clear hK K
                          try simp only [Act.put, List.setIfInBounds_toArray, List.set_cons_zero, List.set_cons_succ]
                          refine take_on (i := 15) (v := ?v48) rfl (by kernel_rfl) (by kernel_rfl) (by kernel_rfl) (fun _ _ _ h => h) (by rfl) (by assumption) ?y48 ?_
                          case y48 => (intro w hSw; (try dsimp only at hSw); go_simp; (try with_reducible rfl))
                          try simp only [Act.put, List.setIfInBounds_toArray, List.set_cons_zero, List.set_cons_succ]
                          refine wpAnyH_done (by kernel_rfl) ?_ _
                          go_wp2
                          go_ret
                          exact ⟨by rw [hbad.out]; rfl, by first | exact haf3.drew.drewN q4 | exact haf3.drewN _⟩
                    · obtain rfl : t = m := by omega
                      have hdd := HDI.out
                      rw [List.take_of_length_le (by rw [hml.out]; exact Nat.le_refl _)] at hdd
                      have hdok := Lib.hid (show dimOk d = true by simp [dimOk, hml.out, hdd, hm8]; omega)
                      clear hdd
                      go_wp2
                      go_roundw
                      case rel => exact ⟨j + 1, by omega, by go_num, HOK.out.next HF.out HNM.out HIN.out hdok.out, haf3⟩
                      case measure => simp [intOf]; omega
            · have hm8' : (8 : Int) < (m : Int) := by omega
              have hbad := Lib.hid (dims_bad HF.out (by simp [dimOk, hml.out]; intro _ h; omega))
              go_wp2_with fail
              refine hN.mono ?_
              rintro e1 w1 ⟨rfl, rfl⟩
              clear hN
              go_wp2
              go_ret
              exact ⟨by rw [hbad.out]; rfl, haf⟩
      · obtain rfl : k = n := by omega
        have ho := HOK.out
        have htk : ds.take k = ds := List.take_of_length_le (by rw [hlen.out]; exact Nat.le_refl _)
        unfold OkD at ho
        rw [htk] at ho
        have HR := Lib.hid (show dimsB ds = true by simp [dimsB, hlen.out, h4, ho.1]; exact ho.2)
        clear ho htk
        go_wp2
        go_ret
        exact ⟨by rw [HR.out]; rfl, haf⟩
  · have h4' : (4 : Int) < (n : Int) := by omega
    have HR := Lib.hid (show dimsB ds = false by simp [dimsB, hlen.out]; intro h; omega)
    go_enter Try.func12, Try.ntmps12
    go_wp2
    go_ret
    exact ⟨by rw [HR.out]; rfl, Aft.refl _⟩
end Go.Proofs.Ytallloempmmgpaa
