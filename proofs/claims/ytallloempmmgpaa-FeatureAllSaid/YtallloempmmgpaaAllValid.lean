/-
  validDimensions. Condition: the slice holds the dimensions.
-/
import Derived.Test.YtallloempmmgpaaAllNames
import Derived.Test.YtallloempmmgpaaFeatMeet
namespace Go.Proofs.Ytallloempmmgpaa
open Go.RowKit
open FeatPlain

theorem Try.infoS : (Try.prog.info? 9).map (fun i => (i.zero, i.size, i.bytes)) = some (some (.string ByteArray.empty), 1, 16) := by kernel_rfl
theorem one_str (w : World) (s : ByteArray) : ∀ j u, ([Value.string s])[j]? = some u → (w.alloc (.cells #[.string s] 9)).cell? ((⟨w.heap.size, 0, none⟩ : Addr).add j) = some u := by
  intro j u hj
  match j, hj with
  | 0, hj => simp at hj; subst hj; simp [Addr.add]
  | j + 1, hj => simp at hj
theorem Ss.of_own {w : World} {base n : Nat} {v : Value} {ss : List ByteArray} (h : w.ownsRow base 9 1 v n (ss.map Value.string)) (hl : ss.length = n) (hm : n * 16 ≤ 281474976710656) : ∃ A c, v = .slice A n c ∧ Ss w A n c ss := by
  have h' := h
  rcases h.2 with ⟨rfl, rfl⟩ | ⟨g, cap, cur, rfl, _, _, hle, hc, _⟩
  · have : ss = [] := List.length_eq_zero_iff.1 hl
    subst this
    exact ⟨none, 0, rfl, Ss.nil (by omega) (fun _ => rfl)⟩
  · refine ⟨_, _, rfl, hl, hle, hm, by unfold maxLen at hc; omega, fun e => (by cases e), fun i s hi => ⟨g, 0, rfl, ?_⟩⟩
    have hlt : i < n := by have := (List.getElem?_eq_some_iff.1 hi).1; omega
    rw [Nat.zero_add, h'.cellAt _ (by omega)]
    simp [hi]

theorem dims_bad {ds : List Dm} {k : Nat} {d : Dm} (h : ds[k]? = some d) (hd : dimOk d = false) : dimsB ds = false := by
  have : ds.all dimOk = false := by
    rw [List.all_eq_false]
    exact ⟨d, List.mem_of_getElem? h, by simp [hd]⟩
  simp [dimsB, this]
def nms (ds : List Dm) : List ByteArray := ds.map (·.1)
theorem nms_next {ds : List Dm} {k : Nat} {d : Dm} (h : ds[k]? = some d) : (nms (ds.take (k + 1))).map Value.string = (nms (ds.take k)).map Value.string ++ [.string d.1] := by
  rw [take_next h]; simp [nms]

set_option maxRecDepth 100000 in
set_option maxHeartbeats 1600000 in
theorem validD_any (A : Option Addr) (n c : Nat) (ds : List Dm) (w : World) (ha : Dd w A n c ds) :
    Calls Try.prog 24 #[.slice A n c] w (BoolPost w (dimsB ds)) := by
  have hn := ha.max
  have hnc := ha.le
  have hlen := Lib.hid ha.len
  obtain ⟨i0, hi, hz0, hz1, hz2⟩ := info_parts Try.infoS
  by_cases h4 : n ≤ 4
  · have h4' : ¬ (4 : Int) < (n : Int) := by omega
    go_enter Try.func24, Try.ntmps24
    go_wp2
    go_loopw [3, 11] (fun v i wr => ∃ k, k ≤ n ∧ i = .int .i64 (k : Nat) ∧ (ds.take k).all dimOk = true ∧ wr.ownsRow w.heap.size 9 1 v k ((nms (ds.take k)).map Value.string) ∧ Aft w wr) (fun _ i _ => n - (intOf i).toNat)
    case atStart => exact ⟨0, Nat.zero_le _, rfl, rfl, World.ownsRow_nil _ _ _ _, Aft.refl _⟩
    case round =>
      obtain ⟨k, hk, rfl, he, own, haf⟩ := hrel
      have HE := Lib.hid he
      have HO := Lib.hid own
      clear he
      by_cases hlt : k < n
      · obtain ⟨b, off, B, m, e, d, rfl, hf, c1, c2, hs⟩ := (ha.aft haf).at_ hlt
        have hwf := ha.wf d (List.mem_of_getElem? hf)
        have hml := Lib.hid hs.len
        have HF := Lib.hid hf
        have AL : Aft wr (wr.alloc (.cells #[.string d.1, .slice B m e] 40)) := (Aft.refl wr).alloc _
        have hD := distinct_any B m e d.2 _ (hs.aft AL) hwf.2
        clear hf own
        by_cases hm0 : m = 0
        · subst hm0
          have hbad := Lib.hid (dims_bad HF.out (by simp [dimOk, hml.out]))
          clear hD
          go_wp2
          go_ret
          exact ⟨by rw [hbad.out]; rfl, haf.trans AL⟩
        · have hm1 : ((m : Int) == 0) = false := by rw [beq_eq_false_iff_ne]; omega
          have hm1' : ¬ (m : Int) = 0 := by omega
          by_cases hm8 : m ≤ 8
          · have hm8' : ¬ (8 : Int) < (m : Int) := by omega
            cases hd : distB d.2
            · rw [hd] at hD
              have hbad := Lib.hid (dims_bad HF.out (by simp [dimOk, hd]))
              clear hd
              go_wp2_with fail
              refine hD.mono ?_
              rintro e1 w1 ⟨rfl, rfl⟩
              clear hD
              go_wp2
              go_ret
              exact ⟨by rw [hbad.out]; rfl, haf.trans AL⟩
            · rw [hd] at hD
              have hok := Lib.hid (show dimOk d = true by simp [dimOk, hd, hml.out]; omega)
              clear hd
              go_wp2_with fail
              refine hD.mono ?_
              rintro e1 w1 ⟨rfl, rfl⟩
              clear hD
              go_wp2_with (at_builtin; refine wpList_append_own _ rfl _ _ 38 rfl w.heap.size 9 i0 _ 1 16 Try.underlying38 hi hz0 hz1 hz2 rfl (by decide) _ _ _ rfl ((HO.out.alloc _).alloc _) ⟨wr.heap.size + 1, 0, none⟩ 1 1 [.string d.1] rfl rfl (by have := one_str (wr.alloc (.cells #[.string d.1, .slice B m e] 40)) d.1; rwa [World.size_alloc] at this) (by simp [Value.oneCell']) (by unfold maxLen; omega) (by omega) (by have := haf.size; simp; omega) ?_; intro v' w2 own2 grow2 _)
              have own3 : w2.ownsRow w.heap.size 9 1 v' (k + 1) ((nms (ds.take (k + 1))).map Value.string) := by rw [nms_next HF.out]; exact own2
              have A2 : Aft w w2 := ((haf.alloc _).alloc _).grown grow2 (fun r hr => (HO.out.lt r hr).1)
              have H3 := Lib.hid own3
              obtain ⟨g2, cap2, rfl⟩ := ownsRow_succ own2
              clear own2 own3 grow2
              go_wp2
              go_roundw
              case rel => exact ⟨k + 1, by omega, by go_num, by rw [take_next HF.out, List.all_append, HE.out]; simp [hok.out], H3.out, A2⟩
              case measure => simp [intOf]; omega
          · have hm8' : (8 : Int) < (m : Int) := by omega
            have hbad := Lib.hid (dims_bad HF.out (by simp [dimOk, hml.out]; intro _ h; omega))
            clear hD
            go_wp2
            go_ret
            exact ⟨by rw [hbad.out]; rfl, haf.trans AL⟩
      · obtain rfl : k = n := by omega
        have ho := HO.out
        have he := HE.out
        have htk : ds.take k = ds := List.take_of_length_le (by rw [hlen.out]; exact Nat.le_refl _)
        rw [htk] at ho he
        have hl : (nms ds).length = k := by simp [nms, hlen.out]
        obtain ⟨va, vc, rfl, hss⟩ := Ss.of_own ho hl (by omega)
        have hD := distinct_any va k vc (nms ds) wr hss (fun s hs => by
          simp only [nms, List.mem_map] at hs
          obtain ⟨d, hd, rfl⟩ := hs
          exact (ha.wf d hd).1)
        have HR := Lib.hid (show dimsB ds = distB (nms ds) by simp [dimsB, hlen.out, h4, he, nms])
        clear ho he htk HO HE own
        go_wp2_with fail
        refine hD.mono ?_
        rintro e1 w1 ⟨rfl, rfl⟩
        clear hD
        go_wp2
        go_ret
        exact ⟨by rw [HR.out]; rfl, haf⟩
  · have h4' : (4 : Int) < (n : Int) := by omega
    have HR := Lib.hid (show dimsB ds = false by simp [dimsB, hlen.out]; intro h; omega)
    go_enter Try.func24, Try.ntmps24
    go_wp2
    go_ret
    exact ⟨by rw [HR.out]; rfl, Aft.refl _⟩
end Go.Proofs.Ytallloempmmgpaa
