/-
  The reference's Lexeme and Valid of package lexicon say what the program's Valid says. Conditions: the slices hold the letters and the lexemes; no stem has more than 200 bytes.
-/
import Derived.Test.YtfoeghabnbjbgaaGreatDoorLexValid
import Derived.Test.YtfoeghabnbjbgaaGreatDoorLexFind
import Derived.Test.YtfoeghabnbjbgaaGreatDoorFtAll
import Derived.Test.YtfoeghabnbjbgaaGreatDoorAlAll
namespace Go.Proofs.YtfoeghabnbjbgaaGreatDoor
open Go.RowKit
open FeatPlain

set_option maxRecDepth 100000 in
set_option maxHeartbeats 3200000 in
theorem refLexeme_any (A : Option Addr) (n c : Nat) (ls : List AlphPlain.Lt) (x : Lx) (w : World) (ha : Al.Ll w A n c ls) (hx : Lw w x) (hz : Sized x.fs) (hs2 : x.stem.size ≤ 200) :
    Calls Tryz.prog 20 #[.slice A n c, .agg #[.string x.id, .string x.cat, .string x.stem, .string x.par, .slice x.fa x.fn x.fc]] w (BoolPost w (lexOk ls x)) := by
  have A0 := (Aft.refl w).alloc (.cells #[.string x.id, .string x.cat, .string x.stem, .string x.par, .slice x.fa x.fn x.fc] 31)
  have k1 := fun W => refName_any x.id W hx.wid
  have k2 := fun W => refName_any x.cat W hx.wcat
  have k3 := fun W => refName_any x.par W hx.wpar
  have k4 := Al.refIsWord_any A n c ls x.stem _ (ha.aft A0) hs2
  have f5 := Lib.hid (five_new w x 31)
  have HX := Lib.hid (hx.aft A0)
  have hp := empty_iff x.par
  obtain ⟨d0, d1, d2, d3, d4⟩ := f5.out
  simp only [Nat.zero_add] at d1 d2 d3 d4
  cases h1 : nameL x.id
  · rw [h1] at k1
    have HR := Lib.hid (show lexOk ls x = false by simp [lexOk, namedB, h1])
    have K1 := Lib.hid k1
    clear k1 k2 k3 k4 h1
    go_enter Tryz.func20, Tryz.ntmps20
    go_wp2_with fail
    refine (K1.out _).mono ?_
    rintro e w1 ⟨rfl, rfl⟩
    go_wp2
    go_ret
    exact ⟨by rw [HR.out]; rfl, A0⟩
  · rw [h1] at k1
    cases h2 : nameL x.cat
    · rw [h2] at k2
      have HR := Lib.hid (show lexOk ls x = false by simp [lexOk, namedB, h2])
      have K1 := Lib.hid k1
      have K2 := Lib.hid k2
      clear k1 k2 k3 k4 h1 h2
      go_enter Tryz.func20, Tryz.ntmps20
      go_wp2_with fail
      refine (K1.out _).mono ?_
      rintro e w1 ⟨rfl, rfl⟩
      go_wp2_with fail
      refine (K2.out _).mono ?_
      rintro e w1 ⟨rfl, rfl⟩
      go_wp2
      go_ret
      exact ⟨by rw [HR.out]; rfl, A0⟩
    · rw [h2] at k2
      by_cases h3 : x.par = ⟨#[]⟩
      · have he : x.par.toList.isEmpty = true := by rw [hp, h3]; simp
        clear hp
        cases h4 : Al.wordB ls x.stem
        · rw [h4] at k4
          have HR := Lib.hid (show lexOk ls x = false by simp [lexOk, h4])
          have K1 := Lib.hid k1
          have K2 := Lib.hid k2
          have K4 := Lib.hid k4
          clear k1 k2 k3 k4 h1 h2 h3 h4
          go_enter Tryz.func20, Tryz.ntmps20
          go_wp2_with fail
          refine (K1.out _).mono ?_
          rintro e w1 ⟨rfl, rfl⟩
          go_wp2_with fail
          refine (K2.out _).mono ?_
          rintro e w1 ⟨rfl, rfl⟩
          go_wp2_with fail
          refine K4.out.mono ?_
          rintro e w4 ⟨rfl, A4⟩
          have A04 : Aft w w4 := A0.trans A4
          go_wp2
          go_ret
          exact ⟨by rw [HR.out]; rfl, A04⟩
        · rw [h4] at k4
          have HR := Lib.hid (show lexOk ls x = validB x.fs by simp [lexOk, namedB, h1, h2, h3, h4])
          have K1 := Lib.hid k1
          have K2 := Lib.hid k2
          have K4 := Lib.hid k4
          clear k1 k2 k3 k4 h1 h2 h3 h4
          go_enter Tryz.func20, Tryz.ntmps20
          go_wp2_with fail
          refine (K1.out _).mono ?_
          rintro e w1 ⟨rfl, rfl⟩
          go_wp2_with fail
          refine (K2.out _).mono ?_
          rintro e w1 ⟨rfl, rfl⟩
          go_wp2_with fail
          refine K4.out.mono ?_
          rintro e w4 ⟨rfl, A4⟩
          have A4' : Aft _ w4 := A4
          have A04 := A0.trans A4'
          clear d0 d1 d2 d3 d4 A4
          obtain ⟨d0, d1, d2, d3, d4⟩ := f5.out.aft A4'
          simp only [Nat.zero_add] at d1 d2 d3 d4
          have K5 := Lib.hid (refValid_any x.fa x.fn x.fc x.fs w4 (HX.out.aft A4').fts hz)
          go_wp2_with fail
          refine K5.out.mono ?_
          rintro e w5 ⟨rfl, q, rfl⟩
          go_wp2
          go_ret
          exact ⟨by rw [HR.out]; rfl, A04.drewN q⟩
      · have he : x.par.toList.isEmpty = false := by rw [hp]; simp [h3]
        have he2 := h3
        clear h3 hp
        cases h3 : nameL x.par
        · rw [h3] at k3
          have HR := Lib.hid (show lexOk ls x = false by simp [lexOk, namedB, h3, he2])
          have K1 := Lib.hid k1
          have K2 := Lib.hid k2
          have K3 := Lib.hid k3
          clear k1 k2 k3 k4 h1 h2 h3 he2
          go_enter Tryz.func20, Tryz.ntmps20
          go_wp2_with fail
          refine (K1.out _).mono ?_
          rintro e w1 ⟨rfl, rfl⟩
          go_wp2_with fail
          refine (K2.out _).mono ?_
          rintro e w1 ⟨rfl, rfl⟩
          go_wp2_with fail
          refine (K3.out _).mono ?_
          rintro e w1 ⟨rfl, rfl⟩
          go_wp2
          go_ret
          exact ⟨by rw [HR.out]; rfl, A0⟩
        · rw [h3] at k3
          clear he2
          cases h4 : Al.wordB ls x.stem
          · rw [h4] at k4
            have HR := Lib.hid (show lexOk ls x = false by simp [lexOk, h4])
            have K1 := Lib.hid k1
            have K2 := Lib.hid k2
            have K3 := Lib.hid k3
            have K4 := Lib.hid k4
            clear k1 k2 k3 k4 h1 h2 h3 h4
            go_enter Tryz.func20, Tryz.ntmps20
            go_wp2_with fail
            refine (K1.out _).mono ?_
            rintro e w1 ⟨rfl, rfl⟩
            go_wp2_with fail
            refine (K2.out _).mono ?_
            rintro e w1 ⟨rfl, rfl⟩
            go_wp2_with fail
            refine (K3.out _).mono ?_
            rintro e w1 ⟨rfl, rfl⟩
            go_wp2_with fail
            refine K4.out.mono ?_
            rintro e w4 ⟨rfl, A4⟩
            have A04 : Aft w w4 := A0.trans A4
            go_wp2
            go_ret
            exact ⟨by rw [HR.out]; rfl, A04⟩
          · rw [h4] at k4
            have HR := Lib.hid (show lexOk ls x = validB x.fs by simp [lexOk, namedB, h1, h2, h3, h4])
            have K1 := Lib.hid k1
            have K2 := Lib.hid k2
            have K3 := Lib.hid k3
            have K4 := Lib.hid k4
            clear k1 k2 k3 k4 h1 h2 h3 h4
            go_enter Tryz.func20, Tryz.ntmps20
            go_wp2_with fail
            refine (K1.out _).mono ?_
            rintro e w1 ⟨rfl, rfl⟩
            go_wp2_with fail
            refine (K2.out _).mono ?_
            rintro e w1 ⟨rfl, rfl⟩
            go_wp2_with fail
            refine (K3.out _).mono ?_
            rintro e w1 ⟨rfl, rfl⟩
            go_wp2_with fail
            refine K4.out.mono ?_
            rintro e w4 ⟨rfl, A4⟩
            have A4' : Aft _ w4 := A4
            have A04 := A0.trans A4'
            clear d0 d1 d2 d3 d4 A4
            obtain ⟨d0, d1, d2, d3, d4⟩ := f5.out.aft A4'
            simp only [Nat.zero_add] at d1 d2 d3 d4
            have K5 := Lib.hid (refValid_any x.fa x.fn x.fc x.fs w4 (HX.out.aft A4').fts hz)
            go_wp2_with fail
            refine K5.out.mono ?_
            rintro e w5 ⟨rfl, q, rfl⟩
            go_wp2
            go_ret
            exact ⟨by rw [HR.out]; rfl, A04.drewN q⟩

theorem addB_next {xs : List Lx} {k : Nat} {x : Lx} (h : ∀ j y, j < k → xs[j]? = some y → idxL (fun z => decide (z.id = y.id)) xs = (j : Nat)) (hx : xs[k]? = some x) (hi : idxL (fun z => decide (z.id = x.id)) xs = (k : Nat)) : ∀ j y, j < k + 1 → xs[j]? = some y → idxL (fun z => decide (z.id = y.id)) xs = (j : Nat) := fun j y hj hy => by
  by_cases e : j = k
  · subst e
    rw [hx] at hy
    obtain rfl := Option.some.inj hy
    exact hi
  · exact h j y (by omega) hy
/-- The first lexeme with an ID is at its own index: no ID stands twice. -/
theorem addB_of_idx {xs : List Lx} (h : ∀ j y, j < xs.length → xs[j]? = some y → idxL (fun z => decide (z.id = y.id)) xs = (j : Nat)) : addB [] (xs.map Lx.id) = true := by
  rw [addB_iff]
  intro j t hj
  rw [List.nil_append, ← List.map_take]
  obtain ⟨y, hy, rfl⟩ : ∃ y, xs[j]? = some y ∧ y.id = t := by simpa using hj
  have hlt : j < xs.length := (List.getElem?_eq_some_iff.1 hy).1
  have hix := h j y hlt hy
  cases hin : inB ((xs.take j).map Lx.id) y.id
  · rfl
  · exfalso
    simp only [inB, List.any_eq_true, decide_eq_true_eq, List.mem_map] at hin
    obtain ⟨_, ⟨z, hz, rfl⟩, e⟩ := hin
    obtain ⟨i, hi⟩ := List.getElem?_of_mem hz
    have hij : i < j := by
      have := (List.getElem?_eq_some_iff.1 hi).1
      rw [List.length_take] at this; omega
    have hi' : xs[i]? = some z := by rw [List.getElem?_take, if_pos hij] at hi; exact hi
    unfold idxL at hix
    cases hq : xs.findIdx? (fun z => decide (z.id = y.id)) with
    | none => rw [hq] at hix; simp at hix
    | some q =>
      rw [hq] at hix
      have hqj : q = j := by simp at hix; omega
      subst hqj
      have := (List.findIdx?_eq_some_iff_getElem.1 hq).2.2 i hij
      obtain ⟨hl, hg⟩ := List.getElem?_eq_some_iff.1 hi'
      rw [hg] at this
      simp [e] at this
theorem idx_ne {xs : List Lx} {k : Nat} {x : Lx} (hx : xs[k]? = some x) (h : idxL (fun z => decide (z.id = x.id)) xs ≠ (k : Nat)) : addB [] (xs.map Lx.id) = false := by
  cases hh : addB [] (xs.map Lx.id)
  · rfl
  · exfalso
    refine h (idxL_hit (fun y hy => ?_) hx (by simp))
    have := (addB_iff _ _).1 hh k x.id (by simp [hx])
    rw [decide_eq_false_iff_not]
    intro e
    have hm : inB (([] : List ByteArray) ++ (xs.map Lx.id).take k) x.id = true := by
      rw [List.nil_append, ← List.map_take, inB, List.any_eq_true]
      exact ⟨y.id, List.mem_map.2 ⟨y, hy, rfl⟩, by simp [e]⟩
    rw [hm] at this
    cases this

set_option maxRecDepth 100000 in
set_option maxHeartbeats 3200000 in
theorem refValidL_any (A : Option Addr) (n c : Nat) (ls : List AlphPlain.Lt) (B : Option Addr) (m d : Nat) (xs : List Lx) (w : World) (ha : Al.Ll w A n c ls) (hb : Ls w B m d xs) (hz : ∀ x ∈ xs, Sized x.fs) (hs2 : ∀ x ∈ xs, x.stem.size ≤ 200) :
    Calls Tryz.prog 7 #[.slice A n c, .slice B m d] w (BoolPost w (validLx ls xs)) := by
  have hmd := hb.le
  have hdm := hb.cmax
  have hlen := Lib.hid hb.len
  have HV := Lib.hid (Al.refValid_any A n c ls w ha)
  cases hv : Al.validB ls
  · rw [hv] at HV
    have HR := Lib.hid (show validLx ls xs = false by simp [validLx, hv])
    clear hv
    go_enter Tryz.func7, Tryz.ntmps7
    go_wp2_with fail
    refine HV.out.mono ?_
    rintro e w1 ⟨rfl, A1⟩
    go_wp2
    go_ret
    exact ⟨by rw [HR.out]; rfl, A1⟩
  · rw [hv] at HV
    have HVB := Lib.hid hv
    clear hv
    by_cases hbig : 256 < m
    · have HR := Lib.hid (show validLx ls xs = false by simp [validLx, hlen.out]; omega)
      go_enter Tryz.func7, Tryz.ntmps7
      go_wp2_with fail
      refine HV.out.mono ?_
      rintro e w1 ⟨rfl, A1⟩
      go_wp2
      go_ret
      exact ⟨by rw [HR.out]; rfl, A1⟩
    · have HSZ := Lib.hid hz
      have HS2 := Lib.hid hs2
      clear hz hs2
      go_enter Tryz.func7, Tryz.ntmps7
      go_wp2_with fail
      refine HV.out.mono ?_
      rintro e w1 ⟨rfl, A1⟩
      have A1' : Aft w w1 := A1
      clear HV A1
      go_wp2
      go_loopw [5] (fun i wr => ∃ k, k ≤ m ∧ i = .int .i64 (k : Nat) ∧ (xs.take k).all (lexOk ls) = true ∧ (∀ j y, j < k → xs[j]? = some y → idxL (fun z => decide (z.id = y.id)) xs = (j : Nat)) ∧ Aft w wr) (fun i _ => m - (intOf i).toNat)
      case atStart => exact ⟨0, Nat.zero_le _, rfl, by simp, (fun j _ h => by omega), A1'⟩
      case round =>
        obtain ⟨k, hk, rfl, hall, hids, haf⟩ := hrel
        have HALL := Lib.hid hall
        have HIDS := Lib.hid hids
        clear hall hids
        by_cases hlt : k < m
        · obtain ⟨b, off, x, rfl, hx, h5, hlw⟩ := hb.at_ hlt
          obtain ⟨c0, c1, c2, c3, c4⟩ := h5.aft haf
          have H5 := Lib.hid h5
          have HX := Lib.hid hx
          have HL := Lib.hid (refLexeme_any A n c ls x wr (ha.aft haf) (hlw.aft haf) (HSZ.out x (List.mem_of_getElem? hx)) (HS2.out x (List.mem_of_getElem? hx)))
          clear hx h5 hlw
          cases hn : lexOk ls x
          · rw [hn] at HL
            have HR := Lib.hid (validLx_bad (ls := ls) HX.out hn)
            clear hn
            go_wp2_with fail
            refine HL.out.mono ?_
            rintro e w3 ⟨rfl, A3⟩
            have haf3 := haf.trans A3
            go_wp2
            go_ret
            exact ⟨by rw [HR.out]; rfl, haf3⟩
          · rw [hn] at HL
            have HNX := Lib.hid (all_take_next HX.out HALL.out hn)
            clear hn
            go_wp2_with fail
            refine HL.out.mono ?_
            rintro e w3 ⟨rfl, A3⟩
            clear c0 c1 c2 c3 c4
            have haf3 := haf.trans A3
            obtain ⟨c0, c1, c2, c3, c4⟩ := H5.out.aft haf3
            have HI := Lib.hid (refIndexL_any (some ⟨b, off, none⟩) m d xs x.id w3 (hb.aft haf3))
            by_cases hi : idxL (fun z => decide (z.id = x.id)) xs = (k : Nat)
            · rw [hi] at HI
              have HN2 := Lib.hid (addB_next HIDS.out HX.out hi)
              clear hi
              go_wp2_with fail
              refine HI.out.mono ?_
              rintro e w4 ⟨rfl, A4⟩
              have haf4 := haf3.trans A4
              go_wp2
              go_roundw
              case rel => exact ⟨k + 1, by omega, by go_num, HNX.out, HN2.out, haf4⟩
              case measure => simp [intOf]; omega
            · have HR := Lib.hid (show validLx ls xs = false by simp [validLx, idx_ne HX.out hi])
              have hne : (idxL (fun z => decide (z.id = x.id)) xs != ((k : Nat) : Int)) = true := by rw [bne_iff_ne]; exact hi
              clear hi
              generalize idxL (fun z => decide (z.id = x.id)) xs = ix at HI hne
              go_wp2_with fail
              refine HI.out.mono ?_
              rintro e w4 ⟨rfl, A4⟩
              have haf4 := haf3.trans A4
              go_wp2
              go_ret
              exact ⟨by rw [HR.out]; rfl, haf4⟩
        · obtain rfl : k = m := by omega
          have HR := Lib.hid (show validLx ls xs = true by
            have hh := HALL.out
            rw [List.take_of_length_le (by rw [hlen.out]; exact Nat.le_refl _)] at hh
            have hl : decide (xs.length ≤ 256) = true := decide_eq_true (by rw [hlen.out]; omega)
            rw [validLx, HVB.out, hh, hl, addB_of_idx (fun j y hj hy => HIDS.out j y (by rw [hlen.out] at hj; exact hj) hy)]; rfl)
          go_wp2
          go_ret
          exact ⟨by rw [HR.out]; rfl, haf⟩
end Go.Proofs.YtfoeghabnbjbgaaGreatDoor
