/-
  Valid of package lexicon tells whether the letters are an alphabet, and the lexemes at most 256 with distinct IDs, names, words and records. Conditions: the slices hold the letters and the lexemes; no stem has more than 200 bytes; the tables of package unicode/utf8 lie as their texts say.
-/
import Derived.Test.YtfoeghabnbjbgaaDoorAlAll
import Derived.Test.YtfoeghabnbjbgaaDoorLexLine
import Derived.Test.YtfoeghabnbjbgaaDoorLexAdd
namespace Go.Proofs.YtfoeghabnbjbgaaDoor
open Go.RowKit Go.Maps Go.WideMaps
open FeatPlain

/-- A lexeme is valid over letters. -/
def lexOk (ls : List AlphPlain.Lt) (x : Lx) : Bool := namedB x && (Al.wordB ls x.stem && validB x.fs)
/-- Lexemes are a lexicon over letters. -/
def validLx (ls : List AlphPlain.Lt) (xs : List Lx) : Bool := Al.validB ls && (decide (xs.length ≤ 256) && (xs.all (lexOk ls) && addB [] (xs.map Lx.id)))
theorem validLx_bad {ls : List AlphPlain.Lt} {xs : List Lx} {k : Nat} {x : Lx} (h : xs[k]? = some x) (hs : lexOk ls x = false) : validLx ls xs = false := by
  have : xs.all (lexOk ls) = false := by rw [List.all_eq_false]; exact ⟨x, List.mem_of_getElem? h, by simp [hs]⟩
  simp [validLx, this]
theorem all_take_next {α : Type} {p : α → Bool} {l : List α} {k : Nat} {x : α} (h : l[k]? = some x) (ha : (l.take k).all p = true) (hx : p x = true) : (l.take (k + 1)).all p = true := by
  rw [take_next h, List.all_append, ha]; simp [hx]

set_option maxRecDepth 100000 in
set_option maxHeartbeats 3200000 in
theorem ValidL_any (A : Option Addr) (n c : Nat) (ls : List AlphPlain.Lt) (B : Option Addr) (m d : Nat) (xs : List Lx) (w : World) (hT : Al.Tabs w) (ha : Al.Ll w A n c ls) (hb : Ls w B m d xs) (hz : ∀ x ∈ xs, Sized x.fs) (hs2 : ∀ x ∈ xs, x.stem.size ≤ 200) :
    Calls Tryd.prog 7 #[.slice A n c, .slice B m d] w (BoolPost w (validLx ls xs)) := by
  have hmd := hb.le
  have hdm := hb.cmax
  have hlen := Lib.hid hb.len
  have HV := Lib.hid (Al.valid_any A n c ls w ha)
  have hmm := run_makeMapS
  cases hv : Al.validB ls
  · rw [hv] at HV
    have HR := Lib.hid (show validLx ls xs = false by simp [validLx, hv])
    clear hv
    go_enter Tryd.func7, Tryd.ntmps7
    go_wp2_with fail
    refine HV.out.mono ?_
    rintro e w1 ⟨rfl, A1⟩
    go_wp2
    go_ret
    exact ⟨by rw [HR.out]; rfl, A1⟩
  · rw [hv] at HV
    have HVB := Lib.hid hv
    clear hv
    by_cases hbig : 256 < m
    · have HR := Lib.hid (show validLx ls xs = false by simp [validLx, hlen.out]; omega)
      go_enter Tryd.func7, Tryd.ntmps7
      go_wp2_with fail
      refine HV.out.mono ?_
      rintro e w1 ⟨rfl, A1⟩
      go_wp2
      go_ret
      exact ⟨by rw [HR.out]; rfl, A1⟩
    · have HSZ := Lib.hid hz
      have HS2 := Lib.hid hs2
      clear hz hs2
      go_enter Tryd.func7, Tryd.ntmps7
      go_wp2_with fail
      refine HV.out.mono ?_
      rintro e w1 ⟨rfl, A1⟩
      have A1' : Aft w w1 := A1
      clear HV A1
      go_wp2
      go_loopw [17] (fun i wr => ∃ k, k ≤ m ∧ i = .int .i64 (k : Nat) ∧ (xs.take k).all (lexOk ls) = true ∧ Aft w wr) (fun i _ => m - (intOf i).toNat)
      case atStart => exact ⟨0, Nat.zero_le _, rfl, by simp, A1'⟩
      case round =>
        obtain ⟨k, hk, rfl, hall, haf⟩ := hrel
        have HALL := Lib.hid hall
        clear hall
        by_cases hlt : k < m
        · obtain ⟨b, off, x, rfl, hx, h5, hlw⟩ := hb.at_ hlt
          obtain ⟨c0, c1, c2, c3, c4⟩ := h5.aft haf
          have HX := Lib.hid hx
          have hzx := Lib.hid (HSZ.out x (List.mem_of_getElem? hx))
          have hA2 := (Aft.refl wr).alloc (.cells #[.string x.id, .string x.cat, .string x.stem, .string x.par, .slice x.fa x.fn x.fc] 30)
          have haf2 := haf.trans hA2
          have f5 := Lib.hid (five_new wr x 30)
          have HLW := Lib.hid (hlw.aft haf2)
          have HN := Lib.hid (isNamed_any x _ (hlw.aft haf2))
          have HAF2 := Lib.hid haf2
          have hst := HS2.out x (List.mem_of_getElem? hx)
          obtain ⟨d0, d1, d2, d3, d4⟩ := f5.out
          simp only [Nat.zero_add] at d1 d2 d3 d4
          clear hx h5 hlw hA2 haf2
          cases hn : namedB x
          · rw [hn] at HN
            have HR := Lib.hid (validLx_bad (ls := ls) HX.out (by simp [lexOk, hn]))
            clear hn
            go_wp2_with fail
            refine HN.out.mono ?_
            rintro e w3 ⟨rfl, A3⟩
            have haf3 := HAF2.out.trans A3
            go_wp2
            go_ret
            exact ⟨by rw [HR.out]; rfl, haf3⟩
          · rw [hn] at HN
            have HNB := Lib.hid hn
            clear hn
            go_wp2_with fail
            refine HN.out.mono ?_
            rintro e w3 ⟨rfl, A3⟩
            clear d0 d1 d2 d3 d4 c0 c1 c2 c3 c4
            have haf3 := HAF2.out.trans A3
            have HAF3 := Lib.hid haf3
            have HLW3 := Lib.hid (HLW.out.aft A3)
            obtain ⟨d0, d1, d2, d3, d4⟩ := f5.out.aft A3
            simp only [Nat.zero_add] at d1 d2 d3 d4
            have f53 := Lib.hid (f5.out.aft A3)
            have HW := Lib.hid (Al.isWord_any A n c ls x.stem w3 (ha.aft haf3) (by omega) (Al.tabs_aft hT haf3))
            clear HN haf3
            cases hw : Al.wordB ls x.stem
            · rw [hw] at HW
              have HR := Lib.hid (validLx_bad (ls := ls) HX.out (by simp [lexOk, hw]))
              clear hw
              go_wp2_with fail
              refine HW.out.mono ?_
              rintro e w4 ⟨rfl, A4⟩
              have haf4 := HAF3.out.trans A4
              go_wp2
              go_ret
              exact ⟨by rw [HR.out]; rfl, haf4⟩
            · rw [hw] at HW
              have HWB := Lib.hid hw
              clear hw
              go_wp2_with fail
              refine HW.out.mono ?_
              rintro e w4 ⟨rfl, A4⟩
              have A4' : Aft w3 w4 := A4
              clear A4 d0 d1 d2 d3 d4
              obtain ⟨d0, d1, d2, d3, d4⟩ := f53.out.aft A4'
              simp only [Nat.zero_add] at d1 d2 d3 d4
              have HAF4 := Lib.hid (HAF3.out.trans A4')
              have HF := Lib.hid (valid_any x.fa x.fn x.fc x.fs w4 (HLW3.out.aft A4').fts hzx.out)
              clear HW
              cases hf : validB x.fs
              · rw [hf] at HF
                have HR := Lib.hid (validLx_bad (ls := ls) HX.out (by simp [lexOk, hf]))
                clear hf
                go_wp2_with fail
                refine HF.out.mono ?_
                rintro e w5 ⟨rfl, A5⟩
                have haf5 := HAF4.out.trans A5
                go_wp2
                go_ret
                exact ⟨by rw [HR.out]; rfl, haf5⟩
              · rw [hf] at HF
                have HNX := Lib.hid (all_take_next HX.out HALL.out (show lexOk ls x = true by rw [lexOk, HNB.out, HWB.out, hf]; rfl))
                clear hf
                go_wp2_with fail
                refine HF.out.mono ?_
                rintro e w5 ⟨rfl, A5⟩
                have haf5 := HAF4.out.trans A5
                go_wp2
                go_roundw
                case rel => exact ⟨k + 1, by omega, by go_num, HNX.out, haf5⟩
                case measure => simp [intOf]; omega
        · obtain rfl : k = m := by omega
          have HADD := Lib.hid (addIDs_any B k d xs wr.heap.size 0 (.map []) [] wr _ (hb.aft haf) ((Aft.refl wr).alloc (.map #[] 0)) (Nat.le_refl _) ⟨World.ownsMap_made _ _ _ _, fun s => rfl⟩ (by omega) (by omega))
          have HR := Lib.hid (show validLx ls xs = addB [] (xs.map Lx.id) by
            have hh := HALL.out
            rw [List.take_of_length_le (by rw [hlen.out]; exact Nat.le_refl _)] at hh
            have hl : decide (xs.length ≤ 256) = true := decide_eq_true (by rw [hlen.out]; omega)
            rw [validLx, HVB.out, hh, hl]; rfl)
          go_wp2_with fail
          refine HADD.out.mono ?_
          rintro e w6 ⟨rfl, A6⟩
          have haf6 := haf.trans A6
          go_wp2
          go_ret
          exact ⟨by rw [HR.out]; rfl, haf6⟩
end Go.Proofs.YtfoeghabnbjbgaaDoor
