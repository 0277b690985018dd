/-
  isNamed, hasLine, cmp.Or of two strings, given. Conditions: the lexeme's features lie where it says; what strings.ContainsAny tells of its stem is given.
-/
import Derived.Test.YtpkhoklahcgcoaaDoorLexName
import Derived.Test.YtpkhoklahcgcoaaDoorLexClone
import Derived.Test.YtpkhoklahcgcoaaDoorFtAll
namespace Go.Proofs.YtpkhoklahcgcoaaDoor
open Go.RowKit
open FeatPlain

def dash : ByteArray := ⟨#[45]⟩
def namedB (x : Lx) : Bool := nameL x.id && (nameL x.cat && (decide (x.par = ⟨#[]⟩) || nameL x.par))
/-- A blank or a line feed is in the string. -/
def blanky (s : ByteArray) : Bool := s.data.toList.any fun b => b == 32 || b == 10
def lineB (x : Lx) : Bool := namedB x && (!decide (x.stem = dash) && (!blanky x.stem && (!decide (x.par = dash) && validB x.fs)))
theorem empty_iff (s : ByteArray) : s.toList.isEmpty = decide (s = ⟨#[]⟩) := by
  rw [ByteArray.toList_eq]
  obtain ⟨⟨l⟩⟩ := s
  cases l <;> simp
theorem dash_iff (s : ByteArray) : (s.toList == [45]) = decide (s = dash) := by
  rw [show ([45] : List UInt8) = dash.toList from by rw [ByteArray.toList_eq]; rfl, toList_beq]

set_option maxRecDepth 100000 in
set_option maxHeartbeats 1600000 in
theorem isNamed_any (x : Lx) (w : World) (hx : Lw w x) : Calls Tryd.prog 39 #[.agg #[.string x.id, .string x.cat, .string x.stem, .string x.par, .slice x.fa x.fn x.fc]] w (BoolPost w (namedB x)) := by
  have A0 := (Aft.refl w).alloc (.cells #[.string x.id, .string x.cat, .string x.stem, .string x.par, .slice x.fa x.fn x.fc] 24)
  have k1 := fun W => isNameL_any x.id W hx.wid
  have k2 := fun W => isNameL_any x.cat W hx.wcat
  have k3 := fun W => isNameL_any x.par W hx.wpar
  have hp := empty_iff x.par
  cases h1 : nameL x.id
  · rw [h1] at k1
    have HR := Lib.hid (show namedB x = false by simp [namedB, h1])
    have K1 := Lib.hid k1
    clear k1 k2 k3 h1
    go_enter Tryd.func39, Tryd.ntmps39
    go_wp2_with fail
    refine (K1.out _).mono ?_
    rintro e w1 ⟨rfl, rfl⟩
    go_wp2
    go_ret
    exact ⟨by rw [HR.out]; rfl, A0⟩
  · rw [h1] at k1
    cases h2 : nameL x.cat
    · rw [h2] at k2
      have HR := Lib.hid (show namedB x = false by simp [namedB, h2])
      have K1 := Lib.hid k1
      have K2 := Lib.hid k2
      clear k1 k2 k3 h1 h2
      go_enter Tryd.func39, Tryd.ntmps39
      go_wp2_with fail
      refine (K1.out _).mono ?_
      rintro e w1 ⟨rfl, rfl⟩
      go_wp2_with fail
      refine (K2.out _).mono ?_
      rintro e w1 ⟨rfl, rfl⟩
      go_wp2
      go_ret
      exact ⟨by rw [HR.out]; rfl, A0⟩
    · rw [h2] at k2
      by_cases h3 : x.par = ⟨#[]⟩
      · have HR := Lib.hid (show namedB x = true by simp [namedB, h1, h2, h3])
        have he : x.par.toList.isEmpty = true := by rw [hp, h3]; simp
        have K1 := Lib.hid k1
        have K2 := Lib.hid k2
        clear k1 k2 k3 h1 h2 h3 hp
        go_enter Tryd.func39, Tryd.ntmps39
        go_wp2_with fail
        refine (K1.out _).mono ?_
        rintro e w1 ⟨rfl, rfl⟩
        go_wp2_with fail
        refine (K2.out _).mono ?_
        rintro e w1 ⟨rfl, rfl⟩
        go_wp2
        go_ret
        exact ⟨by rw [HR.out]; rfl, A0⟩
      · have HR := Lib.hid (show namedB x = nameL x.par by simp [namedB, h1, h2, h3])
        have he : x.par.toList.isEmpty = false := by rw [hp]; simp [h3]
        have K1 := Lib.hid k1
        have K2 := Lib.hid k2
        have K3 := Lib.hid k3
        clear k1 k2 k3 h1 h2 h3 hp
        go_enter Tryd.func39, Tryd.ntmps39
        go_wp2_with fail
        refine (K1.out _).mono ?_
        rintro e w1 ⟨rfl, rfl⟩
        go_wp2_with fail
        refine (K2.out _).mono ?_
        rintro e w1 ⟨rfl, rfl⟩
        go_wp2_with fail
        refine (K3.out _).mono ?_
        rintro e w1 ⟨rfl, rfl⟩
        go_wp2
        go_ret
        exact ⟨by rw [HR.out]; rfl, A0⟩

def blanks : ByteArray := ⟨#[32, 10]⟩
/-- strings.ContainsAny tells whether a blank or a line feed is in the string. -/
def Cany (s : ByteArray) : Prop := ∀ w, Calls Tryd.prog 40 #[.string s, .string ⟨#[32, 10]⟩] w (BoolPost w (blanky s))

set_option maxRecDepth 100000 in
set_option maxHeartbeats 3200000 in
theorem hasLine_any (x : Lx) (w : World) (hx : Lw w x) (hc : Cany x.stem) (hz : Sized x.fs) : Calls Tryd.prog 17 #[.agg #[.string x.id, .string x.cat, .string x.stem, .string x.par, .slice x.fa x.fn x.fc]] w (BoolPost w (lineB x)) := by
  have A0 := (Aft.refl w).alloc (.cells #[.string x.id, .string x.cat, .string x.stem, .string x.par, .slice x.fa x.fn x.fc] 24)
  have k1 := isNamed_any x _ (hx.aft A0)
  have hd1 := dash_iff x.stem
  have hd2 := dash_iff x.par
  have HC := Lib.hid hc
  clear hc
  cases h1 : namedB x
  · rw [h1] at k1
    have HR := Lib.hid (show lineB x = false by simp [lineB, h1])
    have K1 := Lib.hid k1
    clear k1 h1 hd1 hd2
    go_enter Tryd.func17, Tryd.ntmps17
    go_wp2_with fail
    refine K1.out.mono ?_
    rintro e w1 ⟨rfl, A1⟩
    go_wp2
    go_ret
    exact ⟨by rw [HR.out]; rfl, A0.trans A1⟩
  · rw [h1] at k1
    have K1 := Lib.hid k1
    clear k1
    by_cases h2 : x.stem = dash
    · have HR := Lib.hid (show lineB x = false by simp [lineB, h2])
      have he : (x.stem.toList == [45]) = true := by rw [hd1]; simp [h2]
      clear h1 hd1 hd2 h2
      go_enter Tryd.func17, Tryd.ntmps17
      go_wp2_with fail
      refine K1.out.mono ?_
      rintro e w1 ⟨rfl, A1⟩
      obtain ⟨d0, d1, d2, d3, d4⟩ := (five_new w x 24).aft A1
      simp only [Nat.zero_add] at d1 d2 d3 d4
      go_wp2
      go_ret
      exact ⟨by rw [HR.out]; rfl, A0.trans A1⟩
    · have he : (x.stem.toList == [45]) = false := by rw [hd1]; simp [h2]
      cases h3 : blanky x.stem
      · by_cases h4 : x.par = dash
        · have HR := Lib.hid (show lineB x = false by simp [lineB, h4])
          have he4 : (x.par.toList == [45]) = true := by rw [hd2]; simp [h4]
          have H3 := Lib.hid h3
          clear h1 hd1 hd2 h2 h3 h4
          go_enter Tryd.func17, Tryd.ntmps17
          go_wp2_with fail
          refine K1.out.mono ?_
          rintro e w1 ⟨rfl, A1⟩
          obtain ⟨d0, d1, d2, d3, d4⟩ := (five_new w x 24).aft A1
          simp only [Nat.zero_add] at d1 d2 d3 d4
          have k2 := HC.out w1
          rw [H3.out] at k2
          have K2 := Lib.hid k2
          clear k2
          go_wp2_with fail
          refine K2.out.mono ?_
          rintro e w2 ⟨rfl, A2⟩
          have e3 := A2.cell d3
          go_wp2
          go_ret
          exact ⟨by rw [HR.out]; rfl, (A0.trans A1).trans A2⟩
        · have HR := Lib.hid (show lineB x = validB x.fs by simp [lineB, h1, h2, h3, h4])
          have he4 : (x.par.toList == [45]) = false := by rw [hd2]; simp [h4]
          have H3 := Lib.hid h3
          clear h1 hd1 hd2 h2 h3 h4
          go_enter Tryd.func17, Tryd.ntmps17
          go_wp2_with fail
          refine K1.out.mono ?_
          rintro e w1 ⟨rfl, A1⟩
          obtain ⟨d0, d1, d2, d3, d4⟩ := (five_new w x 24).aft A1
          simp only [Nat.zero_add] at d1 d2 d3 d4
          have k2 := HC.out w1
          rw [H3.out] at k2
          have K2 := Lib.hid k2
          clear k2
          go_wp2_with fail
          refine K2.out.mono ?_
          rintro e w2 ⟨rfl, A2⟩
          have e3 := A2.cell d3
          have e4 := A2.cell d4
          have K3 := Lib.hid (valid_any x.fa x.fn x.fc x.fs w2 (hx.fts.aft ((A0.trans A1).trans A2)) hz)
          go_wp2_with fail
          refine K3.out.mono ?_
          rintro e w3 ⟨rfl, A3⟩
          go_wp2
          go_ret
          exact ⟨by rw [HR.out]; rfl, ((A0.trans A1).trans A2).trans A3⟩
      · have HR := Lib.hid (show lineB x = false by simp [lineB, h3])
        have H3 := Lib.hid h3
        clear h1 hd1 hd2 h2 h3
        go_enter Tryd.func17, Tryd.ntmps17
        go_wp2_with fail
        refine K1.out.mono ?_
        rintro e w1 ⟨rfl, A1⟩
        obtain ⟨d0, d1, d2, d3, d4⟩ := (five_new w x 24).aft A1
        simp only [Nat.zero_add] at d1 d2 d3 d4
        have k2 := HC.out w1
        rw [H3.out] at k2
        have K2 := Lib.hid k2
        clear k2
        go_wp2_with fail
        refine K2.out.mono ?_
        rintro e w2 ⟨rfl, A2⟩
        go_wp2
        go_ret
        exact ⟨by rw [HR.out]; rfl, (A0.trans A1).trans A2⟩
end Go.Proofs.YtpkhoklahcgcoaaDoor
