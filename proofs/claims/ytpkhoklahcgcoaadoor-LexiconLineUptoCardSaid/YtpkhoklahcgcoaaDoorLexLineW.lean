/-
  Line returns the line of a lexeme, or the empty string if it has none. Conditions: the lexeme's features lie where it says; the line is no longer than 2^40 bytes; what strings.ContainsAny tells of its stem is given.
-/
import Derived.Test.YtpkhoklahcgcoaaDoorLexLine
import Derived.Test.YtpkhoklahcgcoaaDoorLexStem
import Derived.Test.YtpkhoklahcgcoaaDoorLexCat
import Derived.Test.YtpkhoklahcgcoaaDoorShelfL
namespace Go.Proofs.YtpkhoklahcgcoaaDoor
open Go.RowKit
open FeatPlain

/-- How an empty stem or paradigm is written. -/
def field (s : ByteArray) : ByteArray := if s = ⟨#[]⟩ then ⟨#[45]⟩ else s

set_option maxRecDepth 100000 in
set_option maxHeartbeats 1600000 in
theorem or2_any (g : Nat) (s : ByteArray) (w : World) (h0 : w.cell? ⟨g, 0, none⟩ = some (.string s)) (h1 : w.cell? ⟨g, 1, none⟩ = some (.string ⟨#[45]⟩)) :
    Calls Tryd.prog 18 #[.slice (some ⟨g, 0, none⟩) 2 2] w (fun e w' => e = .returned (.string (field s)) ∧ w = w') := by
  have he := empty_iff s
  by_cases h : s = ⟨#[]⟩
  · have HR := Lib.hid (show field s = ⟨#[45]⟩ by simp [field, h])
    have h2 : s.toList.isEmpty = true := by rw [he]; simp [h]
    have h3 : (!(s.toList == [])) = false := by rw [show (s.toList == []) = s.toList.isEmpty from by cases s.toList <;> rfl, h2]; rfl
    clear h he
    go_enter Tryd.func18, Tryd.ntmps18
    go_wp2
    go_loop [8] (fun i => ∃ k : Nat, k ≤ 1 ∧ i = .int .i64 k) (fun i => 2 - (intOf i).toNat)
    case atStart => exact ⟨0, by omega, rfl⟩
    case round =>
      obtain ⟨k, hk, rfl⟩ := hrel
      by_cases hk0 : k = 0
      · subst hk0
        go_wp2
        go_round
        case rel => exact ⟨1, by omega, rfl⟩
        case measure => simp [intOf]
      · obtain rfl : k = 1 := by omega
        go_wp2
        go_ret
        exact ⟨by rw [HR.out]; rfl, rfl⟩
  · have HR := Lib.hid (show field s = s by simp [field, h])
    have h2 : s.toList.isEmpty = false := by rw [he]; simp [h]
    have h3 : (!(s.toList == [])) = true := by rw [show (s.toList == []) = s.toList.isEmpty from by cases s.toList <;> rfl, h2]; rfl
    clear h he
    go_enter Tryd.func18, Tryd.ntmps18
    go_wp2
    go_loop [8] (fun i => i = .int .i64 0) (fun i => 2 - (intOf i).toNat)
    case atStart => rfl
    case round =>
      subst hrel
      go_wp2
      go_ret
      exact ⟨by rw [HR.out]; rfl, rfl⟩

theorem pair_new (w : World) (s : ByteArray) {H : Nat} (h : w.heap.size = H) : (w.alloc (.cells #[.string s, .string ⟨#[45]⟩] 9)).cell? ⟨H, 0, none⟩ = some (.string s) ∧ (w.alloc (.cells #[.string s, .string ⟨#[45]⟩] 9)).cell? ⟨H, 1, none⟩ = some (.string ⟨#[45]⟩) := by
  subst h
  exact ⟨by simp, by simp⟩

/-- The parts of the line. -/
def partsL (x : Lx) : List ByteArray := [x.id, x.cat, field x.stem, field x.par] ++ if x.fs = [] then [] else [⟨(text x.fs).toArray⟩]
/-- The line. -/
def lineT (x : Lx) : ByteArray := ⟨(Lib.join ((partsL x).map (·.data.toList)) [32]).toArray⟩
def lineS (x : Lx) : ByteArray := if lineB x then lineT x else ⟨#[]⟩

theorem joined_any (g o c : Nat) (xs : List ByteArray) (w : World) (hcells : ∀ (j : Nat) x, xs[j]? = some x → w.cell? ⟨g, o + j, none⟩ = some (.string x)) (hg : g < w.heap.size) (hc : xs.length ≤ c) (hn : xs.length ≤ 1000000) (hlen : (Lib.join (xs.map (·.data.toList)) [32]).length ≤ 140737488355328) :
    Calls Tryd.prog 20 #[.slice (some ⟨g, o, none⟩) xs.length c] w (fun e w' => e = .returned (.string ⟨(Lib.join (xs.map (·.data.toList)) [32]).toArray⟩) ∧ Aft w w') := by
  have HJ := Lib.hid (Tryd.strings_Join g o c xs ⟨#[32]⟩ w hcells hg (by omega) hc hlen)
  go_enter Tryd.func20, Tryd.ntmps20
  go_wp2_with fail
  refine HJ.out.mono ?_
  rintro e w1 ⟨rfl, A1⟩
  go_wp2
  go_ret
  exact ⟨rfl, A1⟩

theorem row4 (w : World) (l : List ByteArray) {p : Nat} (hp : w.heap.size = p) (hl : l.length = 4) {b : Nat} (hb : b ≤ p := by omega) : ((w.alloc (.cells (l.map Value.string).toArray 9)).drew).ownsRow b 9 1 (.slice (some ⟨p, 0, none⟩) 4 4) 4 (l.map Value.string) := by
  subst hp
  have := World.ownsRow_lit (base := w.heap.size) (e := 9) (size := 1) w (l.map Value.string).toArray 4 (Nat.le_refl _) (by unfold maxLen; omega) (by simp [hl])
  exact row_base this hb
theorem joined_row {w : World} {base n : Nat} {g c : Nat} {xs : List ByteArray} (h : w.ownsRow base 9 1 (.slice (some ⟨g, 0, none⟩) n c) n (xs.map Value.string)) (hl : xs.length = n) (hn : n ≤ 1000) (hlen : (Lib.join (xs.map (·.data.toList)) [32]).length ≤ 1099511627776) :
    Calls Tryd.prog 20 #[.slice (some ⟨g, 0, none⟩) n c] w (fun e w' => e = .returned (.string ⟨(Lib.join (xs.map (·.data.toList)) [32]).toArray⟩) ∧ Aft w w') := by
  subst hl
  rcases h.2 with ⟨e, _⟩ | ⟨g', cap, cur, e, _, hg, hle, _⟩
  · cases e
  · cases e
    refine joined_any g 0 c xs w (fun j x hj => ?_) (Array.getElem?_eq_some_iff.1 hg).1 hle (by omega) (by omega)
    rw [Nat.zero_add, h.cellAt _ (by have := (List.getElem?_eq_some_iff.1 hj).1; omega), List.getElem?_map, hj]
    rfl
def LinePost (w : World) (s : ByteArray) (e : Ending) (w' : World) : Prop := e = .returned (.string s) ∧ Aft w w'

set_option maxRecDepth 100000 in
set_option maxHeartbeats 3200000 in
theorem Line_any (x : Lx) (w : World) (hx : Lw w x) (hc : Cany x.stem) (hz : Sized x.fs) (hl : (lineT x).size ≤ 1099511627776) (ht : (text x.fs).length ≤ 1099511627776) : Calls Tryd.prog 8 #[.agg #[.string x.id, .string x.cat, .string x.stem, .string x.par, .slice x.fa x.fn x.fc]] w (LinePost w (lineS x)) := by
  have A0 := (Aft.refl w).alloc (.cells #[.string x.id, .string x.cat, .string x.stem, .string x.par, .slice x.fa x.fn x.fc] 24)
  have K1 := Lib.hid (hasLine_any x _ (hx.aft A0) hc hz)
  obtain ⟨i0, hi, hz0, hz1, hz2⟩ := info_parts Tryd.infoStr
  have hd0 := Lib.hid (five_new w x 24)
  cases h1 : lineB x
  · rw [h1] at K1
    have HR := Lib.hid (show lineS x = ⟨#[]⟩ by simp [lineS, h1])
    clear h1
    go_enter Tryd.func8, Tryd.ntmps8
    go_wp2_with fail
    refine K1.out.mono ?_
    rintro e w1 ⟨rfl, A1⟩
    go_wp2
    go_ret
    exact ⟨by rw [HR.out]; rfl, A0.trans A1⟩
  · rw [h1] at K1
    have HR := Lib.hid (show lineS x = lineT x by simp [lineS, h1])
    clear h1
    go_enter Tryd.func8, Tryd.ntmps8
    go_wp2_with fail
    refine K1.out.mono ?_
    rintro e w1 ⟨rfl, A1⟩
    obtain ⟨d0, d1, d2, d3, d4⟩ := hd0.out.aft A1
    simp only [Nat.zero_add] at d1 d2 d3 d4
    clear K1
    have A01 := A0.trans A1
    go_wp2
    refine wp_region_held_drew (S := fun w' => w'.cell? ⟨w.heap.size, 0, none⟩ = some (.string x.id) ∧ w'.cell? ⟨w.heap.size, 1, none⟩ = some (.string x.cat) ∧ w'.cell? ⟨w.heap.size, 2, none⟩ = some (.string x.stem) ∧ w'.cell? ⟨w.heap.size, 3, none⟩ = some (.string x.par) ∧ w'.cell? ⟨w.heap.size, 4, none⟩ = some (.slice x.fa x.fn x.fc)) (by kernel_rfl) ⟨d0, d1, d2, d3, d4⟩ (fun hHeld => ?_)
    refine take_on (i := 0) (v := ?v1015) rfl (by kernel_rfl) (by kernel_rfl) (by kernel_rfl) (fun _ _ _ h => h) (by rfl) (by assumption) ?y1015 ?_
    case y1015 => (intro w hSw; (try dsimp only at hSw); go_simp; (try with_reducible rfl))
    try simp only [Act.put, List.setIfInBounds_toArray, List.set_cons_zero, List.set_cons_succ]
    refine take_on (i := 1) (v := ?v1016) rfl (by kernel_rfl) (by kernel_rfl) (by kernel_rfl) (fun _ _ _ h => h) (by rfl) (by assumption) ?y1016 ?_
    case y1016 => (intro w hSw; (try dsimp only at hSw); go_simp; (try with_reducible rfl))
    try simp only [Act.put, List.setIfInBounds_toArray, List.set_cons_zero, List.set_cons_succ]
    refine take_on (i := 2) (v := ?v1017) rfl (by kernel_rfl) (by kernel_rfl) (by kernel_rfl) (fun _ _ _ h => h) (by rfl) (by assumption) ?y1017 ?_
    case y1017 => (intro w hSw; (try dsimp only at hSw); go_simp; (try with_reducible rfl))
    try simp only [Act.put, List.setIfInBounds_toArray, List.set_cons_zero, List.set_cons_succ]
    refine take_on (i := 3) (v := ?v1018) rfl (by kernel_rfl) (by kernel_rfl) (by kernel_rfl) (fun _ _ _ h => h) (by rfl) (by assumption) ?y1018 ?_
    case y1018 => (intro w hSw; (try dsimp only at hSw); go_simp; (try with_reducible rfl))
    try simp only [Act.put, List.setIfInBounds_toArray, List.set_cons_zero, List.set_cons_succ]
    refine take_on (i := 4) (v := ?v1019) rfl (by kernel_rfl) (by kernel_rfl) (by kernel_rfl) (fun _ _ _ h => h) (by rfl) (by assumption) ?y1019 ?_
    case y1019 => (intro w hSw; (try dsimp only at hSw); go_simp; (try with_reducible rfl))
    try simp only [Act.put, List.setIfInBounds_toArray, List.set_cons_zero, List.set_cons_succ]
    refine take_on (i := 5) (v := ?v1020) rfl (by kernel_rfl) (by kernel_rfl) (by kernel_rfl) (fun _ _ _ h => h) (by rfl) (by assumption) ?y1020 ?_
    case y1020 => (intro w hSw; (try dsimp only at hSw); go_simp; (try with_reducible rfl))
    try simp only [Act.put, List.setIfInBounds_toArray, List.set_cons_zero, List.set_cons_succ]
    refine take_on (i := 8) (v := ?v1021) rfl (by kernel_rfl) (by kernel_rfl) (by kernel_rfl) (fun _ _ _ h => h) (by rfl) (by assumption) ?y1021 ?_
    case y1021 => (intro w hSw; (try dsimp only at hSw); go_simp; (try with_reducible rfl))
    try simp only [Act.put, List.setIfInBounds_toArray, List.set_cons_zero, List.set_cons_succ]
    refine take_on (i := 9) (v := ?v1022) rfl (by kernel_rfl) (by kernel_rfl) (by kernel_rfl) (fun _ _ _ h => h) (by rfl) (by assumption) ?y1022 ?_
    case y1022 => (intro w hSw; (try dsimp only at hSw); go_simp; (try with_reducible rfl))
    try simp only [Act.put, List.setIfInBounds_toArray, List.set_cons_zero, List.set_cons_succ]
    have B0 := (Aft.refl w1).drew
    refine two_readyL (i := 6) (j := 10) rfl rfl (by kernel_rfl) (by rfl) (by rfl) (fun K hK => ?_) (fun K hK => ?_)
    · go_simp
      refine hK.out _ _ (⟨(B0.alloc _).cell d0, (B0.alloc _).cell d1, (B0.alloc _).cell d2, (B0.alloc _).cell d3, (B0.alloc _).cell d4⟩) (fun hHeld => ?_)
      clear hK K
      try simp only [Act.put, List.setIfInBounds_toArray, List.set_cons_zero, List.set_cons_succ]
      have B1 : Aft w1 (w1.drew.alloc (.cells #[.string x.stem, .string ⟨#[45]⟩] 9)) := B0.alloc _
      refine two_readyL (i := 7) (j := 10) rfl rfl (by kernel_rfl) (by rfl) (by rfl) (fun K hK => ?_) (fun K hK => ?_)
      · have hp := (pair_new w1.drew x.stem (H := w1.heap.size) (by simp))
        have hp0 : (w1.drew.alloc (.cells #[.string x.stem, .string ⟨#[45]⟩] 9)).cell? ⟨w1.heap.size, 0, none⟩ = some (.string x.stem) := ((Aft.refl _)).cell hp.1
        have hp1 : (w1.drew.alloc (.cells #[.string x.stem, .string ⟨#[45]⟩] 9)).cell? ⟨w1.heap.size, 1, none⟩ = some (.string ⟨#[45]⟩) := ((Aft.refl _)).cell hp.2
        go_simp
        refine (or2_any w1.heap.size x.stem _ hp0 hp1).mono ?_
        rintro e w9 ⟨rfl, rfl⟩
        clear hp hp0 hp1
        try go_simp
        refine hK.out _ _ (⟨B1.cell d0, B1.cell d1, B1.cell d2, B1.cell d3, B1.cell d4⟩) (fun hHeld => ?_)
        clear hK K
        try simp only [Act.put, List.setIfInBounds_toArray, List.set_cons_zero, List.set_cons_succ]
        refine one_ready (i := 10) rfl (by kernel_rfl) (by rfl) (fun K hK => ?_)
        go_simp
        refine hK.out _ _ (⟨(B1.alloc _).cell d0, (B1.alloc _).cell d1, (B1.alloc _).cell d2, (B1.alloc _).cell d3, (B1.alloc _).cell d4⟩) (fun hHeld => ?_)
        clear hK K
        try simp only [Act.put, List.setIfInBounds_toArray, List.set_cons_zero, List.set_cons_succ]
        have B2 : Aft w1 ((w1.drew.alloc (.cells #[.string x.stem, .string ⟨#[45]⟩] 9)).alloc (.cells #[.string x.par, .string ⟨#[45]⟩] 9)) := B1.alloc _
        refine one_ready (i := 11) rfl (by kernel_rfl) (by rfl) (fun K hK => ?_)
        have hp := (pair_new (w1.drew.alloc (.cells #[.string x.stem, .string ⟨#[45]⟩] 9)) x.par (H := (w1.heap.size + 1)) (by simp))
        have hp0 : ((w1.drew.alloc (.cells #[.string x.stem, .string ⟨#[45]⟩] 9)).alloc (.cells #[.string x.par, .string ⟨#[45]⟩] 9)).cell? ⟨(w1.heap.size + 1), 0, none⟩ = some (.string x.par) := ((Aft.refl _)).cell hp.1
        have hp1 : ((w1.drew.alloc (.cells #[.string x.stem, .string ⟨#[45]⟩] 9)).alloc (.cells #[.string x.par, .string ⟨#[45]⟩] 9)).cell? ⟨(w1.heap.size + 1), 1, none⟩ = some (.string ⟨#[45]⟩) := ((Aft.refl _)).cell hp.2
        go_simp
        refine (or2_any (w1.heap.size + 1) x.par _ hp0 hp1).mono ?_
        rintro e w9 ⟨rfl, rfl⟩
        clear hp hp0 hp1
        try go_simp
        refine hK.out _ _ (⟨B2.cell d0, B2.cell d1, B2.cell d2, B2.cell d3, B2.cell d4⟩) (fun hHeld => ?_)
        clear hK K
        try simp only [Act.put, List.setIfInBounds_toArray, List.set_cons_zero, List.set_cons_succ]
        refine one_ready (i := 12) rfl (by kernel_rfl) (by rfl) (fun K hK => ?_)
        go_simp
        refine hK.out _ _ (⟨(B2.alloc _).cell d0, (B2.alloc _).cell d1, (B2.alloc _).cell d2, (B2.alloc _).cell d3, (B2.alloc _).cell d4⟩) (fun hHeld => ?_)
        clear hK K
        try simp only [Act.put, List.setIfInBounds_toArray, List.set_cons_zero, List.set_cons_succ]
        refine take_on (i := 13) (v := ?v1024) rfl (by kernel_rfl) (by kernel_rfl) (by kernel_rfl) (fun _ _ _ h => h) (by rfl) (by assumption) ?y1024 ?_
        case y1024 => (intro w hSw; (try dsimp only at hSw); go_simp; (try with_reducible rfl))
        try simp only [Act.put, List.setIfInBounds_toArray, List.set_cons_zero, List.set_cons_succ]
        refine wpAnyH_done (by kernel_rfl) ?_ _
        have AW : Aft w1 ((((w1.alloc (.cells #[.string x.stem, .string ⟨#[45]⟩] 9)).alloc (.cells #[.string x.par, .string ⟨#[45]⟩] 9))).alloc (.cells #[.string x.id, .string x.cat, .string (field x.stem), .string (field x.par)] 9)).drew := ((((Aft.refl w1).alloc _).alloc _).alloc _).drew
        have own4 : (((((w1.alloc (.cells #[.string x.stem, .string ⟨#[45]⟩] 9)).alloc (.cells #[.string x.par, .string ⟨#[45]⟩] 9))).alloc (.cells #[.string x.id, .string x.cat, .string (field x.stem), .string (field x.par)] 9)).drew).ownsRow w1.heap.size 9 1 (.slice (some ⟨w1.heap.size + 1 + 1, 0, none⟩) 4 4) 4 ([x.id, x.cat, field x.stem, field x.par].map Value.string) := row4 _ _ (by simp) (by simp)
        obtain ⟨e0, e1, e2, e3, e4⟩ := hHeld
        generalize ((((w1.alloc (.cells #[.string x.stem, .string ⟨#[45]⟩] 9)).alloc (.cells #[.string x.par, .string ⟨#[45]⟩] 9))).alloc (.cells #[.string x.id, .string x.cat, .string (field x.stem), .string (field x.par)] 9)).drew = W2 at own4 AW e0 e1 e2 e3 e4 ⊢
        clear d0 d1 d2 d3 d4 B0 B1 B2
        have hs2 := AW.size
        have OWN4 := Lib.hid own4
        clear own4
        have hfl := hx.fts.len
        by_cases hfs : x.fn = 0
        · have hnil : x.fs = [] := List.length_eq_zero_iff.1 (by omega)
          have HP := Lib.hid (show partsL x = [x.id, x.cat, field x.stem, field x.par] by simp [partsL, hnil])
          have hfs' : ¬ (0 : Int) < (x.fn : Int) := by omega
          have hj := joined_row OWN4.out (by simp) (by simp) (by rw [← HP.out]; have := hl; simpa [lineT, ByteArray.size] using this)
          have HJ := Lib.hid hj
          clear hj hnil hfs
          go_wp2_with fail
          refine HJ.out.mono ?_
          rintro e w3 ⟨rfl, A3⟩
          go_wp2
          go_ret
          exact ⟨by rw [HR.out]; unfold lineT; rw [HP.out]; rfl, (A01.trans AW).trans A3⟩
        · have hnil : x.fs ≠ [] := fun e => by rw [e] at hfl; simp at hfl; omega
          have HP := Lib.hid (show partsL x = [x.id, x.cat, field x.stem, field x.par] ++ [⟨(text x.fs).toArray⟩] by simp [partsL, hnil])
          have hfs' : (0 : Int) < (x.fn : Int) := by omega
          have HT := Lib.hid (text_any x.fa x.fn x.fc x.fs W2 (hx.fts.aft (A01.trans AW)) (by omega))
          clear hnil hfs
          go_wp2_with fail
          refine HT.out.mono ?_
          rintro e w3 ⟨rfl, A3⟩
          have O3 := Lib.hid (own_aft OWN4.out A3)
          have hs3 := A3.size
          clear HT
          go_wp2_with (first
            | (at_builtin; refine wpList_append_own _ rfl _ _ 42 rfl w1.heap.size 9 i0 _ 1 16 Tryd.underlying42 hi hz0 hz1 hz2 rfl (by decide) _ 4 _ rfl (O3.out.alloc _) ⟨w3.heap.size, 0, none⟩ 1 1 [.string ⟨(text x.fs).toArray⟩] rfl rfl (cell_one_at _ _ _ rfl) (by simp [Value.oneCell']) (by unfold maxLen; omega) (by omega) (by simp; omega) ?_
               intro v' w4 own4 grow4 _
               have A4 := Lib.hid ((((A01.trans AW).trans A3).alloc (.cells #[.string ⟨(text x.fs).toArray⟩] 9)).grown grow4 (fun r hr => Nat.le_trans A01.size (O3.out.lt r hr).1))
               obtain ⟨g4, c4, rfl⟩ := row_shape own4
               have HJ := Lib.hid (joined_row (xs := [x.id, x.cat, field x.stem, field x.par] ++ [⟨(text x.fs).toArray⟩]) (n := 5) (by exact own4) (by simp) (by simp) (by rw [← HP.out]; have := hl; simpa [lineT, ByteArray.size] using this))
               clear own4 grow4))
          refine HJ.out.mono ?_
          rintro e w5 ⟨rfl, A5⟩
          go_wp2
          go_ret
          exact ⟨by rw [HR.out]; unfold lineT; rw [HP.out]; rfl, A4.out.trans A5⟩
      · go_simp
        refine hK.out _ _ (⟨(B1.alloc _).cell d0, (B1.alloc _).cell d1, (B1.alloc _).cell d2, (B1.alloc _).cell d3, (B1.alloc _).cell d4⟩) (fun hHeld => ?_)
        clear hK K
        try simp only [Act.put, List.setIfInBounds_toArray, List.set_cons_zero, List.set_cons_succ]
        have B2 : Aft w1 ((w1.drew.alloc (.cells #[.string x.stem, .string ⟨#[45]⟩] 9)).alloc (.cells #[.string x.par, .string ⟨#[45]⟩] 9)) := B1.alloc _
        refine one_ready (i := 7) rfl (by kernel_rfl) (by rfl) (fun K hK => ?_)
        have hp := (pair_new w1.drew x.stem (H := w1.heap.size) (by simp))
        have hp0 : ((w1.drew.alloc (.cells #[.string x.stem, .string ⟨#[45]⟩] 9)).alloc (.cells #[.string x.par, .string ⟨#[45]⟩] 9)).cell? ⟨w1.heap.size, 0, none⟩ = some (.string x.stem) := ((Aft.refl _).alloc _).cell hp.1
        have hp1 : ((w1.drew.alloc (.cells #[.string x.stem, .string ⟨#[45]⟩] 9)).alloc (.cells #[.string x.par, .string ⟨#[45]⟩] 9)).cell? ⟨w1.heap.size, 1, none⟩ = some (.string ⟨#[45]⟩) := ((Aft.refl _).alloc _).cell hp.2
        go_simp
        refine (or2_any w1.heap.size x.stem _ hp0 hp1).mono ?_
        rintro e w9 ⟨rfl, rfl⟩
        clear hp hp0 hp1
        try go_simp
        refine hK.out _ _ (⟨B2.cell d0, B2.cell d1, B2.cell d2, B2.cell d3, B2.cell d4⟩) (fun hHeld => ?_)
        clear hK K
        try simp only [Act.put, List.setIfInBounds_toArray, List.set_cons_zero, List.set_cons_succ]
        refine one_ready (i := 11) rfl (by kernel_rfl) (by rfl) (fun K hK => ?_)
        have hp := (pair_new (w1.drew.alloc (.cells #[.string x.stem, .string ⟨#[45]⟩] 9)) x.par (H := (w1.heap.size + 1)) (by simp))
        have hp0 : ((w1.drew.alloc (.cells #[.string x.stem, .string ⟨#[45]⟩] 9)).alloc (.cells #[.string x.par, .string ⟨#[45]⟩] 9)).cell? ⟨(w1.heap.size + 1), 0, none⟩ = some (.string x.par) := ((Aft.refl _)).cell hp.1
        have hp1 : ((w1.drew.alloc (.cells #[.string x.stem, .string ⟨#[45]⟩] 9)).alloc (.cells #[.string x.par, .string ⟨#[45]⟩] 9)).cell? ⟨(w1.heap.size + 1), 1, none⟩ = some (.string ⟨#[45]⟩) := ((Aft.refl _)).cell hp.2
        go_simp
        refine (or2_any (w1.heap.size + 1) x.par _ hp0 hp1).mono ?_
        rintro e w9 ⟨rfl, rfl⟩
        clear hp hp0 hp1
        try go_simp
        refine hK.out _ _ (⟨B2.cell d0, B2.cell d1, B2.cell d2, B2.cell d3, B2.cell d4⟩) (fun hHeld => ?_)
        clear hK K
        try simp only [Act.put, List.setIfInBounds_toArray, List.set_cons_zero, List.set_cons_succ]
        refine one_ready (i := 12) rfl (by kernel_rfl) (by rfl) (fun K hK => ?_)
        go_simp
        refine hK.out _ _ (⟨(B2.alloc _).cell d0, (B2.alloc _).cell d1, (B2.alloc _).cell d2, (B2.alloc _).cell d3, (B2.alloc _).cell d4⟩) (fun hHeld => ?_)
        clear hK K
        try simp only [Act.put, List.setIfInBounds_toArray, List.set_cons_zero, List.set_cons_succ]
        refine take_on (i := 13) (v := ?v1025) rfl (by kernel_rfl) (by kernel_rfl) (by kernel_rfl) (fun _ _ _ h => h) (by rfl) (by assumption) ?y1025 ?_
        case y1025 => (intro w hSw; (try dsimp only at hSw); go_simp; (try with_reducible rfl))
        try simp only [Act.put, List.setIfInBounds_toArray, List.set_cons_zero, List.set_cons_succ]
        refine wpAnyH_done (by kernel_rfl) ?_ _
        have AW : Aft w1 ((((w1.alloc (.cells #[.string x.stem, .string ⟨#[45]⟩] 9)).alloc (.cells #[.string x.par, .string ⟨#[45]⟩] 9))).alloc (.cells #[.string x.id, .string x.cat, .string (field x.stem), .string (field x.par)] 9)).drew := ((((Aft.refl w1).alloc _).alloc _).alloc _).drew
        have own4 : (((((w1.alloc (.cells #[.string x.stem, .string ⟨#[45]⟩] 9)).alloc (.cells #[.string x.par, .string ⟨#[45]⟩] 9))).alloc (.cells #[.string x.id, .string x.cat, .string (field x.stem), .string (field x.par)] 9)).drew).ownsRow w1.heap.size 9 1 (.slice (some ⟨w1.heap.size + 1 + 1, 0, none⟩) 4 4) 4 ([x.id, x.cat, field x.stem, field x.par].map Value.string) := row4 _ _ (by simp) (by simp)
        obtain ⟨e0, e1, e2, e3, e4⟩ := hHeld
        generalize ((((w1.alloc (.cells #[.string x.stem, .string ⟨#[45]⟩] 9)).alloc (.cells #[.string x.par, .string ⟨#[45]⟩] 9))).alloc (.cells #[.string x.id, .string x.cat, .string (field x.stem), .string (field x.par)] 9)).drew = W2 at own4 AW e0 e1 e2 e3 e4 ⊢
        clear d0 d1 d2 d3 d4 B0 B1 B2
        have hs2 := AW.size
        have OWN4 := Lib.hid own4
        clear own4
        have hfl := hx.fts.len
        by_cases hfs : x.fn = 0
        · have hnil : x.fs = [] := List.length_eq_zero_iff.1 (by omega)
          have HP := Lib.hid (show partsL x = [x.id, x.cat, field x.stem, field x.par] by simp [partsL, hnil])
          have hfs' : ¬ (0 : Int) < (x.fn : Int) := by omega
          have hj := joined_row OWN4.out (by simp) (by simp) (by rw [← HP.out]; have := hl; simpa [lineT, ByteArray.size] using this)
          have HJ := Lib.hid hj
          clear hj hnil hfs
          go_wp2_with fail
          refine HJ.out.mono ?_
          rintro e w3 ⟨rfl, A3⟩
          go_wp2
          go_ret
          exact ⟨by rw [HR.out]; unfold lineT; rw [HP.out]; rfl, (A01.trans AW).trans A3⟩
        · have hnil : x.fs ≠ [] := fun e => by rw [e] at hfl; simp at hfl; omega
          have HP := Lib.hid (show partsL x = [x.id, x.cat, field x.stem, field x.par] ++ [⟨(text x.fs).toArray⟩] by simp [partsL, hnil])
          have hfs' : (0 : Int) < (x.fn : Int) := by omega
          have HT := Lib.hid (text_any x.fa x.fn x.fc x.fs W2 (hx.fts.aft (A01.trans AW)) (by omega))
          clear hnil hfs
          go_wp2_with fail
          refine HT.out.mono ?_
          rintro e w3 ⟨rfl, A3⟩
          have O3 := Lib.hid (own_aft OWN4.out A3)
          have hs3 := A3.size
          clear HT
          go_wp2_with (first
            | (at_builtin; refine wpList_append_own _ rfl _ _ 42 rfl w1.heap.size 9 i0 _ 1 16 Tryd.underlying42 hi hz0 hz1 hz2 rfl (by decide) _ 4 _ rfl (O3.out.alloc _) ⟨w3.heap.size, 0, none⟩ 1 1 [.string ⟨(text x.fs).toArray⟩] rfl rfl (cell_one_at _ _ _ rfl) (by simp [Value.oneCell']) (by unfold maxLen; omega) (by omega) (by simp; omega) ?_
               intro v' w4 own4 grow4 _
               have A4 := Lib.hid ((((A01.trans AW).trans A3).alloc (.cells #[.string ⟨(text x.fs).toArray⟩] 9)).grown grow4 (fun r hr => Nat.le_trans A01.size (O3.out.lt r hr).1))
               obtain ⟨g4, c4, rfl⟩ := row_shape own4
               have HJ := Lib.hid (joined_row (xs := [x.id, x.cat, field x.stem, field x.par] ++ [⟨(text x.fs).toArray⟩]) (n := 5) (by exact own4) (by simp) (by simp) (by rw [← HP.out]; have := hl; simpa [lineT, ByteArray.size] using this))
               clear own4 grow4))
          refine HJ.out.mono ?_
          rintro e w5 ⟨rfl, A5⟩
          go_wp2
          go_ret
          exact ⟨by rw [HR.out]; unfold lineT; rw [HP.out]; rfl, A4.out.trans A5⟩
    · go_simp
      refine hK.out _ _ (⟨(B0.alloc _).cell d0, (B0.alloc _).cell d1, (B0.alloc _).cell d2, (B0.alloc _).cell d3, (B0.alloc _).cell d4⟩) (fun hHeld => ?_)
      clear hK K
      try simp only [Act.put, List.setIfInBounds_toArray, List.set_cons_zero, List.set_cons_succ]
      have B1 : Aft w1 (w1.drew.alloc (.cells #[.string x.par, .string ⟨#[45]⟩] 9)) := B0.alloc _
      refine one_ready (i := 6) rfl (by kernel_rfl) (by rfl) (fun K hK => ?_)
      go_simp
      refine hK.out _ _ (⟨(B1.alloc _).cell d0, (B1.alloc _).cell d1, (B1.alloc _).cell d2, (B1.alloc _).cell d3, (B1.alloc _).cell d4⟩) (fun hHeld => ?_)
      clear hK K
      try simp only [Act.put, List.setIfInBounds_toArray, List.set_cons_zero, List.set_cons_succ]
      have B2 : Aft w1 ((w1.drew.alloc (.cells #[.string x.par, .string ⟨#[45]⟩] 9)).alloc (.cells #[.string x.stem, .string ⟨#[45]⟩] 9)) := B1.alloc _
      refine one_ready (i := 7) rfl (by kernel_rfl) (by rfl) (fun K hK => ?_)
      have hp := (pair_new (w1.drew.alloc (.cells #[.string x.par, .string ⟨#[45]⟩] 9)) x.stem (H := (w1.heap.size + 1)) (by simp))
      have hp0 : ((w1.drew.alloc (.cells #[.string x.par, .string ⟨#[45]⟩] 9)).alloc (.cells #[.string x.stem, .string ⟨#[45]⟩] 9)).cell? ⟨(w1.heap.size + 1), 0, none⟩ = some (.string x.stem) := ((Aft.refl _)).cell hp.1
      have hp1 : ((w1.drew.alloc (.cells #[.string x.par, .string ⟨#[45]⟩] 9)).alloc (.cells #[.string x.stem, .string ⟨#[45]⟩] 9)).cell? ⟨(w1.heap.size + 1), 1, none⟩ = some (.string ⟨#[45]⟩) := ((Aft.refl _)).cell hp.2
      go_simp
      refine (or2_any (w1.heap.size + 1) x.stem _ hp0 hp1).mono ?_
      rintro e w9 ⟨rfl, rfl⟩
      clear hp hp0 hp1
      try go_simp
      refine hK.out _ _ (⟨B2.cell d0, B2.cell d1, B2.cell d2, B2.cell d3, B2.cell d4⟩) (fun hHeld => ?_)
      clear hK K
      try simp only [Act.put, List.setIfInBounds_toArray, List.set_cons_zero, List.set_cons_succ]
      refine one_ready (i := 11) rfl (by kernel_rfl) (by rfl) (fun K hK => ?_)
      have hp := (pair_new w1.drew x.par (H := w1.heap.size) (by simp))
      have hp0 : ((w1.drew.alloc (.cells #[.string x.par, .string ⟨#[45]⟩] 9)).alloc (.cells #[.string x.stem, .string ⟨#[45]⟩] 9)).cell? ⟨w1.heap.size, 0, none⟩ = some (.string x.par) := ((Aft.refl _).alloc _).cell hp.1
      have hp1 : ((w1.drew.alloc (.cells #[.string x.par, .string ⟨#[45]⟩] 9)).alloc (.cells #[.string x.stem, .string ⟨#[45]⟩] 9)).cell? ⟨w1.heap.size, 1, none⟩ = some (.string ⟨#[45]⟩) := ((Aft.refl _).alloc _).cell hp.2
      go_simp
      refine (or2_any w1.heap.size x.par _ hp0 hp1).mono ?_
      rintro e w9 ⟨rfl, rfl⟩
      clear hp hp0 hp1
      try go_simp
      refine hK.out _ _ (⟨B2.cell d0, B2.cell d1, B2.cell d2, B2.cell d3, B2.cell d4⟩) (fun hHeld => ?_)
      clear hK K
      try simp only [Act.put, List.setIfInBounds_toArray, List.set_cons_zero, List.set_cons_succ]
      refine one_ready (i := 12) rfl (by kernel_rfl) (by rfl) (fun K hK => ?_)
      go_simp
      refine hK.out _ _ (⟨(B2.alloc _).cell d0, (B2.alloc _).cell d1, (B2.alloc _).cell d2, (B2.alloc _).cell d3, (B2.alloc _).cell d4⟩) (fun hHeld => ?_)
      clear hK K
      try simp only [Act.put, List.setIfInBounds_toArray, List.set_cons_zero, List.set_cons_succ]
      refine take_on (i := 13) (v := ?v1026) rfl (by kernel_rfl) (by kernel_rfl) (by kernel_rfl) (fun _ _ _ h => h) (by rfl) (by assumption) ?y1026 ?_
      case y1026 => (intro w hSw; (try dsimp only at hSw); go_simp; (try with_reducible rfl))
      try simp only [Act.put, List.setIfInBounds_toArray, List.set_cons_zero, List.set_cons_succ]
      refine wpAnyH_done (by kernel_rfl) ?_ _
      have AW : Aft w1 ((((w1.alloc (.cells #[.string x.par, .string ⟨#[45]⟩] 9)).alloc (.cells #[.string x.stem, .string ⟨#[45]⟩] 9))).alloc (.cells #[.string x.id, .string x.cat, .string (field x.stem), .string (field x.par)] 9)).drew := ((((Aft.refl w1).alloc _).alloc _).alloc _).drew
      have own4 : (((((w1.alloc (.cells #[.string x.par, .string ⟨#[45]⟩] 9)).alloc (.cells #[.string x.stem, .string ⟨#[45]⟩] 9))).alloc (.cells #[.string x.id, .string x.cat, .string (field x.stem), .string (field x.par)] 9)).drew).ownsRow w1.heap.size 9 1 (.slice (some ⟨w1.heap.size + 1 + 1, 0, none⟩) 4 4) 4 ([x.id, x.cat, field x.stem, field x.par].map Value.string) := row4 _ _ (by simp) (by simp)
      obtain ⟨e0, e1, e2, e3, e4⟩ := hHeld
      generalize ((((w1.alloc (.cells #[.string x.par, .string ⟨#[45]⟩] 9)).alloc (.cells #[.string x.stem, .string ⟨#[45]⟩] 9))).alloc (.cells #[.string x.id, .string x.cat, .string (field x.stem), .string (field x.par)] 9)).drew = W2 at own4 AW e0 e1 e2 e3 e4 ⊢
      clear d0 d1 d2 d3 d4 B0 B1 B2
      have hs2 := AW.size
      have OWN4 := Lib.hid own4
      clear own4
      have hfl := hx.fts.len
      by_cases hfs : x.fn = 0
      · have hnil : x.fs = [] := List.length_eq_zero_iff.1 (by omega)
        have HP := Lib.hid (show partsL x = [x.id, x.cat, field x.stem, field x.par] by simp [partsL, hnil])
        have hfs' : ¬ (0 : Int) < (x.fn : Int) := by omega
        have hj := joined_row OWN4.out (by simp) (by simp) (by rw [← HP.out]; have := hl; simpa [lineT, ByteArray.size] using this)
        have HJ := Lib.hid hj
        clear hj hnil hfs
        go_wp2_with fail
        refine HJ.out.mono ?_
        rintro e w3 ⟨rfl, A3⟩
        go_wp2
        go_ret
        exact ⟨by rw [HR.out]; unfold lineT; rw [HP.out]; rfl, (A01.trans AW).trans A3⟩
      · have hnil : x.fs ≠ [] := fun e => by rw [e] at hfl; simp at hfl; omega
        have HP := Lib.hid (show partsL x = [x.id, x.cat, field x.stem, field x.par] ++ [⟨(text x.fs).toArray⟩] by simp [partsL, hnil])
        have hfs' : (0 : Int) < (x.fn : Int) := by omega
        have HT := Lib.hid (text_any x.fa x.fn x.fc x.fs W2 (hx.fts.aft (A01.trans AW)) (by omega))
        clear hnil hfs
        go_wp2_with fail
        refine HT.out.mono ?_
        rintro e w3 ⟨rfl, A3⟩
        have O3 := Lib.hid (own_aft OWN4.out A3)
        have hs3 := A3.size
        clear HT
        go_wp2_with (first
          | (at_builtin; refine wpList_append_own _ rfl _ _ 42 rfl w1.heap.size 9 i0 _ 1 16 Tryd.underlying42 hi hz0 hz1 hz2 rfl (by decide) _ 4 _ rfl (O3.out.alloc _) ⟨w3.heap.size, 0, none⟩ 1 1 [.string ⟨(text x.fs).toArray⟩] rfl rfl (cell_one_at _ _ _ rfl) (by simp [Value.oneCell']) (by unfold maxLen; omega) (by omega) (by simp; omega) ?_
             intro v' w4 own4 grow4 _
             have A4 := Lib.hid ((((A01.trans AW).trans A3).alloc (.cells #[.string ⟨(text x.fs).toArray⟩] 9)).grown grow4 (fun r hr => Nat.le_trans A01.size (O3.out.lt r hr).1))
             obtain ⟨g4, c4, rfl⟩ := row_shape own4
             have HJ := Lib.hid (joined_row (xs := [x.id, x.cat, field x.stem, field x.par] ++ [⟨(text x.fs).toArray⟩]) (n := 5) (by exact own4) (by simp) (by simp) (by rw [← HP.out]; have := hl; simpa [lineT, ByteArray.size] using this))
             clear own4 grow4))
        refine HJ.out.mono ?_
        rintro e w5 ⟨rfl, A5⟩
        go_wp2
        go_ret
        exact ⟨by rw [HR.out]; unfold lineT; rw [HP.out]; rfl, A4.out.trans A5⟩
end Go.Proofs.YtpkhoklahcgcoaaDoor
