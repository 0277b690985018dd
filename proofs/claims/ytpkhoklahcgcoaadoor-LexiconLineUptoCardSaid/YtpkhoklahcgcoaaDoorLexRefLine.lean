/-
  The reference's Line of package lexicon writes what the program's Line writes. Conditions: the lexeme's features lie where it says; its strings are short (60, 60, 200 and 60 bytes), and the text of its features has at most 2^40 bytes.
-/
import Derived.Test.YtpkhoklahcgcoaaDoorLexCany
import Derived.Test.YtpkhoklahcgcoaaDoorLexLineW
import Derived.Test.YtpkhoklahcgcoaaDoorTextRef
import Derived.Test.YtpkhoklahcgcoaaDoorFtAll
namespace Go.Proofs.YtpkhoklahcgcoaaDoor
open Go.RowKit
open FeatPlain

theorem field_any (s : ByteArray) (w : World) : Calls Tryd.prog 23 #[.string s] w (fun e w' => e = .returned (.string (field s)) ∧ w' = w) := by
  have he := empty_iff s
  by_cases h : s = ⟨#[]⟩
  · have h1 : s.toList.isEmpty = true := by rw [he]; simp [h]
    have HR := Lib.hid (show field s = ⟨#[45]⟩ by simp [field, h])
    clear he h
    go_enter Tryd.func23, Tryd.ntmps23
    go_wp2
    go_ret
    exact ⟨by rw [HR.out]; rfl, rfl⟩
  · have h1 : s.toList.isEmpty = false := by rw [he]; simp [h]
    have HR := Lib.hid (show field s = s by simp [field, h])
    clear he h
    go_enter Tryd.func23, Tryd.ntmps23
    go_wp2
    go_ret
    exact ⟨by rw [HR.out]; rfl, rfl⟩
theorem field_size (s : ByteArray) : (field s).size ≤ s.size + 1 := by
  unfold field
  split
  · show 1 ≤ _; omega
  · omega
theorem drop_byteC (s : ByteArray) (k : Nat) (h : k < s.size) : s.data.toList.drop k = s[k] :: s.data.toList.drop (k + 1) := List.drop_eq_getElem_cons (by simpa using h)
theorem arr_ext {a b : ByteArray} (h : a.data.toList = b.data.toList) : a = b := by
  cases a; cases b; congr 1; exact Array.toList_inj.1 h
theorem text_size (fs : List Ft) : (ByteArray.mk (text fs).toArray).size = (text fs).length := by simp [ByteArray.size]
theorem lineT_none {x : Lx} (h : x.fs = []) : x.id ++ ⟨#[32]⟩ ++ x.cat ++ ⟨#[32]⟩ ++ field x.stem ++ ⟨#[32]⟩ ++ field x.par = lineT x := by
  refine arr_ext ?_
  unfold lineT partsL
  rw [if_pos h]
  simp [Lib.join, ByteArray.data_append]
theorem lineT_some {x : Lx} (h : x.fs ≠ []) : x.id ++ ⟨#[32]⟩ ++ x.cat ++ ⟨#[32]⟩ ++ field x.stem ++ ⟨#[32]⟩ ++ field x.par ++ (⟨#[32]⟩ ++ (⟨(text x.fs).toArray⟩ : ByteArray)) = lineT x := by
  refine arr_ext ?_
  unfold lineT partsL
  rw [if_neg h]
  simp [Lib.join, ByteArray.data_append]

set_option maxRecDepth 100000 in
set_option maxHeartbeats 6400000 in
theorem refLine_any (x : Lx) (w : World) (hx : Lw w x) (hz : Sized x.fs) (s0 : x.id.size ≤ 60) (s1 : x.cat.size ≤ 60) (s2 : x.stem.size ≤ 200) (s3 : x.par.size ≤ 60) (ht : (text x.fs).length ≤ 1099511627776) :
    Calls Tryd.prog 9 #[.agg #[.string x.id, .string x.cat, .string x.stem, .string x.par, .slice x.fa x.fn x.fc]] w (LinePost w (lineS x)) := by
  have A0 := (Aft.refl w).alloc (.cells #[.string x.id, .string x.cat, .string x.stem, .string x.par, .slice x.fa x.fn x.fc] 24)
  have K1 := Lib.hid (fun W => refName_any x.id W hx.wid)
  have K2 := Lib.hid (fun W => refName_any x.cat W hx.wcat)
  have K3 := Lib.hid (fun W => refName_any x.par W hx.wpar)
  have K4 := Lib.hid (refValid_any x.fa x.fn x.fc x.fs _ (hx.aft A0).fts hz)
  have KT := Lib.hid (fun W (q : Aft w W) => refText_any x.fa x.fn x.fc x.fs W (hx.aft q).fts (by omega))
  have hfl := Lib.hid hx.fts.len
  obtain ⟨d0, d1, d2, d3, d4⟩ := five_new w x 24
  simp only [Nat.zero_add] at d1 d2 d3 d4
  have hp := Lib.hid (empty_iff x.par)
  have hd1 := Lib.hid (dash_iff x.stem)
  have hd2 := Lib.hid (dash_iff x.par)
  have HB := Lib.hid (show blanky x.stem = blankL (x.stem.data.toList.drop 0) from rfl)
  have HBL := Lib.hid (show blanky x.stem = true → lineS x = ⟨#[]⟩ from fun h => by simp [lineS, lineB, h])
  go_enter Tryd.func9, Tryd.ntmps9
  go_wp2
  go_loop [3] (fun i => ∃ k : Nat, k ≤ x.stem.size ∧ i = .int .i64 k ∧ blanky x.stem = blankL (x.stem.data.toList.drop k)) (fun i => x.stem.size - (intOf i).toNat)
  case atStart => exact ⟨0, Nat.zero_le _, rfl, HB.out⟩
  case round =>
    obtain ⟨k, hk, rfl, he⟩ := hrel
    have HE := Lib.hid he
    clear he
    by_cases hlt : k < x.stem.size
    · have hst := Lib.hid (HE.out.trans ((congrArg blankL (drop_byteC x.stem k hlt)).trans (blankL_cons _ _)))
      by_cases h32 : x.stem[k].toNat = 32
      · have b32 : ((x.stem[k].toNat : Int) == 32) = true := by rw [beq_iff_eq]; omega
        have HR := Lib.hid (HBL.out (by rw [hst.out]; simp [blankR, h32]))
        clear h32
        go_wp2
        go_ret
        exact ⟨by rw [HR.out]; rfl, A0⟩
      · have b32 : ((x.stem[k].toNat : Int) == 32) = false := by rw [beq_eq_false_iff_ne]; omega
        by_cases h10 : x.stem[k].toNat = 10
        · have b10 : ((x.stem[k].toNat : Int) == 10) = true := by rw [beq_iff_eq]; omega
          have HR := Lib.hid (HBL.out (by rw [hst.out]; simp [blankR, h10]))
          clear h10 h32
          go_wp2
          go_ret
          exact ⟨by rw [HR.out]; rfl, A0⟩
        · have b10 : ((x.stem[k].toNat : Int) == 10) = false := by rw [beq_eq_false_iff_ne]; omega
          have HN := Lib.hid (show blanky x.stem = blankL (x.stem.data.toList.drop (k + 1)) by rw [hst.out]; simp [blankR, h10, h32])
          clear h10 h32
          go_wp2
          go_round
          case rel => exact ⟨k + 1, by omega, by go_num, HN.out⟩
          case measure => simp [intOf]; omega
    · obtain rfl : k = x.stem.size := by omega
      have HBF := Lib.hid (show blanky x.stem = false by
        rw [HE.out, List.drop_of_length_le (by rw [Array.length_toList]; exact Nat.le_refl _)]; rfl)
      clear HE
      have t1 := K1.out
      have t2 := K2.out
      have t3 := K3.out
      have t4 := K4.out
      cases h1 : nameL x.id
      · rw [h1] at t1
        have HR := Lib.hid (show lineS x = ⟨#[]⟩ by simp [lineS, lineB, namedB, h1])
        have T1 := Lib.hid t1
        clear t1 t2 t3 t4 h1
        go_wp2_with fail
        refine (T1.out _).mono ?_
        rintro e w1 ⟨rfl, rfl⟩
        go_wp2
        go_ret
        exact ⟨by rw [HR.out]; rfl, A0⟩
      · rw [h1] at t1
        cases h2 : nameL x.cat
        · rw [h2] at t2
          have HR := Lib.hid (show lineS x = ⟨#[]⟩ by simp [lineS, lineB, namedB, h2])
          have T1 := Lib.hid t1
          have T2 := Lib.hid t2
          clear t1 t2 t3 t4 h1 h2
          go_wp2_with fail
          refine (T1.out _).mono ?_
          rintro e w1 ⟨rfl, rfl⟩
          go_wp2_with fail
          refine (T2.out _).mono ?_
          rintro e w1 ⟨rfl, rfl⟩
          go_wp2
          go_ret
          exact ⟨by rw [HR.out]; rfl, A0⟩
        · rw [h2] at t2
          by_cases h3 : x.stem = dash
          · have he3 : (x.stem.toList == [45]) = true := by rw [hd1.out]; simp [h3]
            have HR := Lib.hid (show lineS x = ⟨#[]⟩ by simp [lineS, lineB, h3])
            have T1 := Lib.hid t1
            have T2 := Lib.hid t2
            clear t1 t2 t3 t4 h1 h2 h3
            go_wp2_with fail
            refine (T1.out _).mono ?_
            rintro e w1 ⟨rfl, rfl⟩
            go_wp2_with fail
            refine (T2.out _).mono ?_
            rintro e w1 ⟨rfl, rfl⟩
            go_wp2
            go_ret
            exact ⟨by rw [HR.out]; rfl, A0⟩
          · have he3 : (x.stem.toList == [45]) = false := by rw [hd1.out]; simp [h3]
            by_cases h4 : x.par = ⟨#[]⟩
            · have he4 : x.par.toList.isEmpty = true := by rw [hp.out]; simp [h4]
              have h5 : x.par ≠ dash := by rw [h4]; decide
              have he5 : (x.par.toList == [45]) = false := by rw [hd2.out]; simp [h5]
              cases h6 : validB x.fs
              · rw [h6] at t4
                have HR := Lib.hid (show lineS x = ⟨#[]⟩ by simp [lineS, lineB, h6])
                have T1 := Lib.hid t1
                have T2 := Lib.hid t2
                have T4 := Lib.hid t4
                clear t1 t2 t3 t4 h1 h2 h3 h4 h5 h6
                go_wp2_with fail
                refine (T1.out _).mono ?_
                rintro e w1 ⟨rfl, rfl⟩
                go_wp2_with fail
                refine (T2.out _).mono ?_
                rintro e w1 ⟨rfl, rfl⟩
                go_wp2_with fail
                refine T4.out.mono ?_
                rintro e w1 ⟨rfl, q, rfl⟩
                go_wp2
                go_ret
                exact ⟨by rw [HR.out]; rfl, A0.drewN q⟩
              · rw [h6] at t4
                have HL := Lib.hid (show lineS x = lineT x by rw [lineS, if_pos]; rw [lineB, namedB, h1, h2, decide_eq_false h3, decide_eq_false h5, h6, HBF.out, decide_eq_true h4]; rfl)
                have T1 := Lib.hid t1
                have T2 := Lib.hid t2
                have T4 := Lib.hid t4
                clear t1 t2 t3 t4 h1 h2 h3 h4 h5 h6
                go_wp2_with fail
                refine (T1.out _).mono ?_
                rintro e w1 ⟨rfl, rfl⟩
                go_wp2_with fail
                refine (T2.out _).mono ?_
                rintro e w1 ⟨rfl, rfl⟩
                go_wp2_with fail
                refine T4.out.mono ?_
                rintro e w1 ⟨rfl, q, rfl⟩
                have q1 : (ByteArray.mk #[32]).size = 1 := rfl
                have hs2 := field_size x.stem
                have hs3 := field_size x.par
                have z0 : ¬ 9223372036854775807 < x.id.size + 1 := by omega
                have z1 : ¬ 9223372036854775807 < (x.id ++ ⟨#[32]⟩).size + x.cat.size := by rw [ByteArray.size_append]; omega
                have z1' : ¬ 9223372036854775807 < x.id.size + 1 + x.cat.size := by omega
                have z2 : ¬ 9223372036854775807 < (x.id ++ ⟨#[32]⟩ ++ x.cat).size + 1 := by rw [ByteArray.size_append, ByteArray.size_append]; omega
                have z2' : ¬ 9223372036854775807 < x.id.size + 1 + x.cat.size + 1 := by omega
                have z3 : (x.id ++ ⟨#[32]⟩ ++ x.cat ++ ⟨#[32]⟩ ++ field x.stem).size ≤ 1000 := by rw [ByteArray.size_append, ByteArray.size_append, ByteArray.size_append, ByteArray.size_append]; omega
                have z3' : ¬ 9223372036854775807 < (x.id ++ ⟨#[32]⟩ ++ x.cat ++ ⟨#[32]⟩).size + (field x.stem).size := by rw [← ByteArray.size_append]; omega
                have z3'' : ¬ 9223372036854775807 < x.id.size + 1 + x.cat.size + 1 + (field x.stem).size := by omega
                have z4 : ¬ 9223372036854775807 < (x.id ++ ⟨#[32]⟩ ++ x.cat ++ ⟨#[32]⟩ ++ field x.stem).size + 1 := by omega
                have z4' : ¬ 9223372036854775807 < x.id.size + 1 + x.cat.size + 1 + (field x.stem).size + 1 := by omega
                have z5 : (x.id ++ ⟨#[32]⟩ ++ x.cat ++ ⟨#[32]⟩ ++ field x.stem ++ ⟨#[32]⟩ ++ field x.par).size ≤ 2000 := by rw [ByteArray.size_append, ByteArray.size_append]; omega
                have z5' : ¬ 9223372036854775807 < (x.id ++ ⟨#[32]⟩ ++ x.cat ++ ⟨#[32]⟩ ++ field x.stem ++ ⟨#[32]⟩).size + (field x.par).size := by rw [← ByteArray.size_append]; omega
                have z5'' : ¬ 9223372036854775807 < x.id.size + 1 + x.cat.size + 1 + (field x.stem).size + 1 + (field x.par).size := by omega
                go_wp2
                refine wp_region_held_drew (S := fun w' => w'.cell? ⟨w.heap.size, 0, none⟩ = some (.string x.id) ∧ w'.cell? ⟨w.heap.size, 1, none⟩ = some (.string x.cat) ∧ w'.cell? ⟨w.heap.size, 2, none⟩ = some (.string x.stem) ∧ w'.cell? ⟨w.heap.size, 3, none⟩ = some (.string x.par)) (by kernel_rfl) (⟨d0, d1, d2, d3⟩) (fun hHeld => ?_)
                refine take_on (i := 0) (v := ?v1) rfl (by kernel_rfl) (by kernel_rfl) (by kernel_rfl) (fun _ _ _ h => h) (by rfl) (by assumption) ?y1 ?_
                case y1 => (intro w hSw; (try dsimp only at hSw); go_simp; (try with_reducible rfl))
                try simp only [Act.put, List.setIfInBounds_toArray, List.set_cons_zero, List.set_cons_succ]
                refine take_on (i := 1) (v := ?v2) rfl (by kernel_rfl) (by kernel_rfl) (by kernel_rfl) (fun _ _ _ h => h) (by rfl) (by assumption) ?y2 ?_
                case y2 => (intro w hSw; (try dsimp only at hSw); go_simp; (try with_reducible rfl))
                try simp only [Act.put, List.setIfInBounds_toArray, List.set_cons_zero, List.set_cons_succ]
                refine take_on (i := 2) (v := ?v3) rfl (by kernel_rfl) (by kernel_rfl) (by kernel_rfl) (fun _ _ _ h => h) (by rfl) (by assumption) ?y3 ?_
                case y3 => (intro w hSw; (try dsimp only at hSw); go_simp; (try with_reducible rfl))
                try simp only [Act.put, List.setIfInBounds_toArray, List.set_cons_zero, List.set_cons_succ]
                refine take_on (i := 3) (v := ?v4) rfl (by kernel_rfl) (by kernel_rfl) (by kernel_rfl) (fun _ _ _ h => h) (by rfl) (by assumption) ?y4 ?_
                case y4 => (intro w hSw; (try dsimp only at hSw); go_simp; (try with_reducible rfl))
                try simp only [Act.put, List.setIfInBounds_toArray, List.set_cons_zero, List.set_cons_succ]
                refine take_on (i := 4) (v := ?v5) rfl (by kernel_rfl) (by kernel_rfl) (by kernel_rfl) (fun _ _ _ h => h) (by rfl) (by assumption) ?y5 ?_
                case y5 => (intro w hSw; (try dsimp only at hSw); go_simp; (try with_reducible rfl))
                try simp only [Act.put, List.setIfInBounds_toArray, List.set_cons_zero, List.set_cons_succ]
                refine take_on (i := 5) (v := ?v6) rfl (by kernel_rfl) (by kernel_rfl) (by kernel_rfl) (fun _ _ _ h => h) (by rfl) (by assumption) ?y6 ?_
                case y6 => (intro w hSw; (try dsimp only at hSw); go_simp; (try with_reducible rfl))
                try simp only [Act.put, List.setIfInBounds_toArray, List.set_cons_zero, List.set_cons_succ]
                refine take_on (i := 6) (v := ?v7) rfl (by kernel_rfl) (by kernel_rfl) (by kernel_rfl) (fun _ _ _ h => h) (by rfl) (by assumption) ?y7 ?_
                case y7 => (intro w hSw; (try dsimp only at hSw); go_simp; (try with_reducible rfl))
                try simp only [Act.put, List.setIfInBounds_toArray, List.set_cons_zero, List.set_cons_succ]
                refine take_on (i := 7) (v := ?v8) rfl (by kernel_rfl) (by kernel_rfl) (by kernel_rfl) (fun _ _ _ h => h) (by rfl) (by assumption) ?y8 ?_
                case y8 => (intro w hSw; (try dsimp only at hSw); go_simp; (try with_reducible rfl))
                try simp only [Act.put, List.setIfInBounds_toArray, List.set_cons_zero, List.set_cons_succ]
                refine take_on (i := 8) (v := ?v9) rfl (by kernel_rfl) (by kernel_rfl) (by kernel_rfl) (fun _ _ _ h => h) (by rfl) (by assumption) ?y9 ?_
                case y9 => (intro w hSw; (try dsimp only at hSw); go_simp; (try with_reducible rfl))
                try simp only [Act.put, List.setIfInBounds_toArray, List.set_cons_zero, List.set_cons_succ]
                refine take_on (i := 12) (v := ?v10) rfl (by kernel_rfl) (by kernel_rfl) (by kernel_rfl) (fun _ _ _ h => h) (by rfl) (by assumption) ?y10 ?_
                case y10 => (intro w hSw; (try dsimp only at hSw); go_simp; (try with_reducible rfl))
                try simp only [Act.put, List.setIfInBounds_toArray, List.set_cons_zero, List.set_cons_succ]
                refine take_on (i := 13) (v := ?v11) rfl (by kernel_rfl) (by kernel_rfl) (by kernel_rfl) (fun _ _ _ h => h) (by rfl) (by assumption) ?y11 ?_
                case y11 => (intro w hSw; (try dsimp only at hSw); go_simp; (try with_reducible rfl))
                try simp only [Act.put, List.setIfInBounds_toArray, List.set_cons_zero, List.set_cons_succ]
                refine one_ready (i := 9) rfl (by kernel_rfl) (by rfl) (fun K hK => ?_)
                go_simp
                refine (field_any x.stem _).mono ?_
                rintro e w2 ⟨rfl, rfl⟩
                refine hK.out _ _ (by assumption) (fun hHeld => ?_)
                clear hK K
                try simp only [Act.put, List.setIfInBounds_toArray, List.set_cons_zero, List.set_cons_succ]
                refine take_on (i := 10) (v := ?v13) rfl (by kernel_rfl) (by kernel_rfl) (by kernel_rfl) (fun _ _ _ h => h) (by rfl) (by assumption) ?y13 ?_
                case y13 => (intro w hSw; (try dsimp only at hSw); go_simp; (try with_reducible rfl))
                try simp only [Act.put, List.setIfInBounds_toArray, List.set_cons_zero, List.set_cons_succ]
                refine take_on (i := 11) (v := ?v14) rfl (by kernel_rfl) (by kernel_rfl) (by kernel_rfl) (fun _ _ _ h => h) (by rfl) (by assumption) ?y14 ?_
                case y14 => (intro w hSw; (try dsimp only at hSw); go_simp; (try with_reducible rfl))
                try simp only [Act.put, List.setIfInBounds_toArray, List.set_cons_zero, List.set_cons_succ]
                refine one_ready (i := 14) rfl (by kernel_rfl) (by rfl) (fun K hK => ?_)
                go_simp
                refine (field_any x.par _).mono ?_
                rintro e w3 ⟨rfl, rfl⟩
                refine hK.out _ _ (by assumption) (fun hHeld => ?_)
                clear hK K
                try simp only [Act.put, List.setIfInBounds_toArray, List.set_cons_zero, List.set_cons_succ]
                refine take_on (i := 15) (v := ?v16) rfl (by kernel_rfl) (by kernel_rfl) (by kernel_rfl) (fun _ _ _ h => h) (by rfl) (by assumption) ?y16 ?_
                case y16 => (intro w hSw; (try dsimp only at hSw); go_simp; (try with_reducible rfl))
                try simp only [Act.put, List.setIfInBounds_toArray, List.set_cons_zero, List.set_cons_succ]
                refine take_on (i := 16) (v := ?v17) rfl (by kernel_rfl) (by kernel_rfl) (by kernel_rfl) (fun _ _ _ h => h) (by rfl) (by assumption) ?y17 ?_
                case y17 => (intro w hSw; (try dsimp only at hSw); go_simp; (try with_reducible rfl))
                try simp only [Act.put, List.setIfInBounds_toArray, List.set_cons_zero, List.set_cons_succ]
                refine wpAnyH_done (by kernel_rfl) ?_ _
                by_cases hf : x.fs = []
                · have hn1 : x.fn = 0 := by rw [← hfl.out, hf]; rfl
                  have hn0 : ¬ (0 : Int) < (x.fn : Int) := by omega
                  clear hn1
                  have HR := Lib.hid ((lineT_none hf).trans HL.out.symm)
                  go_wp2
                  go_ret
                  exact ⟨by rw [← HR.out]; rfl, (A0.drewN q).drew⟩
                · have hn0 : 0 < x.fn := by rw [← hfl.out]; exact List.length_pos_iff.2 hf
                  have HR := Lib.hid ((lineT_some hf).trans HL.out.symm)
                  have HT := Lib.hid (KT.out _ ((A0.drewN q).drew))
                  have z6 : ¬ 9223372036854775807 < 1 + (ByteArray.mk (text x.fs).toArray).size := by rw [text_size]; omega
                  have z6' : ¬ 9223372036854775807 < 1 + (text x.fs).length := by omega
                  have z7 : ¬ 9223372036854775807 < (x.id ++ ⟨#[32]⟩ ++ x.cat ++ ⟨#[32]⟩ ++ field x.stem ++ ⟨#[32]⟩ ++ field x.par).size + (⟨#[32]⟩ ++ ByteArray.mk (text x.fs).toArray).size := by rw [ByteArray.size_append (a := ⟨#[32]⟩), text_size]; omega
                  have z7' : ¬ 9223372036854775807 < x.id.size + 1 + x.cat.size + 1 + (field x.stem).size + 1 + (field x.par).size + (1 + (text x.fs).length) := by omega
                  go_wp2_with fail
                  refine HT.out.mono ?_
                  rintro e w4 ⟨rfl, A4⟩
                  go_wp2
                  go_ret
                  exact ⟨by rw [← HR.out]; rfl, ((A0.drewN q).drew).trans A4⟩
            · have he4 : x.par.toList.isEmpty = false := by rw [hp.out]; simp [h4]
              cases h7 : nameL x.par
              · rw [h7] at t3
                have HR := Lib.hid (show lineS x = ⟨#[]⟩ by simp [lineS, lineB, namedB, h4, h7])
                have T1 := Lib.hid t1
                have T2 := Lib.hid t2
                have T3 := Lib.hid t3
                clear t1 t2 t3 t4 h1 h2 h3 h4 h7
                go_wp2_with fail
                refine (T1.out _).mono ?_
                rintro e w1 ⟨rfl, rfl⟩
                go_wp2_with fail
                refine (T2.out _).mono ?_
                rintro e w1 ⟨rfl, rfl⟩
                go_wp2_with fail
                refine (T3.out _).mono ?_
                rintro e w1 ⟨rfl, rfl⟩
                go_wp2
                go_ret
                exact ⟨by rw [HR.out]; rfl, A0⟩
              · rw [h7] at t3
                by_cases h5 : x.par = dash
                · have he5 : (x.par.toList == [45]) = true := by rw [hd2.out]; simp [h5]
                  have HR := Lib.hid (show lineS x = ⟨#[]⟩ by simp [lineS, lineB, h5])
                  have T1 := Lib.hid t1
                  have T2 := Lib.hid t2
                  have T3 := Lib.hid t3
                  clear t1 t2 t3 t4 h1 h2 h3 h4 h5 h7
                  go_wp2_with fail
                  refine (T1.out _).mono ?_
                  rintro e w1 ⟨rfl, rfl⟩
                  go_wp2_with fail
                  refine (T2.out _).mono ?_
                  rintro e w1 ⟨rfl, rfl⟩
                  go_wp2_with fail
                  refine (T3.out _).mono ?_
                  rintro e w1 ⟨rfl, rfl⟩
                  go_wp2
                  go_ret
                  exact ⟨by rw [HR.out]; rfl, A0⟩
                · have he5 : (x.par.toList == [45]) = false := by rw [hd2.out]; simp [h5]
                  cases h6 : validB x.fs
                  · rw [h6] at t4
                    have HR := Lib.hid (show lineS x = ⟨#[]⟩ by simp [lineS, lineB, h6])
                    have T1 := Lib.hid t1
                    have T2 := Lib.hid t2
                    have T3 := Lib.hid t3
                    have T4 := Lib.hid t4
                    clear t1 t2 t3 t4 h1 h2 h3 h4 h5 h6 h7
                    go_wp2_with fail
                    refine (T1.out _).mono ?_
                    rintro e w1 ⟨rfl, rfl⟩
                    go_wp2_with fail
                    refine (T2.out _).mono ?_
                    rintro e w1 ⟨rfl, rfl⟩
                    go_wp2_with fail
                    refine (T3.out _).mono ?_
                    rintro e w1 ⟨rfl, rfl⟩
                    go_wp2_with fail
                    refine T4.out.mono ?_
                    rintro e w1 ⟨rfl, q, rfl⟩
                    go_wp2
                    go_ret
                    exact ⟨by rw [HR.out]; rfl, A0.drewN q⟩
                  · rw [h6] at t4
                    have HL := Lib.hid (show lineS x = lineT x by rw [lineS, if_pos]; rw [lineB, namedB, h1, h2, decide_eq_false h3, decide_eq_false h5, h6, HBF.out, decide_eq_false h4, h7]; rfl)
                    have T1 := Lib.hid t1
                    have T2 := Lib.hid t2
                    have T3 := Lib.hid t3
                    have T4 := Lib.hid t4
                    clear t1 t2 t3 t4 h1 h2 h3 h4 h5 h6 h7
                    go_wp2_with fail
                    refine (T1.out _).mono ?_
                    rintro e w1 ⟨rfl, rfl⟩
                    go_wp2_with fail
                    refine (T2.out _).mono ?_
                    rintro e w1 ⟨rfl, rfl⟩
                    go_wp2_with fail
                    refine (T3.out _).mono ?_
                    rintro e w1 ⟨rfl, rfl⟩
                    go_wp2_with fail
                    refine T4.out.mono ?_
                    rintro e w1 ⟨rfl, q, rfl⟩
                    have q1 : (ByteArray.mk #[32]).size = 1 := rfl
                    have hs2 := field_size x.stem
                    have hs3 := field_size x.par
                    have z0 : ¬ 9223372036854775807 < x.id.size + 1 := by omega
                    have z1 : ¬ 9223372036854775807 < (x.id ++ ⟨#[32]⟩).size + x.cat.size := by rw [ByteArray.size_append]; omega
                    have z1' : ¬ 9223372036854775807 < x.id.size + 1 + x.cat.size := by omega
                    have z2 : ¬ 9223372036854775807 < (x.id ++ ⟨#[32]⟩ ++ x.cat).size + 1 := by rw [ByteArray.size_append, ByteArray.size_append]; omega
                    have z2' : ¬ 9223372036854775807 < x.id.size + 1 + x.cat.size + 1 := by omega
                    have z3 : (x.id ++ ⟨#[32]⟩ ++ x.cat ++ ⟨#[32]⟩ ++ field x.stem).size ≤ 1000 := by rw [ByteArray.size_append, ByteArray.size_append, ByteArray.size_append, ByteArray.size_append]; omega
                    have z3' : ¬ 9223372036854775807 < (x.id ++ ⟨#[32]⟩ ++ x.cat ++ ⟨#[32]⟩).size + (field x.stem).size := by rw [← ByteArray.size_append]; omega
                    have z3'' : ¬ 9223372036854775807 < x.id.size + 1 + x.cat.size + 1 + (field x.stem).size := by omega
                    have z4 : ¬ 9223372036854775807 < (x.id ++ ⟨#[32]⟩ ++ x.cat ++ ⟨#[32]⟩ ++ field x.stem).size + 1 := by omega
                    have z4' : ¬ 9223372036854775807 < x.id.size + 1 + x.cat.size + 1 + (field x.stem).size + 1 := by omega
                    have z5 : (x.id ++ ⟨#[32]⟩ ++ x.cat ++ ⟨#[32]⟩ ++ field x.stem ++ ⟨#[32]⟩ ++ field x.par).size ≤ 2000 := by rw [ByteArray.size_append, ByteArray.size_append]; omega
                    have z5' : ¬ 9223372036854775807 < (x.id ++ ⟨#[32]⟩ ++ x.cat ++ ⟨#[32]⟩ ++ field x.stem ++ ⟨#[32]⟩).size + (field x.par).size := by rw [← ByteArray.size_append]; omega
                    have z5'' : ¬ 9223372036854775807 < x.id.size + 1 + x.cat.size + 1 + (field x.stem).size + 1 + (field x.par).size := by omega
                    go_wp2
                    refine wp_region_held_drew (S := fun w' => w'.cell? ⟨w.heap.size, 0, none⟩ = some (.string x.id) ∧ w'.cell? ⟨w.heap.size, 1, none⟩ = some (.string x.cat) ∧ w'.cell? ⟨w.heap.size, 2, none⟩ = some (.string x.stem) ∧ w'.cell? ⟨w.heap.size, 3, none⟩ = some (.string x.par)) (by kernel_rfl) (⟨d0, d1, d2, d3⟩) (fun hHeld => ?_)
                    refine take_on (i := 0) (v := ?v18) rfl (by kernel_rfl) (by kernel_rfl) (by kernel_rfl) (fun _ _ _ h => h) (by rfl) (by assumption) ?y18 ?_
                    case y18 => (intro w hSw; (try dsimp only at hSw); go_simp; (try with_reducible rfl))
                    try simp only [Act.put, List.setIfInBounds_toArray, List.set_cons_zero, List.set_cons_succ]
                    refine take_on (i := 1) (v := ?v19) rfl (by kernel_rfl) (by kernel_rfl) (by kernel_rfl) (fun _ _ _ h => h) (by rfl) (by assumption) ?y19 ?_
                    case y19 => (intro w hSw; (try dsimp only at hSw); go_simp; (try with_reducible rfl))
                    try simp only [Act.put, List.setIfInBounds_toArray, List.set_cons_zero, List.set_cons_succ]
                    refine take_on (i := 2) (v := ?v20) rfl (by kernel_rfl) (by kernel_rfl) (by kernel_rfl) (fun _ _ _ h => h) (by rfl) (by assumption) ?y20 ?_
                    case y20 => (intro w hSw; (try dsimp only at hSw); go_simp; (try with_reducible rfl))
                    try simp only [Act.put, List.setIfInBounds_toArray, List.set_cons_zero, List.set_cons_succ]
                    refine take_on (i := 3) (v := ?v21) rfl (by kernel_rfl) (by kernel_rfl) (by kernel_rfl) (fun _ _ _ h => h) (by rfl) (by assumption) ?y21 ?_
                    case y21 => (intro w hSw; (try dsimp only at hSw); go_simp; (try with_reducible rfl))
                    try simp only [Act.put, List.setIfInBounds_toArray, List.set_cons_zero, List.set_cons_succ]
                    refine take_on (i := 4) (v := ?v22) rfl (by kernel_rfl) (by kernel_rfl) (by kernel_rfl) (fun _ _ _ h => h) (by rfl) (by assumption) ?y22 ?_
                    case y22 => (intro w hSw; (try dsimp only at hSw); go_simp; (try with_reducible rfl))
                    try simp only [Act.put, List.setIfInBounds_toArray, List.set_cons_zero, List.set_cons_succ]
                    refine take_on (i := 5) (v := ?v23) rfl (by kernel_rfl) (by kernel_rfl) (by kernel_rfl) (fun _ _ _ h => h) (by rfl) (by assumption) ?y23 ?_
                    case y23 => (intro w hSw; (try dsimp only at hSw); go_simp; (try with_reducible rfl))
                    try simp only [Act.put, List.setIfInBounds_toArray, List.set_cons_zero, List.set_cons_succ]
                    refine take_on (i := 6) (v := ?v24) rfl (by kernel_rfl) (by kernel_rfl) (by kernel_rfl) (fun _ _ _ h => h) (by rfl) (by assumption) ?y24 ?_
                    case y24 => (intro w hSw; (try dsimp only at hSw); go_simp; (try with_reducible rfl))
                    try simp only [Act.put, List.setIfInBounds_toArray, List.set_cons_zero, List.set_cons_succ]
                    refine take_on (i := 7) (v := ?v25) rfl (by kernel_rfl) (by kernel_rfl) (by kernel_rfl) (fun _ _ _ h => h) (by rfl) (by assumption) ?y25 ?_
                    case y25 => (intro w hSw; (try dsimp only at hSw); go_simp; (try with_reducible rfl))
                    try simp only [Act.put, List.setIfInBounds_toArray, List.set_cons_zero, List.set_cons_succ]
                    refine take_on (i := 8) (v := ?v26) rfl (by kernel_rfl) (by kernel_rfl) (by kernel_rfl) (fun _ _ _ h => h) (by rfl) (by assumption) ?y26 ?_
                    case y26 => (intro w hSw; (try dsimp only at hSw); go_simp; (try with_reducible rfl))
                    try simp only [Act.put, List.setIfInBounds_toArray, List.set_cons_zero, List.set_cons_succ]
                    refine take_on (i := 12) (v := ?v27) rfl (by kernel_rfl) (by kernel_rfl) (by kernel_rfl) (fun _ _ _ h => h) (by rfl) (by assumption) ?y27 ?_
                    case y27 => (intro w hSw; (try dsimp only at hSw); go_simp; (try with_reducible rfl))
                    try simp only [Act.put, List.setIfInBounds_toArray, List.set_cons_zero, List.set_cons_succ]
                    refine take_on (i := 13) (v := ?v28) rfl (by kernel_rfl) (by kernel_rfl) (by kernel_rfl) (fun _ _ _ h => h) (by rfl) (by assumption) ?y28 ?_
                    case y28 => (intro w hSw; (try dsimp only at hSw); go_simp; (try with_reducible rfl))
                    try simp only [Act.put, List.setIfInBounds_toArray, List.set_cons_zero, List.set_cons_succ]
                    refine one_ready (i := 9) rfl (by kernel_rfl) (by rfl) (fun K hK => ?_)
                    go_simp
                    refine (field_any x.stem _).mono ?_
                    rintro e w2 ⟨rfl, rfl⟩
                    refine hK.out _ _ (by assumption) (fun hHeld => ?_)
                    clear hK K
                    try simp only [Act.put, List.setIfInBounds_toArray, List.set_cons_zero, List.set_cons_succ]
                    refine take_on (i := 10) (v := ?v30) rfl (by kernel_rfl) (by kernel_rfl) (by kernel_rfl) (fun _ _ _ h => h) (by rfl) (by assumption) ?y30 ?_
                    case y30 => (intro w hSw; (try dsimp only at hSw); go_simp; (try with_reducible rfl))
                    try simp only [Act.put, List.setIfInBounds_toArray, List.set_cons_zero, List.set_cons_succ]
                    refine take_on (i := 11) (v := ?v31) rfl (by kernel_rfl) (by kernel_rfl) (by kernel_rfl) (fun _ _ _ h => h) (by rfl) (by assumption) ?y31 ?_
                    case y31 => (intro w hSw; (try dsimp only at hSw); go_simp; (try with_reducible rfl))
                    try simp only [Act.put, List.setIfInBounds_toArray, List.set_cons_zero, List.set_cons_succ]
                    refine one_ready (i := 14) rfl (by kernel_rfl) (by rfl) (fun K hK => ?_)
                    go_simp
                    refine (field_any x.par _).mono ?_
                    rintro e w3 ⟨rfl, rfl⟩
                    refine hK.out _ _ (by assumption) (fun hHeld => ?_)
                    clear hK K
                    try simp only [Act.put, List.setIfInBounds_toArray, List.set_cons_zero, List.set_cons_succ]
                    refine take_on (i := 15) (v := ?v33) rfl (by kernel_rfl) (by kernel_rfl) (by kernel_rfl) (fun _ _ _ h => h) (by rfl) (by assumption) ?y33 ?_
                    case y33 => (intro w hSw; (try dsimp only at hSw); go_simp; (try with_reducible rfl))
                    try simp only [Act.put, List.setIfInBounds_toArray, List.set_cons_zero, List.set_cons_succ]
                    refine take_on (i := 16) (v := ?v34) rfl (by kernel_rfl) (by kernel_rfl) (by kernel_rfl) (fun _ _ _ h => h) (by rfl) (by assumption) ?y34 ?_
                    case y34 => (intro w hSw; (try dsimp only at hSw); go_simp; (try with_reducible rfl))
                    try simp only [Act.put, List.setIfInBounds_toArray, List.set_cons_zero, List.set_cons_succ]
                    refine wpAnyH_done (by kernel_rfl) ?_ _
                    by_cases hf : x.fs = []
                    · have hn1 : x.fn = 0 := by rw [← hfl.out, hf]; rfl
                      have hn0 : ¬ (0 : Int) < (x.fn : Int) := by omega
                      clear hn1
                      have HR := Lib.hid ((lineT_none hf).trans HL.out.symm)
                      go_wp2
                      go_ret
                      exact ⟨by rw [← HR.out]; rfl, (A0.drewN q).drew⟩
                    · have hn0 : 0 < x.fn := by rw [← hfl.out]; exact List.length_pos_iff.2 hf
                      have HR := Lib.hid ((lineT_some hf).trans HL.out.symm)
                      have HT := Lib.hid (KT.out _ ((A0.drewN q).drew))
                      have z6 : ¬ 9223372036854775807 < 1 + (ByteArray.mk (text x.fs).toArray).size := by rw [text_size]; omega
                      have z6' : ¬ 9223372036854775807 < 1 + (text x.fs).length := by omega
                      have z7 : ¬ 9223372036854775807 < (x.id ++ ⟨#[32]⟩ ++ x.cat ++ ⟨#[32]⟩ ++ field x.stem ++ ⟨#[32]⟩ ++ field x.par).size + (⟨#[32]⟩ ++ ByteArray.mk (text x.fs).toArray).size := by rw [ByteArray.size_append (a := ⟨#[32]⟩), text_size]; omega
                      have z7' : ¬ 9223372036854775807 < x.id.size + 1 + x.cat.size + 1 + (field x.stem).size + 1 + (field x.par).size + (1 + (text x.fs).length) := by omega
                      go_wp2_with fail
                      refine HT.out.mono ?_
                      rintro e w4 ⟨rfl, A4⟩
                      go_wp2
                      go_ret
                      exact ⟨by rw [← HR.out]; rfl, ((A0.drewN q).drew).trans A4⟩
end Go.Proofs.YtpkhoklahcgcoaaDoor
