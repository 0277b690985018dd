/-
  With returns the lexemes whose features contain all of the given ones; containsAll tells whether they do. Conditions: the slices hold the features and the lexemes; no string is longer than a string can be.
-/
import Derived.Test.YthoppaemlandaaaDoorLexSetF
import Derived.Test.YthoppaemlandaaaDoorFeatValid
import Derived.Laws.EntriesVeiled
import Derived.Maps.AppendAt
namespace Go.Proofs.YthoppaemlandaaaDoor
open Go.RowKit Go.Maps Go.WideMaps
open FeatPlain

set_option maxRecDepth 100000 in
set_option maxHeartbeats 1600000 in
theorem containsAll_any (A : Option Addr) (n c : Nat) (fs : List Ft) (Bm kb : Nat) (D : DataW Unit) (wanted : List Ft) (w : World) (ha : Sl w A n c fs) (hz : Sized fs) (hset : SetF w Bm kb D wanted) (hn8 : n ≤ 4294967296) :
    Calls Tryd.prog 52 #[.slice A n c, .map (some Bm)] w (BoolPost w (wanted.all (inF fs))) := by
  have hn := ha.max
  have hnc := ha.le
  have hcm := ha.cmax
  have hlen := Lib.hid ha.len
  have hmm := run_makeMapFt
  have HW := Lib.hid hset
  clear hset
  go_enter Tryd.func52, Tryd.ntmps52
  go_wp2
  go_loopw [11] (fun i wr => ∃ k N D', k ≤ n ∧ i = .int .i64 (k : Nat) ∧ N ≤ k ∧ SetF wr w.heap.size N D' ((fs.take k).filter (inF wanted)) ∧ Aft w wr) (fun i _ => n - (intOf i).toNat)
  case atStart => exact ⟨0, 0, _, Nat.zero_le _, rfl, Nat.le_refl _, by simpa using SetF.made w, (Aft.refl _).alloc _⟩
  case round =>
    obtain ⟨k, N, D', hk, rfl, hN, hs, haf⟩ := hrel
    have HS := Lib.hid hs
    clear hs
    by_cases hlt : k < n
    · obtain ⟨b, off, f, rfl, hf, h1, h2⟩ := ha.at_ hlt
      have c1 := haf.cell h1
      have c2 := haf.cell h2
      have hzf : SzF f := hz f (List.mem_of_getElem? hf)
      have HF := Lib.hid hf
      have hA1 := (Aft.refl wr).alloc (.cells #[.string f.1, .string f.2] 57)
      have l1 := (HW.out.aft (haf.trans hA1)).run hzf
      have HS1 := Lib.hid (HS.out.aft hA1)
      have haf1 := haf.trans hA1
      have d1 : (wr.alloc (.cells #[.string f.1, .string f.2] 57)).cell? ⟨wr.heap.size, 0, none⟩ = some (.string f.1) := by simp
      have d2 : (wr.alloc (.cells #[.string f.1, .string f.2] 57)).cell? ⟨wr.heap.size, 1, none⟩ = some (.string f.2) := by simp
      clear hf h1 h2 hA1
      cases hin : inF wanted f
      · rw [hin] at l1
        have HE := Lib.hid (show (fs.take (k + 1)).filter (inF wanted) = (fs.take k).filter (inF wanted) by rw [take_next HF.out, List.filter_append]; simp [hin])
        clear hin
        go_wp2
        go_roundw
        case rel => exact ⟨k + 1, N, D', by omega, by go_num, by omega, by rw [HE.out]; exact HS1.out, haf1⟩
        case measure => simp [intOf]; omega
      · rw [hin] at l1
        have HE := Lib.hid (show (fs.take (k + 1)).filter (inF wanted) = (fs.take k).filter (inF wanted) ++ [f] by rw [take_next HF.out, List.filter_append]; simp [hin])
        clear hin
        go_wp2_with (at_mapUpdate; refine wpList_mapUpdate_own _ rfl _ _ _ 67 rfl 57 4 lawKF Tryd.underlying67 _ w.heap.size N D' rfl HS1.out.own (by unfold maxLen; omega) _ _ _ rfl rfl (klF_some hzf) _ [] (plainElem_bool Tryd.underlying4 true) ?_; intro w2 own2 grow2)
        go_roundw
        case rel => exact ⟨k + 1, N + 1, _, by omega, by go_num, by omega, by rw [HE.out]; exact HS1.out.put hzf own2, haf1.grown grow2 (fun j hj => by cases hj; exact Nat.le_refl _)⟩
        case measure => simp [intOf]; omega
    · obtain rfl : k = n := by omega
      have hs := HS.out
      rw [List.take_of_length_le (by rw [hlen.out]; exact Nat.le_refl _)] at hs
      have hs2 := HW.out.aft haf
      have HR := Lib.hid (count_all fs wanted)
      have z1 := hs.size
      have z2 := hs2.size
      have o1 := hs.own
      have o2 := hs2.own
      obtain ⟨s1, e1⟩ : ∃ s1, s1 = Maps.size D' := ⟨_, rfl⟩
      obtain ⟨s2, e2⟩ : ∃ s2, s2 = Maps.size D := ⟨_, rfl⟩
      have HE := Lib.hid (show decide (s1 = s2) = wanted.all (inF fs) by rw [e1, e2, z1, z2]; exact HR.out)
      have E1 := Lib.hid e1
      have E2 := Lib.hid e2
      clear hs hs2 z1 z2 e1 e2 hmm
      go_wp2_with (at_len; first | (refine wpList_len_own _ rfl _ 67 rfl 57 4 Tryd.underlying67 _ w.heap.size N D' rfl o1 ?_; rw [← E1.out]) | (refine wpList_len_own _ rfl _ 67 rfl 57 4 Tryd.underlying67 _ Bm kb D rfl o2 ?_; rw [← E2.out]))
      go_ret
      refine ⟨?_, haf⟩
      rw [← HE.out]
      by_cases q : s1 = s2
      · subst q; simp
      · have q' : ¬ (s1 : Int) = (s2 : Int) := by omega
        simp [q, q']

theorem With1_any (x : Lx) (Bc Bm kb : Nat) (D : DataW Unit) (wanted : List Ft) (w : World) (hx : Lw w x) (hz : Sized x.fs) (hc : w.cell? ⟨Bc, 0, none⟩ = some (.map (some Bm))) (hset : SetF w Bm kb D wanted) (hn8 : x.fn ≤ 4294967296) :
    Calls Tryd.prog 51 #[.agg #[.string x.id, .string x.cat, .string x.stem, .string x.par, .slice x.fa x.fn x.fc], .pointer (some ⟨Bc, 0, none⟩)] w (BoolPost w (wanted.all (inF x.fs))) := by
  have A1 := (Aft.refl w).alloc (.cells #[.string x.id, .string x.cat, .string x.stem, .string x.par, .slice x.fa x.fn x.fc] 27)
  have hc' := A1.cell hc
  have HC := Lib.hid (containsAll_any x.fa x.fn x.fc x.fs Bm kb D wanted _ (hx.fts.aft A1) hz (hset.aft A1) hn8)
  clear hset
  go_enter Tryd.func51, Tryd.ntmps51
  go_wp2_with fail
  refine HC.out.mono ?_
  rintro e w2 ⟨rfl, A2⟩
  go_wp2
  go_ret
  exact ⟨rfl, A1.trans A2⟩
theorem enterWith1 (args : Array Value) (w : World) : (callFunc 51 args).run Tryd.prog w = .ok (.enter 51 args) w := by go_simp

/-- Function g, with what it captured, tells in every later world whether a lexeme of which Q holds has p. -/
def TestP (w : World) (g : Nat) (pc : Value) (p : Lx → Bool) (Q : Lx → Prop) : Prop := ∀ w1, Aft w w1 → ∀ x : Lx, Q x → Lw w1 x → Calls Tryd.prog g #[.agg #[.string x.id, .string x.cat, .string x.stem, .string x.par, .slice x.fa x.fn x.fc], pc] w1 (BoolPost w1 (p x))

set_option maxRecDepth 100000 in
set_option maxHeartbeats 1600000 in
theorem filterP_any (A : Option Addr) (n c : Nat) (xs : List Lx) (g : Nat) (pc : Value) (p : Lx → Bool) (w : World) (ha : Ls w A n c xs) (hfn : ∀ x ∈ xs, x.fn * 32 ≤ 140737488355328) (Q : Lx → Prop) (hQ : ∀ x ∈ xs, Q x) (ht : TestP w g pc p Q) (hcf : ∀ args w, (callFunc g args).run Tryd.prog w = .ok (.enter g args) w) (hsz : n ≤ 4294967296) :
    Calls Tryd.prog 48 #[.slice A n c, .func (.func g) #[] #[pc]] w (LsPost w ((xs.filter p).map Lx.say)) := by
  have hn := ha.max
  have hnc := ha.le
  have hcm := ha.cmax
  have hlen := Lib.hid ha.len
  have HT := Lib.hid ht
  have HFN := Lib.hid hfn
  clear ht hfn
  obtain ⟨i0, hi, hz0, hz1, hz2⟩ := info_parts Tryd.infoL
  go_enter Tryd.func48, Tryd.ntmps48
  go_wp2
  go_loopw [5, 10] (fun v i wr => ∃ k out, k ≤ n ∧ i = .int .i64 (k : Nat) ∧ wr.ownsRow w.heap.size 27 5 v out.length (flatL out) ∧ out.length ≤ k ∧ (∀ y ∈ out, Lc wr y) ∧ (xs.filter p).map Lx.say = out.map Lx.say ++ ((xs.drop k).filter p).map Lx.say ∧ Aft w wr) (fun _ i _ => n - (intOf i).toNat)
  case atStart => exact ⟨0, [], Nat.zero_le _, rfl, World.ownsRow_nil _ _ _ _, by simp, (fun y h => by cases h), by simp, Aft.refl _⟩
  case round =>
    obtain ⟨k, out, hk, rfl, own, le, hlc, eq, haf⟩ := hrel
    have HE := Lib.hid eq
    have HOWN := Lib.hid own
    have HLC := Lib.hid hlc
    clear eq own hlc
    by_cases hlt : k < n
    · obtain ⟨b, off, x, rfl, hx, h5, hlw⟩ := ha.at_ hlt
      obtain ⟨c0, c1, c2, c3, c4⟩ := h5.aft haf
      have HX := Lib.hid hx
      have hfx := HFN.out x (List.mem_of_getElem? hx)
      have HLW := Lib.hid hlw
      have hqx := hQ x (List.mem_of_getElem? hx)
      clear hx h5 hlw
      have hq0 := fun w1 (a : Aft w w1) => HT.out w1 a x hqx (HLW.out.aft a)
      have HQ := Lib.hid hq0
      clear hq0
      cases hh : p x
      · rw [hh] at HQ
        have HN := Lib.hid (show (xs.filter p).map Lx.say = out.map Lx.say ++ ((xs.drop (k + 1)).filter p).map Lx.say by rw [HE.out, drop_of_get HX.out, List.filter_cons, hh]; simp)
        clear hh
        go_wp2_with fail
        refine (HQ.out _ (haf.alloc _)).mono ?_
        rintro e w1 ⟨rfl, A1⟩
        have haf1 := Lib.hid ((haf.alloc _).trans A1)
        have O1 := Lib.hid (own_aft HOWN.out (((Aft.refl wr).alloc _).trans A1))
        have L1 := Lib.hid (fun y hy => (HLC.out y hy).aft (((Aft.refl wr).alloc _).trans A1))
        clear A1
        go_wp2
        go_roundw
        case rel => exact ⟨k + 1, out, by omega, by go_num, O1.out, by omega, L1.out, HN.out, haf1.out⟩
        case measure => simp [intOf]; omega
      · rw [hh] at HQ
        have HN := Lib.hid (show (xs.filter p).map Lx.say = (out.map Lx.say ++ [x.say]) ++ ((xs.drop (k + 1)).filter p).map Lx.say by rw [HE.out, drop_of_get HX.out, List.filter_cons, hh]; simp)
        clear hh
        go_wp2_with fail
        refine (HQ.out _ (haf.alloc _)).mono ?_
        rintro e w1 ⟨rfl, A1⟩
        have hA1 := ((Aft.refl wr).alloc _).trans A1
        obtain ⟨d0, d1, d2, d3, d4⟩ := (five_new wr x 27).aft A1
        have hcl := cloneL_any x w1 (HLW.out.aft (haf.trans hA1)) hfx
        have HCL := Lib.hid hcl
        have H1 := Lib.hid hA1
        clear hcl hA1 A1
        go_wp2_with fail
        refine HCL.out.mono ?_
        rintro e w2 ⟨y, rfl, hsay, hy, A2⟩
        clear HCL d0 d1 d2 d3 d4
        have A02 := H1.out.trans A2
        have O1 := Lib.hid (own_aft HOWN.out A02)
        have L1 := Lib.hid (fun y hy => (HLC.out y hy).aft A02)
        have HY := Lib.hid hy
        have HSAY := Lib.hid hsay
        have hs1 := (haf.trans A02).size
        have haf2 := Lib.hid (haf.trans A02)
        clear A2 A02 hy hsay
        go_wp2_with (at_builtin; refine wpList_append_own _ rfl _ _ 22 rfl w.heap.size 27 i0 _ 5 88 Tryd.underlying22 hi hz0 hz1 hz2 rfl (by decide) _ _ _ rfl (O1.out.alloc _) ⟨w2.heap.size, 0, none⟩ 1 1 (flatL [y]) rfl rfl (one_cellsL _ y _ rfl) (flatL_one _) (by unfold maxLen; omega) (by omega) (by simp; omega) ?_; intro v' w3 own3 grow3 _)
        go_roundw
        case rel =>
          refine ⟨k + 1, out ++ [y], by omega, by go_num, ?_, by simp; omega, lc_push O1.out L1.out HY.out grow3, ?_, (haf2.out.alloc _).grown grow3 (row_ltL O1.out)⟩
          · rw [flatL_append, List.length_append]; exact own3
          · rw [HN.out, List.map_append, ← HSAY.out]; rfl
        case measure => simp [intOf]; omega
    · obtain rfl : k = n := by omega
      obtain ⟨A3, c3, rfl, s3⟩ := Ls.of_row HOWN.out rfl (by omega) (fun y hy => (HLC.out y hy).lw)
      have HR := Lib.hid (show out.map Lx.say = (xs.filter p).map Lx.say by rw [HE.out, List.drop_of_length_le (by rw [hlen.out]; exact Nat.le_refl _)]; simp)
      go_wp2
      go_ret
      exact ⟨⟨_, _, _, out, rfl, s3, HLC.out, HR.out⟩, haf⟩

set_option maxRecDepth 100000 in
set_option maxHeartbeats 1600000 in
theorem With_any (A : Option Addr) (n c : Nat) (xs : List Lx) (B : Option Addr) (m d : Nat) (fs : List Ft) (w : World) (ha : Ls w A n c xs) (hfn : ∀ x ∈ xs, x.fn * 32 ≤ 140737488355328) (hsx : ∀ x ∈ xs, Sized x.fs ∧ x.fn ≤ 4294967296) (hsz : n ≤ 4294967296) (hb : Sl w B m d fs) (hz : Sized fs) (hm8 : m ≤ 4294967296) :
    Calls Tryd.prog 27 #[.slice A n c, .slice B m d] w (LsPost w ((xs.filter fun x => fs.all (inF x.fs)).map Lx.say)) := by
  have hmm := run_makeMapFt
  have hmd := hb.le
  have hdm := hb.cmax
  have hmx := hb.max
  have hlen := Lib.hid hb.len
  go_enter Tryd.func27, Tryd.ntmps27
  go_wp2
  go_loopw [11] (fun i wr => ∃ k D, k ≤ m ∧ i = .int .i64 (k : Nat) ∧ wr.cell? ⟨w.heap.size + 1, 0, none⟩ = some (.map (some w.heap.size)) ∧ SetF wr w.heap.size k D (fs.take k) ∧ Aft w wr) (fun i _ => m - (intOf i).toNat)
  case atStart =>
    refine ⟨0, .map [], Nat.zero_le _, rfl, ?_, (SetF.made w).aft ((Aft.refl _).alloc _), ((Aft.refl _).alloc _).alloc _⟩
    have e : (w.alloc (.map #[] 0)).heap.size = w.heap.size + 1 := World.size_alloc _ _
    rw [← e]
    exact cell_one_new _ _ _ 0 _ rfl
  case round =>
    obtain ⟨k, D, hk, rfl, hc, hset, haf⟩ := hrel
    have HS := Lib.hid hset
    clear hset
    by_cases hlt : k < m
    · obtain ⟨b, off, f, rfl, hf, h1, h2⟩ := hb.at_ hlt
      have c1 := haf.cell h1
      have c2 := haf.cell h2
      have hzf : SzF f := hz f (List.mem_of_getElem? hf)
      have HF := Lib.hid hf
      have hA1 := (Aft.refl wr).alloc (.cells #[.string f.1, .string f.2] 57)
      have hc1 := hA1.cell hc
      have HS1 := Lib.hid (HS.out.aft hA1)
      have haf1 := haf.trans hA1
      have d1 : (wr.alloc (.cells #[.string f.1, .string f.2] 57)).cell? ⟨wr.heap.size, 0, none⟩ = some (.string f.1) := by simp
      have d2 : (wr.alloc (.cells #[.string f.1, .string f.2] 57)).cell? ⟨wr.heap.size, 1, none⟩ = some (.string f.2) := by simp
      clear hf h1 h2 hA1
      go_wp2_with (at_mapUpdate; refine wpList_mapUpdate_own _ rfl _ _ _ 67 rfl 57 4 lawKF Tryd.underlying67 _ w.heap.size k D rfl HS1.out.own (by unfold maxLen; omega) _ _ _ rfl rfl (klF_some hzf) _ [] (plainElem_bool Tryd.underlying4 true) ?_; intro w2 own2 grow2)
      go_roundw
      case rel =>
        refine ⟨k + 1, _, by omega, by go_num, ?_, by rw [take_next HF.out]; exact HS1.out.put hzf own2, haf1.grown grow2 (fun j hj => by cases hj; exact Nat.le_refl _)⟩
        have hb2 : w.heap.size + 1 < (wr.alloc (.cells #[.string f.1, .string f.2] 57)).heap.size := World.block_lt_of_cell? _ _ hc1
        exact (World.cell?_of_block (w := wr.alloc (.cells #[.string f.1, .string f.2] 57)) (a := ⟨w.heap.size + 1, 0, none⟩) (grow2.block _ hb2 (by simp))).trans hc1
      case measure => simp [intOf]; omega
    · obtain rfl : k = m := by omega
      have hs := HS.out
      rw [List.take_of_length_le (by rw [hlen.out]; exact Nat.le_refl _)] at hs
      have HF := Lib.hid (filterP_any A n c xs 51 (.pointer (some ⟨w.heap.size + 1, 0, none⟩)) (fun x => fs.all (inF x.fs)) wr (ha.aft haf) hfn (fun x => Sized x.fs ∧ x.fn ≤ 4294967296) hsx (fun w1 a x hq hx => With1_any x (w.heap.size + 1) w.heap.size k D fs w1 hx hq.1 (a.cell hc) (hs.aft a) hq.2) enterWith1 hsz)
      clear hs
      go_wp2_with fail
      refine HF.out.mono ?_
      rintro e w2 ⟨⟨C, q, e', ys, rfl, h1, h2, h3⟩, A2⟩
      go_wp2
      go_ret
      exact ⟨⟨_, _, _, ys, rfl, h1, h2, h3⟩, haf.trans A2⟩
end Go.Proofs.YthoppaemlandaaaDoor
