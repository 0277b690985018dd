/-
  Hyphenate writes a hyphen before each rune, but the first one, whose index is among the points. Conditions: the slice holds the points; the tables lie as their texts say; the word has at most 1000000 bytes.
-/
import Derived.Test.YtfjfgjncmliadaaDoorSylBld
namespace Go.Proofs.YtfjfgjncmliadaaDoor
open Go.RowKit Go.Maps Go.WideMaps
open AlphPlain

theorem lawI : Keyed Tryd.prog 3 := int_keyed Tryd.underlying3
theorem zeroBo (w : World) : (zeroValue 4).run Tryd.prog w = .ok (.bool false) w := by kernel_rfl
theorem run_makeMapI (n : Int) (w : World) : (Instr.makeMap 69 (some (.int .i64 n))).run Tryd.prog w = .ok (.map (some w.heap.size)) (w.alloc (.map #[] 0)) := by
  kernel_rfl

def inI (zs : List Int) (z : Int) : Bool := zs.any fun y => decide (y = z)
theorem inI_snoc (zs : List Int) (y z : Int) : inI (zs ++ [y]) z = (inI zs z || decide (y = z)) := by simp [inI]
/-- Block Bm is a set that holds the numbers zs. -/
structure SetI (w : World) (Bm k : Nat) (D : DataW Unit) (zs : List Int) : Prop where
  own : w.ownsMap Tryd.prog 3 (plainElem Tryd.prog 4) Bm k D
  mem : ∀ z : Int, D.atKey (.int .i64 z) (.lit (.bool false)) = .lit (.bool (inI zs z))
theorem SetI.put {w w' : World} {Bm k : Nat} {D : DataW Unit} {zs : List Int} (h : SetI w Bm k D zs) (y : Int) (own' : w'.ownsMap Tryd.prog 3 (plainElem Tryd.prog 4) Bm (k + 1) (D.put (.int .i64 y) (.lit (.bool true)))) :
    SetI w' Bm (k + 1) (D.put (.int .i64 y) (.lit (.bool true))) (zs ++ [y]) := by
  refine ⟨own', fun z => ?_⟩
  by_cases e : z = y
  · subst e
    rw [atKey_put_same h.own.isMap (by simp [WideAt.IsKeyLit]), inI_snoc]
    simp
  · rw [atKey_put_other (fun k => e (by simpa using k)), h.mem, inI_snoc]
    simp [Ne.symm e]
theorem SetI.blk {w w' : World} {Bm k B : Nat} {D : DataW Unit} {zs : List Int} (h : SetI w Bm k D zs) (hB : Bm < B) (a : Below B w w') : SetI w' Bm k D zs := by
  refine ⟨?_, h.mem⟩
  obtain ⟨es, clock, hb, r⟩ := h.own
  exact ⟨es, clock, (Below.block a Bm hB).trans hb, r⟩
theorem plainElem_bool_invI {H : Type} {P : Program} {e : TypeId} (he : P.underlying e = some .bool) {v : Value} {z : DataW H × List MemPlace} (h : plainElem P e v = some z) : ∃ x, v = .bool x ∧ z = (.lit (.bool x), []) := by
  unfold plainElem at h
  rw [he] at h
  cases v <;> simp at h
  exact ⟨_, rfl, h.symm⟩
theorem SetI.run {w : World} {Bm k : Nat} {D : DataW Unit} {zs : List Int} (h : SetI w Bm k D zs) {z : Int} (hz : (Lit.int .i64 z).wf = true) :
    (Instr.lookup 69 (.map (some Bm)) (.int .i64 z) false).run Tryd.prog w = .ok (.bool (inI zs z)) w := by
  obtain ⟨v, ps, hrun, hv⟩ := h.own.lookup lawI Tryd.underlying69 (zeroBo w) (plainElem_bool Tryd.underlying4 false) (keyOf_int_mk Tryd.underlying3 hz)
  obtain ⟨c, rfl, hc⟩ := plainElem_bool_invI Tryd.underlying4 hv
  simp only [Prod.mk.injEq] at hc
  have hc1 := hc.1
  rw [h.mem] at hc1
  simp at hc1
  rw [hrun, hc1]

/-- The bytes of the runes, hyphens before those at the points. -/
def hypL (zs : List Int) : List Int → Nat → List UInt8
  | [], _ => []
  | r :: rs, i => (if decide (0 < i) && inI zs (i : Int) then [45] else []) ++ Lib.encodeRune r ++ hypL zs rs (i + 1)
theorem hypL_snoc (zs : List Int) : ∀ (rs : List Int) (r : Int) (i : Nat), hypL zs (rs ++ [r]) i = hypL zs rs i ++ ((if decide (0 < i + rs.length) && inI zs ((i + rs.length : Nat) : Int) then [45] else []) ++ Lib.encodeRune r)
  | [], r, i => by simp [hypL]
  | a :: rs, r, i => by
    rw [List.cons_append, hypL, hypL, hypL_snoc zs rs r (i + 1), List.length_cons, show i + 1 + rs.length = i + (rs.length + 1) by omega]
    simp only [List.append_assoc]
def hyphB (s : ByteArray) (zs : List Int) : ByteArray := if Lib.validD s.data.toList then ⟨(hypL zs (runesOf s) 0).toArray⟩ else s
def StrPost (w : World) (s : ByteArray) (e : Ending) (w' : World) : Prop := e = .returned (.string s) ∧ Aft w w'
theorem hy45 : Lib.byteCells [45] = Lib.runeCells 45 := by kernel_rfl
theorem byteCells_app (a b : List UInt8) : Lib.byteCells (a ++ b) = Lib.byteCells a ++ Lib.byteCells b := Lib.byteCells_append a b
theorem byteCells_rune (r : Int) : Lib.byteCells (Lib.encodeRune r) = Lib.runeCells r := Lib.byteCells_encodeRune r
theorem enc_len (r : Int) : (Lib.encodeRune r).length ≤ 4 := by have := Lib.runeCells_le r; rw [Lib.runeCells_length] at this; exact this.2
theorem rune_bounds {r : Int} (h : (Lit.int .i32 r).wf = true) : -2147483648 ≤ r ∧ r ≤ 2147483647 := by
  simp [Lit.wf, IntKind.min, IntKind.max, IntKind.bits, IntKind.signed] at h
  omega
theorem bld_more {s : ByteArray} {w W wr : World} {B p : Nat} {bs bs' : List Value} {v : Value} {e : Ending} (h : BPost B B bs v wr e W) (hbs : bs = bs') (hit : wr.heap[B + 1]? = some (.stringIter s p)) (hb : Below B w wr) :
    e = .returned v ∧ Bld B B bs' W ∧ W.heap[B + 1]? = some (.stringIter s p) ∧ Below B w W := by
  obtain ⟨h1, h2, h3, h4⟩ := h
  subst hbs
  exact ⟨h1, .inr h2, h4.iter hit (by omega), hb.trans h3⟩

set_option maxRecDepth 100000 in
set_option maxHeartbeats 1600000 in
theorem hyphenate_any (s : ByteArray) (A : Option Addr) (n c : Nat) (zs : List Int) (w : World) (hT : Tabs w) (ha : Rw vI w A n c zs) (hwf : ∀ z ∈ zs, (Lit.int .i64 z).wf = true) (hs : s.size ≤ 1000000) :
    Calls Tryd.prog 28 #[.string s, .slice A n c] w (StrPost w (hyphB s zs)) := by
  have hac := ha.le
  have hcm := ha.cmax
  have hlen := Lib.hid ha.len
  have h1 := validStr_any s w (by omega) hT
  cases hv : Lib.validD s.data.toList
  · rw [hv] at h1
    have HY := Lib.hid (show hyphB s zs = s by unfold hyphB; rw [hv]; rfl)
    clear hv
    go_enter Tryd.func28, Tryd.ntmps28
    go_wp2_with fail
    refine h1.mono ?_
    rintro e w1 ⟨rfl, A1⟩
    clear h1
    go_wp2
    go_ret
    exact ⟨by rw [HY.out]; rfl, A1⟩
  · rw [hv] at h1
    have HY := Lib.hid (show hyphB s zs = ⟨(hypL zs (runesOf s) 0).toArray⟩ by unfold hyphB; rw [hv]; rfl)
    have hmm := run_makeMapI
    clear hv
    go_enter Tryd.func28, Tryd.ntmps28
    go_wp2_with fail
    refine h1.mono ?_
    rintro e w1 ⟨rfl, A1⟩
    clear h1
    have ha1 := Lib.hid (ha.aft A1)
    clear ha
    go_wp2
    go_loopw [21] (fun i wr => ∃ k D, k ≤ n ∧ i = .int .i64 (k : Nat) ∧ SetI wr w1.heap.size k D (zs.take k) ∧ Aft w1 wr) (fun i _ => n - (intOf i).toNat)
    case atStart => exact ⟨0, .map [], Nat.zero_le _, rfl, ⟨World.ownsMap_made _ _ _ _, fun z => rfl⟩, (Aft.refl _).alloc _⟩
    case round =>
      obtain ⟨k, D, hk, rfl, hset, haf⟩ := hrel
      have HS := Lib.hid hset
      clear hset
      by_cases hlt : k < n
      · obtain ⟨b, off, z, rfl, hz, g1⟩ := ha1.out.at_ hlt
        have g2 := haf.cell g1
        have hwz := hwf z (List.mem_of_getElem? hz)
        have HZ := Lib.hid hz
        have hki : (k : Int) < (n : Int) := by omega
        clear hz g1
        go_wp2_with (at_mapUpdate; refine wpList_mapUpdate_own _ rfl _ _ _ 69 rfl 3 4 lawI Tryd.underlying69 _ w1.heap.size k D rfl HS.out.own (by unfold maxLen; omega) _ _ _ rfl rfl (keyOf_int_mk Tryd.underlying3 hwz) _ [] (plainElem_bool Tryd.underlying4 true) ?_; intro w2 own1 grow1)
        go_roundw
        case rel => exact ⟨k + 1, _, by omega, by go_num, by rw [take_next HZ.out]; exact HS.out.put _ own1, haf.grown grow1 (fun j hj => by cases hj; exact Nat.le_refl _)⟩
        case measure => simp [intOf]; omega
      · obtain rfl : k = n := by omega
        have hzs : zs.take k = zs := List.take_of_length_le (by rw [hlen.out]; exact Nat.le_refl _)
        have HSS := Lib.hid (show SetI wr w1.heap.size k D zs by have := HS.out; rwa [hzs] at this)
        have HBm : w1.heap.size < wr.heap.size := HS.out.own.lt
        have hwA := A1.trans haf
        clear HS hzs
        obtain ⟨wo, rfl⟩ : ∃ wo : World, wo = wr := ⟨_, rfl⟩
        obtain ⟨B, hB⟩ : ∃ B, B = wo.heap.size := ⟨_, rfl⟩
        rw [← hB] at HBm
        go_wp2
        rw [← hB]
        have HBE := Lib.hid hB
        clear hB
        go_loopw [9] (fun i wr => ∃ (p b : Nat) (rs : List Int), wr.heap[B + 1]? = some (.stringIter s p) ∧ i = .int .i64 (rs.length : Nat) ∧ Bld B B (Lib.byteCells (hypL zs rs 0)) wr ∧ runesOf s = rs ++ runesL s b p ∧ s.size ≤ p + b ∧ rs.length ≤ p ∧ p ≤ s.size ∧ (hypL zs rs 0).length ≤ 5 * rs.length ∧ Below B wo wr) (fun _ wr => s.size - wr.iterPos (B + 1))
        case atStart =>
          refine ⟨0, s.size, [], ?_, rfl, ?_, rfl, by omega, Nat.le_refl _, Nat.zero_le _, by simp [hypL], ?_⟩
          · have := World.iter_heap (wo.alloc (.cells #[.pointer none, .slice none 0 0] 73)) s 0
            rw [HBE.out]
            simpa using this
          · rw [HBE.out]
            exact (Lib.IsBuilderF.of (Lib.fresh_isBuilder 73 5 wo)).alloc _
          · rw [HBE.out]
            exact ((Below.refl _ wo).alloc (Nat.le_refl _) _).alloc (by simp) _
        case round =>
          obtain ⟨p, b, rs, hit, rfl, hbd, he, hb, hrp, hps, hhl, hbw⟩ := hrel
          have HE := Lib.hid he
          have HB := Lib.hid hbd
          clear he hbd
          by_cases hltp : p < s.size
          · have hnx := fun ty => Lib.run_next_any_at (P := Tryd.prog) wr (B + 1) s p ty hit hltp
            have hwp := width_pos s p hltp
            have hwf1 := rune_bounds (decode_wf s p)
            have hft := decode_fits s p hltp
            obtain ⟨b, rfl⟩ : ∃ b', b = b' + 1 := ⟨b - 1, by omega⟩
            have he1 := HE.out
            rw [runesL, if_pos hltp] at he1
            have bw1 := Lib.below_iterAt hbw (k := B + 1) (by omega) s (p + (Utf8.decode s p).2)
            have it1 := Lib.iterAt_heap wr (B + 1) s p (p + (Utf8.decode s p).2) hit
            have hbd1 := HB.out.iterAt hit (p + (Utf8.decode s p).2)
            have hsz1 : B ≤ (wr.iterAt (B + 1) s (p + (Utf8.decode s p).2)).heap.size := by have := (Array.getElem?_eq_some_iff.1 it1).1; omega
            have hlk := (HSS.out.blk (by omega) bw1).run (z := ((rs.length : Nat) : Int)) (WalkArith.wf_i64 (by omega))
            have HSN := Lib.hid (hypL_snoc zs rs (Utf8.decode s p).1 0)
            have hel := enc_len (Utf8.decode s p).1
            clear HE HB
            generalize wr.iterAt (B + 1) s (p + (Utf8.decode s p).2) = wi at *
            generalize Utf8.decode s p = ds at *
            have HE := Lib.hid he1
            have HI := Lib.hid it1
            have HIT := Lib.hid hit
            have HBD := Lib.hid hbd1
            clear he1 it1 hbd1
            by_cases hfirst : rs.length = 0
            · have hz : ¬ (0 : Int) < ((rs.length : Nat) : Int) := by omega
              have HN : hypL zs (rs ++ [(ds.1 : Int)]) 0 = hypL zs rs 0 ++ Lib.encodeRune ds.1 := by rw [HSN.out]; simp [hfirst]
              have HN := Lib.hid HN
              have HF := Lib.hid hfirst
              clear hfirst
              go_wp2_with fail
              refine (writeRune_any B B _ (ds.1 : Int) wi HBD.out hwf1.1 hwf1.2 (by rw [Lib.byteCells_length]; omega) hsz1).mono ?_
              intro e w2 hpost
              obtain ⟨rfl, hbd2, hit2, hbw2⟩ := bld_more (bs' := Lib.byteCells (hypL zs rs 0) ++ Lib.runeCells ds.1) hpost rfl HI.out bw1
              have HBD2 := Lib.hid hbd2
              have HI2 := Lib.hid hit2
              clear hpost hbd2 hit2
              go_wp2
              go_roundw
              case rel => exact ⟨p + ds.2, b, rs ++ [(ds.1 : Int)], HI2.out, by simp, by rw [HN.out, byteCells_app, byteCells_rune]; exact HBD2.out, by rw [HE.out]; simp, by omega, by simp; omega, by omega, by rw [HN.out]; simp; omega, hbw2⟩
              case measure =>
                simp only [World.iterPos, HI2.out, HIT.out]
                omega
            · have hz : (0 : Int) < ((rs.length : Nat) : Int) := by omega
              cases hin : inI zs ((rs.length : Nat) : Int)
              · rw [hin] at hlk
                have HN : hypL zs (rs ++ [(ds.1 : Int)]) 0 = hypL zs rs 0 ++ Lib.encodeRune ds.1 := by rw [HSN.out, Nat.zero_add, hin]; simp
                have HN := Lib.hid HN
                clear hin
                go_wp2_with fail
                refine (writeRune_any B B _ (ds.1 : Int) wi HBD.out hwf1.1 hwf1.2 (by rw [Lib.byteCells_length]; omega) hsz1).mono ?_
                intro e w2 hpost
                obtain ⟨rfl, hbd2, hit2, hbw2⟩ := bld_more (bs' := Lib.byteCells (hypL zs rs 0) ++ Lib.runeCells ds.1) hpost rfl HI.out bw1
                have HBD2 := Lib.hid hbd2
                have HI2 := Lib.hid hit2
                clear hpost hbd2 hit2
                go_wp2
                go_roundw
                case rel => exact ⟨p + ds.2, b, rs ++ [(ds.1 : Int)], HI2.out, by simp, by rw [HN.out, byteCells_app, byteCells_rune]; exact HBD2.out, by rw [HE.out]; simp, by omega, by simp; omega, by omega, by rw [HN.out]; simp; omega, hbw2⟩
                case measure =>
                  simp only [World.iterPos, HI2.out, HIT.out]
                  omega
              · rw [hin] at hlk
                have HN : hypL zs (rs ++ [(ds.1 : Int)]) 0 = hypL zs rs 0 ++ ([45] ++ Lib.encodeRune ds.1) := by rw [HSN.out, Nat.zero_add, hin, decide_eq_true (show 0 < rs.length by omega)]; rfl
                have HN := Lib.hid HN
                clear hin
                go_wp2_with fail
                refine (writeRune_any B B _ 45 wi HBD.out (by omega) (by omega) (by rw [Lib.byteCells_length]; omega) hsz1).mono ?_
                intro e w2 hpost
                obtain ⟨rfl, hbd2, hit2, hbw2⟩ := bld_more (bs' := Lib.byteCells (hypL zs rs 0 ++ [45])) hpost (by rw [byteCells_app, hy45]) HI.out bw1
                have HBD2 := Lib.hid hbd2
                have HI2 := Lib.hid hit2
                have hsz2 : B ≤ w2.heap.size := by have := (Array.getElem?_eq_some_iff.1 hit2).1; omega
                clear hpost hbd2 hit2 HBD
                go_wp2_with fail
                refine (writeRune_any B B _ (ds.1 : Int) w2 HBD2.out hwf1.1 hwf1.2 (by rw [Lib.byteCells_length]; simp; omega) hsz2).mono ?_
                intro e w3 hpost
                obtain ⟨rfl, hbd3, hit3, hbw3⟩ := bld_more (bs' := Lib.byteCells (hypL zs rs 0 ++ [45]) ++ Lib.runeCells ds.1) hpost rfl HI2.out hbw2
                have HBD3 := Lib.hid hbd3
                have HI3 := Lib.hid hit3
                clear hpost hbd3 hit3
                go_wp2
                go_roundw
                case rel => exact ⟨p + ds.2, b, rs ++ [(ds.1 : Int)], HI3.out, by simp, by rw [HN.out, ← List.append_assoc, byteCells_app, byteCells_rune]; exact HBD3.out, by rw [HE.out]; simp, by omega, by simp; omega, by omega, by rw [HN.out]; simp; omega, hbw3⟩
                case measure =>
                  simp only [World.iterPos, HI3.out, HIT.out]
                  omega
          · have hnx := fun ty => Lib.run_next_end_at (P := Tryd.prog) wr (B + 1) s p ty hit hltp
            have he1 : runesOf s = rs := by rw [HE.out, runesL_end hltp]; simp
            have H2 := Lib.hid he1
            have hszr : B ≤ wr.heap.size := by have := (Array.getElem?_eq_some_iff.1 hit).1; omega
            clear he1 HE
            go_wp2_with fail
            refine (Tryd.Builder_String_any_k B B _ wr HB.out hszr).mono ?_
            rintro e w2 ⟨rfl, _, hb2, _⟩
            go_wp2
            go_ret
            exact ⟨by rw [HY.out, H2.out]; rfl, hwA.trans (by have h := hbw.trans hb2; rw [HBE.out] at h; exact h)⟩
end Go.Proofs.YtfjfgjncmliadaaDoor
