/-
  Split, Points and Heavy. Conditions: the slices hold the letters and the masks; the tables lie as their texts say; the word has at most 1000000 bytes.
-/
import Derived.Test.YtfjfgjncmliadaaDoorSylDiv
namespace Go.Proofs.YtfjfgjncmliadaaDoor
open Go.RowKit Go.Maps
open AlphPlain

theorem nuc_pair (ls : List Lt) : ∀ (rs : List Int) (i : Nat), (nuc ls rs i).Pairwise (· < ·)
  | [], i => List.Pairwise.nil
  | r :: rs, i => by
    rw [nuc]
    have ih := nuc_pair ls rs (i + 1)
    cases vowB ls r
    · simpa using ih
    · simp only [if_true, List.singleton_append, List.pairwise_cons]
      exact ⟨fun x hx => by have := (nuc_mem hx).1; omega, ih⟩
theorem cut_le {ls : List Lt} {m : List (List Int)} {rs : List Int} {a b : Nat} (h : a ≤ b) : a ≤ cut ls m rs a b ∧ cut ls m rs a b ≤ b := by
  unfold cut
  have h1 := cutAt_ge (fun e => onB ls m (sub rs e b)) (b - a) a
  have h2 := cutAt_le (fun e => onB ls m (sub rs e b)) (b - a) a
  omega
theorem pcs_ok {ls : List Lt} {m : List (List Int)} {rs : List Int} {n : Nat} : ∀ (ns : List Nat) (b : Nat), (∀ x, ns.head? = some x → b ≤ x) → ns.Pairwise (· < ·) → (∀ x ∈ ns, x < n) → ∀ p ∈ pcs n b (begs ls m rs ns), p.1 < p.2 ∧ p.2 ≤ n
  | [], b, _, _, _, p, hp => by
    rw [begs, pcs] at hp
    · split at hp
      · simp at hp; subst hp; simpa
      · cases hp
    · simp
  | [x], b, _, _, _, p, hp => by
    rw [begs, pcs] at hp
    · split at hp
      · simp at hp; subst hp; simpa
      · cases hp
    · simp
  | x :: y :: ns, b, hb, hs, hn, p, hp => by
    rw [begs, pcs] at hp
    have hxy : x < y := (List.pairwise_cons.1 hs).1 y (by simp)
    have hyn := hn y (by simp)
    have hbx := hb x rfl
    have hc := cut_le (ls := ls) (m := m) (rs := rs) (show x + 1 ≤ y from hxy)
    rcases List.mem_cons.1 hp with rfl | hp
    · exact ⟨by show b < _; omega, by show _ ≤ n; omega⟩
    · exact pcs_ok (y :: ns) _ (fun z hz => by cases hz; omega) (List.pairwise_cons.1 hs).2 (fun z hz => hn z (by simp [List.mem_cons.1 hz])) p hp
theorem sylP_ok {ls : List Lt} {m : List (List Int)} {rs : List Int} {p : Nat × Nat} (h : p ∈ sylP ls m rs) : p.1 < p.2 ∧ p.2 ≤ rs.length :=
  pcs_ok _ 0 (fun _ _ => Nat.zero_le _) (nuc_pair ls rs 0) (fun x hx => by have := (nuc_mem hx).2; omega) p h
theorem pcs_len {ls : List Lt} {m : List (List Int)} {rs : List Int} (n : Nat) : ∀ (ns : List Nat) (b : Nat), (pcs n b (begs ls m rs ns)).length ≤ ns.length + 1
  | [], b => by
    rw [begs, pcs]
    · split <;> simp
    · simp
  | [x], b => by
    rw [begs, pcs]
    · split <;> simp
    · simp
  | x :: y :: ns, b => by
    rw [begs, pcs]
    have := pcs_len (ls := ls) (m := m) (rs := rs) n (y :: ns) (cut ls m rs (x + 1) y)
    simp only [List.length_cons] at this ⊢
    omega
theorem sylP_len (ls : List Lt) (m : List (List Int)) (rs : List Int) : (sylP ls m rs).length ≤ rs.length + 1 := by
  have h1 := pcs_len (ls := ls) (m := m) (rs := rs) rs.length (nuc ls rs 0) 0
  have h2 := nuc_len ls rs 0
  unfold sylP
  omega

/-- The syllables as strings. -/
def splitB (rs : List Int) (ps : List (Nat × Nat)) : List ByteArray := ps.map (fun p => runesBytes (sub rs p.1 p.2))
/-- The points. -/
def ptsB (n : Nat) (L R : Int) (ps : List (Nat × Nat)) : List Int := (ps.filter (fun p => decide (L ≤ (p.1 : Int)) && decide (R ≤ (n : Int) - (p.1 : Int)))).map (fun p => (p.1 : Int))
/-- Does each syllable end in no vowel? -/
def heavyB (ls : List Lt) (rs : List Int) (ps : List (Nat × Nat)) : List Bool := ps.map (fun p => !vowB ls (rs.getD (p.2 - 1) 0))
theorem splitB_next {rs : List Int} {ps : List (Nat × Nat)} {k : Nat} {p : Nat × Nat} (h : ps[k]? = some p) : splitB rs (ps.take (k + 1)) = splitB rs (ps.take k) ++ [runesBytes (sub rs p.1 p.2)] := by
  rw [take_next h]; simp [splitB]
theorem heavyB_next {ls : List Lt} {rs : List Int} {ps : List (Nat × Nat)} {k : Nat} {p : Nat × Nat} (h : ps[k]? = some p) : heavyB ls rs (ps.take (k + 1)) = heavyB ls rs (ps.take k) ++ [!vowB ls (rs.getD (p.2 - 1) 0)] := by
  rw [take_next h]; simp [heavyB]

def ListPost {α : Type} (enc : α → Value) (l : List α) (err : Int) (w : World) (e : Ending) (w' : World) : Prop :=
  (∃ (X : Option Addr) (nx cx : Nat), e = .returned (.tuple #[.slice X nx cx, .int .i64 err]) ∧ Rw enc w' X nx cx l) ∧ Aft w w'
theorem oneStr (s : ByteArray) : ∀ u ∈ [Value.string s], u.oneCell' = true := by intro u hu; simp at hu; subst hu; rfl
theorem oneBool (s : Bool) : ∀ u ∈ [Value.bool s], u.oneCell' = true := by intro u hu; simp at hu; subst hu; rfl
theorem Tryd.infoB : (Tryd.prog.info? 4).map (fun i => (i.zero, i.size, i.bytes)) = some (some (.bool false), 1, 1) := by kernel_rfl

def errOf (ok : Bool) : Int := if ok then 0 else 1

set_option maxRecDepth 100000 in
set_option maxHeartbeats 1600000 in
theorem split_any (A : Option Addr) (n c : Nat) (ls : List Lt) (B : Option Addr) (m d : Nat) (os : List Mk) (L R : Int) (s : ByteArray) (w : World) (hT : Tabs w) (ha : Ll w A n c ls) (hb : Ons w B m d os) (hs : s.size ≤ 1000000) :
    Calls Tryd.prog 23 #[.slice A n c, pV B m d L R, .string s] w (ListPost Value.string (if okD ls (masks os) L R s then splitB (runesOf s) (sylP ls (masks os) (runesOf s)) else []) (errOf (okD ls (masks os) L R s)) w) := by
  have AL : Aft w (w.alloc (.cells #[.slice B m d, .int .i64 L, .int .i64 R] 24)) := (Aft.refl w).alloc _
  obtain ⟨t0, t1, t2⟩ := three_cells w (.slice B m d) (.int .i64 L) (.int .i64 R) 24
  have hrl : (runesOf s).length ≤ 1000000 := by have := size_runesFrom s s.size 0 #[]; rw [runes_size] at this; simp at this; omega
  obtain ⟨i0, hi, hz0, hz1, hz2⟩ := info_parts Tryd.infoS
  cases hok : okD ls (masks os) L R s
  · have H1 := Lib.hid (divide_bad A n c ls B m d os L R s _ (tabs_aft hT AL) (ha.aft AL) (hb.aft AL) hs hok)
    clear hT ha hb hok
    go_enter Tryd.func23, Tryd.ntmps23
    go_wp2_with fail
    refine H1.out.mono ?_
    rintro e w1 ⟨rfl, A1⟩
    go_wp2
    go_loopw [10, 22] (fun v i wr => v = .slice none 0 0 ∧ i = .int .i64 0 ∧ w1 = wr) (fun _ _ _ => 0)
    case atStart => exact ⟨rfl, rfl, rfl⟩
    case round =>
      obtain ⟨rfl, rfl, rfl⟩ := hrel
      go_wp2
      go_ret2
      exact ⟨⟨none, 0, 0, rfl, Rw.nil⟩, AL.trans A1⟩
  · have H1 := Lib.hid (divide_any A n c ls B m d os L R s _ (tabs_aft hT AL) (ha.aft AL) (hb.aft AL) hs hok)
    clear hT ha hb hok
    go_enter Tryd.func23, Tryd.ntmps23
    go_wp2_with fail
    refine H1.out.mono ?_
    rintro e w1 ⟨RB, C, X, nx, cx, rfl, hrw, hrr, hC, A1⟩
    have hnx : nx ≤ 1000001 := by have := sylP_len ls (masks os) (runesOf s); have := hrw.len; omega
    have hxc := hrw.le
    have hok2 := Lib.hid (fun p (h : p ∈ sylP ls (masks os) (runesOf s)) => sylP_ok h)
    generalize sylP ls (masks os) (runesOf s) = ps at *
    have HW := Lib.hid hrw
    have HR := Lib.hid hrr
    have HL := Lib.hid hrw.len
    clear hrw hrr H1
    go_wp2
    go_loopw [10, 22] (fun v i wr => ∃ k : Nat, k ≤ nx ∧ i = .int .i64 (k : Nat) ∧ wr.ownsRow w1.heap.size 9 1 v k ((splitB (runesOf s) (ps.take k)).map Value.string) ∧ Aft w1 wr) (fun _ i _ => nx - (intOf i).toNat)
    case atStart => exact ⟨0, Nat.zero_le _, rfl, World.ownsRow_nil _ _ _ _, Aft.refl _⟩
    case round =>
      obtain ⟨k, hk, rfl, own, haf⟩ := hrel
      have HO := Lib.hid own
      clear own
      by_cases hlt : k < nx
      · obtain ⟨b, off, p, rfl, hp, g1⟩ := HW.out.at_ hlt
        have g2 := haf.cell g1
        dsimp only [pcE] at g2
        have hpo := hok2.out p (List.mem_of_getElem? hp)
        have hcv := ((HR.out.aft haf).sub (a := p.1) (b := p.2) (by omega) hpo.2).conv
        have HN := Lib.hid (splitB_next (rs := runesOf s) hp)
        have hki : (k : Int) < (nx : Int) := by omega
        have hs8 := haf.size
        clear hp g1
        generalize runesBytes (sub (runesOf s) p.1 p.2) = T at *
        go_wp2_with (at_builtin; refine wpList_append_own _ rfl _ _ 35 rfl w1.heap.size 9 i0 _ 1 16 Tryd.underlying35 hi hz0 hz1 hz2 rfl (by decide) _ _ _ rfl (HO.out.alloc _) ⟨wr.heap.size, 0, none⟩ 1 1 [.string T] rfl rfl (one_val _ _ _ _ rfl) (oneStr _) (by unfold maxLen; omega) (by omega) (by simp; omega) ?_; intro v' w2 own2 grow2 _)
        have A2 : Aft w1 w2 := (haf.alloc _).grown grow2 (fun k e => (HO.out.lt k e).1)
        have hrel : ∀ V, v' = V → w2.ownsRow w1.heap.size 9 1 V (k + 1) ((splitB (runesOf s) (ps.take (k + 1))).map Value.string) := by
          rintro V rfl
          rw [HN.out, List.map_append]
          exact own2
        have HRL := Lib.hid hrel
        clear hrel
        obtain ⟨g', cap', rfl⟩ := row_succ own2
        clear own2 grow2
        go_wp2
        go_roundw
        case rel => exact ⟨k + 1, by omega, by go_num, HRL.out _ rfl, A2⟩
        case measure => simp [intOf]; omega
      · obtain rfl : k = nx := by omega
        have hO := HO.out
        rw [List.take_of_length_le (by rw [HL.out]; exact Nat.le_refl _)] at hO
        obtain ⟨X3, c3, rfl, s3⟩ := Rw.of_row hO (by simp [splitB, HL.out])
        have HS := Lib.hid s3
        clear s3 hO
        go_wp2
        go_ret2
        exact ⟨⟨_, _, _, rfl, HS.out⟩, (AL.trans A1).trans haf⟩

set_option maxRecDepth 100000 in
set_option maxHeartbeats 1600000 in
theorem heavy_any (A : Option Addr) (n c : Nat) (ls : List Lt) (B : Option Addr) (m d : Nat) (os : List Mk) (L R : Int) (s : ByteArray) (w : World) (hT : Tabs w) (ha : Ll w A n c ls) (hb : Ons w B m d os) (hs : s.size ≤ 1000000) :
    Calls Tryd.prog 32 #[.slice A n c, pV B m d L R, .string s] w (ListPost Value.bool (if okD ls (masks os) L R s then heavyB ls (runesOf s) (sylP ls (masks os) (runesOf s)) else []) (errOf (okD ls (masks os) L R s)) w) := by
  have AL : Aft w (w.alloc (.cells #[.slice B m d, .int .i64 L, .int .i64 R] 24)) := (Aft.refl w).alloc _
  obtain ⟨t0, t1, t2⟩ := three_cells w (.slice B m d) (.int .i64 L) (.int .i64 R) 24
  have hrl : (runesOf s).length ≤ 1000000 := by have := size_runesFrom s s.size 0 #[]; rw [runes_size] at this; simp at this; omega
  obtain ⟨i0, hi, hz0, hz1, hz2⟩ := info_parts Tryd.infoB
  cases hok : okD ls (masks os) L R s
  · have H1 := Lib.hid (divide_bad A n c ls B m d os L R s _ (tabs_aft hT AL) (ha.aft AL) (hb.aft AL) hs hok)
    have HA := Lib.hid (ha.aft AL)
    clear hT ha hb hok
    go_enter Tryd.func32, Tryd.ntmps32
    go_wp2_with fail
    refine H1.out.mono ?_
    rintro e w1 ⟨rfl, A1⟩
    go_wp2_with fail
    refine (classesOf_any A n c ls w1 (HA.out.aft A1)).mono ?_
    rintro e w2 ⟨Bm, k, D, rfl, _, A2⟩
    go_wp2
    go_loopw [11, 25] (fun v i wr => v = .slice none 0 0 ∧ i = .int .i64 0 ∧ w2 = wr) (fun _ _ _ => 0)
    case atStart => exact ⟨rfl, rfl, rfl⟩
    case round =>
      obtain ⟨rfl, rfl, rfl⟩ := hrel
      go_wp2
      go_ret2
      exact ⟨⟨none, 0, 0, rfl, Rw.nil⟩, (AL.trans A1).trans A2⟩
  · have H1 := Lib.hid (divide_any A n c ls B m d os L R s _ (tabs_aft hT AL) (ha.aft AL) (hb.aft AL) hs hok)
    have HA := Lib.hid (ha.aft AL)
    clear hT ha hb hok
    go_enter Tryd.func32, Tryd.ntmps32
    go_wp2_with fail
    refine H1.out.mono ?_
    rintro e w1 ⟨RB, C, X, nx, cx, rfl, hrw, hrr, hC, A1⟩
    have hnx : nx ≤ 1000001 := by have := sylP_len ls (masks os) (runesOf s); have := hrw.len; omega
    have hxc := hrw.le
    have hok2 := Lib.hid (fun p (h : p ∈ sylP ls (masks os) (runesOf s)) => sylP_ok h)
    generalize sylP ls (masks os) (runesOf s) = ps at *
    have HW := Lib.hid hrw
    have HR := Lib.hid hrr
    have HL := Lib.hid hrw.len
    clear hrw hrr H1
    go_wp2_with fail
    refine (classesOf_any A n c ls w1 (HA.out.aft A1)).mono ?_
    rintro e w2 ⟨Bm, kk, D, rfl, hm, A2⟩
    have HM := Lib.hid hm
    clear hm
    have hs2 := A2.size
    go_wp2
    go_loopw [11, 25] (fun v i wr => ∃ k : Nat, k ≤ nx ∧ i = .int .i64 (k : Nat) ∧ wr.ownsRow w2.heap.size 4 1 v k ((heavyB ls (runesOf s) (ps.take k)).map Value.bool) ∧ Aft w2 wr) (fun _ i _ => nx - (intOf i).toNat)
    case atStart => exact ⟨0, Nat.zero_le _, rfl, World.ownsRow_nil _ _ _ _, Aft.refl _⟩
    case round =>
      obtain ⟨k, hk, rfl, own, haf⟩ := hrel
      have HO := Lib.hid own
      clear own
      by_cases hlt : k < nx
      · obtain ⟨b, off, p, rfl, hp, g1⟩ := HW.out.at_ hlt
        have g2 := (A2.trans haf).cell g1
        dsimp only [pcE] at g2
        have hpo := hok2.out p (List.mem_of_getElem? hp)
        obtain ⟨q, hq⟩ : ∃ q, q = p.2 - 1 - p.1 := ⟨_, rfl⟩
        obtain ⟨b3, off3, r, hA3, hr3, g3⟩ := ((HR.out.aft (A2.trans haf)).sub (a := p.1) (b := p.2) (by omega) hpo.2).at_ (k := q) (by omega)
        cases hA3
        have hlast : ((p.2 - p.1 : Nat) : Int) - 1 = (q : Int) := by omega
        have hqp : (q : Int) < ((p.2 - p.1 : Nat) : Int) := by omega
        have hr4 : (runesOf s)[p.2 - 1]? = some r := by
          unfold sub at hr3
          rw [List.getElem?_take_of_lt (by omega), List.getElem?_drop] at hr3
          rwa [show p.1 + q = p.2 - 1 by omega] at hr3
        have hwr := runes_wf s _ _ r (List.mem_of_getElem? hr4)
        have HN := Lib.hid (heavyB_next (ls := ls) (rs := runesOf s) hp)
        have HD := Lib.hid (show (runesOf s).getD (p.2 - 1) 0 = r by simp [List.getD, hr4])
        have hcall := isVowel_any Bm kk D ls r wr (HM.out.aft haf) hwr
        have hki : (k : Int) < (nx : Int) := by omega
        have hs8 := haf.size
        have hPm : p.2 - p.1 ≤ 1000000 := by omega
        have hqm : q ≤ 1000000 := by omega
        clear hp g1 hr3 hr4 hwr hq
        generalize hP : p.2 - p.1 = P at *
        have HVV := Lib.hid (show (!vowB ls r) = !vowB ls r from rfl)
        generalize hV : vowB ls r = V0 at *
        have HV := Lib.hid hV
        clear hV hP HVV
        go_wp2_with fail
        refine hcall.mono ?_
        rintro e w3 ⟨rfl, rfl⟩
        clear hcall
        go_wp2_with (at_builtin; refine wpList_append_own _ rfl _ _ 46 rfl w2.heap.size 4 i0 _ 1 1 Tryd.underlying46 hi hz0 hz1 hz2 rfl (by decide) _ _ _ rfl (HO.out.alloc _) ⟨wr.heap.size, 0, none⟩ 1 1 [.bool (!V0)] rfl rfl (one_val _ _ _ _ rfl) (oneBool _) (by unfold maxLen; omega) (by omega) (by simp; omega) ?_; intro v' w4 own2 grow2 _)
        have A4 : Aft w2 w4 := (haf.alloc _).grown grow2 (fun k e => (HO.out.lt k e).1)
        have hrel : ∀ V, v' = V → w4.ownsRow w2.heap.size 4 1 V (k + 1) ((heavyB ls (runesOf s) (ps.take (k + 1))).map Value.bool) := by
          rintro V rfl
          rw [HN.out, HD.out, HV.out, List.map_append]
          exact own2
        have HRL := Lib.hid hrel
        clear hrel
        obtain ⟨g', cap', rfl⟩ := row_succ own2
        clear own2 grow2
        go_wp2
        go_roundw
        case rel => exact ⟨k + 1, by omega, by go_num, HRL.out _ rfl, A4⟩
        case measure => simp [intOf]; omega
      · obtain rfl : k = nx := by omega
        have hO := HO.out
        rw [List.take_of_length_le (by rw [HL.out]; exact Nat.le_refl _)] at hO
        obtain ⟨X3, c3, rfl, s3⟩ := Rw.of_row hO (by simp [heavyB, HL.out])
        have HS := Lib.hid s3
        clear s3 hO
        go_wp2
        go_ret2
        exact ⟨⟨_, _, _, rfl, HS.out⟩, ((AL.trans A1).trans A2).trans haf⟩
end Go.Proofs.YtfjfgjncmliadaaDoor
