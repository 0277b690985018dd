/-
  eachSubtraction. Conditions: as the theorem says.
-/
import Derived.Test.YtdehghmpfkhljaaDoorNumKeep4
namespace Go.Proofs.YtdehghmpfkhljaaDoor
open Go.RowKit
open NumPlain

theorem St.alloc4 {B ob : Nat} {Pr : Nat → Prop} {l : List Int} {w : World} (h : St B ob Pr l w) (o1 o2 o3 o4 : Obj) :
    St B ob (fun k => Pr k ∨ k = w.heap.size ∨ k = w.heap.size + 1 ∨ k = w.heap.size + 2 ∨ k = w.heap.size + 3) l ((((w.alloc o1).alloc o2).alloc o3).alloc o4) := by
  refine ((((h.alloc o1).alloc o2).alloc o3).alloc o4).less (fun k hk => ?_)
  simp only [World.size_alloc]
  rcases hk with h | h | h | h | h
  · exact .inl (.inl (.inl (.inl h)))
  · exact .inl (.inl (.inl (.inr h)))
  · exact .inl (.inl (.inr h))
  · exact .inl (.inr (by omega))
  · exact .inr (by omega)
theorem cellN (w : World) (v : Value) (t : TypeId) (H : Nat) (h : w.heap.size = H) (_ : v.cells = #[v]) : (w.alloc (.cells #[v] t)).cell? ⟨H, 0, none⟩ = some v := by subst h; simp
theorem Rb.aft {w w' : World} {R : Nat} {x : Nm} {Bs Bw : Nat} (h : Rb w R x Bs Bw) (k : Aft w w') : Rb w' R x Bs Bw :=
  ⟨k.cell h.c0, k.cell h.c1, k.cell h.c2, k.cell h.c3, k.cell h.c4, k.cell h.c5, k.cell h.c6, k.cell h.c7, k.cell h.c8⟩
theorem boxes4 (w : World) (x : Nm) (Bs Bw : Nat) (v2 v3 v4 : Value) (s1 s2 s3 s4 : TypeId) (e2 : v2.cells = #[v2]) (e3 : v3.cells = #[v3]) (e4 : v4.cells = #[v4]) :
    Rb ((((w.alloc (.cells (rC x Bs Bw) s1)).alloc (.cells #[v2] s2)).alloc (.cells #[v3] s3)).alloc (.cells #[v4] s4)) w.heap.size x Bs Bw ∧
    ((((w.alloc (.cells (rC x Bs Bw) s1)).alloc (.cells #[v2] s2)).alloc (.cells #[v3] s3)).alloc (.cells #[v4] s4)).cell? ⟨w.heap.size + 1, 0, none⟩ = some v2 ∧
    ((((w.alloc (.cells (rC x Bs Bw) s1)).alloc (.cells #[v2] s2)).alloc (.cells #[v3] s3)).alloc (.cells #[v4] s4)).cell? ⟨w.heap.size + 2, 0, none⟩ = some v3 ∧
    ((((w.alloc (.cells (rC x Bs Bw) s1)).alloc (.cells #[v2] s2)).alloc (.cells #[v3] s3)).alloc (.cells #[v4] s4)).cell? ⟨w.heap.size + 3, 0, none⟩ = some v4 :=
  ⟨(Rb.new w x Bs Bw s1).aft ((((Aft.refl _).alloc _).alloc _).alloc _),
   (((Aft.refl _).alloc _).alloc _).cell (cellN _ v2 s2 _ (by simp only [World.size_alloc]) e2),
   ((Aft.refl _).alloc _).cell (cellN _ v3 s3 _ (by simp only [World.size_alloc]) e3),
   cellN _ v4 s4 _ (by simp only [World.size_alloc]) e4⟩
/-- What the tokens stand for as a digit less than a multiple of p. -/
def subC (x : Nm) (toks : List BA) (ix : Nat) (p : Int) (f : Int → List Int) : List Int :=
  if toks.length = 4 ∧ toks.getD 1 ByteArray.empty = x.le ∧ toks.getD 3 ByteArray.empty = x.ps.getD ix ByteArray.empty then (digC x (toks.getD 2 ByteArray.empty)).flatMap (fun q => (digC x (toks.getD 0 ByteArray.empty)).flatMap (fun m => f (q * p - m))) else []

set_option maxRecDepth 100000 in
set_option maxHeartbeats 3200000 in
theorem eachSub_any (x : Nm) (Bs Bw : Nat) (A : Option Addr) (n c : Nat) (toks : List BA) (ix : Nat) (p : Int) (g : Nat) (lb : Array Value) (B ob : Nat) (Need Pr : Nat → Prop) (wA w0 : World) (Z : Int → Prop) (K : Nat) (f : Int → List Int) (M : Nat) (hf : ∀ z, (f z).length ≤ M) (hcf : ∀ args w, (callFunc g args).run Tryd.prog w = .ok (.enter g args) w)
    (hk : KV g lb B ob Need w0 Z K f) (hd20 : x.dn ≤ 20) (hp0 : 0 ≤ p) (hp1 : p ≤ 8000) (hZ : ∀ q z, Dz q → Dz z → Z (q * p - z)) (hix : ix < x.pn) (l : List Int) (w : World) (hn : ∀ k, Need k → Pr k) (hfx : Fix Need w0 w) (hb : Below B w0 w) (hst : St B ob Pr l w) (hbA : Below B wA w) (hw : Nw wA x) (ht : Rw sV wA A n c toks) (hwB : wA.heap.size = B)
    (hl : l.length + x.dn * (x.dn * M) + x.dn * M ≤ K) :
    Calls Tryd.prog 59 #[rV x Bs Bw, .slice A n c, .int .i64 (ix : Int), .int .i64 p, .func (.func g) #[] lb] w (fun e W' => e = .returned (.tuple #[]) ∧ St B ob Pr (l ++ subC x toks ix p f) W' ∧ Fix Pr w W' ∧ Below B w W') := by
  have htl := ht.len
  have hn64 := ht.le
  have hc64 := ht.cmax
  have hpm := hw.rp.le
  have hpc := hw.rp.cmax
  have AL : Aft w ((((w.alloc (.cells (rC x Bs Bw) 60)).alloc (.cells #[.slice A n c] 22)).alloc (.cells #[.int .i64 p] 3)).alloc (.cells #[.func (.func g) #[] lb] 76)) := ((((Aft.refl w).alloc _).alloc _).alloc _).alloc _
  have FX : Fix Pr w ((((w.alloc (.cells (rC x Bs Bw) 60)).alloc (.cells #[.slice A n c] 22)).alloc (.cells #[.int .i64 p] 3)).alloc (.cells #[.func (.func g) #[] lb] 76)) := fix_aft hst.lt AL
  have BL : Below B w ((((w.alloc (.cells (rC x Bs Bw) 60)).alloc (.cells #[.slice A n c] 22)).alloc (.cells #[.int .i64 p] 3)).alloc (.cells #[.func (.func g) #[] lb] 76)) := Below.mono AL hst.big
  have HFX := Lib.hid FX
  have HBL := Lib.hid BL
  have HST4 := Lib.hid ((hst.alloc4 (.cells (rC x Bs Bw) 60) (.cells #[.slice A n c] 22) (.cells #[.int .i64 p] 3) (.cells #[.func (.func g) #[] lb] 76)).less (fun k h => .inl h : ∀ k, Pr k → _))
  by_cases h4 : n = 4
  · subst h4
    obtain ⟨b, off, t0, rfl, ht0, g0⟩ := ht.at_ (k := 0) (by omega)
    obtain ⟨b', off', t1, e1, ht1, g1⟩ := ht.at_ (k := 1) (by omega)
    cases e1
    obtain ⟨b', off', t2, e2, ht2, g2⟩ := ht.at_ (k := 2) (by omega)
    cases e2
    obtain ⟨b', off', t3, e3, ht3, g3⟩ := ht.at_ (k := 3) (by omega)
    cases e3
    obtain ⟨pb, po, pw, hpa, hpw, gp⟩ := hw.rp.at_ hix
    have hg0 : toks.getD 0 ByteArray.empty = t0 := by simp [List.getD, ht0]
    have hg1 : toks.getD 1 ByteArray.empty = t1 := by simp [List.getD, ht1]
    have hg2 : toks.getD 2 ByteArray.empty = t2 := by simp [List.getD, ht2]
    have hg3 : toks.getD 3 ByteArray.empty = t3 := by simp [List.getD, ht3]
    have hgp : x.ps.getD ix ByteArray.empty = pw := by simp [List.getD, hpw]
    have hbl : b < B := by rw [← hwB]; exact World.block_lt_of_cell? wA _ g0
    have hpl : pb < B := by rw [← hwB]; exact World.block_lt_of_cell? wA _ gp
    have b4 := boxes4 w x Bs Bw (.slice (some ⟨b, off, none⟩) 4 c) (.int .i64 p) (.func (.func g) #[] lb) 60 22 3 76 rfl rfl rfl
    have HS := Lib.hid (show ∀ w', Fix (fun k => Pr k ∨ k = w.heap.size ∨ k = w.heap.size + 1 ∨ k = w.heap.size + 2 ∨ k = w.heap.size + 3) ((((w.alloc (.cells (rC x Bs Bw) 60)).alloc (.cells #[.slice (some ⟨b, off, none⟩) 4 c] 22)).alloc (.cells #[.int .i64 p] 3)).alloc (.cells #[.func (.func g) #[] lb] 76)) w' → Below B ((((w.alloc (.cells (rC x Bs Bw) 60)).alloc (.cells #[.slice (some ⟨b, off, none⟩) 4 c] 22)).alloc (.cells #[.int .i64 p] 3)).alloc (.cells #[.func (.func g) #[] lb] 76)) w' → (fun w' => w'.cell? ⟨(w.heap.size), 0, none⟩ = some (.int .i64 x.base) ∧ w'.cell? ⟨(w.heap.size), 1, none⟩ = some (.slice x.da x.dn x.dc) ∧ w'.cell? ⟨(w.heap.size), 2, none⟩ = some (.slice x.pa x.pn x.pc) ∧ w'.cell? ⟨(w.heap.size), 3, none⟩ = some (.bool x.sf) ∧ w'.cell? ⟨(w.heap.size), 4, none⟩ = some (.string x.jo) ∧ w'.cell? ⟨(w.heap.size), 5, none⟩ = some (.int .i64 x.sub) ∧ w'.cell? ⟨(w.heap.size), 6, none⟩ = some (.string x.le) ∧ w'.cell? ⟨(w.heap.size), 7, none⟩ = some (.bool x.om) ∧ w'.cell? ⟨(w.heap.size), 8, none⟩ = some (.func (.func 50) #[] #[.pointer (some ⟨Bs, 0, none⟩), .pointer (some ⟨Bw, 0, none⟩)]) ∧ w'.cell? ⟨w.heap.size + 1, 0, none⟩ = some (.slice (some ⟨b, off, none⟩) 4 c) ∧ w'.cell? ⟨w.heap.size + 2, 0, none⟩ = some (.int .i64 p) ∧ w'.cell? ⟨w.heap.size + 3, 0, none⟩ = some (.func (.func g) #[] lb) ∧ w'.cell? ⟨b, off + 1, none⟩ = some (.string t1) ∧ w'.cell? ⟨b, off + 2, none⟩ = some (.string t2) ∧ w'.cell? ⟨b, off + 3, none⟩ = some (.string t3) ∧ w'.cell? ⟨pb, po + ix, none⟩ = some (.string pw)) w' by
      intro w' F1 B1
      have r : Rb w' w.heap.size x Bs Bw := b4.1.fix F1 (.inr (.inl rfl))
      have B2 := hbA.trans (BL.trans B1)
      exact ⟨r.c0, r.c1, r.c2, r.c3, r.c4, r.c5, r.c6, r.c7, r.c8, F1.cell (.inr (.inr (.inl rfl))) b4.2.1, F1.cell (.inr (.inr (.inr (.inl rfl)))) b4.2.2.1, F1.cell (.inr (.inr (.inr (.inr rfl)))) b4.2.2.2, (B2.cell (p := ⟨b, off + 1, none⟩) hbl).trans g1, (B2.cell (p := ⟨b, off + 2, none⟩) hbl).trans g2, (B2.cell (p := ⟨b, off + 3, none⟩) hbl).trans g3, (B2.cell (p := ⟨pb, po + ix, none⟩) hpl).trans gp⟩)
    have HSS := Lib.hid (HS.out ((((w.alloc (.cells (rC x Bs Bw) 60)).alloc (.cells #[.slice (some ⟨b, off, none⟩) 4 c] 22)).alloc (.cells #[.int .i64 p] 3)).alloc (.cells #[.func (.func g) #[] lb] 76)) (Fix.refl _ _) (Below.refl _ _))
    have HSP := Lib.hid (show (fun w' => w'.cell? ⟨(w.heap.size), 0, none⟩ = some (.int .i64 x.base) ∧ w'.cell? ⟨(w.heap.size), 1, none⟩ = some (.slice x.da x.dn x.dc) ∧ w'.cell? ⟨(w.heap.size), 2, none⟩ = some (.slice (some ⟨pb, po, none⟩) x.pn x.pc) ∧ w'.cell? ⟨(w.heap.size), 3, none⟩ = some (.bool x.sf) ∧ w'.cell? ⟨(w.heap.size), 4, none⟩ = some (.string x.jo) ∧ w'.cell? ⟨(w.heap.size), 5, none⟩ = some (.int .i64 x.sub) ∧ w'.cell? ⟨(w.heap.size), 6, none⟩ = some (.string x.le) ∧ w'.cell? ⟨(w.heap.size), 7, none⟩ = some (.bool x.om) ∧ w'.cell? ⟨(w.heap.size), 8, none⟩ = some (.func (.func 50) #[] #[.pointer (some ⟨Bs, 0, none⟩), .pointer (some ⟨Bw, 0, none⟩)]) ∧ w'.cell? ⟨w.heap.size + 1, 0, none⟩ = some (.slice (some ⟨b, off, none⟩) 4 c) ∧ w'.cell? ⟨w.heap.size + 2, 0, none⟩ = some (.int .i64 p) ∧ w'.cell? ⟨w.heap.size + 3, 0, none⟩ = some (.func (.func g) #[] lb) ∧ w'.cell? ⟨b, off + 1, none⟩ = some (.string t1) ∧ w'.cell? ⟨b, off + 2, none⟩ = some (.string t2) ∧ w'.cell? ⟨b, off + 3, none⟩ = some (.string t3) ∧ w'.cell? ⟨pb, po + ix, none⟩ = some (.string pw)) ((((w.alloc (.cells (rC x Bs Bw) 60)).alloc (.cells #[.slice (some ⟨b, off, none⟩) 4 c] 22)).alloc (.cells #[.int .i64 p] 3)).alloc (.cells #[.func (.func g) #[] lb] 76)) from ⟨HSS.out.1, HSS.out.2.1, by rw [← hpa]; exact HSS.out.2.2.1, HSS.out.2.2.2⟩)
    have HC := Lib.hid (show ∀ w', Aft ((((w.alloc (.cells (rC x Bs Bw) 60)).alloc (.cells #[.slice (some ⟨b, off, none⟩) 4 c] 22)).alloc (.cells #[.int .i64 p] 3)).alloc (.cells #[.func (.func g) #[] lb] 76)) w' → Calls Tryd.prog 58 #[rV x Bs Bw, .string t2, .func (.func 69) #[] #[.pointer (some ⟨w.heap.size, 0, none⟩), .pointer (some ⟨w.heap.size + 1, 0, none⟩), .pointer (some ⟨w.heap.size + 3, 0, none⟩), .pointer (some ⟨w.heap.size + 2, 0, none⟩)]] w' (fun e W' => e = .returned (.tuple #[]) ∧ St B ob Pr (l ++ (digC x t2).flatMap (fun q => (digC x t0).flatMap (fun m => f (q * p - m)))) W' ∧ Fix (fun k => Pr k ∨ k = w.heap.size ∨ k = w.heap.size + 1 ∨ k = w.heap.size + 2 ∨ k = w.heap.size + 3) ((((w.alloc (.cells (rC x Bs Bw) 60)).alloc (.cells #[.slice (some ⟨b, off, none⟩) 4 c] 22)).alloc (.cells #[.int .i64 p] 3)).alloc (.cells #[.func (.func g) #[] lb] 76)) W' ∧ Below B ((((w.alloc (.cells (rC x Bs Bw) 60)).alloc (.cells #[.slice (some ⟨b, off, none⟩) 4 c] 22)).alloc (.cells #[.int .i64 p] 3)).alloc (.cells #[.func (.func g) #[] lb] 76)) W') by
      intro w' a
      have s4 := hst.alloc4 (.cells (rC x Bs Bw) 60) (.cells #[.slice (some ⟨b, off, none⟩) 4 c] 22) (.cells #[.int .i64 p] 3) (.cells #[.func (.func g) #[] lb] 76)
      have F1 := fix_aft s4.lt a
      have B1 : Below B _ w' := Below.mono a s4.big
      have F2 : Fix Need w0 w' := hfx.trans ((FX.sub hn).trans (F1.sub (fun k h => .inl (hn k h))))
      have r : Rb w' w.heap.size x Bs Bw := b4.1.fix F1 (.inr (.inl rfl))
      have cT : w'.cell? ⟨w.heap.size + 1, 0, none⟩ = some (.slice (some ⟨b, off, none⟩) 4 c) := a.cell b4.2.1
      have cp : w'.cell? ⟨w.heap.size + 2, 0, none⟩ = some (.int .i64 p) := a.cell b4.2.2.1
      have ck : w'.cell? ⟨w.heap.size + 3, 0, none⟩ = some (.func (.func g) #[] lb) := a.cell b4.2.2.2
      have hk1 := sub1_any x Bs Bw (some ⟨b, off, none⟩) 4 c toks (by omega) g lb B ob Need wA w0 w' Z K (K - x.dn * M) f M hf hcf hk F2 (hb.trans (BL.trans B1)) w.heap.size (w.heap.size + 1) (w.heap.size + 3) (w.heap.size + 2) p r cT ck cp hd20 (fun q hq => ⟨Int.mul_nonneg hq.1 hp0, by have h := Int.mul_le_mul (Int.le_of_lt hq.2) hp1 hp0 (by omega); omega⟩) hZ (hbA.trans (BL.trans B1)) hw ht hwB (by omega)
      rw [hg0] at hk1
      refine (eachDigit_any x Bs Bw t2 69 _ B ob _ (fun k => Pr k ∨ k = w.heap.size ∨ k = w.heap.size + 1 ∨ k = w.heap.size + 2 ∨ k = w.heap.size + 3) wA w' Dz (K - x.dn * M) _ (x.dn * M) (fun z => ?_) enterK1 hk1 (fun z h1 h2 => ⟨h1, by omega⟩) l w' (fun k h => ?_) (Fix.refl _ _) (Below.refl _ _) (s4.aft a) (hbA.trans (BL.trans B1)) hw hwB (by omega)).mono ?_
      · have h := digC_flat x t0 (fun m => f (z * p - m)) M (fun m => hf _)
        rw [hw.rd.len] at h
        exact h
      · rcases h with h | h | h | h | h
        · exact .inl (hn _ h)
        · exact .inr (.inl h)
        · exact .inr (.inr (.inl h))
        · exact .inr (.inr (.inr (.inr h)))
        · exact .inr (.inr (.inr (.inl h)))
      · rintro e W' ⟨rfl, s, fx, bl⟩
        exact ⟨rfl, s.less (fun k h => .inl h), F1.trans fx, B1.trans bl⟩)
    have HN := Lib.hid hn
    have hixi : (ix : Int) < (x.pn : Int) := by omega
    have hix0 : (0 : Int) ≤ (ix : Int) := by omega
    obtain ⟨V, hV⟩ : ∃ V, subC x toks ix p f = V := ⟨_, rfl⟩
    rw [hV]
    unfold subC at hV
    rw [hg0, hg1, hg2, hg3, hgp] at hV
    by_cases he1 : t1 = x.le
    · by_cases he3 : t3 = pw
      · rw [if_pos ⟨htl, he1, he3⟩] at hV
        have HV := Lib.hid hV
        have q1 : (t1.toList == x.le.toList) = true := by rw [he1]; simp
        have q1' : (t1.toList != x.le.toList) = false := by rw [he1]; simp
        have q3 : (t3.toList == pw.toList) = true := by rw [he3]; simp
        have q3' : (t3.toList != pw.toList) = false := by rw [he3]; simp
        clear hV hk hfx hb hp0 hp1 hZ hbA hw ht hwB hl hf hcf hst hn g0 g1 g2 g3 gp ht0 ht1 ht2 ht3 hpw b4 hg0 hg1 hg2 hg3 hgp he1 he3 AL FX BL
        clear hpa
        go_enter Tryd.func59, Tryd.ntmps59
        go_wp2
        refine wp_region_held_drew (S := fun w' => w'.cell? ⟨(w.heap.size), 0, none⟩ = some (.int .i64 x.base) ∧ w'.cell? ⟨(w.heap.size), 1, none⟩ = some (.slice x.da x.dn x.dc) ∧ w'.cell? ⟨(w.heap.size), 2, none⟩ = some (.slice (some ⟨pb, po, none⟩) x.pn x.pc) ∧ w'.cell? ⟨(w.heap.size), 3, none⟩ = some (.bool x.sf) ∧ w'.cell? ⟨(w.heap.size), 4, none⟩ = some (.string x.jo) ∧ w'.cell? ⟨(w.heap.size), 5, none⟩ = some (.int .i64 x.sub) ∧ w'.cell? ⟨(w.heap.size), 6, none⟩ = some (.string x.le) ∧ w'.cell? ⟨(w.heap.size), 7, none⟩ = some (.bool x.om) ∧ w'.cell? ⟨(w.heap.size), 8, none⟩ = some (.func (.func 50) #[] #[.pointer (some ⟨Bs, 0, none⟩), .pointer (some ⟨Bw, 0, none⟩)]) ∧ w'.cell? ⟨w.heap.size + 1, 0, none⟩ = some (.slice (some ⟨b, off, none⟩) 4 c) ∧ w'.cell? ⟨w.heap.size + 2, 0, none⟩ = some (.int .i64 p) ∧ w'.cell? ⟨w.heap.size + 3, 0, none⟩ = some (.func (.func g) #[] lb) ∧ w'.cell? ⟨b, off + 1, none⟩ = some (.string t1) ∧ w'.cell? ⟨b, off + 2, none⟩ = some (.string t2) ∧ w'.cell? ⟨b, off + 3, none⟩ = some (.string t3) ∧ w'.cell? ⟨pb, po + ix, none⟩ = some (.string pw)) (by kernel_rfl) (HSP.out) (fun hHeld => ?_)
        refine take_on (i := 0) (v := ?v85) rfl (by kernel_rfl) (by kernel_rfl) (by kernel_rfl) (fun _ _ _ h => h) (by rfl) (by assumption) ?y85 ?_
        case y85 => (intro w hSw; (try dsimp only at hSw); go_simp; (try with_reducible rfl))
        try simp only [Act.put, List.setIfInBounds_toArray, List.set_cons_zero, List.set_cons_succ]
        refine take_on (i := 1) (v := ?v86) rfl (by kernel_rfl) (by kernel_rfl) (by kernel_rfl) (fun _ _ _ h => h) (by rfl) (by assumption) ?y86 ?_
        case y86 => (intro w hSw; (try dsimp only at hSw); go_simp; (try with_reducible rfl))
        try simp only [Act.put, List.setIfInBounds_toArray, List.set_cons_zero, List.set_cons_succ]
        refine take_on (i := 2) (v := ?v87) rfl (by kernel_rfl) (by kernel_rfl) (by kernel_rfl) (fun _ _ _ h => h) (by rfl) (by assumption) ?y87 ?_
        case y87 => (intro w hSw; (try dsimp only at hSw); go_simp; (try with_reducible rfl))
        try simp only [Act.put, List.setIfInBounds_toArray, List.set_cons_zero, List.set_cons_succ]
        refine take_on (i := 3) (v := ?v88) rfl (by kernel_rfl) (by kernel_rfl) (by kernel_rfl) (fun _ _ _ h => h) (by rfl) (by assumption) ?y88 ?_
        case y88 => (intro w hSw; (try dsimp only at hSw); go_simp; (try with_reducible rfl))
        try simp only [Act.put, List.setIfInBounds_toArray, List.set_cons_zero, List.set_cons_succ]
        refine take_on (i := 4) (v := ?v89) rfl (by kernel_rfl) (by kernel_rfl) (by kernel_rfl) (fun _ _ _ h => h) (by rfl) (by assumption) ?y89 ?_
        case y89 => (intro w hSw; (try dsimp only at hSw); go_simp; (try with_reducible rfl))
        try simp only [Act.put, List.setIfInBounds_toArray, List.set_cons_zero, List.set_cons_succ]
        refine take_on (i := 5) (v := ?v90) rfl (by kernel_rfl) (by kernel_rfl) (by kernel_rfl) (fun _ _ _ h => h) (by rfl) (by assumption) ?y90 ?_
        case y90 => (intro w hSw; (try dsimp only at hSw); go_simp; (try with_reducible rfl))
        try simp only [Act.put, List.setIfInBounds_toArray, List.set_cons_zero, List.set_cons_succ]
        refine take_on (i := 6) (v := ?v91) rfl (by kernel_rfl) (by kernel_rfl) (by kernel_rfl) (fun _ _ _ h => h) (by rfl) (by assumption) ?y91 ?_
        case y91 => (intro w hSw; (try dsimp only at hSw); go_simp; (try with_reducible rfl))
        try simp only [Act.put, List.setIfInBounds_toArray, List.set_cons_zero, List.set_cons_succ]
        refine take_on (i := 7) (v := ?v92) rfl (by kernel_rfl) (by kernel_rfl) (by kernel_rfl) (fun _ _ _ h => h) (by rfl) (by assumption) ?y92 ?_
        case y92 => (intro w hSw; (try dsimp only at hSw); go_simp; (try with_reducible rfl))
        try simp only [Act.put, List.setIfInBounds_toArray, List.set_cons_zero, List.set_cons_succ]
        refine take_on (i := 8) (v := ?v93) rfl (by kernel_rfl) (by kernel_rfl) (by kernel_rfl) (fun _ _ _ h => h) (by rfl) (by assumption) ?y93 ?_
        case y93 => (intro w hSw; (try dsimp only at hSw); go_simp; (try with_reducible rfl))
        try simp only [Act.put, List.setIfInBounds_toArray, List.set_cons_zero, List.set_cons_succ]
        refine take_on (i := 9) (v := ?v94) rfl (by kernel_rfl) (by kernel_rfl) (by kernel_rfl) (fun _ _ _ h => h) (by rfl) (by assumption) ?y94 ?_
        case y94 => (intro w hSw; (try dsimp only at hSw); go_simp; (try with_reducible rfl))
        try simp only [Act.put, List.setIfInBounds_toArray, List.set_cons_zero, List.set_cons_succ]
        refine take_on (i := 10) (v := ?v95) rfl (by kernel_rfl) (by kernel_rfl) (by kernel_rfl) (fun _ _ _ h => h) (by rfl) (by assumption) ?y95 ?_
        case y95 => (intro w hSw; (try dsimp only at hSw); go_simp; (try with_reducible rfl))
        try simp only [Act.put, List.setIfInBounds_toArray, List.set_cons_zero, List.set_cons_succ]
        refine take_on (i := 11) (v := ?v96) rfl (by kernel_rfl) (by kernel_rfl) (by kernel_rfl) (fun _ _ _ h => h) (by rfl) (by assumption) ?y96 ?_
        case y96 => (intro w hSw; (try dsimp only at hSw); go_simp; (try with_reducible rfl))
        try simp only [Act.put, List.setIfInBounds_toArray, List.set_cons_zero, List.set_cons_succ]
        refine take_on (i := 12) (v := ?v97) rfl (by kernel_rfl) (by kernel_rfl) (by kernel_rfl) (fun _ _ _ h => h) (by rfl) (by assumption) ?y97 ?_
        case y97 => (intro w hSw; (try dsimp only at hSw); go_simp; (try with_reducible rfl))
        try simp only [Act.put, List.setIfInBounds_toArray, List.set_cons_zero, List.set_cons_succ]
        refine take_on (i := 13) (v := ?v98) rfl (by kernel_rfl) (by kernel_rfl) (by kernel_rfl) (fun _ _ _ h => h) (by rfl) (by assumption) ?y98 ?_
        case y98 => (intro w hSw; (try dsimp only at hSw); go_simp; (try with_reducible rfl))
        try simp only [Act.put, List.setIfInBounds_toArray, List.set_cons_zero, List.set_cons_succ]
        refine take_on (i := 14) (v := ?v99) rfl (by kernel_rfl) (by kernel_rfl) (by kernel_rfl) (fun _ _ _ h => h) (by rfl) (by assumption) ?y99 ?_
        case y99 => (intro w hSw; (try dsimp only at hSw); go_simp; (try with_reducible rfl))
        try simp only [Act.put, List.setIfInBounds_toArray, List.set_cons_zero, List.set_cons_succ]
        refine take_on (i := 15) (v := ?v100) rfl (by kernel_rfl) (by kernel_rfl) (by kernel_rfl) (fun _ _ _ h => h) (by rfl) (by assumption) ?y100 ?_
        case y100 => (intro w hSw; (try dsimp only at hSw); go_simp; (try with_reducible rfl))
        try simp only [Act.put, List.setIfInBounds_toArray, List.set_cons_zero, List.set_cons_succ]
        refine take_on (i := 16) (v := ?v101) rfl (by kernel_rfl) (by kernel_rfl) (by kernel_rfl) (fun _ _ _ h => h) (by rfl) (by assumption) ?y101 ?_
        case y101 => (intro w hSw; (try dsimp only at hSw); go_simp; (try with_reducible rfl))
        try simp only [Act.put, List.setIfInBounds_toArray, List.set_cons_zero, List.set_cons_succ]
        refine take_on (i := 17) (v := ?v102) rfl (by kernel_rfl) (by kernel_rfl) (by kernel_rfl) (fun _ _ _ h => h) (by rfl) (by assumption) ?y102 ?_
        case y102 => (intro w hSw; (try dsimp only at hSw); go_simp; (try with_reducible rfl))
        try simp only [Act.put, List.setIfInBounds_toArray, List.set_cons_zero, List.set_cons_succ]
        refine take_on (i := 18) (v := ?v103) rfl (by kernel_rfl) (by kernel_rfl) (by kernel_rfl) (fun _ _ _ h => h) (by rfl) (by assumption) ?y103 ?_
        case y103 => (intro w hSw; (try dsimp only at hSw); go_simp; (try with_reducible rfl))
        try simp only [Act.put, List.setIfInBounds_toArray, List.set_cons_zero, List.set_cons_succ]
        refine take_on (i := 19) (v := ?v104) rfl (by kernel_rfl) (by kernel_rfl) (by kernel_rfl) (fun _ _ _ h => h) (by rfl) (by assumption) ?y104 ?_
        case y104 => (intro w hSw; (try dsimp only at hSw); go_simp; (try with_reducible rfl))
        try simp only [Act.put, List.setIfInBounds_toArray, List.set_cons_zero, List.set_cons_succ]
        refine take_on (i := 20) (v := ?v105) rfl (by kernel_rfl) (by kernel_rfl) (by kernel_rfl) (fun _ _ _ h => h) (by rfl) (by assumption) ?y105 ?_
        case y105 => (intro w hSw; (try dsimp only at hSw); go_simp; (try with_reducible rfl))
        try simp only [Act.put, List.setIfInBounds_toArray, List.set_cons_zero, List.set_cons_succ]
        refine take_on (i := 21) (v := ?v106) rfl (by kernel_rfl) (by kernel_rfl) (by kernel_rfl) (fun _ _ _ h => h) (by rfl) (by assumption) ?y106 ?_
        case y106 => (intro w hSw; (try dsimp only at hSw); go_simp; (try with_reducible rfl))
        try simp only [Act.put, List.setIfInBounds_toArray, List.set_cons_zero, List.set_cons_succ]
        refine take_on (i := 22) (v := ?v107) rfl (by kernel_rfl) (by kernel_rfl) (by kernel_rfl) (fun _ _ _ h => h) (by rfl) (by assumption) ?y107 ?_
        case y107 => (intro w hSw; (try dsimp only at hSw); go_simp; (try with_reducible rfl))
        try simp only [Act.put, List.setIfInBounds_toArray, List.set_cons_zero, List.set_cons_succ]
        refine take_on (i := 23) (v := ?v108) rfl (by kernel_rfl) (by kernel_rfl) (by kernel_rfl) (fun _ _ _ h => h) (by rfl) (by assumption) ?y108 ?_
        case y108 => (intro w hSw; (try dsimp only at hSw); go_simp; (try with_reducible rfl))
        try simp only [Act.put, List.setIfInBounds_toArray, List.set_cons_zero, List.set_cons_succ]
        refine wpAnyH_done (by kernel_rfl) ?_ _
        go_wp2
        refine wp_region_held_drew (S := fun w' => w'.cell? ⟨(w.heap.size), 0, none⟩ = some (.int .i64 x.base) ∧ w'.cell? ⟨(w.heap.size), 1, none⟩ = some (.slice x.da x.dn x.dc) ∧ w'.cell? ⟨(w.heap.size), 2, none⟩ = some (.slice x.pa x.pn x.pc) ∧ w'.cell? ⟨(w.heap.size), 3, none⟩ = some (.bool x.sf) ∧ w'.cell? ⟨(w.heap.size), 4, none⟩ = some (.string x.jo) ∧ w'.cell? ⟨(w.heap.size), 5, none⟩ = some (.int .i64 x.sub) ∧ w'.cell? ⟨(w.heap.size), 6, none⟩ = some (.string x.le) ∧ w'.cell? ⟨(w.heap.size), 7, none⟩ = some (.bool x.om) ∧ w'.cell? ⟨(w.heap.size), 8, none⟩ = some (.func (.func 50) #[] #[.pointer (some ⟨Bs, 0, none⟩), .pointer (some ⟨Bw, 0, none⟩)]) ∧ w'.cell? ⟨w.heap.size + 1, 0, none⟩ = some (.slice (some ⟨b, off, none⟩) 4 c) ∧ w'.cell? ⟨w.heap.size + 2, 0, none⟩ = some (.int .i64 p) ∧ w'.cell? ⟨w.heap.size + 3, 0, none⟩ = some (.func (.func g) #[] lb) ∧ w'.cell? ⟨b, off + 1, none⟩ = some (.string t1) ∧ w'.cell? ⟨b, off + 2, none⟩ = some (.string t2) ∧ w'.cell? ⟨b, off + 3, none⟩ = some (.string t3) ∧ w'.cell? ⟨pb, po + ix, none⟩ = some (.string pw)) (by kernel_rfl) (HSS.out) (fun hHeld => ?_)
        refine take_on (i := 0) (v := ?v79) rfl (by kernel_rfl) (by kernel_rfl) (by kernel_rfl) (fun _ _ _ h => h) (by rfl) (by assumption) ?y79 ?_
        case y79 => (intro w hSw; (try dsimp only at hSw); go_simp; (try with_reducible rfl))
        try simp only [Act.put, List.setIfInBounds_toArray, List.set_cons_zero, List.set_cons_succ]
        refine take_on (i := 1) (v := ?v80) rfl (by kernel_rfl) (by kernel_rfl) (by kernel_rfl) (fun _ _ _ h => h) (by rfl) (by assumption) ?y80 ?_
        case y80 => (intro w hSw; (try dsimp only at hSw); go_simp; (try with_reducible rfl))
        try simp only [Act.put, List.setIfInBounds_toArray, List.set_cons_zero, List.set_cons_succ]
        refine take_on (i := 2) (v := ?v81) rfl (by kernel_rfl) (by kernel_rfl) (by kernel_rfl) (fun _ _ _ h => h) (by rfl) (by assumption) ?y81 ?_
        case y81 => (intro w hSw; (try dsimp only at hSw); go_simp; (try with_reducible rfl))
        try simp only [Act.put, List.setIfInBounds_toArray, List.set_cons_zero, List.set_cons_succ]
        refine take_on (i := 3) (v := ?v82) rfl (by kernel_rfl) (by kernel_rfl) (by kernel_rfl) (fun _ _ _ h => h) (by rfl) (by assumption) ?y82 ?_
        case y82 => (intro w hSw; (try dsimp only at hSw); go_simp; (try with_reducible rfl))
        try simp only [Act.put, List.setIfInBounds_toArray, List.set_cons_zero, List.set_cons_succ]
        refine take_on (i := 4) (v := ?v83) rfl (by kernel_rfl) (by kernel_rfl) (by kernel_rfl) (fun _ _ _ h => h) (by rfl) (by assumption) ?y83 ?_
        case y83 => (intro w hSw; (try dsimp only at hSw); go_simp; (try with_reducible rfl))
        try simp only [Act.put, List.setIfInBounds_toArray, List.set_cons_zero, List.set_cons_succ]
        refine one_ready (i := 5) rfl (by kernel_rfl) (by rfl) (fun K hK => ?_)
        go_simp
        go_at_call 58
        refine (HC.out _ (by first | exact Below.drew (Below.drew (Aft.refl _)) | exact Below.drew (Aft.refl _) | exact Aft.refl _)).mono ?_
        rintro e' w' ⟨rfl, h9⟩
        have H9 := Lib.hid h9
        clear h9
        have hh : (fun w' => w'.cell? ⟨(w.heap.size), 0, none⟩ = some (.int .i64 x.base) ∧ w'.cell? ⟨(w.heap.size), 1, none⟩ = some (.slice x.da x.dn x.dc) ∧ w'.cell? ⟨(w.heap.size), 2, none⟩ = some (.slice x.pa x.pn x.pc) ∧ w'.cell? ⟨(w.heap.size), 3, none⟩ = some (.bool x.sf) ∧ w'.cell? ⟨(w.heap.size), 4, none⟩ = some (.string x.jo) ∧ w'.cell? ⟨(w.heap.size), 5, none⟩ = some (.int .i64 x.sub) ∧ w'.cell? ⟨(w.heap.size), 6, none⟩ = some (.string x.le) ∧ w'.cell? ⟨(w.heap.size), 7, none⟩ = some (.bool x.om) ∧ w'.cell? ⟨(w.heap.size), 8, none⟩ = some (.func (.func 50) #[] #[.pointer (some ⟨Bs, 0, none⟩), .pointer (some ⟨Bw, 0, none⟩)]) ∧ w'.cell? ⟨w.heap.size + 1, 0, none⟩ = some (.slice (some ⟨b, off, none⟩) 4 c) ∧ w'.cell? ⟨w.heap.size + 2, 0, none⟩ = some (.int .i64 p) ∧ w'.cell? ⟨w.heap.size + 3, 0, none⟩ = some (.func (.func g) #[] lb) ∧ w'.cell? ⟨b, off + 1, none⟩ = some (.string t1) ∧ w'.cell? ⟨b, off + 2, none⟩ = some (.string t2) ∧ w'.cell? ⟨b, off + 3, none⟩ = some (.string t3) ∧ w'.cell? ⟨pb, po + ix, none⟩ = some (.string pw)) w' := HS.out _ H9.out.2.1 H9.out.2.2
        try go_simp
        refine hK.out _ _ (hh) (fun hHeld => ?_)
        clear hK K
        try simp only [Act.put, List.setIfInBounds_toArray, List.set_cons_zero, List.set_cons_succ]
        refine wpAnyH_done (by kernel_rfl) ?_ _
        go_wp2
        first | go_end0 | go_ret | ((try simp only [Exit.inBlock, Exit.then]); refine bodyPost_ret (results_none rfl _ _ _) rfl ?_)
        exact ⟨rfl, by rw [← HV.out]; exact H9.out.1, HFX.out.trans (H9.out.2.1.sub (fun k h => .inl h)), HBL.out.trans H9.out.2.2⟩
      · rw [if_neg (fun h => he3 h.2.2)] at hV
        have HV := Lib.hid hV
        have q1 : (t1.toList == x.le.toList) = true := by rw [he1]; simp
        have q1' : (t1.toList != x.le.toList) = false := by rw [he1]; simp
        have q3 : (t3.toList == pw.toList) = false := by rw [toList_beq]; simp [he3]
        have q3' : (t3.toList != pw.toList) = true := by unfold bne; rw [q3]; rfl
        clear hV hk hfx hb hp0 hp1 hZ hbA hw ht hwB hl hf hcf hst hn g0 g1 g2 g3 gp ht0 ht1 ht2 ht3 hpw b4 hg0 hg1 hg2 hg3 hgp he1 he3 AL FX BL
        clear hpa
        go_enter Tryd.func59, Tryd.ntmps59
        go_wp2
        refine wp_region_held_drew (S := fun w' => w'.cell? ⟨(w.heap.size), 0, none⟩ = some (.int .i64 x.base) ∧ w'.cell? ⟨(w.heap.size), 1, none⟩ = some (.slice x.da x.dn x.dc) ∧ w'.cell? ⟨(w.heap.size), 2, none⟩ = some (.slice (some ⟨pb, po, none⟩) x.pn x.pc) ∧ w'.cell? ⟨(w.heap.size), 3, none⟩ = some (.bool x.sf) ∧ w'.cell? ⟨(w.heap.size), 4, none⟩ = some (.string x.jo) ∧ w'.cell? ⟨(w.heap.size), 5, none⟩ = some (.int .i64 x.sub) ∧ w'.cell? ⟨(w.heap.size), 6, none⟩ = some (.string x.le) ∧ w'.cell? ⟨(w.heap.size), 7, none⟩ = some (.bool x.om) ∧ w'.cell? ⟨(w.heap.size), 8, none⟩ = some (.func (.func 50) #[] #[.pointer (some ⟨Bs, 0, none⟩), .pointer (some ⟨Bw, 0, none⟩)]) ∧ w'.cell? ⟨w.heap.size + 1, 0, none⟩ = some (.slice (some ⟨b, off, none⟩) 4 c) ∧ w'.cell? ⟨w.heap.size + 2, 0, none⟩ = some (.int .i64 p) ∧ w'.cell? ⟨w.heap.size + 3, 0, none⟩ = some (.func (.func g) #[] lb) ∧ w'.cell? ⟨b, off + 1, none⟩ = some (.string t1) ∧ w'.cell? ⟨b, off + 2, none⟩ = some (.string t2) ∧ w'.cell? ⟨b, off + 3, none⟩ = some (.string t3) ∧ w'.cell? ⟨pb, po + ix, none⟩ = some (.string pw)) (by kernel_rfl) (HSP.out) (fun hHeld => ?_)
        refine take_on (i := 0) (v := ?v109) rfl (by kernel_rfl) (by kernel_rfl) (by kernel_rfl) (fun _ _ _ h => h) (by rfl) (by assumption) ?y109 ?_
        case y109 => (intro w hSw; (try dsimp only at hSw); go_simp; (try with_reducible rfl))
        try simp only [Act.put, List.setIfInBounds_toArray, List.set_cons_zero, List.set_cons_succ]
        refine take_on (i := 1) (v := ?v110) rfl (by kernel_rfl) (by kernel_rfl) (by kernel_rfl) (fun _ _ _ h => h) (by rfl) (by assumption) ?y110 ?_
        case y110 => (intro w hSw; (try dsimp only at hSw); go_simp; (try with_reducible rfl))
        try simp only [Act.put, List.setIfInBounds_toArray, List.set_cons_zero, List.set_cons_succ]
        refine take_on (i := 2) (v := ?v111) rfl (by kernel_rfl) (by kernel_rfl) (by kernel_rfl) (fun _ _ _ h => h) (by rfl) (by assumption) ?y111 ?_
        case y111 => (intro w hSw; (try dsimp only at hSw); go_simp; (try with_reducible rfl))
        try simp only [Act.put, List.setIfInBounds_toArray, List.set_cons_zero, List.set_cons_succ]
        refine take_on (i := 3) (v := ?v112) rfl (by kernel_rfl) (by kernel_rfl) (by kernel_rfl) (fun _ _ _ h => h) (by rfl) (by assumption) ?y112 ?_
        case y112 => (intro w hSw; (try dsimp only at hSw); go_simp; (try with_reducible rfl))
        try simp only [Act.put, List.setIfInBounds_toArray, List.set_cons_zero, List.set_cons_succ]
        refine take_on (i := 4) (v := ?v113) rfl (by kernel_rfl) (by kernel_rfl) (by kernel_rfl) (fun _ _ _ h => h) (by rfl) (by assumption) ?y113 ?_
        case y113 => (intro w hSw; (try dsimp only at hSw); go_simp; (try with_reducible rfl))
        try simp only [Act.put, List.setIfInBounds_toArray, List.set_cons_zero, List.set_cons_succ]
        refine take_on (i := 5) (v := ?v114) rfl (by kernel_rfl) (by kernel_rfl) (by kernel_rfl) (fun _ _ _ h => h) (by rfl) (by assumption) ?y114 ?_
        case y114 => (intro w hSw; (try dsimp only at hSw); go_simp; (try with_reducible rfl))
        try simp only [Act.put, List.setIfInBounds_toArray, List.set_cons_zero, List.set_cons_succ]
        refine take_on (i := 6) (v := ?v115) rfl (by kernel_rfl) (by kernel_rfl) (by kernel_rfl) (fun _ _ _ h => h) (by rfl) (by assumption) ?y115 ?_
        case y115 => (intro w hSw; (try dsimp only at hSw); go_simp; (try with_reducible rfl))
        try simp only [Act.put, List.setIfInBounds_toArray, List.set_cons_zero, List.set_cons_succ]
        refine take_on (i := 7) (v := ?v116) rfl (by kernel_rfl) (by kernel_rfl) (by kernel_rfl) (fun _ _ _ h => h) (by rfl) (by assumption) ?y116 ?_
        case y116 => (intro w hSw; (try dsimp only at hSw); go_simp; (try with_reducible rfl))
        try simp only [Act.put, List.setIfInBounds_toArray, List.set_cons_zero, List.set_cons_succ]
        refine take_on (i := 8) (v := ?v117) rfl (by kernel_rfl) (by kernel_rfl) (by kernel_rfl) (fun _ _ _ h => h) (by rfl) (by assumption) ?y117 ?_
        case y117 => (intro w hSw; (try dsimp only at hSw); go_simp; (try with_reducible rfl))
        try simp only [Act.put, List.setIfInBounds_toArray, List.set_cons_zero, List.set_cons_succ]
        refine take_on (i := 9) (v := ?v118) rfl (by kernel_rfl) (by kernel_rfl) (by kernel_rfl) (fun _ _ _ h => h) (by rfl) (by assumption) ?y118 ?_
        case y118 => (intro w hSw; (try dsimp only at hSw); go_simp; (try with_reducible rfl))
        try simp only [Act.put, List.setIfInBounds_toArray, List.set_cons_zero, List.set_cons_succ]
        refine take_on (i := 10) (v := ?v119) rfl (by kernel_rfl) (by kernel_rfl) (by kernel_rfl) (fun _ _ _ h => h) (by rfl) (by assumption) ?y119 ?_
        case y119 => (intro w hSw; (try dsimp only at hSw); go_simp; (try with_reducible rfl))
        try simp only [Act.put, List.setIfInBounds_toArray, List.set_cons_zero, List.set_cons_succ]
        refine take_on (i := 11) (v := ?v120) rfl (by kernel_rfl) (by kernel_rfl) (by kernel_rfl) (fun _ _ _ h => h) (by rfl) (by assumption) ?y120 ?_
        case y120 => (intro w hSw; (try dsimp only at hSw); go_simp; (try with_reducible rfl))
        try simp only [Act.put, List.setIfInBounds_toArray, List.set_cons_zero, List.set_cons_succ]
        refine take_on (i := 12) (v := ?v121) rfl (by kernel_rfl) (by kernel_rfl) (by kernel_rfl) (fun _ _ _ h => h) (by rfl) (by assumption) ?y121 ?_
        case y121 => (intro w hSw; (try dsimp only at hSw); go_simp; (try with_reducible rfl))
        try simp only [Act.put, List.setIfInBounds_toArray, List.set_cons_zero, List.set_cons_succ]
        refine take_on (i := 13) (v := ?v122) rfl (by kernel_rfl) (by kernel_rfl) (by kernel_rfl) (fun _ _ _ h => h) (by rfl) (by assumption) ?y122 ?_
        case y122 => (intro w hSw; (try dsimp only at hSw); go_simp; (try with_reducible rfl))
        try simp only [Act.put, List.setIfInBounds_toArray, List.set_cons_zero, List.set_cons_succ]
        refine take_on (i := 14) (v := ?v123) rfl (by kernel_rfl) (by kernel_rfl) (by kernel_rfl) (fun _ _ _ h => h) (by rfl) (by assumption) ?y123 ?_
        case y123 => (intro w hSw; (try dsimp only at hSw); go_simp; (try with_reducible rfl))
        try simp only [Act.put, List.setIfInBounds_toArray, List.set_cons_zero, List.set_cons_succ]
        refine take_on (i := 15) (v := ?v124) rfl (by kernel_rfl) (by kernel_rfl) (by kernel_rfl) (fun _ _ _ h => h) (by rfl) (by assumption) ?y124 ?_
        case y124 => (intro w hSw; (try dsimp only at hSw); go_simp; (try with_reducible rfl))
        try simp only [Act.put, List.setIfInBounds_toArray, List.set_cons_zero, List.set_cons_succ]
        refine take_on (i := 16) (v := ?v125) rfl (by kernel_rfl) (by kernel_rfl) (by kernel_rfl) (fun _ _ _ h => h) (by rfl) (by assumption) ?y125 ?_
        case y125 => (intro w hSw; (try dsimp only at hSw); go_simp; (try with_reducible rfl))
        try simp only [Act.put, List.setIfInBounds_toArray, List.set_cons_zero, List.set_cons_succ]
        refine take_on (i := 17) (v := ?v126) rfl (by kernel_rfl) (by kernel_rfl) (by kernel_rfl) (fun _ _ _ h => h) (by rfl) (by assumption) ?y126 ?_
        case y126 => (intro w hSw; (try dsimp only at hSw); go_simp; (try with_reducible rfl))
        try simp only [Act.put, List.setIfInBounds_toArray, List.set_cons_zero, List.set_cons_succ]
        refine take_on (i := 18) (v := ?v127) rfl (by kernel_rfl) (by kernel_rfl) (by kernel_rfl) (fun _ _ _ h => h) (by rfl) (by assumption) ?y127 ?_
        case y127 => (intro w hSw; (try dsimp only at hSw); go_simp; (try with_reducible rfl))
        try simp only [Act.put, List.setIfInBounds_toArray, List.set_cons_zero, List.set_cons_succ]
        refine take_on (i := 19) (v := ?v128) rfl (by kernel_rfl) (by kernel_rfl) (by kernel_rfl) (fun _ _ _ h => h) (by rfl) (by assumption) ?y128 ?_
        case y128 => (intro w hSw; (try dsimp only at hSw); go_simp; (try with_reducible rfl))
        try simp only [Act.put, List.setIfInBounds_toArray, List.set_cons_zero, List.set_cons_succ]
        refine take_on (i := 20) (v := ?v129) rfl (by kernel_rfl) (by kernel_rfl) (by kernel_rfl) (fun _ _ _ h => h) (by rfl) (by assumption) ?y129 ?_
        case y129 => (intro w hSw; (try dsimp only at hSw); go_simp; (try with_reducible rfl))
        try simp only [Act.put, List.setIfInBounds_toArray, List.set_cons_zero, List.set_cons_succ]
        refine take_on (i := 21) (v := ?v130) rfl (by kernel_rfl) (by kernel_rfl) (by kernel_rfl) (fun _ _ _ h => h) (by rfl) (by assumption) ?y130 ?_
        case y130 => (intro w hSw; (try dsimp only at hSw); go_simp; (try with_reducible rfl))
        try simp only [Act.put, List.setIfInBounds_toArray, List.set_cons_zero, List.set_cons_succ]
        refine take_on (i := 22) (v := ?v131) rfl (by kernel_rfl) (by kernel_rfl) (by kernel_rfl) (fun _ _ _ h => h) (by rfl) (by assumption) ?y131 ?_
        case y131 => (intro w hSw; (try dsimp only at hSw); go_simp; (try with_reducible rfl))
        try simp only [Act.put, List.setIfInBounds_toArray, List.set_cons_zero, List.set_cons_succ]
        refine take_on (i := 23) (v := ?v132) rfl (by kernel_rfl) (by kernel_rfl) (by kernel_rfl) (fun _ _ _ h => h) (by rfl) (by assumption) ?y132 ?_
        case y132 => (intro w hSw; (try dsimp only at hSw); go_simp; (try with_reducible rfl))
        try simp only [Act.put, List.setIfInBounds_toArray, List.set_cons_zero, List.set_cons_succ]
        refine wpAnyH_done (by kernel_rfl) ?_ _
        go_wp2
        first | go_end0 | go_ret | ((try simp only [Exit.inBlock, Exit.then]); refine bodyPost_ret (results_none rfl _ _ _) rfl ?_)
        exact ⟨rfl, by rw [← HV.out, List.append_nil]; exact HST4.out.aft (Below.drew (Aft.refl _)), HFX.out, Below.drew HBL.out⟩
    · rw [if_neg (fun h => he1 h.2.1)] at hV
      have HV := Lib.hid hV
      have q1 : (t1.toList == x.le.toList) = false := by rw [toList_beq]; simp [he1]
      have q1' : (t1.toList != x.le.toList) = true := by unfold bne; rw [q1]; rfl
      clear hV hk hfx hb hp0 hp1 hZ hbA hw ht hwB hl hf hcf hst hn g0 g1 g2 g3 gp ht0 ht1 ht2 ht3 hpw b4 hg0 hg1 hg2 hg3 hgp he1 AL FX BL
      clear hpa
      go_enter Tryd.func59, Tryd.ntmps59
      go_wp2
      refine wp_region_held_drew (S := fun w' => w'.cell? ⟨(w.heap.size), 0, none⟩ = some (.int .i64 x.base) ∧ w'.cell? ⟨(w.heap.size), 1, none⟩ = some (.slice x.da x.dn x.dc) ∧ w'.cell? ⟨(w.heap.size), 2, none⟩ = some (.slice (some ⟨pb, po, none⟩) x.pn x.pc) ∧ w'.cell? ⟨(w.heap.size), 3, none⟩ = some (.bool x.sf) ∧ w'.cell? ⟨(w.heap.size), 4, none⟩ = some (.string x.jo) ∧ w'.cell? ⟨(w.heap.size), 5, none⟩ = some (.int .i64 x.sub) ∧ w'.cell? ⟨(w.heap.size), 6, none⟩ = some (.string x.le) ∧ w'.cell? ⟨(w.heap.size), 7, none⟩ = some (.bool x.om) ∧ w'.cell? ⟨(w.heap.size), 8, none⟩ = some (.func (.func 50) #[] #[.pointer (some ⟨Bs, 0, none⟩), .pointer (some ⟨Bw, 0, none⟩)]) ∧ w'.cell? ⟨w.heap.size + 1, 0, none⟩ = some (.slice (some ⟨b, off, none⟩) 4 c) ∧ w'.cell? ⟨w.heap.size + 2, 0, none⟩ = some (.int .i64 p) ∧ w'.cell? ⟨w.heap.size + 3, 0, none⟩ = some (.func (.func g) #[] lb) ∧ w'.cell? ⟨b, off + 1, none⟩ = some (.string t1) ∧ w'.cell? ⟨b, off + 2, none⟩ = some (.string t2) ∧ w'.cell? ⟨b, off + 3, none⟩ = some (.string t3) ∧ w'.cell? ⟨pb, po + ix, none⟩ = some (.string pw)) (by kernel_rfl) (HSP.out) (fun hHeld => ?_)
      refine take_on (i := 0) (v := ?v31) rfl (by kernel_rfl) (by kernel_rfl) (by kernel_rfl) (fun _ _ _ h => h) (by rfl) (by assumption) ?y31 ?_
      case y31 => (intro w hSw; (try dsimp only at hSw); go_simp; (try with_reducible rfl))
      try simp only [Act.put, List.setIfInBounds_toArray, List.set_cons_zero, List.set_cons_succ]
      refine take_on (i := 1) (v := ?v32) rfl (by kernel_rfl) (by kernel_rfl) (by kernel_rfl) (fun _ _ _ h => h) (by rfl) (by assumption) ?y32 ?_
      case y32 => (intro w hSw; (try dsimp only at hSw); go_simp; (try with_reducible rfl))
      try simp only [Act.put, List.setIfInBounds_toArray, List.set_cons_zero, List.set_cons_succ]
      refine take_on (i := 2) (v := ?v33) rfl (by kernel_rfl) (by kernel_rfl) (by kernel_rfl) (fun _ _ _ h => h) (by rfl) (by assumption) ?y33 ?_
      case y33 => (intro w hSw; (try dsimp only at hSw); go_simp; (try with_reducible rfl))
      try simp only [Act.put, List.setIfInBounds_toArray, List.set_cons_zero, List.set_cons_succ]
      refine take_on (i := 3) (v := ?v34) rfl (by kernel_rfl) (by kernel_rfl) (by kernel_rfl) (fun _ _ _ h => h) (by rfl) (by assumption) ?y34 ?_
      case y34 => (intro w hSw; (try dsimp only at hSw); go_simp; (try with_reducible rfl))
      try simp only [Act.put, List.setIfInBounds_toArray, List.set_cons_zero, List.set_cons_succ]
      refine take_on (i := 4) (v := ?v35) rfl (by kernel_rfl) (by kernel_rfl) (by kernel_rfl) (fun _ _ _ h => h) (by rfl) (by assumption) ?y35 ?_
      case y35 => (intro w hSw; (try dsimp only at hSw); go_simp; (try with_reducible rfl))
      try simp only [Act.put, List.setIfInBounds_toArray, List.set_cons_zero, List.set_cons_succ]
      refine take_on (i := 5) (v := ?v36) rfl (by kernel_rfl) (by kernel_rfl) (by kernel_rfl) (fun _ _ _ h => h) (by rfl) (by assumption) ?y36 ?_
      case y36 => (intro w hSw; (try dsimp only at hSw); go_simp; (try with_reducible rfl))
      try simp only [Act.put, List.setIfInBounds_toArray, List.set_cons_zero, List.set_cons_succ]
      refine take_on (i := 6) (v := ?v37) rfl (by kernel_rfl) (by kernel_rfl) (by kernel_rfl) (fun _ _ _ h => h) (by rfl) (by assumption) ?y37 ?_
      case y37 => (intro w hSw; (try dsimp only at hSw); go_simp; (try with_reducible rfl))
      try simp only [Act.put, List.setIfInBounds_toArray, List.set_cons_zero, List.set_cons_succ]
      refine take_on (i := 7) (v := ?v38) rfl (by kernel_rfl) (by kernel_rfl) (by kernel_rfl) (fun _ _ _ h => h) (by rfl) (by assumption) ?y38 ?_
      case y38 => (intro w hSw; (try dsimp only at hSw); go_simp; (try with_reducible rfl))
      try simp only [Act.put, List.setIfInBounds_toArray, List.set_cons_zero, List.set_cons_succ]
      refine take_on (i := 8) (v := ?v39) rfl (by kernel_rfl) (by kernel_rfl) (by kernel_rfl) (fun _ _ _ h => h) (by rfl) (by assumption) ?y39 ?_
      case y39 => (intro w hSw; (try dsimp only at hSw); go_simp; (try with_reducible rfl))
      try simp only [Act.put, List.setIfInBounds_toArray, List.set_cons_zero, List.set_cons_succ]
      refine take_on (i := 9) (v := ?v40) rfl (by kernel_rfl) (by kernel_rfl) (by kernel_rfl) (fun _ _ _ h => h) (by rfl) (by assumption) ?y40 ?_
      case y40 => (intro w hSw; (try dsimp only at hSw); go_simp; (try with_reducible rfl))
      try simp only [Act.put, List.setIfInBounds_toArray, List.set_cons_zero, List.set_cons_succ]
      refine take_on (i := 10) (v := ?v41) rfl (by kernel_rfl) (by kernel_rfl) (by kernel_rfl) (fun _ _ _ h => h) (by rfl) (by assumption) ?y41 ?_
      case y41 => (intro w hSw; (try dsimp only at hSw); go_simp; (try with_reducible rfl))
      try simp only [Act.put, List.setIfInBounds_toArray, List.set_cons_zero, List.set_cons_succ]
      refine take_on (i := 11) (v := ?v42) rfl (by kernel_rfl) (by kernel_rfl) (by kernel_rfl) (fun _ _ _ h => h) (by rfl) (by assumption) ?y42 ?_
      case y42 => (intro w hSw; (try dsimp only at hSw); go_simp; (try with_reducible rfl))
      try simp only [Act.put, List.setIfInBounds_toArray, List.set_cons_zero, List.set_cons_succ]
      refine take_on (i := 12) (v := ?v43) rfl (by kernel_rfl) (by kernel_rfl) (by kernel_rfl) (fun _ _ _ h => h) (by rfl) (by assumption) ?y43 ?_
      case y43 => (intro w hSw; (try dsimp only at hSw); go_simp; (try with_reducible rfl))
      try simp only [Act.put, List.setIfInBounds_toArray, List.set_cons_zero, List.set_cons_succ]
      refine take_off (i := 13) rfl (by kernel_rfl) (by kernel_rfl) (by kernel_rfl) (fun _ _ _ h => h) (by rfl) (by assumption) ?_
      try simp only [Act.put, List.setIfInBounds_toArray, List.set_cons_zero, List.set_cons_succ]
      refine take_off (i := 14) rfl (by kernel_rfl) (by kernel_rfl) (by kernel_rfl) (fun _ _ _ h => h) (by rfl) (by assumption) ?_
      try simp only [Act.put, List.setIfInBounds_toArray, List.set_cons_zero, List.set_cons_succ]
      refine take_off (i := 15) rfl (by kernel_rfl) (by kernel_rfl) (by kernel_rfl) (fun _ _ _ h => h) (by rfl) (by assumption) ?_
      try simp only [Act.put, List.setIfInBounds_toArray, List.set_cons_zero, List.set_cons_succ]
      refine take_off (i := 16) rfl (by kernel_rfl) (by kernel_rfl) (by kernel_rfl) (fun _ _ _ h => h) (by rfl) (by assumption) ?_
      try simp only [Act.put, List.setIfInBounds_toArray, List.set_cons_zero, List.set_cons_succ]
      refine take_off (i := 17) rfl (by kernel_rfl) (by kernel_rfl) (by kernel_rfl) (fun _ _ _ h => h) (by rfl) (by assumption) ?_
      try simp only [Act.put, List.setIfInBounds_toArray, List.set_cons_zero, List.set_cons_succ]
      refine take_off (i := 18) rfl (by kernel_rfl) (by kernel_rfl) (by kernel_rfl) (fun _ _ _ h => h) (by rfl) (by assumption) ?_
      try simp only [Act.put, List.setIfInBounds_toArray, List.set_cons_zero, List.set_cons_succ]
      refine take_off (i := 19) rfl (by kernel_rfl) (by kernel_rfl) (by kernel_rfl) (fun _ _ _ h => h) (by rfl) (by assumption) ?_
      try simp only [Act.put, List.setIfInBounds_toArray, List.set_cons_zero, List.set_cons_succ]
      refine take_off (i := 20) rfl (by kernel_rfl) (by kernel_rfl) (by kernel_rfl) (fun _ _ _ h => h) (by rfl) (by assumption) ?_
      try simp only [Act.put, List.setIfInBounds_toArray, List.set_cons_zero, List.set_cons_succ]
      refine take_off (i := 21) rfl (by kernel_rfl) (by kernel_rfl) (by kernel_rfl) (fun _ _ _ h => h) (by rfl) (by assumption) ?_
      try simp only [Act.put, List.setIfInBounds_toArray, List.set_cons_zero, List.set_cons_succ]
      refine take_off (i := 22) rfl (by kernel_rfl) (by kernel_rfl) (by kernel_rfl) (fun _ _ _ h => h) (by rfl) (by assumption) ?_
      try simp only [Act.put, List.setIfInBounds_toArray, List.set_cons_zero, List.set_cons_succ]
      refine take_on (i := 23) (v := ?v54) rfl (by kernel_rfl) (by kernel_rfl) (by kernel_rfl) (fun _ _ _ h => h) (by rfl) (by assumption) ?y54 ?_
      case y54 => (intro w hSw; (try dsimp only at hSw); go_simp; (try with_reducible rfl))
      try simp only [Act.put, List.setIfInBounds_toArray, List.set_cons_zero, List.set_cons_succ]
      refine wpAnyH_done (by kernel_rfl) ?_ _
      go_wp2
      first | go_end0 | go_ret | ((try simp only [Exit.inBlock, Exit.then]); refine bodyPost_ret (results_none rfl _ _ _) rfl ?_)
      exact ⟨rfl, by rw [← HV.out, List.append_nil]; exact HST4.out.aft (Below.drew (Aft.refl _)), HFX.out, Below.drew HBL.out⟩
  · have HV := Lib.hid (show subC x toks ix p f = [] by unfold subC; exact if_neg (fun h => h4 (htl.symm.trans h.1)))
    have hn4 : ¬ (n : Int) = 4 := by omega
    have hn4' : ((n : Int) != 4) = true := bne_iff_ne.2 hn4
    have HSS := Lib.hid (show (fun w' => w'.cell? ⟨(w.heap.size), 0, none⟩ = some (.int .i64 x.base) ∧ w'.cell? ⟨(w.heap.size), 1, none⟩ = some (.slice x.da x.dn x.dc) ∧ w'.cell? ⟨(w.heap.size), 2, none⟩ = some (.slice x.pa x.pn x.pc) ∧ w'.cell? ⟨(w.heap.size), 3, none⟩ = some (.bool x.sf) ∧ w'.cell? ⟨(w.heap.size), 4, none⟩ = some (.string x.jo) ∧ w'.cell? ⟨(w.heap.size), 5, none⟩ = some (.int .i64 x.sub) ∧ w'.cell? ⟨(w.heap.size), 6, none⟩ = some (.string x.le) ∧ w'.cell? ⟨(w.heap.size), 7, none⟩ = some (.bool x.om) ∧ w'.cell? ⟨(w.heap.size), 8, none⟩ = some (.func (.func 50) #[] #[.pointer (some ⟨Bs, 0, none⟩), .pointer (some ⟨Bw, 0, none⟩)]) ∧ w'.cell? ⟨w.heap.size + 1, 0, none⟩ = some (.slice A n c) ∧ w'.cell? ⟨w.heap.size + 2, 0, none⟩ = some (.int .i64 p) ∧ w'.cell? ⟨w.heap.size + 3, 0, none⟩ = some (.func (.func g) #[] lb)) ((((w.alloc (.cells (rC x Bs Bw) 60)).alloc (.cells #[.slice A n c] 22)).alloc (.cells #[.int .i64 p] 3)).alloc (.cells #[.func (.func g) #[] lb] 76)) by
      have b4 := boxes4 w x Bs Bw (.slice A n c) (.int .i64 p) (.func (.func g) #[] lb) 60 22 3 76 rfl rfl rfl
      exact ⟨b4.1.c0, b4.1.c1, b4.1.c2, b4.1.c3, b4.1.c4, b4.1.c5, b4.1.c6, b4.1.c7, b4.1.c8, b4.2.1, b4.2.2.1, b4.2.2.2⟩)
    clear hk hfx hb hp0 hp1 hZ hbA hw ht hwB hl hf hcf hst hn AL FX BL
    go_enter Tryd.func59, Tryd.ntmps59
    go_wp2
    refine wp_region_held_drew (S := fun w' => w'.cell? ⟨(w.heap.size), 0, none⟩ = some (.int .i64 x.base) ∧ w'.cell? ⟨(w.heap.size), 1, none⟩ = some (.slice x.da x.dn x.dc) ∧ w'.cell? ⟨(w.heap.size), 2, none⟩ = some (.slice x.pa x.pn x.pc) ∧ w'.cell? ⟨(w.heap.size), 3, none⟩ = some (.bool x.sf) ∧ w'.cell? ⟨(w.heap.size), 4, none⟩ = some (.string x.jo) ∧ w'.cell? ⟨(w.heap.size), 5, none⟩ = some (.int .i64 x.sub) ∧ w'.cell? ⟨(w.heap.size), 6, none⟩ = some (.string x.le) ∧ w'.cell? ⟨(w.heap.size), 7, none⟩ = some (.bool x.om) ∧ w'.cell? ⟨(w.heap.size), 8, none⟩ = some (.func (.func 50) #[] #[.pointer (some ⟨Bs, 0, none⟩), .pointer (some ⟨Bw, 0, none⟩)]) ∧ w'.cell? ⟨w.heap.size + 1, 0, none⟩ = some (.slice A n c) ∧ w'.cell? ⟨w.heap.size + 2, 0, none⟩ = some (.int .i64 p) ∧ w'.cell? ⟨w.heap.size + 3, 0, none⟩ = some (.func (.func g) #[] lb)) (by kernel_rfl) (HSS.out) (fun hHeld => ?_)
    refine take_on (i := 0) (v := ?v7) rfl (by kernel_rfl) (by kernel_rfl) (by kernel_rfl) (fun _ _ _ h => h) (by rfl) (by assumption) ?y7 ?_
    case y7 => (intro w hSw; (try dsimp only at hSw); go_simp; (try with_reducible rfl))
    try simp only [Act.put, List.setIfInBounds_toArray, List.set_cons_zero, List.set_cons_succ]
    refine take_on (i := 1) (v := ?v8) rfl (by kernel_rfl) (by kernel_rfl) (by kernel_rfl) (fun _ _ _ h => h) (by rfl) (by assumption) ?y8 ?_
    case y8 => (intro w hSw; (try dsimp only at hSw); go_simp; (try with_reducible rfl))
    try simp only [Act.put, List.setIfInBounds_toArray, List.set_cons_zero, List.set_cons_succ]
    refine take_on (i := 2) (v := ?v9) rfl (by kernel_rfl) (by kernel_rfl) (by kernel_rfl) (fun _ _ _ h => h) (by rfl) (by assumption) ?y9 ?_
    case y9 => (intro w hSw; (try dsimp only at hSw); go_simp; (try with_reducible rfl))
    try simp only [Act.put, List.setIfInBounds_toArray, List.set_cons_zero, List.set_cons_succ]
    refine take_on (i := 3) (v := ?v10) rfl (by kernel_rfl) (by kernel_rfl) (by kernel_rfl) (fun _ _ _ h => h) (by rfl) (by assumption) ?y10 ?_
    case y10 => (intro w hSw; (try dsimp only at hSw); go_simp; (try with_reducible rfl))
    try simp only [Act.put, List.setIfInBounds_toArray, List.set_cons_zero, List.set_cons_succ]
    refine take_off (i := 4) rfl (by kernel_rfl) (by kernel_rfl) (by kernel_rfl) (fun _ _ _ h => h) (by rfl) (by assumption) ?_
    try simp only [Act.put, List.setIfInBounds_toArray, List.set_cons_zero, List.set_cons_succ]
    refine take_off (i := 5) rfl (by kernel_rfl) (by kernel_rfl) (by kernel_rfl) (fun _ _ _ h => h) (by rfl) (by assumption) ?_
    try simp only [Act.put, List.setIfInBounds_toArray, List.set_cons_zero, List.set_cons_succ]
    refine take_off (i := 6) rfl (by kernel_rfl) (by kernel_rfl) (by kernel_rfl) (fun _ _ _ h => h) (by rfl) (by assumption) ?_
    try simp only [Act.put, List.setIfInBounds_toArray, List.set_cons_zero, List.set_cons_succ]
    refine take_off (i := 7) rfl (by kernel_rfl) (by kernel_rfl) (by kernel_rfl) (fun _ _ _ h => h) (by rfl) (by assumption) ?_
    try simp only [Act.put, List.setIfInBounds_toArray, List.set_cons_zero, List.set_cons_succ]
    refine take_off (i := 8) rfl (by kernel_rfl) (by kernel_rfl) (by kernel_rfl) (fun _ _ _ h => h) (by rfl) (by assumption) ?_
    try simp only [Act.put, List.setIfInBounds_toArray, List.set_cons_zero, List.set_cons_succ]
    refine take_off (i := 9) rfl (by kernel_rfl) (by kernel_rfl) (by kernel_rfl) (fun _ _ _ h => h) (by rfl) (by assumption) ?_
    try simp only [Act.put, List.setIfInBounds_toArray, List.set_cons_zero, List.set_cons_succ]
    refine take_off (i := 10) rfl (by kernel_rfl) (by kernel_rfl) (by kernel_rfl) (fun _ _ _ h => h) (by rfl) (by assumption) ?_
    try simp only [Act.put, List.setIfInBounds_toArray, List.set_cons_zero, List.set_cons_succ]
    refine take_on (i := 11) (v := ?v18) rfl (by kernel_rfl) (by kernel_rfl) (by kernel_rfl) (fun _ _ _ h => h) (by rfl) (by assumption) ?y18 ?_
    case y18 => (intro w hSw; (try dsimp only at hSw); go_simp; (try with_reducible rfl))
    try simp only [Act.put, List.setIfInBounds_toArray, List.set_cons_zero, List.set_cons_succ]
    refine take_on (i := 12) (v := ?v19) rfl (by kernel_rfl) (by kernel_rfl) (by kernel_rfl) (fun _ _ _ h => h) (by rfl) (by assumption) ?y19 ?_
    case y19 => (intro w hSw; (try dsimp only at hSw); go_simp; (try with_reducible rfl))
    try simp only [Act.put, List.setIfInBounds_toArray, List.set_cons_zero, List.set_cons_succ]
    refine take_off (i := 13) rfl (by kernel_rfl) (by kernel_rfl) (by kernel_rfl) (fun _ _ _ h => h) (by rfl) (by assumption) ?_
    try simp only [Act.put, List.setIfInBounds_toArray, List.set_cons_zero, List.set_cons_succ]
    refine take_off (i := 14) rfl (by kernel_rfl) (by kernel_rfl) (by kernel_rfl) (fun _ _ _ h => h) (by rfl) (by assumption) ?_
    try simp only [Act.put, List.setIfInBounds_toArray, List.set_cons_zero, List.set_cons_succ]
    refine take_off (i := 15) rfl (by kernel_rfl) (by kernel_rfl) (by kernel_rfl) (fun _ _ _ h => h) (by rfl) (by assumption) ?_
    try simp only [Act.put, List.setIfInBounds_toArray, List.set_cons_zero, List.set_cons_succ]
    refine take_off (i := 16) rfl (by kernel_rfl) (by kernel_rfl) (by kernel_rfl) (fun _ _ _ h => h) (by rfl) (by assumption) ?_
    try simp only [Act.put, List.setIfInBounds_toArray, List.set_cons_zero, List.set_cons_succ]
    refine take_off (i := 17) rfl (by kernel_rfl) (by kernel_rfl) (by kernel_rfl) (fun _ _ _ h => h) (by rfl) (by assumption) ?_
    try simp only [Act.put, List.setIfInBounds_toArray, List.set_cons_zero, List.set_cons_succ]
    refine take_off (i := 18) rfl (by kernel_rfl) (by kernel_rfl) (by kernel_rfl) (fun _ _ _ h => h) (by rfl) (by assumption) ?_
    try simp only [Act.put, List.setIfInBounds_toArray, List.set_cons_zero, List.set_cons_succ]
    refine take_off (i := 19) rfl (by kernel_rfl) (by kernel_rfl) (by kernel_rfl) (fun _ _ _ h => h) (by rfl) (by assumption) ?_
    try simp only [Act.put, List.setIfInBounds_toArray, List.set_cons_zero, List.set_cons_succ]
    refine take_off (i := 20) rfl (by kernel_rfl) (by kernel_rfl) (by kernel_rfl) (fun _ _ _ h => h) (by rfl) (by assumption) ?_
    try simp only [Act.put, List.setIfInBounds_toArray, List.set_cons_zero, List.set_cons_succ]
    refine take_off (i := 21) rfl (by kernel_rfl) (by kernel_rfl) (by kernel_rfl) (fun _ _ _ h => h) (by rfl) (by assumption) ?_
    try simp only [Act.put, List.setIfInBounds_toArray, List.set_cons_zero, List.set_cons_succ]
    refine take_off (i := 22) rfl (by kernel_rfl) (by kernel_rfl) (by kernel_rfl) (fun _ _ _ h => h) (by rfl) (by assumption) ?_
    try simp only [Act.put, List.setIfInBounds_toArray, List.set_cons_zero, List.set_cons_succ]
    refine take_on (i := 23) (v := ?v30) rfl (by kernel_rfl) (by kernel_rfl) (by kernel_rfl) (fun _ _ _ h => h) (by rfl) (by assumption) ?y30 ?_
    case y30 => (intro w hSw; (try dsimp only at hSw); go_simp; (try with_reducible rfl))
    try simp only [Act.put, List.setIfInBounds_toArray, List.set_cons_zero, List.set_cons_succ]
    refine wpAnyH_done (by kernel_rfl) ?_ _
    go_wp2
    first | go_end0 | go_ret | ((try simp only [Exit.inBlock, Exit.then]); refine bodyPost_ret (results_none rfl _ _ _) rfl ?_)
    exact ⟨rfl, by rw [HV.out, List.append_nil]; exact HST4.out.aft (Below.drew (Aft.refl _)), HFX.out, Below.drew HBL.out⟩
end Go.Proofs.YtdehghmpfkhljaaDoor
