/-
  eachHead: the loop over the head's sizes. Conditions: as the theorem says.
-/
import Derived.Test.YtdehghmpfkhljaaDoorNumHead
namespace Go.Proofs.YtdehghmpfkhljaaDoor
open Go.RowKit
open NumPlain

/-- What the rounds up to a size append. -/
def hdS (x : Nm) (toks : List BA) (ix : Nat) (p : Int) (N : List BA → List Int) (f : Int → List Int) : Nat → List Int
  | 0 => []
  | s + 1 => hdS x toks ix p N f s ++ hdC x toks ix p N f (s + 1)
theorem hdS_all (x : Nm) (toks : List BA) (ix : Nat) (p : Int) (N : List BA → List Int) (f : Int → List Int) (k : Nat) (h2 : k ≤ 2) (h : k = 2 ∨ toks.length ≤ k) : hdS x toks ix p N f k = headC x toks ix p N f := by
  have hz : ∀ s, toks.length < s → hdC x toks ix p N f s = [] := fun s hs => by unfold hdC; rw [if_neg (by omega)]
  unfold headC
  match k, h2 with
  | 0, _ =>
    rw [hz 1 (by omega), hz 2 (by omega)]; rfl
  | 1, _ =>
    rw [hz 2 (by omega)]; simp [hdS]
  | 2, _ => simp [hdS]
theorem hdC_len (x : Nm) (toks : List BA) (ix : Nat) (p : Int) (N : List BA → List Int) (f : Int → List Int) (M L : Nat) (hf : ∀ z, (f z).length ≤ M) (hL : 1 ≤ L) (hN : ∀ t, (N t).length ≤ L) (hd : x.ds.length ≤ 20) (s : Nat) : (hdC x toks ix p N f s).length ≤ 20 * (L * M) := by
  have h1 : ∀ t (q : Int), ((remP x N t).flatMap (fun r => f (q * p + r))).length ≤ L * M := fun t q => Nat.le_trans (flat_len _ M (fun r => hf _) _) (Nat.mul_le_mul_right M (remP_len hL hN t))
  unfold hdC
  split
  · split
    · have := h1 (restD x toks s) 1
      omega
    · refine Nat.le_trans (flat_len _ (L * M) (fun q => h1 _ q) _) (Nat.mul_le_mul_right _ ?_)
      exact Nat.le_trans (digC_len x _) hd
  · simp
theorem hdS_len (x : Nm) (toks : List BA) (ix : Nat) (p : Int) (N : List BA → List Int) (f : Int → List Int) (M L : Nat) (hf : ∀ z, (f z).length ≤ M) (hL : 1 ≤ L) (hN : ∀ t, (N t).length ≤ L) (hd : x.ds.length ≤ 20) : ∀ s, (hdS x toks ix p N f s).length ≤ s * (20 * (L * M))
  | 0 => by simp [hdS]
  | s + 1 => by
    rw [hdS, List.length_append, Nat.succ_mul]
    have h1 := hdS_len x toks ix p N f M L hf hL hN hd s
    have h2 := hdC_len x toks ix p N f M L hf hL hN hd (s + 1)
    omega
theorem headD_size (x : Nm) (l : List BA) (s : Nat) (h : s ≤ l.length) : (headD x l s).length = s := by unfold headD; split <;> simp <;> omega

set_option maxRecDepth 100000 in
set_option maxHeartbeats 3200000 in
theorem eachHead_any (x : Nm) (Bs Bw : Nat) (A : Option Addr) (n c : Nat) (toks : List BA) (ix : Nat) (p : Int) (N : List BA → List Int) (g : Nat) (lb : Array Value) (B ob : Nat) (Need Pr : Nat → Prop) (wA w0 : World) (Z : Int → Prop) (K : Nat) (f : Int → List Int) (M L : Nat) (hf : ∀ z, (f z).length ≤ M) (hcf : ∀ args w, (callFunc g args).run Tryd.prog w = .ok (.enter g args) w)
    (hk : KV g lb B ob Need w0 Z K f) (hd20 : x.dn ≤ 20) (hp0 : 0 ≤ p) (hp1 : p ≤ 8000) (hZ : ∀ q r, Dz q → 0 ≤ r → r ≤ 9999 → Z (q * p + r)) (hix : ix < x.pn) (hL : 1 ≤ L) (hNl : ∀ t, (N t).length ≤ L) (hNr : ∀ t, ∀ r ∈ N t, 0 ≤ r ∧ r ≤ 9999) (l : List Int) (w : World) (hn : ∀ k, Need k → Pr k) (hfx : Fix Need w0 w) (hb : Below B w0 w) (hst : St B ob Pr l w) (hbA : Below B wA w) (hw : Nw wA x) (ht : Rw sV wA A n c toks) (hwB : wA.heap.size = B)
    (hN : ∀ A' n' c' toks' w', Below B wA w' → Rw sV w' A' n' c' toks' → Calls Tryd.prog 41 #[rV x Bs Bw, .slice A' n' c', .int .i64 (ix : Int)] w' (FrPost w' (N toks')))
    (hl : l.length + 40 * (L * M) + 20 * (L * M) + L * M ≤ K) :
    Calls Tryd.prog 60 #[rV x Bs Bw, .slice A n c, .int .i64 (ix : Int), .int .i64 p, .func (.func g) #[] lb] w (fun e W' => e = .returned (.tuple #[]) ∧ St B ob Pr (l ++ headC x toks ix p N f) W' ∧ Fix Pr w W' ∧ Below B w W') := by
  have htl := ht.len
  have hn64 := ht.le
  have hc64 := ht.cmax
  have hpm := hw.rp.le
  have hpc := hw.rp.cmax
  have AL : Aft w (((w.alloc (.cells (rC x Bs Bw) 60)).alloc (.cells #[.int .i64 p] 3)).alloc (.cells #[.func (.func g) #[] lb] 76)) := (((Aft.refl w).alloc _).alloc _).alloc _
  have FX : Fix Pr w (((w.alloc (.cells (rC x Bs Bw) 60)).alloc (.cells #[.int .i64 p] 3)).alloc (.cells #[.func (.func g) #[] lb] 76)) := fix_aft hst.lt AL
  have BL : Below B w (((w.alloc (.cells (rC x Bs Bw) 60)).alloc (.cells #[.int .i64 p] 3)).alloc (.cells #[.func (.func g) #[] lb] 76)) := Below.mono AL hst.big
  have HFX := Lib.hid FX
  have HBL := Lib.hid BL
  have ST3 := hst.alloc3 (.cells (rC x Bs Bw) 60) (.cells #[.int .i64 p] 3) (.cells #[.func (.func g) #[] lb] 76)
  have b3 := boxes3 w x Bs Bw (.int .i64 p) (.func (.func g) #[] lb) 60 3 76 rfl rfl
  obtain ⟨pb, po, pw, hpa, hpw, gp⟩ := hw.rp.at_ hix
  have hgp : x.ps.getD ix ByteArray.empty = pw := by simp [List.getD, hpw]
  have hpl : pb < B := by rw [← hwB]; exact World.block_lt_of_cell? wA _ gp
  have F3 : Fix Need w0 (((w.alloc (.cells (rC x Bs Bw) 60)).alloc (.cells #[.int .i64 p] 3)).alloc (.cells #[.func (.func g) #[] lb] 76)) := hfx.trans (FX.sub hn)
  have B3 : Below B w0 (((w.alloc (.cells (rC x Bs Bw) 60)).alloc (.cells #[.int .i64 p] 3)).alloc (.cells #[.func (.func g) #[] lb] 76)) := hb.trans BL
  have BA3 : Below B wA (((w.alloc (.cells (rC x Bs Bw) 60)).alloc (.cells #[.int .i64 p] 3)).alloc (.cells #[.func (.func g) #[] lb] 76)) := hbA.trans BL
  have hds : x.ds.length ≤ 20 := by rw [hw.rd.len]; exact hd20
  have HST := Lib.hid ST3
  have HHL := Lib.hid (hdS_len x toks ix p N f M L hf hL hNl hds)
  have HALL := Lib.hid (hdS_all x toks ix p N f)
  have HBX := Lib.hid (fun (wr : World) (F : Fix (fun k => Pr k ∨ k = w.heap.size ∨ k = w.heap.size + 1 ∨ k = w.heap.size + 2) (((w.alloc (.cells (rC x Bs Bw) 60)).alloc (.cells #[.int .i64 p] 3)).alloc (.cells #[.func (.func g) #[] lb] 76)) wr) (Bl : Below B (((w.alloc (.cells (rC x Bs Bw) 60)).alloc (.cells #[.int .i64 p] 3)).alloc (.cells #[.func (.func g) #[] lb] 76)) wr) => (show Rb wr w.heap.size x Bs Bw ∧ wr.cell? ⟨w.heap.size + 1, 0, none⟩ = some (.int .i64 p) ∧ wr.cell? ⟨w.heap.size + 2, 0, none⟩ = some (.func (.func g) #[] lb) ∧ wr.cell? ⟨pb, po + ix, none⟩ = some (.string pw) from ⟨b3.1.fix F (.inr (.inl rfl)), F.cell (.inr (.inr (.inl rfl))) b3.2.1, F.cell (.inr (.inr (.inr rfl))) b3.2.2, ((BA3.trans Bl).cell (p := ⟨pb, po + ix, none⟩) hpl).trans gp⟩))
  have HTK := Lib.hid (fun (wr : World) (Bl : Below B (((w.alloc (.cells (rC x Bs Bw) 60)).alloc (.cells #[.int .i64 p] 3)).alloc (.cells #[.func (.func g) #[] lb] 76)) wr) => (show Rw sV wr A n c toks from ht.below hwB (BA3.trans Bl)))
  have HND := Lib.hid (fun (wr : World) (Bl : Below B (((w.alloc (.cells (rC x Bs Bw) 60)).alloc (.cells #[.int .i64 p] 3)).alloc (.cells #[.func (.func g) #[] lb] 76)) wr) A' n' c' toks' w' (a : Aft wr w') (hbig : B ≤ wr.heap.size) hr => hN A' n' c' toks' w' ((BA3.trans Bl).trans (Below.mono a hbig)) hr)
  have HR1 := Lib.hid (fun (wr w4 : World) (br : Nat) (X : Option Addr) (nr cr : Nat) (lr : List Int) (rems : List Int) (F : Fix (fun k => Pr k ∨ k = w.heap.size ∨ k = w.heap.size + 1 ∨ k = w.heap.size + 2) (((w.alloc (.cells (rC x Bs Bw) 60)).alloc (.cells #[.int .i64 p] 3)).alloc (.cells #[.func (.func g) #[] lb] 76)) wr) (Bl : Below B (((w.alloc (.cells (rC x Bs Bw) 60)).alloc (.cells #[.int .i64 p] 3)).alloc (.cells #[.func (.func g) #[] lb] 76)) wr) (hd : Hd B ob (fun k => Pr k ∨ k = w.heap.size ∨ k = w.heap.size + 1 ∨ k = w.heap.size + 2) lr wr w4 br X nr cr rems) (hrm : ∀ r ∈ rems, 0 ≤ r ∧ r ≤ 9999) (hK : lr.length + nr * M ≤ K) =>
    headRun1_any g lb B ob Need (fun k => Pr k ∨ k = w.heap.size ∨ k = w.heap.size + 1 ∨ k = w.heap.size + 2) w0 wr w4 Z K lr.length f M hf hcf hk (fun k h => .inl (hn k h)) (F3.trans (F.sub (fun k h => .inl (hn k h)))) (B3.trans Bl) br (w.heap.size + 2) (w.heap.size + 1) X nr cr lr rems p hd (.inr (.inr (.inr rfl))) (.inr (.inr (.inl rfl))) (F.cell (.inr (.inr (.inr rfl))) b3.2.2) (F.cell (.inr (.inr (.inl rfl))) b3.2.1) (fun q hq => ⟨Int.mul_nonneg hq.1 hp0, by have h := Int.mul_le_mul (Int.le_of_lt hq.2) hp1 hp0 (by omega); omega⟩) hrm hZ (by omega) (Nat.le_refl _))
  have HR2 := Lib.hid (fun (wr w4 : World) (br : Nat) (X : Option Addr) (nr cr : Nat) (lr : List Int) (rems : List Int) (t0 : BA) (F : Fix (fun k => Pr k ∨ k = w.heap.size ∨ k = w.heap.size + 1 ∨ k = w.heap.size + 2) (((w.alloc (.cells (rC x Bs Bw) 60)).alloc (.cells #[.int .i64 p] 3)).alloc (.cells #[.func (.func g) #[] lb] 76)) wr) (Bl : Below B (((w.alloc (.cells (rC x Bs Bw) 60)).alloc (.cells #[.int .i64 p] 3)).alloc (.cells #[.func (.func g) #[] lb] 76)) wr) (hd : Hd B ob (fun k => Pr k ∨ k = w.heap.size ∨ k = w.heap.size + 1 ∨ k = w.heap.size + 2) lr wr w4 br X nr cr rems) (hrm : ∀ r ∈ rems, 0 ≤ r ∧ r ≤ 9999) (hK : lr.length + x.dn * (nr * M) + nr * M ≤ K) =>
    headRun2_any g lb B ob Need (fun k => Pr k ∨ k = w.heap.size ∨ k = w.heap.size + 1 ∨ k = w.heap.size + 2) wA w0 wr w4 Z K (lr.length + x.dn * (nr * M)) f M hf hcf hk (fun k h => .inl (hn k h)) (F3.trans (F.sub (fun k h => .inl (hn k h)))) (B3.trans Bl) br (w.heap.size + 2) (w.heap.size + 1) X nr cr lr rems p hd (.inr (.inr (.inr rfl))) (.inr (.inr (.inl rfl))) (F.cell (.inr (.inr (.inr rfl))) b3.2.2) (F.cell (.inr (.inr (.inl rfl))) b3.2.1) (fun q hq => ⟨Int.mul_nonneg hq.1 hp0, by have h := Int.mul_le_mul (Int.le_of_lt hq.2) hp1 hp0 (by omega); omega⟩) hrm hZ (by omega) x Bs Bw t0 (BA3.trans Bl) hw hwB hd20 (Nat.le_refl _))
  have HRM := Lib.hid (fun t => remP_range (x := x) hNr t)
  have HRL := Lib.hid (fun t => remP_len (x := x) hL hNl t)
  have hLM : ∀ a, a ≤ L → a * M ≤ L * M := fun a h => Nat.mul_le_mul_right M h
  have HLM := Lib.hid hLM
  have hDM : ∀ a, x.dn * a ≤ 20 * a := fun a => Nat.mul_le_mul_right a hd20
  have HDM := Lib.hid hDM
  have hixi : (ix : Int) < (x.pn : Int) := by omega
  have hix0 : (0 : Int) ≤ (ix : Int) := by omega
  have HPI := Lib.hid hgp
  have HTL := Lib.hid htl
  have HPA := Lib.hid hpa
  have HBLK := Lib.hid (fun (b off : Nat) (e : A = some ⟨b, off, none⟩) (h0 : 0 < n) => (show b < B by
    obtain ⟨b', off', t0, e', _, g⟩ := ht.at_ (k := 0) h0
    rw [e] at e'
    cases e'
    rw [← hwB]
    exact World.block_lt_of_cell? wA _ g))
  have HHD := Lib.hid (fun s h => headD_size x toks s h)
  have HLL := Lib.hid hl
  clear hk hfx hb hst hbA hw ht hwB hN hf hcf hn hZ hNl hNr gp hpw hgp b3 F3 B3 BA3 ST3 hds hLM hDM htl hpa AL FX BL hl hp0 hp1 hL hd20
  have hprog : ∀ args w, (callFunc 73 args).run Tryd.prog w = .ok (.enter 73 args) w := enterH1
  go_enter Tryd.func60, Tryd.ntmps60
  go_wp2
  go_loopw [10] (fun i wr => ∃ k : Nat, 1 ≤ k ∧ k ≤ 3 ∧ k ≤ n + 1 ∧ i = .int .i64 (k : Nat) ∧ St B ob (fun k => Pr k ∨ k = w.heap.size ∨ k = w.heap.size + 1 ∨ k = w.heap.size + 2) (l ++ hdS x toks ix p N f (k - 1)) wr ∧ Fix (fun k => Pr k ∨ k = w.heap.size ∨ k = w.heap.size + 1 ∨ k = w.heap.size + 2) (((w.alloc (.cells (rC x Bs Bw) 60)).alloc (.cells #[.int .i64 p] 3)).alloc (.cells #[.func (.func g) #[] lb] 76)) wr ∧ Below B (((w.alloc (.cells (rC x Bs Bw) 60)).alloc (.cells #[.int .i64 p] 3)).alloc (.cells #[.func (.func g) #[] lb] 76)) wr) (fun i _ => 3 - (intOf i).toNat)
  case atStart => exact ⟨1, by omega, by omega, by omega, rfl, by simpa [hdS] using HST.out, Fix.refl _ _, Below.refl _ _⟩
  case round =>
    obtain ⟨k, hk1, hk3, hkn, rfl, hs, hfix, hbel⟩ := hrel
    have HS := Lib.hid hs
    have HFI := Lib.hid hfix
    have HBE := Lib.hid hbel
    clear hs hfix hbel
    have hcase : (k = 1 ∧ n = 0) ∨ (k = 2 ∧ n = 1) ∨ (k = 3 ∧ 2 ≤ n) ∨ (k = 1 ∧ n = 1) ∨ (k = 1 ∧ 2 ≤ n) ∨ (k = 2 ∧ 2 ≤ n) := by omega
    rcases hcase with ⟨rfl, hn2⟩ | ⟨rfl, hn2⟩ | ⟨rfl, hn2⟩ | ⟨rfl, hn2⟩ | ⟨rfl, hn2⟩ | ⟨rfl, hn2⟩
    · have HE := Lib.hid (HALL.out 0 (by omega) (by rw [HTL.out]; omega))
      have hn3 : (n : Int) < 2 := by omega
      subst hn2
      go_wp2
      go_end0
      exact ⟨rfl, by rw [← HE.out]; exact HS.out.less (fun k h => .inl h), HFX.out.trans (HFI.out.sub (fun k h => .inl h)), HBL.out.trans HBE.out⟩
    · have HE := Lib.hid (HALL.out 1 (by omega) (by rw [HTL.out]; omega))
      have hn3 : (n : Int) < 2 := by omega
      subst hn2
      go_wp2
      go_end0
      exact ⟨rfl, by rw [← HE.out]; exact HS.out.less (fun k h => .inl h), HFX.out.trans (HFI.out.sub (fun k h => .inl h)), HBL.out.trans HBE.out⟩
    · have HE := Lib.hid (HALL.out 2 (by omega) (by rw [HTL.out]; omega))
      have hn3 : ¬ (n : Int) < 2 := by omega
      go_wp2
      go_end0
      exact ⟨rfl, by rw [← HE.out]; exact HS.out.less (fun k h => .inl h), HFX.out.trans (HFI.out.sub (fun k h => .inl h)), HBL.out.trans HBE.out⟩
    · have hn3 : (n : Int) < 2 := by omega
      have hn4 : (1 : Int) ≤ (n : Int) := by omega
      clear hn2
      obtain ⟨b, off, t00, rfl, -, g00⟩ := (HTK.out wr HBE.out).at_ (k := 0) (by omega)
      have HBB := Lib.hid (HBLK.out b off rfl (by omega))
      have HD := Lib.hid (show Calls Tryd.prog 71 #[rV x Bs Bw, .slice (some ⟨b, off, none⟩) n c, .int .i64 1] wr (DivPost wr b (headD x toks 1) (restD x toks 1)) from divide_any x Bs Bw b off n c toks 1 wr (by omega) (by omega) (HTK.out wr HBE.out))
      obtain ⟨hR, hcp, hck, gw⟩ := HBX.out wr HFI.out HBE.out
      obtain ⟨c0, c1, c2, c3, c4, c5, c6, c7, c8⟩ := hR
      have hSZ := HHD.out 1 (by rw [HTL.out]; omega)
      clear g00 hcp hck
      go_wp2_with fail
      refine HD.out.mono ?_
      rintro e w1 ⟨⟨X1, n1, e1, X2, n2, e2, rfl, r1, r2, hbk⟩, A1⟩
      obtain rfl : n1 = 1 := by rw [← r1.len]; exact hSZ
      obtain ⟨b1, o1, s, rfl, hs, gs⟩ := r1.at_ (k := 1 - 1) (by omega)
      obtain rfl : b1 = b := hbk _ rfl
      have gs' : w1.cell? ⟨b1, o1, none⟩ = some (.string s) := gs
      clear gs
      have hgh : (headD x toks 1).getD (1 - 1) ByteArray.empty = s := by simp [List.getD, hs]
      have q2 : w1.cell? ⟨w.heap.size, 2, none⟩ = some (.slice (some ⟨pb, po, none⟩) x.pn x.pc) := by rw [← HPA.out]; exact A1.cell c2
      have gw1 := A1.cell gw
      have HC2 := Lib.hid c2
      have HA1 := Lib.hid A1
      have HR1' := Lib.hid r1
      have HR2' := Lib.hid r2
      have he1 := r1.le
      have hem1 := r1.cmax
      clear HD hs hbk r1 r2 A1 c2 gw hSZ
      have m0 := HA1.out.cell c0
      have m1 := HA1.out.cell c1
      have m3 := HA1.out.cell c3
      have m4 := HA1.out.cell c4
      have m5 := HA1.out.cell c5
      have m6 := HA1.out.cell c6
      have m7 := HA1.out.cell c7
      have m8 := HA1.out.cell c8
      clear c0 c1 c3 c4 c5 c6 c7 c8
      by_cases hq : s = pw
      · have p1 : (s.toList == pw.toList) = true := by rw [hq]; simp
        have p1' : (s.toList != pw.toList) = false := by rw [hq]; simp
        have HH := Lib.hid (show hdC x toks ix p N f 1 = (remP x N (restD x toks 1)).flatMap (fun r => f (1 * p + r)) by
          unfold hdC
          rw [if_pos ⟨by rw [HTL.out]; omega, by rw [hgh, HPI.out]; exact hq⟩]
          rfl)
        have HGH := Lib.hid hgh
        clear hq hgh
        go_wp2
        go_quiet (fail)
        have m2 := HA1.out.cell HC2.out
        clear q2 gw1
        go_wp2_with fail
        refine (remainders_any x Bs Bw X2 n2 e2 (restD x toks 1) ix _ N (HR2'.out.aft ((Aft.refl _).drewN _)) (fun A' n' c' toks' w' a hr => HND.out wr HBE.out A' n' c' toks' w' (HA1.out.trans (((Aft.refl _).drewN _).trans a)) HS.out.big hr)).mono ?_
        rintro e w2 ⟨⟨X, nr, cr, rfl, hrr, hrf⟩, A2⟩
        have A3 : Aft wr w2 := HA1.out.trans (((Aft.refl _).drewN _).trans A2)
        have HD4 := Lib.hid (show Hd B ob (fun k => Pr k ∨ k = w.heap.size ∨ k = w.heap.size + 1 ∨ k = w.heap.size + 2) (l ++ hdS x toks ix p N f (1 - 1)) wr (w2.alloc (.cells #[.slice X nr cr] 35)) w2.heap.size X nr cr (remP x N (restD x toks 1)) from
          ⟨HS.out, A3.alloc _, A3.size, cell1 w2 _ _, hrr.aft ((Aft.refl _).alloc _), fun b o m e => Nat.le_trans HA1.out.size (Nat.le_trans (by simp) (hrf b o m e))⟩)
        have hnl : nr ≤ L := by rw [← hrr.len]; exact HRL.out _
        have hb1 := HLM.out nr hnl
        have hb2 := HHL.out (1 - 1)
        have hll := HLL.out
        have hlen : (l ++ hdS x toks ix p N f (1 - 1)).length = l.length + (hdS x toks ix p N f (1 - 1)).length := List.length_append
        have HC := Lib.hid (HR1.out wr _ w2.heap.size X nr cr _ _ HFI.out HBE.out HD4.out (HRM.out _) (by rw [hlen]; omega))
        clear hb1 hb2 hll hlen hrr hrf HD4
        go_wp2_with fail
        refine (HC.out _ (Aft.refl _)).mono ?_
        rintro e w5 ⟨rfl, h9⟩
        have H9 := Lib.hid h9
        clear h9
        go_wp2
        go_roundw
        case rel => exact ⟨1 + 1, by omega, by omega, by omega, by go_num, by rw [show 1 + 1 - 1 = (1 - 1) + 1 from rfl, hdS, HH.out, ← List.append_assoc]; exact H9.out.1, HFI.out.trans H9.out.2.1, HBE.out.trans H9.out.2.2⟩
        case measure => simp [intOf]
      · have p1 : (s.toList == pw.toList) = false := by rw [toList_beq]; simp [hq]
        have p1' : (s.toList != pw.toList) = true := by unfold bne; rw [p1]; rfl
        have HH := Lib.hid (show hdC x toks ix p N f 1 = [] by
          unfold hdC
          rw [if_neg (fun h => hq (by rw [← hgh, h.2, HPI.out]))])
        clear hq hgh
        go_wp2
        go_quiet (fail)
        go_wp2
        go_roundw
        case rel => exact ⟨1 + 1, by omega, by omega, by omega, by go_num, by rw [show 1 + 1 - 1 = (1 - 1) + 1 from rfl, hdS, HH.out, List.append_nil]; exact HS.out.aft (HA1.out.drewN _), HFI.out.trans (fix_aft HS.out.lt (HA1.out.drewN _)), HBE.out.trans (Below.mono (HA1.out.drewN _) HS.out.big)⟩
        case measure => simp [intOf]
    · have hn3 : ¬ (n : Int) < 2 := by omega
      have hn4 : (1 : Int) ≤ (n : Int) := by omega
      obtain ⟨b, off, t00, rfl, -, g00⟩ := (HTK.out wr HBE.out).at_ (k := 0) (by omega)
      have HBB := Lib.hid (HBLK.out b off rfl (by omega))
      have HD := Lib.hid (show Calls Tryd.prog 71 #[rV x Bs Bw, .slice (some ⟨b, off, none⟩) n c, .int .i64 1] wr (DivPost wr b (headD x toks 1) (restD x toks 1)) from divide_any x Bs Bw b off n c toks 1 wr (by omega) (by omega) (HTK.out wr HBE.out))
      obtain ⟨hR, hcp, hck, gw⟩ := HBX.out wr HFI.out HBE.out
      obtain ⟨c0, c1, c2, c3, c4, c5, c6, c7, c8⟩ := hR
      have hSZ := HHD.out 1 (by rw [HTL.out]; omega)
      clear g00 hcp hck
      go_wp2_with fail
      refine HD.out.mono ?_
      rintro e w1 ⟨⟨X1, n1, e1, X2, n2, e2, rfl, r1, r2, hbk⟩, A1⟩
      obtain rfl : n1 = 1 := by rw [← r1.len]; exact hSZ
      obtain ⟨b1, o1, s, rfl, hs, gs⟩ := r1.at_ (k := 1 - 1) (by omega)
      obtain rfl : b1 = b := hbk _ rfl
      have gs' : w1.cell? ⟨b1, o1, none⟩ = some (.string s) := gs
      clear gs
      have hgh : (headD x toks 1).getD (1 - 1) ByteArray.empty = s := by simp [List.getD, hs]
      have q2 : w1.cell? ⟨w.heap.size, 2, none⟩ = some (.slice (some ⟨pb, po, none⟩) x.pn x.pc) := by rw [← HPA.out]; exact A1.cell c2
      have gw1 := A1.cell gw
      have HC2 := Lib.hid c2
      have HA1 := Lib.hid A1
      have HR1' := Lib.hid r1
      have HR2' := Lib.hid r2
      have he1 := r1.le
      have hem1 := r1.cmax
      clear HD hs hbk r1 r2 A1 c2 gw hSZ
      have m0 := HA1.out.cell c0
      have m1 := HA1.out.cell c1
      have m3 := HA1.out.cell c3
      have m4 := HA1.out.cell c4
      have m5 := HA1.out.cell c5
      have m6 := HA1.out.cell c6
      have m7 := HA1.out.cell c7
      have m8 := HA1.out.cell c8
      clear c0 c1 c3 c4 c5 c6 c7 c8
      by_cases hq : s = pw
      · have p1 : (s.toList == pw.toList) = true := by rw [hq]; simp
        have p1' : (s.toList != pw.toList) = false := by rw [hq]; simp
        have HH := Lib.hid (show hdC x toks ix p N f 1 = (remP x N (restD x toks 1)).flatMap (fun r => f (1 * p + r)) by
          unfold hdC
          rw [if_pos ⟨by rw [HTL.out]; omega, by rw [hgh, HPI.out]; exact hq⟩]
          rfl)
        have HGH := Lib.hid hgh
        clear hq hgh
        go_wp2
        go_quiet (fail)
        have m2 := HA1.out.cell HC2.out
        clear q2 gw1
        go_wp2_with fail
        refine (remainders_any x Bs Bw X2 n2 e2 (restD x toks 1) ix _ N (HR2'.out.aft ((Aft.refl _).drewN _)) (fun A' n' c' toks' w' a hr => HND.out wr HBE.out A' n' c' toks' w' (HA1.out.trans (((Aft.refl _).drewN _).trans a)) HS.out.big hr)).mono ?_
        rintro e w2 ⟨⟨X, nr, cr, rfl, hrr, hrf⟩, A2⟩
        have A3 : Aft wr w2 := HA1.out.trans (((Aft.refl _).drewN _).trans A2)
        have HD4 := Lib.hid (show Hd B ob (fun k => Pr k ∨ k = w.heap.size ∨ k = w.heap.size + 1 ∨ k = w.heap.size + 2) (l ++ hdS x toks ix p N f (1 - 1)) wr (w2.alloc (.cells #[.slice X nr cr] 35)) w2.heap.size X nr cr (remP x N (restD x toks 1)) from
          ⟨HS.out, A3.alloc _, A3.size, cell1 w2 _ _, hrr.aft ((Aft.refl _).alloc _), fun b o m e => Nat.le_trans HA1.out.size (Nat.le_trans (by simp) (hrf b o m e))⟩)
        have hnl : nr ≤ L := by rw [← hrr.len]; exact HRL.out _
        have hb1 := HLM.out nr hnl
        have hb2 := HHL.out (1 - 1)
        have hll := HLL.out
        have hlen : (l ++ hdS x toks ix p N f (1 - 1)).length = l.length + (hdS x toks ix p N f (1 - 1)).length := List.length_append
        have HC := Lib.hid (HR1.out wr _ w2.heap.size X nr cr _ _ HFI.out HBE.out HD4.out (HRM.out _) (by rw [hlen]; omega))
        clear hb1 hb2 hll hlen hrr hrf HD4
        go_wp2_with fail
        refine (HC.out _ (Aft.refl _)).mono ?_
        rintro e w5 ⟨rfl, h9⟩
        have H9 := Lib.hid h9
        clear h9
        go_wp2
        go_roundw
        case rel => exact ⟨1 + 1, by omega, by omega, by omega, by go_num, by rw [show 1 + 1 - 1 = (1 - 1) + 1 from rfl, hdS, HH.out, ← List.append_assoc]; exact H9.out.1, HFI.out.trans H9.out.2.1, HBE.out.trans H9.out.2.2⟩
        case measure => simp [intOf]
      · have p1 : (s.toList == pw.toList) = false := by rw [toList_beq]; simp [hq]
        have p1' : (s.toList != pw.toList) = true := by unfold bne; rw [p1]; rfl
        have HH := Lib.hid (show hdC x toks ix p N f 1 = [] by
          unfold hdC
          rw [if_neg (fun h => hq (by rw [← hgh, h.2, HPI.out]))])
        clear hq hgh
        go_wp2
        go_quiet (fail)
        go_wp2
        go_roundw
        case rel => exact ⟨1 + 1, by omega, by omega, by omega, by go_num, by rw [show 1 + 1 - 1 = (1 - 1) + 1 from rfl, hdS, HH.out, List.append_nil]; exact HS.out.aft (HA1.out.drewN _), HFI.out.trans (fix_aft HS.out.lt (HA1.out.drewN _)), HBE.out.trans (Below.mono (HA1.out.drewN _) HS.out.big)⟩
        case measure => simp [intOf]
    · have hn3 : ¬ (n : Int) < 2 := by omega
      obtain ⟨b, off, t00, rfl, -, g00⟩ := (HTK.out wr HBE.out).at_ (k := 0) (by omega)
      have HBB := Lib.hid (HBLK.out b off rfl (by omega))
      have HD := Lib.hid (show Calls Tryd.prog 71 #[rV x Bs Bw, .slice (some ⟨b, off, none⟩) n c, .int .i64 2] wr (DivPost wr b (headD x toks 2) (restD x toks 2)) from divide_any x Bs Bw b off n c toks 2 wr (by omega) (by omega) (HTK.out wr HBE.out))
      obtain ⟨hR, hcp, hck, gw⟩ := HBX.out wr HFI.out HBE.out
      obtain ⟨c0, c1, c2, c3, c4, c5, c6, c7, c8⟩ := hR
      have hSZ := HHD.out 2 (by rw [HTL.out]; omega)
      clear g00 hcp hck
      go_wp2_with fail
      refine HD.out.mono ?_
      rintro e w1 ⟨⟨X1, n1, e1, X2, n2, e2, rfl, r1, r2, hbk⟩, A1⟩
      obtain rfl : n1 = 2 := by rw [← r1.len]; exact hSZ
      obtain ⟨b1, o1, s, rfl, hs, gs⟩ := r1.at_ (k := 2 - 1) (by omega)
      obtain rfl : b1 = b := hbk _ rfl
      have gs' : w1.cell? ⟨b1, o1 + 1, none⟩ = some (.string s) := gs
      clear gs
      have hgh : (headD x toks 2).getD (2 - 1) ByteArray.empty = s := by simp [List.getD, hs]
      have q2 : w1.cell? ⟨w.heap.size, 2, none⟩ = some (.slice (some ⟨pb, po, none⟩) x.pn x.pc) := by rw [← HPA.out]; exact A1.cell c2
      have gw1 := A1.cell gw
      have HC2 := Lib.hid c2
      have HA1 := Lib.hid A1
      have HR1' := Lib.hid r1
      have HR2' := Lib.hid r2
      have he1 := r1.le
      have hem1 := r1.cmax
      clear HD hs hbk r1 r2 A1 c2 gw hSZ
      have m0 := HA1.out.cell c0
      have m1 := HA1.out.cell c1
      have m3 := HA1.out.cell c3
      have m4 := HA1.out.cell c4
      have m5 := HA1.out.cell c5
      have m6 := HA1.out.cell c6
      have m7 := HA1.out.cell c7
      have m8 := HA1.out.cell c8
      clear c0 c1 c3 c4 c5 c6 c7 c8
      by_cases hq : s = pw
      · have p1 : (s.toList == pw.toList) = true := by rw [hq]; simp
        have p1' : (s.toList != pw.toList) = false := by rw [hq]; simp
        have HH := Lib.hid (show hdC x toks ix p N f 2 = (digC x ((headD x toks 2).getD 0 ByteArray.empty)).flatMap (fun q => (remP x N (restD x toks 2)).flatMap (fun r => f (q * p + r))) by
          unfold hdC
          rw [if_pos ⟨by rw [HTL.out]; omega, by rw [hgh, HPI.out]; exact hq⟩]
          rfl)
        have HGH := Lib.hid hgh
        clear hq hgh
        go_wp2
        go_quiet (fail)
        have m2 := HA1.out.cell HC2.out
        clear q2 gw1
        go_wp2_with fail
        refine (remainders_any x Bs Bw X2 n2 e2 (restD x toks 2) ix _ N (HR2'.out.aft ((Aft.refl _).drewN _)) (fun A' n' c' toks' w' a hr => HND.out wr HBE.out A' n' c' toks' w' (HA1.out.trans (((Aft.refl _).drewN _).trans a)) HS.out.big hr)).mono ?_
        rintro e w2 ⟨⟨X, nr, cr, rfl, hrr, hrf⟩, A2⟩
        have A3 : Aft wr w2 := HA1.out.trans (((Aft.refl _).drewN _).trans A2)
        have HD4 := Lib.hid (show Hd B ob (fun k => Pr k ∨ k = w.heap.size ∨ k = w.heap.size + 1 ∨ k = w.heap.size + 2) (l ++ hdS x toks ix p N f (2 - 1)) wr (w2.alloc (.cells #[.slice X nr cr] 35)) w2.heap.size X nr cr (remP x N (restD x toks 2)) from
          ⟨HS.out, A3.alloc _, A3.size, cell1 w2 _ _, hrr.aft ((Aft.refl _).alloc _), fun b o m e => Nat.le_trans HA1.out.size (Nat.le_trans (by simp) (hrf b o m e))⟩)
        have hnl : nr ≤ L := by rw [← hrr.len]; exact HRL.out _
        have hb1 := HLM.out nr hnl
        have hb2 := HHL.out (2 - 1)
        have hll := HLL.out
        have hlen : (l ++ hdS x toks ix p N f (2 - 1)).length = l.length + (hdS x toks ix p N f (2 - 1)).length := List.length_append
        obtain ⟨b1', o1', t0, e0, ht0, g0⟩ := HR1'.out.at_ (k := 0) (by omega)
        cases e0
        have hg0 : (headD x toks 2).getD 0 ByteArray.empty = t0 := by simp [List.getD, ht0]
        rw [hg0] at HH
        have hx1 := hb1
        have hx2 := HDM.out (nr * M)
        have HC := Lib.hid (HR2.out wr _ w2.heap.size X nr cr _ _ t0 HFI.out HBE.out HD4.out (HRM.out _) (by rw [hlen]; omega))
        have HSX := Lib.hid (show ∀ w', Fix (fun k => Pr k ∨ k = w.heap.size ∨ k = w.heap.size + 1 ∨ k = w.heap.size + 2) (((w.alloc (.cells (rC x Bs Bw) 60)).alloc (.cells #[.int .i64 p] 3)).alloc (.cells #[.func (.func g) #[] lb] 76)) w' → Below B (((w.alloc (.cells (rC x Bs Bw) 60)).alloc (.cells #[.int .i64 p] 3)).alloc (.cells #[.func (.func g) #[] lb] 76)) w' → (fun w' => w'.cell? ⟨(w.heap.size), 0, none⟩ = some (.int .i64 x.base) ∧ w'.cell? ⟨(w.heap.size), 1, none⟩ = some (.slice x.da x.dn x.dc) ∧ w'.cell? ⟨(w.heap.size), 2, none⟩ = some (.slice x.pa x.pn x.pc) ∧ w'.cell? ⟨(w.heap.size), 3, none⟩ = some (.bool x.sf) ∧ w'.cell? ⟨(w.heap.size), 4, none⟩ = some (.string x.jo) ∧ w'.cell? ⟨(w.heap.size), 5, none⟩ = some (.int .i64 x.sub) ∧ w'.cell? ⟨(w.heap.size), 6, none⟩ = some (.string x.le) ∧ w'.cell? ⟨(w.heap.size), 7, none⟩ = some (.bool x.om) ∧ w'.cell? ⟨(w.heap.size), 8, none⟩ = some (.func (.func 50) #[] #[.pointer (some ⟨Bs, 0, none⟩), .pointer (some ⟨Bw, 0, none⟩)]) ∧ w'.cell? ⟨b1, o1, none⟩ = some (.string t0)) w' by
          intro w' F1 B1
          obtain ⟨hR, _, _, _⟩ := HBX.out w' F1 B1
          have hw1 : Below B (((w.alloc (.cells (rC x Bs Bw) 60)).alloc (.cells #[.int .i64 p] 3)).alloc (.cells #[.func (.func g) #[] lb] 76)) w1 := HBE.out.trans (Below.mono HA1.out HS.out.big)
          exact ⟨hR.c0, hR.c1, hR.c2, hR.c3, hR.c4, hR.c5, hR.c6, hR.c7, hR.c8, (B1.cell (p := ⟨b1, o1, none⟩) HBB.out).trans ((hw1.cell (p := ⟨b1, o1 + 0, none⟩) HBB.out).symm.trans g0)⟩)
        have A4 : Aft wr (w2.alloc (.cells #[.slice X nr cr] 35)) := A3.alloc _
        have HSS := Lib.hid (HSX.out _ (HFI.out.trans (fix_aft HS.out.lt A4)) (HBE.out.trans (Below.mono A4 HS.out.big)))
        clear hb1 hb2 hll hlen hrr hrf HD4 ht0 g0 hg0 hx1 hx2 A4
        clear m0 m1 m2 m3 m4 m5 m6 m7 m8
        go_wp2
        refine wp_region_held_drew (S := fun w' => w'.cell? ⟨(w.heap.size), 0, none⟩ = some (.int .i64 x.base) ∧ w'.cell? ⟨(w.heap.size), 1, none⟩ = some (.slice x.da x.dn x.dc) ∧ w'.cell? ⟨(w.heap.size), 2, none⟩ = some (.slice x.pa x.pn x.pc) ∧ w'.cell? ⟨(w.heap.size), 3, none⟩ = some (.bool x.sf) ∧ w'.cell? ⟨(w.heap.size), 4, none⟩ = some (.string x.jo) ∧ w'.cell? ⟨(w.heap.size), 5, none⟩ = some (.int .i64 x.sub) ∧ w'.cell? ⟨(w.heap.size), 6, none⟩ = some (.string x.le) ∧ w'.cell? ⟨(w.heap.size), 7, none⟩ = some (.bool x.om) ∧ w'.cell? ⟨(w.heap.size), 8, none⟩ = some (.func (.func 50) #[] #[.pointer (some ⟨Bs, 0, none⟩), .pointer (some ⟨Bw, 0, none⟩)]) ∧ w'.cell? ⟨b1, o1, none⟩ = some (.string t0)) (by kernel_rfl) (HSS.out) (fun hHeld => ?_)
        refine take_on (i := 0) (v := ?v7) rfl (by kernel_rfl) (by kernel_rfl) (by kernel_rfl) (fun _ _ _ h => h) (by rfl) (by assumption) ?y7 ?_
        case y7 => (intro w hSw; (try dsimp only at hSw); go_simp; (try with_reducible rfl))
        try simp only [Act.put, List.setIfInBounds_toArray, List.set_cons_zero, List.set_cons_succ]
        refine take_on (i := 1) (v := ?v8) rfl (by kernel_rfl) (by kernel_rfl) (by kernel_rfl) (fun _ _ _ h => h) (by rfl) (by assumption) ?y8 ?_
        case y8 => (intro w hSw; (try dsimp only at hSw); go_simp; (try with_reducible rfl))
        try simp only [Act.put, List.setIfInBounds_toArray, List.set_cons_zero, List.set_cons_succ]
        refine take_on (i := 2) (v := ?v9) rfl (by kernel_rfl) (by kernel_rfl) (by kernel_rfl) (fun _ _ _ h => h) (by rfl) (by assumption) ?y9 ?_
        case y9 => (intro w hSw; (try dsimp only at hSw); go_simp; (try with_reducible rfl))
        try simp only [Act.put, List.setIfInBounds_toArray, List.set_cons_zero, List.set_cons_succ]
        refine take_on (i := 3) (v := ?v10) rfl (by kernel_rfl) (by kernel_rfl) (by kernel_rfl) (fun _ _ _ h => h) (by rfl) (by assumption) ?y10 ?_
        case y10 => (intro w hSw; (try dsimp only at hSw); go_simp; (try with_reducible rfl))
        try simp only [Act.put, List.setIfInBounds_toArray, List.set_cons_zero, List.set_cons_succ]
        refine take_on (i := 4) (v := ?v11) rfl (by kernel_rfl) (by kernel_rfl) (by kernel_rfl) (fun _ _ _ h => h) (by rfl) (by assumption) ?y11 ?_
        case y11 => (intro w hSw; (try dsimp only at hSw); go_simp; (try with_reducible rfl))
        try simp only [Act.put, List.setIfInBounds_toArray, List.set_cons_zero, List.set_cons_succ]
        refine one_ready (i := 5) rfl (by kernel_rfl) (by rfl) (fun K hK => ?_)
        go_simp
        go_at_call 58
        refine (HC.out _ (by first | exact Below.drew (Below.drew (Aft.refl _)) | exact Below.drew (Aft.refl _) | exact Aft.refl _)).mono ?_
        rintro e' w' ⟨rfl, h9⟩
        have H9 := Lib.hid h9
        clear h9
        have hh : (fun w' => w'.cell? ⟨(w.heap.size), 0, none⟩ = some (.int .i64 x.base) ∧ w'.cell? ⟨(w.heap.size), 1, none⟩ = some (.slice x.da x.dn x.dc) ∧ w'.cell? ⟨(w.heap.size), 2, none⟩ = some (.slice x.pa x.pn x.pc) ∧ w'.cell? ⟨(w.heap.size), 3, none⟩ = some (.bool x.sf) ∧ w'.cell? ⟨(w.heap.size), 4, none⟩ = some (.string x.jo) ∧ w'.cell? ⟨(w.heap.size), 5, none⟩ = some (.int .i64 x.sub) ∧ w'.cell? ⟨(w.heap.size), 6, none⟩ = some (.string x.le) ∧ w'.cell? ⟨(w.heap.size), 7, none⟩ = some (.bool x.om) ∧ w'.cell? ⟨(w.heap.size), 8, none⟩ = some (.func (.func 50) #[] #[.pointer (some ⟨Bs, 0, none⟩), .pointer (some ⟨Bw, 0, none⟩)]) ∧ w'.cell? ⟨b1, o1, none⟩ = some (.string t0)) w' := HSX.out _ (HFI.out.trans H9.out.2.1) (HBE.out.trans H9.out.2.2)
        try go_simp
        refine hK.out _ _ (hh) (fun hHeld => ?_)
        clear hK K
        try simp only [Act.put, List.setIfInBounds_toArray, List.set_cons_zero, List.set_cons_succ]
        refine wpAnyH_done (by kernel_rfl) ?_ _
        go_wp2
        go_roundw
        case rel => exact ⟨2 + 1, by omega, by omega, by omega, by go_num, by rw [show 2 + 1 - 1 = (2 - 1) + 1 from rfl, hdS, HH.out, ← List.append_assoc]; exact H9.out.1, HFI.out.trans H9.out.2.1, HBE.out.trans H9.out.2.2⟩
        case measure => simp [intOf]
      · have p1 : (s.toList == pw.toList) = false := by rw [toList_beq]; simp [hq]
        have p1' : (s.toList != pw.toList) = true := by unfold bne; rw [p1]; rfl
        have HH := Lib.hid (show hdC x toks ix p N f 2 = [] by
          unfold hdC
          rw [if_neg (fun h => hq (by rw [← hgh, h.2, HPI.out]))])
        clear hq hgh
        go_wp2
        go_quiet (fail)
        go_wp2
        go_roundw
        case rel => exact ⟨2 + 1, by omega, by omega, by omega, by go_num, by rw [show 2 + 1 - 1 = (2 - 1) + 1 from rfl, hdS, HH.out, List.append_nil]; exact HS.out.aft (HA1.out.drewN _), HFI.out.trans (fix_aft HS.out.lt (HA1.out.drewN _)), HBE.out.trans (Below.mono (HA1.out.drewN _) HS.out.big)⟩
        case measure => simp [intOf]
end Go.Proofs.YtdehghmpfkhljaaDoor
