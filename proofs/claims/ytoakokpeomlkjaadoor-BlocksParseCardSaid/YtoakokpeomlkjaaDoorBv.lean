/- Layer 7 (blocks): Parse, walked, of a pool's bytes. -/
import Derived.Test.YtoakokpeomlkjaaDoorBu
namespace Go.Proofs.YtoakokpeomlkjaaDoor
open Go.RowKit Go.Maps Go.Shelf
namespace Bk
open Cr (valsB RdB OwnB Glob)
attribute [local go_sem] Oper.semAt_some
/-- What a pool must be to be written. -/
structure May (f : Pool) (n m : Nat) : Prop where
  s1 : ∀ i k, i < n → k < m → 1 ≤ (f i k).st
  s4 : ∀ i k, i < n → k < m → (f i k).st ≤ 4
  e1 : ∀ i k, i < n → k < m → (f i k).er < 4294967296
def ParsePost (w : World) (f : Pool) (n m : Nat) (e : Ending) (w' : World) : Prop := ∃ P g, P.n = n ∧ P.m = m ∧ Hi w.heap.size P ∧ e = .returned (.tuple #[ptr P.p 0, num 0]) ∧ w.grownBy w' none ∧ PoolM w' P g ∧ ∀ i k, i < n → k < m → g i k = f i k
/-- What is left of the bytes; where nothing is left, it may lie anywhere. -/
def LeftM (W : World) (Bx go m L k j : Nat) : Prop := ∃ a R, R = L - 2 - k * (5 * m) - 5 * j ∧ (R = 0 ∨ a = 2 + k * (5 * m) + 5 * j) ∧ Boxed W Bx 43 (.slice (some ⟨go, a, none⟩) R R)
theorem LeftM.of_block {W W' : World} {Bx go m L k j : Nat} (h : LeftM W Bx go m L k j) (e : W'.heap[Bx]? = W.heap[Bx]?) : LeftM W' Bx go m L k j := by
  obtain ⟨a, R, h1, h2, h3⟩ := h
  exact ⟨a, R, h1, h2, e.trans h3⟩
theorem LeftM.lt {W : World} {Bx go m L k j : Nat} (h : LeftM W Bx go m L k j) : Bx < W.heap.size := by
  obtain ⟨a, R, h1, h2, h3⟩ := h
  exact h3.lt
structure ParseI (w : World) (P : Lay) (go Bx : Nat) (d : List Nat) (f : Pool) (n m k : Nat) (rs : List Nat) (W : World) : Prop where
  left : LeftM W Bx go m d.length k 0
  src : OwnB W go d []
  pool : PoolM W P (upTo f k m fresh)
  r2 : Boxed W w.heap.size 24 (.pointer none)
  r3 : Boxed W (w.heap.size + 1) 25 (num 0)
  low : Below w.heap.size w W
  marks : Marked rs W
  ge : ∀ r, r ∈ rs → Bx + 1 ≤ r
structure InnerI (w W : World) (P : Lay) (go Bx : Nat) (d : List Nat) (f : Pool) (m k : Nat) (pre : List (Fin m)) (W' : World) : Prop where
  left : LeftM W' Bx go m d.length k pre.length
  src : OwnB W' go d []
  pool : PoolM W' P (put k (f k) (upTo f k m fresh) 0 pre)
  r2 : Boxed W' w.heap.size 24 (.pointer none)
  r3 : Boxed W' (w.heap.size + 1) 25 (num 0)
  low : Below w.heap.size w W'
  kf : KeepsFrom 0 W W'
  it : Boxed W' W.heap.size 54 (sl0 (P.b k) m)
theorem innerI_ownFrom {w W : World} {P : Lay} {go Bx : Nat} {d : List Nat} {f : Pool} {m k B : Nat} (hB : w.heap.size ≤ B) (hW : W.heap.size ≤ B) : OwnFrom B (InnerI w W P go Bx d f m k) := fun s X Y row hs hg hr => by
  have hc := fun r e => (hr r e).2
  have ek : Y.heap[go]? = X.heap[go]? := (stp_of_row hg).same go hs.src.lt (not_row hs.src.at_ hr)
  have hl : LeftM Y Bx go m d.length k s.length := by
    obtain ⟨a, R, h1, h2, h3⟩ := hs.left
    exact ⟨a, R, h1, h2, boxed_own _ _ (fun (_ : List (Fin m)) => .slice (some ⟨go, a, none⟩) R R) s X Y row h3 hg hc⟩
  exact ⟨hl, ⟨ek.trans hs.src.at_, hs.src.le⟩, poolM_ownFrom (β := List (Fin m)) B P _ s X Y row hs.pool hg hr,
    boxed_own _ _ (fun (_ : List (Fin m)) => .pointer none) s X Y row hs.r2 hg hc, boxed_own _ _ (fun (_ : List (Fin m)) => num 0) s X Y row hs.r3 hg hc, ownFrom_below (β := List (Fin m)) (Nat.le_refl _) hB s X Y row hs.low hg hr,
    ownFrom_keepsFrom (β := List (Fin m)) hW s X Y row hs.kf hg hr, boxed_own _ _ (fun (_ : List (Fin m)) => sl0 (P.b k) m) s X Y row hs.it hg hc⟩
abbrev parseAct (w : World) (P : Lay) (gs cap go Bx n k : Nat) (d : List Nat) (rs : List Nat) (v9 v32 v33 v34 v35 v36 v58 : Value) : Act :=
  { tmps := #[.slice (some ⟨gs, 0, none⟩) (d.length + 4) cap, undef, .pointer (some ⟨w.heap.size, 0, none⟩), .pointer (some ⟨w.heap.size + 1, 0, none⟩), sl0 go d.length, num 0, ptr P.p 0, .pointer (some ⟨Bx, 0, none⟩), undef, v9, undef, undef, .tuple #[sl0 go d.length, num 0], .slice (some ⟨gs, 0, none⟩) (d.length + 4) cap, .tuple #[sl0 go d.length, num 0], sl0 go d.length, num 0, num 0, .bool false, undef, sl0 go d.length, ptr P.p 0, ptr P.p 0, .bool false, sl0 go d.length, .slice (some ⟨go, 2, none⟩) (d.length - 2) (d.length - 2), ptr P.p 0, ptr P.p 0, ptr P.p 0, sl0 P.d n, num n, num k, v32, v33, v34, v35, v36, undef, undef, undef, undef, undef, undef, undef, undef, undef, undef, undef, undef, undef, undef, undef, undef, undef, undef, undef, undef, undef, v58, undef], defers := rs.map mk }
set_option maxRecDepth 100000 in
set_option maxHeartbeats 4000000 in
theorem Parse_ok {w : World} (hG : Glob w) (gs cap n m : Nat) (f : Pool) (h1 : 1 ≤ n) (h2 : n ≤ 8) (h3 : 1 ≤ m) (h4 : m ≤ 64) (hf : May f n m) (hb : OwnB w gs (poolB f n m n ++ Cr.le4 (Cr.crc (poolB f n m n))) []) (hc : (poolB f n m n).length + 4 ≤ cap) :
    Calls Tryd.prog 20 #[.slice (some ⟨gs, 0, none⟩) ((poolB f n m n).length + 4) cap] w (ParsePost w f n m) := by
  refine (callsIn_wide (n := 3)).1 ?_
  have h0 : 1 ≤ 3 := by omega
  obtain ⟨d, hd⟩ : ∃ d, poolB f n m n = d := ⟨_, rfl⟩
  have hlen := poolB_len f n m n
  rw [hd] at hb hc hlen
  rw [hd]
  have hsmall : d.length ≤ 100000 := by
    rw [hlen]
    have : n * (5 * m) ≤ 8 * (5 * m) := Nat.mul_le_mul_right _ (by omega)
    omega
  have hd0 : Cr.nth d 0 = n := by rw [← hd]; simp [poolB, Cr.nth]
  have hd1 : Cr.nth d 1 = m := by rw [← hd]; simp [poolB, Cr.nth]
  have hD := hide hd
  have HL := hide hlen
  obtain ⟨V, hV⟩ : ∃ V, V = (w.alloc (.cells #[.pointer none] 24)).alloc (.cells #[num 0] 25) := ⟨_, rfl⟩
  have hg : w.grownBy V none := by rw [hV]; exact grownBy_alloc' (World.grownBy_alloc w _ none) _
  have b2 : Boxed V w.heap.size 24 (.pointer none) := by rw [hV]; exact (Boxed.new w _ _).alloc _
  have b3 : Boxed V (w.heap.size + 1) 25 (num 0) := by rw [hV]; have := Boxed.new (w.alloc (.cells #[.pointer none] 24)) 25 (num 0); rw [World.size_alloc] at this; exact this
  have hsz : V.heap.size = w.heap.size + 2 := by rw [hV]; simp
  have hbV := hb.more hg
  have hle4 : (Cr.le4 (Cr.crc d)).length = 4 := rfl
  have hrd := hbV.rdB
  have hrd1 : RdB V (some ⟨gs, 0, none⟩) d := by
    have := hrd.part (by rw [List.length_append, hle4]; omega) 0 d.length (by rw [List.length_append]; omega)
    simpa using this
  have hrd2 : RdB V (some ⟨gs, 0 + d.length, none⟩) (Cr.le4 (Cr.crc d)) := by
    have := hrd.part (by rw [List.length_append, hle4]; omega) d.length 4 (by rw [List.length_append, hle4]; omega)
    simpa [List.take_of_length_le, hle4] using this
  have HO := hide (Cr.open_ok (hG.more hg) gs 0 cap d _ hrd1 hrd2 hle4 hc (by omega))
  have hok : decide (Cr.nm (Cr.le4 (Cr.crc d)) = Cr.crc d) = true := by
    rw [decide_eq_true_iff, Cr.le4_ne hle4 (fun i => by
      have := hb.le (d.length + i)
      simp only [Cr.nth, List.getD_eq_getElem?_getD] at this ⊢
      rw [List.getElem?_append_right (by omega), show d.length + i - d.length = i by omega] at this
      exact this) _ (Cr.crc_lt hrd1.le)]
    exact ⟨rfl, rfl, rfl, rfl⟩
  rw [hok] at HO
  have HV := hide hV
  clear hb hbV hrd hrd1 hrd2 hok hd hlen hV hG
  refine callsIn_of_wp_marks Tryd.func20 rfl trivial ?_ rfl
  simp only [Tryd.ntmps20, List.size_toArray, List.length_cons, List.length_nil, Nat.reduceAdd, Nat.reduceSub, Array.replicate_succ, Array.replicate_zero, List.push_toArray, List.append_toArray, List.nil_append, List.cons_append]
  gi_wp2_with (first | (rw [← HV.out]; refine ⟨trivial, ?_⟩; gi_at_call 37; refine (callsIn_wide.2 HO.out).mono ?_; rintro e w1 ⟨go, rfl, hgo, hg1, hO1⟩))
  have hl7 : 7 ≤ d.length := by
    have := HL.out
    have : 1 * (5 * 1) ≤ n * (5 * m) := Nat.mul_le_mul h1 (by omega)
    omega
  have hc0 := hO1.cell (k := 0) (by omega)
  have hc1 := hO1.cell (k := 1) (by omega)
  rw [hd0] at hc0
  rw [hd1] at hc1
  have HPF := hide (poolFor_ok go 0 d.length d.length n m h1 h2 h3 h4 HL.out hc0 hc1)
  have HO1 := hide hO1
  have HG1 := hide hg1
  have L2 : (2 : Int) ≤ (d.length : Int) := by have := HL.out; omega
  have L3 : ¬ d.length = 0 := by have := HL.out; omega
  have L4 : 2 < d.length := by omega
  have LS : (d.length : Int) ≤ 100000 := by omega
  clear hO1 hg1 hc0 hc1 hd0 hd1 HO
  gi_wp2_with (first | (refine ⟨trivial, ?_⟩; gi_at_call 38; refine (callsIn_wide.2 HPF.out).mono ?_; rintro e w2 ⟨P, hn, hm, hHi, rfl, hg2, hP⟩; have hbx2 := hP.boxCell; have hpl := hP.low.1))
  subst hn hm
  obtain ⟨Bx, hBx⟩ : ∃ Bx, Bx = w2.heap.size := ⟨_, rfl⟩
  have hpl2 := hP.low
  have hI0 : ParseI w P go Bx d f P.n P.m 0 [] (w2.alloc (.cells #[.slice (some ⟨go, 2, none⟩) (d.length - 2) (d.length - 2)] 43)) := by
    have g2 := grownBy_trans HG1.out hg2
    have gA := World.grownBy_alloc w2 (.cells #[.slice (some ⟨go, 2, none⟩) (d.length - 2) (d.length - 2)] 43) none
    refine ⟨⟨2, d.length - 2, by simp, .inr (by simp), by rw [hBx]; exact Boxed.new w2 _ _⟩, (HO1.out.more hg2).more gA, hP.grown gA, ?_, ?_, ?_, Marked.nil _, fun _ hh => absurd hh List.not_mem_nil⟩
    · exact ((b2.kept HG1.out (by simp)).kept hg2 (by simp)).alloc _
    · exact ((b3.kept HG1.out (by simp)).kept hg2 (by simp)).alloc _
    · exact below_of_grown (grownBy_trans (grownBy_trans hg g2) gA)
  have hV2 := hsz
  have hgo1 := HO1.out.lt
  have hs1 := HG1.out.size
  have hs2 := hg2.size
  have HI0 := hide hI0
  have HHi := hide hHi
  have HBx := hide hBx
  have HF := hide hf
  clear hI0 hHi hf HO1 HG1 hP hg2 hg b2 b3 hbx2 HPF HV L2 L3 L4
  rw [← hBx] at hpl2 hs2 hpl ⊢
  clear hBx
  refine wpIn_loop (fun a W => ∃ (k : Nat) (rs : List Nat) (v9 v32 v33 v34 v35 v36 v58 : Value), k ≤ P.n ∧ a = parseAct w P gs cap go Bx P.n k d rs v9 v32 v33 v34 v35 v36 v58 ∧ ParseI w P go Bx d f P.n P.m k rs W) (fun a _ => P.n - (intOf (a.tmps.getD 31 undef)).toNat) ?h0 ?round
  case h0 => exact ⟨0, [], undef, undef, undef, undef, undef, undef, undef, Nat.zero_le _, rfl, HI0.out⟩
  case round =>
    clear HI0
    rintro a W ⟨k, rs, v9, v32, v33, v34, v35, v36, v58, hk, rfl, hI⟩
    by_cases hkn : k < P.n
    · have q1 : (k : Int) < (P.n : Int) := by omega
      have c1 := hI.pool.die k hkn
      have HI := hide hI
      have bN := Boxed.new W 54 (sl0 (P.b k) P.m)
      have hlW := hI.left.lt
      have hsW := hI.low.size
      have hN8 : (P.n : Int) ≤ 8 := by omega
      clear hI
      gi_wp2_with (first | (refine ⟨trivial, ?_⟩; gi_at_call 28; refine (all_in Fence.wide (3 - 1) trivial rfl _ _ _ _).mono ?_; rintro e w' ⟨rfl, rfl⟩))
      refine wpIn_rangeFunc_ownG rfl h0 (gf := 42) (lb := #[.pointer (some ⟨W.heap.size, 0, none⟩)]) rfl trivial (enters_of Tryd.func42 (by kernel_rfl) rfl)
        (all_stops Fence.wide (3 - 1) trivial rfl (by omega) W.heap.size (P.b k) P.m (by omega) _ (.inl rfl) _ (by simp) bN.cell) keepB_t (keepB_b (by simp)) (Below.refl _ _) (fun _ => rfl)
        (InnerI w W P go Bx d f P.m k)
        (fun _ _ _ => False)
        (innerI_ownFrom (by simp; omega) (by simp))
        (fun _ _ _ _ _ hs _ _ => hs)
        ⟨HI.out.left.of_block (Below.heap_alloc _ _ _ HI.out.left.lt), HI.out.src.more (World.grownBy_alloc _ _ none), HI.out.pool.grown (World.grownBy_alloc _ _ none), HI.out.r2.alloc _, HI.out.r3.alloc _, HI.out.low.alloc hsW _, (KeepsOthers.alloc _ _).from _, bN⟩
        ?a1 ?assign ?body ?done ?stop
      case assign =>
        intro l x W' K hK
        gi_wp2
        exact hK
      case body =>
        rintro l pre x W' hT hpre
        have hxm := x.2
        have hj : pre.length < P.m := hpre
        -- where the block's bytes lie
        obtain ⟨off, hoff⟩ : ∃ off, off = 2 + k * (5 * P.m) + 5 * pre.length := ⟨_, rfl⟩
        obtain ⟨LL, hLL⟩ : ∃ LL, LL = d.length - 2 - k * (5 * P.m) - 5 * pre.length := ⟨_, rfl⟩
        have hk1 : (k + 1) * (5 * P.m) ≤ P.n * (5 * P.m) := Nat.mul_le_mul_right _ (by omega)
        rw [Nat.add_mul, Nat.one_mul] at hk1
        have hL5 : 5 ≤ LL := by have := HL.out; omega
        have hin : off + 5 ≤ d.length := by have := HL.out; omega
        have hat : ∀ i, i < 5 → Cr.nth d (off + i) = Cr.nth (blkB (f k pre.length)) i := fun i hi => by
          rw [← hD.out, hoff, show 2 + k * (5 * P.m) + 5 * pre.length + i = 2 + k * (5 * P.m) + (5 * pre.length + i) by omega]
          exact poolB_at P.n k pre.length i hkn hj hi
        have hs1 := HF.out.s1 k pre.length hkn hj
        have hs4 := HF.out.s4 k pre.length hkn hj
        have he1 := HF.out.e1 k pre.length hkn hj
        obtain ⟨s, hs⟩ : ∃ s : Nat, (f k pre.length).st = (s : Int) := ⟨(f k pre.length).st.toNat, by omega⟩
        have HOF : Hid (2 + k * (5 * P.m) + 5 * pre.length = off ∧ d.length - 2 - k * (5 * P.m) - 5 * pre.length = LL) := ⟨hoff.symm, hLL.symm⟩
        have hb0 : W'.cell? ⟨go, off, none⟩ = some (q8 s) := by
          have h := hT.src.cell (k := off) (by omega)
          rw [show off = off + 0 by omega, hat 0 (by omega)] at h
          rw [show off = off + 0 by omega, h, blkB_at]
          simp [Cr.nth, hs]
        have hbt : RdB W' (some ⟨go, off + 1, none⟩) (Cr.le4 (f k pre.length).er) := by
          refine ⟨fun i => ?_, .inr ⟨go, off + 1, rfl, fun i hi => ?_⟩⟩
          · by_cases h : i < 4
            · have : i = 0 ∨ i = 1 ∨ i = 2 ∨ i = 3 := by omega
              rcases this with rfl | rfl | rfl | rfl <;> simp [Cr.nth, Cr.le4] <;> omega
            · have : (Cr.le4 (f k pre.length).er)[i]? = none := by rw [List.getElem?_eq_none_iff]; simp [Cr.le4]; omega
              simp [Cr.nth, this]
          · have hi4 : i < 4 := hi
            have h := hT.src.cell (k := off + (1 + i)) (by omega)
            rw [hat (1 + i) (by omega), blkB_at] at h
            rw [show off + 1 + i = off + (1 + i) by omega, h, show 1 + i = i + 1 by omega]
            simp [Cr.nth]
        have hnm : Cr.nm (Cr.le4 (f k pre.length).er) = (f k pre.length).er := (Cr.le4_ne rfl hbt.1 _ he1).2 ⟨rfl, rfl, rfl, rfl⟩
        have HB := hide (blockOf_ok (w := W') go off LL s (Cr.le4 (f k pre.length).er) hb0 (by omega) hbt rfl hL5)
        rw [hnm] at HB
        obtain ⟨aa, RR, hR1, hR2, hbL⟩ := hT.left
        obtain rfl : RR = LL := by omega
        obtain rfl : aa = off := by rcases hR2 with e | e <;> omega
        have HBL := hide hbL
        have hbc := hbL.cell
        have HT := hide hT
        have HS := hide hs
        generalize hE : (f k pre.length).er = e at HB he1
        have HE := hide hE
        have s1 : (1 : Int) ≤ (s : Int) := by omega
        have s4 : (s : Int) ≤ 4 := by omega
        have L5 : (5 : Int) ≤ (RR : Int) := by omega
        have L6 : ¬ RR = 0 := by omega
        have L7 : 5 ≤ RR := hL5
        have L9 : (RR : Int) ≤ 100000 := by omega
        clear hT hat hoff hLL hk1 hin hs1 hs4 hs hb0 hbt hbL hR1 hR2 hnm hE hj hpre
        gi_wp2_with fail
        refine ⟨trivial, ?_⟩
        refine (CallsIn.inRound l (callsIn_wide.2 HB.out)).mono ?_
        rintro e5 w5 ⟨rfl, hg5⟩
        have hP5 := HT.out.pool.grown hg5
        have hb5 := HBL.out.kept hg5 (by simp)
        have c0 := hP5.st k x.1 hkn hxm
        have c1 := hP5.er k x.1 hkn hxm
        have f0 := (hP5.ob k hkn).free (x.1 * 2)
        have f1 := (hP5.ob k hkn).free (x.1 * 2 + 1)
        have hkB : P.b k < Bx := hpl2.2.2 k hkn
        have hbc5 := hb5.cell
        have hbf5 := hb5.frozen
        have hgoW : go < Bx := by omega
        have hgoK : w1.heap.size ≤ P.b k := HHi.out.2.2 k hkn
        have HF1 : Hid (∀ a9, (RR - 5 = 0 ∨ a9 = aa + 5) → ownPostG (W.alloc (.cells #[sl0 (P.b k) P.m] 54)).heap.size (KeepB W.heap.size) (InnerI w W P go Bx d f P.m k) (fun _ _ _ => False) (pre ++ [x]) W' .normal { tmps := #[], defers := [] } (((w5.setCell ⟨P.b k, x.1 * 2, none⟩ (num (s : Int))).setCell ⟨P.b k, x.1 * 2 + 1, none⟩ (q32 e)).setCell ⟨Bx, 0, none⟩ (.slice (some ⟨go, a9, none⟩) (RR - 5) (RR - 5)))) := fun a9 ha9 => by
          have el : ∀ g, g ≠ P.b k → g ≠ Bx → (((w5.setCell ⟨P.b k, x.1 * 2, none⟩ (num (s : Int))).setCell ⟨P.b k, x.1 * 2 + 1, none⟩ (q32 e)).setCell ⟨Bx, 0, none⟩ (.slice (some ⟨go, a9, none⟩) (RR - 5) (RR - 5))).heap[g]? = w5.heap[g]? := fun g g1 g2 => by
            rw [setCell_else g2, setCell_else g1, setCell_else g1]
          have h5 := hg5.size
          have hitl := HT.out.it.lt
          have ew : w.heap.size + 1 < w1.heap.size := by omega
          have eit := (el W.heap.size (by omega) (by omega)).trans (hg5.block _ hitl (by simp))
          refine ⟨(((KeepsOthers.of_grownBy hg5 (fun r o e => by simp at e)).trans ((KeepsOthers.setCell _ _ _).trans (KeepsOthers.setCell _ _ _))).trans (KeepsOthers.setCell _ _ _)).from _, eit, ?_⟩
          refine ⟨?_, ⟨(el go (by omega) (by omega)).trans (hg5.block _ HT.out.src.lt (by simp) |>.trans HT.out.src.at_), HT.out.src.le⟩, ?_, (el _ (by omega) (by omega)).trans (hg5.block _ HT.out.r2.lt (by simp) |>.trans HT.out.r2), (el _ (by omega) (by omega)).trans (hg5.block _ HT.out.r3.lt (by simp) |>.trans HT.out.r3), ?_, ?_, eit.trans HT.out.it⟩
          · rw [List.length_append, List.length_singleton]
            have hb6 : Boxed ((w5.setCell ⟨P.b k, x.1 * 2, none⟩ (num (s : Int))).setCell ⟨P.b k, x.1 * 2 + 1, none⟩ (q32 e)) Bx 43 (.slice (some ⟨go, aa, none⟩) RR RR) := (setCell_else (by omega) _).trans ((setCell_else (by omega) _).trans hb5)
            have hof := HOF.out
            exact ⟨a9, RR - 5, by omega, by rcases ha9 with e | e
                                            · exact .inl e
                                            · exact .inr (by omega), hb6.set _⟩
          · have p1 := hP5.setSt hkn hxm (s : Int) s1 s4
            have p2 := p1.setEr hkn hxm e he1
            have p3 := p2.stp (K := fun g => g = Bx) ((Stp.refl (fun g => g = Bx) _).set (g := Bx) (o := 0) (.inl rfl) (.slice (some ⟨go, a9, none⟩) (RR - 5) (RR - 5))) (by omega) (by omega) fun i hi => by have := hpl2.2.2 i hi; omega
            rw [put_snoc, Nat.zero_add]
            have eB : f k pre.length = ⟨(s : Int), e⟩ := by rw [← HS.out, ← HE.out]
            rw [eB]
            have eU : upd (upd (put k (f k) (upTo f k P.m fresh) 0 pre) k x.1 ⟨(s : Int), (put k (f k) (upTo f k P.m fresh) 0 pre k x.1).er⟩) k x.1 ⟨(upd (put k (f k) (upTo f k P.m fresh) 0 pre) k x.1 ⟨(s : Int), (put k (f k) (upTo f k P.m fresh) 0 pre k x.1).er⟩ k x.1).st, e⟩ = upd (put k (f k) (upTo f k P.m fresh) 0 pre) k x.1 ⟨(s : Int), e⟩ := by
              funext a b
              unfold upd
              by_cases h : a = k ∧ b = x.1
              · simp [h]
              · simp [h]
            rw [eU] at p3
            exact p3
          · exact (((HT.out.low.trans ((below_of_grown hg5).mono (by have := HT.out.low.size; omega))).setCell (p := ⟨P.b k, x.1 * 2, none⟩) (by show w.heap.size ≤ P.b k; omega) _).setCell (p := ⟨P.b k, x.1 * 2 + 1, none⟩) (by show w.heap.size ≤ P.b k; omega) _).setCell (p := ⟨Bx, 0, none⟩) (by show w.heap.size ≤ Bx; omega) _
          · exact HT.out.kf.trans ((((KeepsOthers.of_grownBy hg5 (fun r o e => by simp at e)).trans ((KeepsOthers.setCell _ _ _).trans (KeepsOthers.setCell _ _ _))).trans (KeepsOthers.setCell _ _ _)).from _)
        have HF2 := HF1.out
        rw [World.size_alloc] at HF2
        have HF3 := hide HF2
        clear hP5 hb5 HF2
        gi_wp2
        all_goals first
          | exact HF3.out _ (.inr rfl)
          | (have e9 : RR - 5 = 0 := by omega
             have h9 := HF3.out aa (.inl e9)
             rw [e9] at h9
             exact h9)
      case done =>
        rintro D ys W' hD rfl hT hK
        have HT := hide hT
        have HK := hide hK
        have hlv : LeftM W' Bx go P.m d.length (k + 1) 0 := by
          obtain ⟨a, R, r1, r2, r3⟩ := hT.left
          rw [List.length_finRange] at r1 r2
          refine ⟨a, R, by rw [Nat.add_mul, Nat.one_mul]; omega, ?_, r3⟩
          rcases r2 with e | e
          · exact .inl e
          · exact .inr (by rw [Nat.add_mul, Nat.one_mul]; omega)
        have HLV := hide hlv
        simp at hD
        clear hT hK hlv
        gi_wp2
        refine ⟨⟨k + 1, D :: rs, _, _, _, _, _, _, _, by omega, rfl, ⟨HLV.out, HT.out.src, HT.out.pool, HT.out.r2, HT.out.r3, HT.out.low, ⟨List.nodup_cons.2 ⟨fun h => ?_, HI.out.marks.one⟩, fun r hr => ?_⟩, fun r hr => ?_⟩⟩, ?_⟩
        · have := lt_of_heap (HI.out.marks.at_ D h); omega
        · rcases List.mem_cons.1 hr with rfl | hr
          · exact HK.out
          · exact HT.out.kf.same r _ (Nat.zero_le _) (HI.out.marks.at_ r hr) rfl
        · rcases List.mem_cons.1 hr with rfl | hr
          · omega
          · exact HI.out.ge r hr
        · simp [intOf]; omega
      case stop =>
        rintro D c pre W' _ _ h _
        exact h.elim
    · obtain rfl : k = P.n := by omega
      have q1 : ¬ (P.n : Int) < (P.n : Int) := by omega
      have g2 := hI.r2.cell
      have g2f := hI.r2.frozen
      have g3 := hI.r3.cell
      have g3f := hI.r3.frozen
      have hw1 : w.heap.size + 1 < w1.heap.size := by omega
      have HI := hide hI
      have el : ∀ g, g ≠ w.heap.size → g ≠ w.heap.size + 1 → ((W.setCell ⟨w.heap.size, 0, none⟩ (ptr P.p 0)).setCell ⟨w.heap.size + 1, 0, none⟩ (num 0)).heap[g]? = W.heap[g]? := fun g e1 e2 => by
        rw [setCell_else e2, setCell_else e1]
      have y2 : Boxed ((W.setCell ⟨w.heap.size, 0, none⟩ (ptr P.p 0)).setCell ⟨w.heap.size + 1, 0, none⟩ (num 0)) w.heap.size 24 (ptr P.p 0) := (hI.r2.set _).other (by omega) _
      have y3 : Boxed ((W.setCell ⟨w.heap.size, 0, none⟩ (ptr P.p 0)).setCell ⟨w.heap.size + 1, 0, none⟩ (num 0)) (w.heap.size + 1) 25 (num 0) := (hI.r3.other (by omega) _).set _
      have hP9 : PoolM ((W.setCell ⟨w.heap.size, 0, none⟩ (ptr P.p 0)).setCell ⟨w.heap.size + 1, 0, none⟩ (num 0)) P (upTo f P.n P.m fresh) :=
        hI.pool.stp (K := fun g => g = w.heap.size ∨ g = w.heap.size + 1) (((Stp.refl (fun g => g = w.heap.size ∨ g = w.heap.size + 1) _).set (.inl (.inl rfl)) _).set (.inl (.inr rfl)) _) (by have := HHi.out.1; omega) (by have := HHi.out.2.1; omega) fun i hi => by have := HHi.out.2.2 i hi; omega
      have hM9 : Marked rs ((W.setCell ⟨w.heap.size, 0, none⟩ (ptr P.p 0)).setCell ⟨w.heap.size + 1, 0, none⟩ (num 0)) := hI.marks.kept fun g hg => by have := hI.ge g hg; exact el g (by omega) (by omega)
      have hL9 : Below w.heap.size w ((W.setCell ⟨w.heap.size, 0, none⟩ (ptr P.p 0)).setCell ⟨w.heap.size + 1, 0, none⟩ (num 0)) := (hI.low.setCell (p := ⟨w.heap.size, 0, none⟩) (Nat.le_refl _) _).setCell (p := ⟨w.heap.size + 1, 0, none⟩) (by show w.heap.size ≤ w.heap.size + 1; omega) _
      have HALL := hide (And.intro y2 (And.intro y3 (And.intro hP9 (And.intro hM9 hL9))))
      clear hI el y2 y3 hP9 hM9 hL9
      gi_wp2
      obtain ⟨y2, y3, hP9, hM9, hL9⟩ := HALL.out
      refine leaves_marks rs _ hM9 fun w7 s7 => ?_
      have z2 : w7.cell? ⟨w.heap.size, 0, none⟩ = some (ptr P.p 0) := s7.cell (fun h => by have := HI.out.ge _ h; omega) y2.cell
      have z3 : w7.cell? ⟨w.heap.size + 1, 0, none⟩ = some (num 0) := s7.cell (fun h => by have := HI.out.ge _ h; omega) y3.cell
      have hP7 := hP9.stp s7 (fun h => by have := HI.out.ge _ h; omega) (fun h => by have := HI.out.ge _ h; omega) fun i hi h => by have := HI.out.ge _ h; have := hpl2.2.2 i hi; omega
      have hL7 : Below w.heap.size w w7 := hL9.trans (s7.below (by have := hL9.size; omega) fun r hr => by have := HI.out.ge r hr; omega)
      refine ⟨.tuple #[ptr P.p 0, num 0], by simp [results, Tryd.f20, go_sem, z2, z3], P, upTo f P.n P.m fresh, rfl, rfl, ⟨by have := HHi.out.1; omega, by have := HHi.out.2.1; omega, fun i hi => by have := HHi.out.2.2 i hi; omega⟩, rfl, grown_of_below hL7, hP7, fun i b hi hb => upTo_at P.n i b hi hb⟩
end Bk
end Go.Proofs.YtoakokpeomlkjaaDoor
