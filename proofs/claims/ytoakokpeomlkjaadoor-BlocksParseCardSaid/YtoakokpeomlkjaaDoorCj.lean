/- Layer 7 (blocks): Parse, walked, of whatever was opened. -/
import Derived.Test.YtoakokpeomlkjaaDoorCi
import Derived.Test.YtoakokpeomlkjaaDoorBv
namespace Go.Proofs.YtoakokpeomlkjaaDoor
open Go.RowKit Go.Maps Go.Shelf
namespace Bk
open Cr (valsB RdB OwnB Glob)
attribute [local go_sem] Oper.semAt_some
/-- The pool that bytes say. -/
def rdF (d : List Nat) (m : Nat) : Pool := fun i b => rdBlk d (i * m + b)
/-- What Parse answers of what was opened. -/
def GParsePost (w : World) (d : List Nat) (e : Ending) (w' : World) : Prop :=
  (e = .returned (.tuple #[.pointer none, num 81]) ∧ w.grownBy w' none ∧ ¬ FitsD d) ∨
  (∃ P : Lay, FitsD d ∧ P.n = Cr.nth d 0 ∧ P.m = Cr.nth d 1 ∧ Hi w.heap.size P ∧ e = .returned (.tuple #[ptr P.p 0, num 0]) ∧ w.grownBy w' none ∧ PoolM w' P (rdF d P.m))
structure ParseG (w : World) (P : Lay) (go Bx : Nat) (d : List Nat) (f : Pool) (n m k : Nat) (rs : List Nat) (W : World) : Prop where
  good : ∀ x, x < k * m → GoodAt d x
  left : LeftM W Bx go m d.length k 0
  src : OwnB W go d []
  pool : PoolM W P (upTo f k m fresh)
  r2 : Boxed W w.heap.size 24 (.pointer none)
  r3 : Boxed W (w.heap.size + 1) 25 (num 0)
  low : Below w.heap.size w W
  marks : Marked rs W
  ge : ∀ r, r ∈ rs → Bx + 1 ≤ r
structure InnerG (w W : World) (P : Lay) (go Bx : Nat) (d : List Nat) (f : Pool) (m k : Nat) (pre : List (Fin m)) (W' : World) : Prop where
  good : ∀ x, x < k * m + pre.length → GoodAt d x
  left : LeftM W' Bx go m d.length k pre.length
  src : OwnB W' go d []
  pool : PoolM W' P (put k (f k) (upTo f k m fresh) 0 pre)
  r2 : Boxed W' w.heap.size 24 (.pointer none)
  r3 : Boxed W' (w.heap.size + 1) 25 (num 0)
  low : Below w.heap.size w W'
  kf : KeepsFrom 0 W W'
  it : Boxed W' W.heap.size 54 (sl0 (P.b k) m)
theorem innerG_ownFrom {w W : World} {P : Lay} {go Bx : Nat} {d : List Nat} {f : Pool} {m k B : Nat} (hB : w.heap.size ≤ B) (hW : W.heap.size ≤ B) : OwnFrom B (InnerG w W P go Bx d f m k) := fun s X Y row hs hg hr => by
  have hc := fun r e => (hr r e).2
  have ek : Y.heap[go]? = X.heap[go]? := (stp_of_row hg).same go hs.src.lt (not_row hs.src.at_ hr)
  have hl : LeftM Y Bx go m d.length k s.length := by
    obtain ⟨a, R, h1, h2, h3⟩ := hs.left
    exact ⟨a, R, h1, h2, boxed_own _ _ (fun (_ : List (Fin m)) => .slice (some ⟨go, a, none⟩) R R) s X Y row h3 hg hc⟩
  exact ⟨hs.good, hl, ⟨ek.trans hs.src.at_, hs.src.le⟩, poolM_ownFrom (β := List (Fin m)) B P _ s X Y row hs.pool hg hr,
    boxed_own _ _ (fun (_ : List (Fin m)) => .pointer none) s X Y row hs.r2 hg hc, boxed_own _ _ (fun (_ : List (Fin m)) => num 0) s X Y row hs.r3 hg hc, ownFrom_below (β := List (Fin m)) (Nat.le_refl _) hB s X Y row hs.low hg hr,
    ownFrom_keepsFrom (β := List (Fin m)) hW s X Y row hs.kf hg hr, boxed_own _ _ (fun (_ : List (Fin m)) => sl0 (P.b k) m) s X Y row hs.it hg hc⟩
/-- A state was none: what is answered lies in the results' boxes. -/
structure StopG (w W : World) (bad : Prop) (W' : World) : Prop where
  no : bad
  r2 : Boxed W' w.heap.size 24 (.pointer none)
  r3 : Boxed W' (w.heap.size + 1) 25 (num 81)
  low : Below w.heap.size w W'
  kf : KeepsFrom 0 W W'
def stopG (w W : World) (bad : Prop) {m : Nat} (c : Code) (_ : List (Fin m)) (W' : World) : Prop := c = .ret ∧ StopG w W bad W'
theorem stopG_ownFrom {w W : World} {bad : Prop} {m B : Nat} (hB : w.heap.size ≤ B) (hW : W.heap.size ≤ B) (c : Code) : OwnFrom B (stopG w W bad (m := m) c) := fun s X Y row hs hg hr => by
  have hc := fun r e => (hr r e).2
  exact ⟨hs.1, hs.2.no, boxed_own _ _ (fun (_ : List (Fin m)) => .pointer none) s X Y row hs.2.r2 hg hc, boxed_own _ _ (fun (_ : List (Fin m)) => num 81) s X Y row hs.2.r3 hg hc, ownFrom_below (β := List (Fin m)) (Nat.le_refl _) hB s X Y row hs.2.low hg hr, ownFrom_keepsFrom (β := List (Fin m)) hW s X Y row hs.2.kf hg hr⟩
abbrev parseActG (w : World) (P : Lay) (gs off cap go Bx n k : Nat) (d : List Nat) (rs : List Nat) (v9 v32 v33 v34 v35 v36 v58 : Value) : Act :=
  { tmps := #[.slice (some ⟨gs, off, none⟩) (d.length + 4) cap, undef, .pointer (some ⟨w.heap.size, 0, none⟩), .pointer (some ⟨w.heap.size + 1, 0, none⟩), sl0 go d.length, num 0, ptr P.p 0, .pointer (some ⟨Bx, 0, none⟩), undef, v9, undef, undef, .tuple #[sl0 go d.length, num 0], .slice (some ⟨gs, off, none⟩) (d.length + 4) cap, .tuple #[sl0 go d.length, num 0], sl0 go d.length, num 0, num 0, .bool false, undef, sl0 go d.length, ptr P.p 0, ptr P.p 0, .bool false, sl0 go d.length, .slice (some ⟨go, 2, none⟩) (d.length - 2) (d.length - 2), ptr P.p 0, ptr P.p 0, ptr P.p 0, sl0 P.d n, num n, num k, v32, v33, v34, v35, v36, undef, undef, undef, undef, undef, undef, undef, undef, undef, undef, undef, undef, undef, undef, undef, undef, undef, undef, undef, undef, undef, v58, undef], defers := rs.map mk }
set_option maxRecDepth 100000 in
set_option maxHeartbeats 4000000 in
theorem Parse_any {w : World} (hG : Glob w) (gs off cap : Nat) (d t : List Nat) (hd1 : RdB w (some ⟨gs, off, none⟩) d) (hd2 : RdB w (some ⟨gs, off + d.length, none⟩) t) (h4' : t.length = 4) (hok : Cr.nm t = Cr.crc d) (hc : d.length + 4 ≤ cap) (hl0 : d.length + 4 ≤ 140737488355328) :
    Calls Tryd.prog 20 #[.slice (some ⟨gs, off, none⟩) (d.length + 4) cap] w (GParsePost w d) := by
  refine (callsIn_wide (n := 3)).1 ?_
  have h0 : 1 ≤ 3 := by omega
  obtain ⟨V, hV⟩ : ∃ V, V = (w.alloc (.cells #[.pointer none] 24)).alloc (.cells #[num 0] 25) := ⟨_, rfl⟩
  have hg : w.grownBy V none := by rw [hV]; exact grownBy_alloc' (World.grownBy_alloc w _ none) _
  have b2 : Boxed V w.heap.size 24 (.pointer none) := by rw [hV]; exact (Boxed.new w _ _).alloc _
  have b3 : Boxed V (w.heap.size + 1) 25 (num 0) := by rw [hV]; have := Boxed.new (w.alloc (.cells #[.pointer none] 24)) 25 (num 0); rw [World.size_alloc] at this; exact this
  have hsz : V.heap.size = w.heap.size + 2 := by rw [hV]; simp
  have HO := hide (Cr.open_ok (hG.more hg) gs off cap d t (hd1.more hg) (hd2.more hg) h4' hc (by omega))
  rw [decide_eq_true hok] at HO
  have HV := hide hV
  clear hd1 hd2 hok hV hG h4'
  refine callsIn_of_wp_marks Tryd.func20 rfl trivial ?_ rfl
  simp only [Tryd.ntmps20, List.size_toArray, List.length_cons, List.length_nil, Nat.reduceAdd, Nat.reduceSub, Array.replicate_succ, Array.replicate_zero, List.push_toArray, List.append_toArray, List.nil_append, List.cons_append]
  gi_wp2_with (first | (rw [← HV.out]; refine ⟨trivial, ?_⟩; gi_at_call 37; refine (callsIn_wide.2 HO.out).mono ?_; rintro e w1 ⟨go, rfl, hgo, hg1, hO1⟩))
  by_cases hfit : LongD d
  case neg =>
    have HPN := hide (poolFor_no (w := w1) go 0 d.length d hO1.rdB (by omega) hfit)
    have HO1 := hide hO1
    have HG1 := hide hg1
    have HNF : Hid (¬ FitsD d) := fun h => hfit h.long
    clear hO1 hg1 HO hfit HV
    gi_wp2_with (first | (refine ⟨trivial, ?_⟩; gi_at_call 38; refine (callsIn_wide.2 HPN.out).mono ?_; rintro e w2 ⟨rfl, hg2⟩; have b22 := (b2.kept HG1.out (by simp)).kept hg2 (by simp); have b33 := (b3.kept HG1.out (by simp)).kept hg2 (by simp); have g2 := b22.cell; have g2f := b22.frozen; have g3 := b33.cell; have g3f := b33.frozen; have y2 : Boxed ((w2.setCell ⟨w.heap.size, 0, none⟩ (.pointer none)).setCell ⟨w.heap.size + 1, 0, none⟩ (num 81)) w.heap.size 24 (.pointer none) := (b22.set _).other (by omega) _; have y3 : Boxed ((w2.setCell ⟨w.heap.size, 0, none⟩ (.pointer none)).setCell ⟨w.heap.size + 1, 0, none⟩ (num 81)) (w.heap.size + 1) 25 (num 81) := (b33.other (by omega) _).set _; have hL9 : Below w.heap.size w ((w2.setCell ⟨w.heap.size, 0, none⟩ (.pointer none)).setCell ⟨w.heap.size + 1, 0, none⟩ (num 81)) := ((below_of_grown (grownBy_trans (grownBy_trans hg HG1.out) hg2)).setCell (p := ⟨w.heap.size, 0, none⟩) (Nat.le_refl _) _).setCell (p := ⟨w.heap.size + 1, 0, none⟩) (by show w.heap.size ≤ w.heap.size + 1; omega) _; have HALL := hide (And.intro y2 (And.intro y3 hL9))))
    obtain ⟨y2, y3, hL9⟩ := HALL.out
    have z2 := y2.cell
    have z3 := y3.cell
    exact ⟨.tuple #[.pointer none, num 81], by simp [results, Tryd.f20, go_sem, z2, z3], .inl ⟨rfl, grown_of_below hL9, HNF.out⟩⟩
  obtain ⟨⟨h1i, h2i, h3i, h4i⟩, hl2, hlen0⟩ := hfit
  obtain ⟨n, hd0⟩ : ∃ n, Cr.nth d 0 = n := ⟨_, rfl⟩
  obtain ⟨m, hd1⟩ : ∃ m, Cr.nth d 1 = m := ⟨_, rfl⟩
  rw [hd0] at h1i h2i hlen0
  rw [hd1] at h3i h4i hlen0
  have h1 : 1 ≤ n := by omega
  have h2 : n ≤ 8 := by omega
  have h3 : 1 ≤ m := by omega
  have h4 : m ≤ 64 := by omega
  have hlen : d.length = 2 + n * (5 * m) := by have := Nat.mul_left_comm n 5 m; omega
  have hsmall : d.length ≤ 100000 := by
    rw [hlen]
    have : n * (5 * m) ≤ 8 * (5 * m) := Nat.mul_le_mul_right _ (by omega)
    omega
  have HNM := hide (And.intro hd0 hd1)
  have HL := hide hlen
  have hl7 : 7 ≤ d.length := by
    have : 1 * (5 * 1) ≤ n * (5 * m) := Nat.mul_le_mul h1 (by omega)
    omega
  obtain ⟨f, hf⟩ : ∃ f, f = rdF d m := ⟨_, rfl⟩
  clear h1i h2i h3i h4i hl2 hlen0 hlen hl0 hc
  have hc0 := hO1.cell (k := 0) (by omega)
  have hc1 := hO1.cell (k := 1) (by omega)
  rw [hd0] at hc0
  rw [hd1] at hc1
  have HPF := hide (poolFor_ok go 0 d.length d.length n m h1 h2 h3 h4 HL.out hc0 hc1)
  have HO1 := hide hO1
  have HG1 := hide hg1
  have L2 : (2 : Int) ≤ (d.length : Int) := by have := HL.out; omega
  have L3 : ¬ d.length = 0 := by have := HL.out; omega
  have L4 : 2 < d.length := by omega
  have LS : (d.length : Int) ≤ 100000 := by omega
  clear hO1 hg1 hc0 hc1 hd0 hd1 HO
  gi_wp2_with (first | (refine ⟨trivial, ?_⟩; gi_at_call 38; refine (callsIn_wide.2 HPF.out).mono ?_; rintro e w2 ⟨P, hn, hm, hHi, rfl, hg2, hP⟩; have hbx2 := hP.boxCell; have hpl := hP.low.1))
  subst hn hm
  obtain ⟨Bx, hBx⟩ : ∃ Bx, Bx = w2.heap.size := ⟨_, rfl⟩
  have hpl2 := hP.low
  have hI0 : ParseG w P go Bx d f P.n P.m 0 [] (w2.alloc (.cells #[.slice (some ⟨go, 2, none⟩) (d.length - 2) (d.length - 2)] 43)) := by
    have g2 := grownBy_trans HG1.out hg2
    have gA := World.grownBy_alloc w2 (.cells #[.slice (some ⟨go, 2, none⟩) (d.length - 2) (d.length - 2)] 43) none
    refine ⟨fun x hx => by rw [Nat.zero_mul] at hx; omega, ⟨2, d.length - 2, by simp, .inr (by simp), by rw [hBx]; exact Boxed.new w2 _ _⟩, (HO1.out.more hg2).more gA, hP.grown gA, ?_, ?_, ?_, Marked.nil _, fun _ hh => absurd hh List.not_mem_nil⟩
    · exact ((b2.kept HG1.out (by simp)).kept hg2 (by simp)).alloc _
    · exact ((b3.kept HG1.out (by simp)).kept hg2 (by simp)).alloc _
    · exact below_of_grown (grownBy_trans (grownBy_trans hg g2) gA)
  have hV2 := hsz
  have hgo1 := HO1.out.lt
  have hs1 := HG1.out.size
  have hs2 := hg2.size
  have HI0 := hide hI0
  have HHi := hide hHi
  have HBx := hide hBx
  have HFf := hide hf
  have HIn : Hid (InNew (P.n : Nat) (P.m : Nat)) := ⟨by omega, by omega, by omega, by omega⟩
  clear hI0 hHi hf HO1 HG1 hP hg2 hg b2 b3 hbx2 HPF HV L2 L3 L4
  rw [← hBx] at hpl2 hs2 hpl ⊢
  clear hBx
  refine wpIn_loop (fun a W => ∃ (k : Nat) (rs : List Nat) (v9 v32 v33 v34 v35 v36 v58 : Value), k ≤ P.n ∧ a = parseActG w P gs off cap go Bx P.n k d rs v9 v32 v33 v34 v35 v36 v58 ∧ ParseG w P go Bx d f P.n P.m k rs W) (fun a _ => P.n - (intOf (a.tmps.getD 31 undef)).toNat) ?h0 ?round
  case h0 => exact ⟨0, [], undef, undef, undef, undef, undef, undef, undef, Nat.zero_le _, rfl, HI0.out⟩
  case round =>
    clear HI0
    rintro a W ⟨k, rs, v9, v32, v33, v34, v35, v36, v58, hk, rfl, hI⟩
    by_cases hkn : k < P.n
    · have q1 : (k : Int) < (P.n : Int) := by omega
      have c1 := hI.pool.die k hkn
      have HI := hide hI
      have bN := Boxed.new W 54 (sl0 (P.b k) P.m)
      have hlW := hI.left.lt
      have hsW := hI.low.size
      have hN8 : (P.n : Int) ≤ 8 := by omega
      clear hI
      gi_wp2_with (first | (refine ⟨trivial, ?_⟩; gi_at_call 28; refine (all_in Fence.wide (3 - 1) trivial rfl _ _ _ _).mono ?_; rintro e w' ⟨rfl, rfl⟩))
      refine wpIn_rangeFunc_ownG rfl h0 (gf := 42) (lb := #[.pointer (some ⟨W.heap.size, 0, none⟩)]) rfl trivial (enters_of Tryd.func42 (by kernel_rfl) rfl)
        (all_stops Fence.wide (3 - 1) trivial rfl (by omega) W.heap.size (P.b k) P.m (by omega) _ (.inl rfl) _ (by simp) bN.cell) keepB_t (keepB_b (by simp)) (Below.refl _ _) (fun _ => rfl)
        (InnerG w W P go Bx d f P.m k)
        (stopG w W (¬ FitsD d))
        (innerG_ownFrom (by simp; omega) (by simp))
        (fun c => stopG_ownFrom (by simp; omega) (by simp) c)
        ⟨fun x hx => HI.out.good x hx, HI.out.left.of_block (Below.heap_alloc _ _ _ HI.out.left.lt), HI.out.src.more (World.grownBy_alloc _ _ none), HI.out.pool.grown (World.grownBy_alloc _ _ none), HI.out.r2.alloc _, HI.out.r3.alloc _, HI.out.low.alloc hsW _, (KeepsOthers.alloc _ _).from _, bN⟩
        ?a1 ?assign ?body ?done ?stop
      case assign =>
        intro l x W' K hK
        gi_wp2
        exact hK
      case body =>
        rintro l pre x W' hT hpre
        have hxm := x.2
        have hj : pre.length < P.m := hpre
        -- where the block's bytes lie
        obtain ⟨off, hoff⟩ : ∃ off, off = 2 + k * (5 * P.m) + 5 * pre.length := ⟨_, rfl⟩
        obtain ⟨LL, hLL⟩ : ∃ LL, LL = d.length - 2 - k * (5 * P.m) - 5 * pre.length := ⟨_, rfl⟩
        have hk1 : (k + 1) * (5 * P.m) ≤ P.n * (5 * P.m) := Nat.mul_le_mul_right _ (by omega)
        rw [Nat.add_mul, Nat.one_mul] at hk1
        have hL5 : 5 ≤ LL := by have := HL.out; omega
        have hin : off + 5 ≤ d.length := by have := HL.out; omega
        have hof : 2 + 5 * (k * P.m + pre.length) = off := by have := Nat.mul_left_comm k 5 P.m; omega
        have hle := hT.src.rdB.1
        obtain ⟨tt, htt⟩ : ∃ tt : List Nat, tt = [Cr.nth d (off + 1), Cr.nth d (off + 2), Cr.nth d (off + 3), Cr.nth d (off + 4)] := ⟨_, rfl⟩
        have hnm : Cr.nm tt = Cr.nth d (off + 1) + 256 * Cr.nth d (off + 2) + 65536 * Cr.nth d (off + 3) + 16777216 * Cr.nth d (off + 4) := by rw [htt]; exact Cr.nm_four (hle _) (hle _) (hle _)
        obtain ⟨s, hs⟩ : ∃ s, s = Cr.nth d off := ⟨_, rfl⟩
        have hs255 : s ≤ 255 := by rw [hs]; exact hle off
        have he1 : Cr.nm tt < 4294967296 := by have := hle (off + 1); have := hle (off + 2); have := hle (off + 3); have := hle (off + 4); omega
        have hf1 : f k pre.length = ⟨(s : Int), Cr.nm tt⟩ := by rw [HFf.out, hnm, hs]; unfold rdF rdBlk; rw [hof]
        have hgd : GoodAt d (k * P.m + pre.length) ↔ (1 ≤ s ∧ s ≤ 4) := by unfold GoodAt; rw [hof, hs]
        have HOF : Hid (2 + k * (5 * P.m) + 5 * pre.length = off ∧ d.length - 2 - k * (5 * P.m) - 5 * pre.length = LL) := ⟨hoff.symm, hLL.symm⟩
        have hb0 : W'.cell? ⟨go, off, none⟩ = some (q8 s) := by rw [hs]; exact hT.src.cell (k := off) (by omega)
        have hbt : RdB W' (some ⟨go, off + 1, none⟩) tt := by
          refine ⟨fun i => ?_, .inr ⟨go, off + 1, rfl, fun i hi => ?_⟩⟩
          · rw [htt]
            by_cases h : i < 4
            · have : i = 0 ∨ i = 1 ∨ i = 2 ∨ i = 3 := by omega
              rcases this with rfl | rfl | rfl | rfl
              · exact hle (off + 1)
              · exact hle (off + 2)
              · exact hle (off + 3)
              · exact hle (off + 4)
            · rw [Cr.nth_over _ (show ([Cr.nth d (off + 1), Cr.nth d (off + 2), Cr.nth d (off + 3), Cr.nth d (off + 4)] : List Nat).length ≤ i by simp; omega)]
              omega
          · have hi4 : i < 4 := by rw [htt] at hi; exact hi
            have h := hT.src.cell (k := off + (1 + i)) (by omega)
            rw [show off + 1 + i = off + (1 + i) by omega, h, htt]
            have : i = 0 ∨ i = 1 ∨ i = 2 ∨ i = 3 := by omega
            rcases this with rfl | rfl | rfl | rfl <;> rfl
        have htl : tt.length = 4 := by rw [htt]; rfl
        have HB := hide (blockOf_ok (w := W') go off LL s tt hb0 hs255 hbt htl hL5)
        obtain ⟨aa, RR, hR1, hR2, hbL⟩ := hT.left
        obtain rfl : RR = LL := by omega
        obtain rfl : aa = off := by rcases hR2 with e | e <;> omega
        have HBL := hide hbL
        have hbc := hbL.cell
        have HT := hide hT
        have HF1' := hide hf1
        have HGD := hide hgd
        have hpl' : k * P.m + pre.length < P.n * P.m := Nat.lt_of_lt_of_le (Nat.add_lt_add_left hj (k * P.m)) (by rw [← Nat.succ_mul]; exact Nat.mul_le_mul_right _ hkn)
        have HIX := hide hpl'
        generalize Cr.nm tt = e at HB he1 HF1'
        have L5 : (5 : Int) ≤ (RR : Int) := by omega
        have L6 : ¬ RR = 0 := by omega
        have L7 : 5 ≤ RR := hL5
        have L9 : (RR : Int) ≤ 100000 := by omega
        clear hT hoff hLL hk1 hin hb0 hbt hbL hR1 hR2 hnm hle hs htt htl hf1 hgd hof hj hpre hpl'
        gi_wp2_with fail
        refine ⟨trivial, ?_⟩
        refine (CallsIn.inRound l (callsIn_wide.2 HB.out)).mono ?_
        rintro e5 w5 ⟨rfl, hg5⟩
        have hP5 := HT.out.pool.grown hg5
        have hb5 := HBL.out.kept hg5 (by simp)
        have c0 := hP5.st k x.1 hkn hxm
        have c1 := hP5.er k x.1 hkn hxm
        have f0 := (hP5.ob k hkn).free (x.1 * 2)
        have f1 := (hP5.ob k hkn).free (x.1 * 2 + 1)
        have hkB : P.b k < Bx := hpl2.2.2 k hkn
        have hbc5 := hb5.cell
        have hbf5 := hb5.frozen
        have hgoW : go < Bx := by omega
        have hgoK : w1.heap.size ≤ P.b k := HHi.out.2.2 k hkn
        have hkw : w.heap.size + 1 < P.b k := by omega
        by_cases hst : 1 ≤ s ∧ s ≤ 4
        case neg =>
          have hr2 := HT.out.r2.kept hg5 (by simp)
          have hr3 := HT.out.r3.kept hg5 (by simp)
          have d2 := hr2.cell
          have d2f := hr2.frozen
          have d3 := hr3.cell
          have d3f := hr3.frozen
          have HF1 : Hid (ownPostG (W.alloc (.cells #[sl0 (P.b k) P.m] 54)).heap.size (KeepB W.heap.size) (InnerG w W P go Bx d f P.m k) (stopG w W (¬ FitsD d)) (pre ++ [x]) W' .ret { tmps := #[], defers := [] } ((((w5.setCell ⟨P.b k, x.1 * 2, none⟩ (num (s : Int))).setCell ⟨P.b k, x.1 * 2 + 1, none⟩ (q32 e)).setCell ⟨w.heap.size, 0, none⟩ (.pointer none)).setCell ⟨w.heap.size + 1, 0, none⟩ (num 81))) := by
            have hk4 := ((((KeepsOthers.of_grownBy hg5 (fun r o e => by simp at e)).trans ((KeepsOthers.setCell w5 ⟨P.b k, x.1 * 2, none⟩ (num (s : Int))).trans (KeepsOthers.setCell _ ⟨P.b k, x.1 * 2 + 1, none⟩ (q32 e)))).trans (KeepsOthers.setCell _ ⟨w.heap.size, 0, none⟩ (.pointer none))).trans (KeepsOthers.setCell _ ⟨w.heap.size + 1, 0, none⟩ (num 81)))
            have q2 : Boxed ((w5.setCell ⟨P.b k, x.1 * 2, none⟩ (num (s : Int))).setCell ⟨P.b k, x.1 * 2 + 1, none⟩ (q32 e)) w.heap.size 24 (.pointer none) := (setCell_else (by omega) _).trans ((setCell_else (by omega) _).trans hr2)
            have q3 : Boxed ((w5.setCell ⟨P.b k, x.1 * 2, none⟩ (num (s : Int))).setCell ⟨P.b k, x.1 * 2 + 1, none⟩ (q32 e)) (w.heap.size + 1) 25 (num 0) := (setCell_else (by omega) _).trans ((setCell_else (by omega) _).trans hr3)
            refine ⟨hk4.from _, rfl, fun hfd => ?_, (q2.set _).other (by omega) _, (q3.other (by omega) _).set _, ?_, HT.out.kf.trans (hk4.from _)⟩
            · obtain ⟨n', m', _, _, hn', hm', _, ha⟩ := hfd
              refine hst (HGD.out.1 (ha _ ?_))
              rw [hn', hm', HNM.out.1, HNM.out.2]
              exact HIX.out
            · exact ((((HT.out.low.trans ((below_of_grown hg5).mono (by have := HT.out.low.size; omega))).setCell (p := ⟨P.b k, x.1 * 2, none⟩) (by show w.heap.size ≤ P.b k; omega) _).setCell (p := ⟨P.b k, x.1 * 2 + 1, none⟩) (by show w.heap.size ≤ P.b k; omega) _).setCell (p := ⟨w.heap.size, 0, none⟩) (Nat.le_refl _) _).setCell (p := ⟨w.heap.size + 1, 0, none⟩) (by show w.heap.size ≤ w.heap.size + 1; omega) _
          clear hP5 hb5 hr2 hr3
          have hb : (s : Int) < 1 ∨ (¬ (s : Int) < 1 ∧ 4 < (s : Int)) := by omega
          rcases hb with hb | ⟨hb, hb4⟩
          all_goals
            clear hst
            gi_wp2
            exact HF1.out
        obtain ⟨s1', s4'⟩ := hst
        have s1 : (1 : Int) ≤ (s : Int) := by omega
        have s4 : (s : Int) ≤ 4 := by omega
        have HF1 : Hid (∀ a9, (RR - 5 = 0 ∨ a9 = aa + 5) → ownPostG (W.alloc (.cells #[sl0 (P.b k) P.m] 54)).heap.size (KeepB W.heap.size) (InnerG w W P go Bx d f P.m k) (fun _ _ _ => False) (pre ++ [x]) W' .normal { tmps := #[], defers := [] } (((w5.setCell ⟨P.b k, x.1 * 2, none⟩ (num (s : Int))).setCell ⟨P.b k, x.1 * 2 + 1, none⟩ (q32 e)).setCell ⟨Bx, 0, none⟩ (.slice (some ⟨go, a9, none⟩) (RR - 5) (RR - 5)))) := fun a9 ha9 => by
          have el : ∀ g, g ≠ P.b k → g ≠ Bx → (((w5.setCell ⟨P.b k, x.1 * 2, none⟩ (num (s : Int))).setCell ⟨P.b k, x.1 * 2 + 1, none⟩ (q32 e)).setCell ⟨Bx, 0, none⟩ (.slice (some ⟨go, a9, none⟩) (RR - 5) (RR - 5))).heap[g]? = w5.heap[g]? := fun g g1 g2 => by
            rw [setCell_else g2, setCell_else g1, setCell_else g1]
          have h5 := hg5.size
          have hitl := HT.out.it.lt
          have ew : w.heap.size + 1 < w1.heap.size := by omega
          have eit := (el W.heap.size (by omega) (by omega)).trans (hg5.block _ hitl (by simp))
          refine ⟨(((KeepsOthers.of_grownBy hg5 (fun r o e => by simp at e)).trans ((KeepsOthers.setCell _ _ _).trans (KeepsOthers.setCell _ _ _))).trans (KeepsOthers.setCell _ _ _)).from _, eit, ?_⟩
          refine ⟨fun y hy => ?_, ?_, ⟨(el go (by omega) (by omega)).trans (hg5.block _ HT.out.src.lt (by simp) |>.trans HT.out.src.at_), HT.out.src.le⟩, ?_, (el _ (by omega) (by omega)).trans (hg5.block _ HT.out.r2.lt (by simp) |>.trans HT.out.r2), (el _ (by omega) (by omega)).trans (hg5.block _ HT.out.r3.lt (by simp) |>.trans HT.out.r3), ?_, ?_, eit.trans HT.out.it⟩
          · rw [List.length_append, List.length_singleton] at hy
            by_cases hy2 : y = k * P.m + pre.length
            · rw [hy2]; exact HGD.out.2 ⟨s1', s4'⟩
            · exact HT.out.good y (by omega)
          · rw [List.length_append, List.length_singleton]
            have hb6 : Boxed ((w5.setCell ⟨P.b k, x.1 * 2, none⟩ (num (s : Int))).setCell ⟨P.b k, x.1 * 2 + 1, none⟩ (q32 e)) Bx 43 (.slice (some ⟨go, aa, none⟩) RR RR) := (setCell_else (by omega) _).trans ((setCell_else (by omega) _).trans hb5)
            have hof := HOF.out
            exact ⟨a9, RR - 5, by omega, by rcases ha9 with e | e
                                            · exact .inl e
                                            · exact .inr (by omega), hb6.set _⟩
          · have p1 := hP5.setSt hkn hxm (s : Int) s1 s4
            have p2 := p1.setEr hkn hxm e he1
            have p3 := p2.stp (K := fun g => g = Bx) ((Stp.refl (fun g => g = Bx) _).set (g := Bx) (o := 0) (.inl rfl) (.slice (some ⟨go, a9, none⟩) (RR - 5) (RR - 5))) (by omega) (by omega) fun i hi => by have := hpl2.2.2 i hi; omega
            rw [put_snoc, Nat.zero_add]
            rw [HF1'.out]
            have eU : upd (upd (put k (f k) (upTo f k P.m fresh) 0 pre) k x.1 ⟨(s : Int), (put k (f k) (upTo f k P.m fresh) 0 pre k x.1).er⟩) k x.1 ⟨(upd (put k (f k) (upTo f k P.m fresh) 0 pre) k x.1 ⟨(s : Int), (put k (f k) (upTo f k P.m fresh) 0 pre k x.1).er⟩ k x.1).st, e⟩ = upd (put k (f k) (upTo f k P.m fresh) 0 pre) k x.1 ⟨(s : Int), e⟩ := by
              funext a b
              unfold upd
              by_cases h : a = k ∧ b = x.1
              · simp [h]
              · simp [h]
            rw [eU] at p3
            exact p3
          · exact (((HT.out.low.trans ((below_of_grown hg5).mono (by have := HT.out.low.size; omega))).setCell (p := ⟨P.b k, x.1 * 2, none⟩) (by show w.heap.size ≤ P.b k; omega) _).setCell (p := ⟨P.b k, x.1 * 2 + 1, none⟩) (by show w.heap.size ≤ P.b k; omega) _).setCell (p := ⟨Bx, 0, none⟩) (by show w.heap.size ≤ Bx; omega) _
          · exact HT.out.kf.trans ((((KeepsOthers.of_grownBy hg5 (fun r o e => by simp at e)).trans ((KeepsOthers.setCell _ _ _).trans (KeepsOthers.setCell _ _ _))).trans (KeepsOthers.setCell _ _ _)).from _)
        have HF2 := HF1.out
        rw [World.size_alloc] at HF2
        have HF3 := hide HF2
        clear hP5 hb5 HF2
        gi_wp2
        all_goals first
          | exact HF3.out _ (.inr rfl)
          | (have e9 : RR - 5 = 0 := by omega
             have h9 := HF3.out aa (.inl e9)
             rw [e9] at h9
             exact h9)
      case done =>
        rintro D ys W' hD rfl hT hK
        have HT := hide hT
        have HK := hide hK
        have hlv : LeftM W' Bx go P.m d.length (k + 1) 0 := by
          obtain ⟨a, R, r1, r2, r3⟩ := hT.left
          rw [List.length_finRange] at r1 r2
          refine ⟨a, R, by rw [Nat.add_mul, Nat.one_mul]; omega, ?_, r3⟩
          rcases r2 with e | e
          · exact .inl e
          · exact .inr (by rw [Nat.add_mul, Nat.one_mul]; omega)
        have HLV := hide hlv
        simp at hD
        clear hT hK hlv
        gi_wp2
        refine ⟨⟨k + 1, D :: rs, _, _, _, _, _, _, _, by omega, rfl, ⟨fun y hy => HT.out.good y (by rw [List.length_finRange, ← Nat.succ_mul]; exact hy), HLV.out, HT.out.src, HT.out.pool, HT.out.r2, HT.out.r3, HT.out.low, ⟨List.nodup_cons.2 ⟨fun h => ?_, HI.out.marks.one⟩, fun r hr => ?_⟩, fun r hr => ?_⟩⟩, ?_⟩
        · have := lt_of_heap (HI.out.marks.at_ D h); omega
        · rcases List.mem_cons.1 hr with rfl | hr
          · exact HK.out
          · exact HT.out.kf.same r _ (Nat.zero_le _) (HI.out.marks.at_ r hr) rfl
        · rcases List.mem_cons.1 hr with rfl | hr
          · omega
          · exact HI.out.ge r hr
        · simp [intOf]; omega
      case stop =>
        rintro D c pre W' hD _ ⟨rfl, hS⟩ hK
        simp at hD
        have HS := hide hS
        have hM9 : Marked (D :: rs) W' := ⟨List.nodup_cons.2 ⟨fun h => by have := lt_of_heap (HI.out.marks.at_ D h); omega, HI.out.marks.one⟩, fun r hr => by
          rcases List.mem_cons.1 hr with rfl | hr
          · exact hK
          · exact hS.kf.same r _ (Nat.zero_le _) (HI.out.marks.at_ r hr) rfl⟩
        have hge : ∀ r, r ∈ D :: rs → Bx + 1 ≤ r := fun r hr => by
          rcases List.mem_cons.1 hr with rfl | hr
          · omega
          · exact HI.out.ge r hr
        have HM := hide (And.intro hM9 hge)
        clear hS hK hM9 hge
        gi_wp2
        refine leaves_marks (D :: rs) _ HM.out.1 fun w7 s7 => ?_
        have z2 : w7.cell? ⟨w.heap.size, 0, none⟩ = some (.pointer none) := s7.cell (fun h => by have := HM.out.2 _ h; omega) HS.out.r2.cell
        have z3 : w7.cell? ⟨w.heap.size + 1, 0, none⟩ = some (num 81) := s7.cell (fun h => by have := HM.out.2 _ h; omega) HS.out.r3.cell
        have hL7 : Below w.heap.size w w7 := HS.out.low.trans (s7.below (by have := HS.out.low.size; omega) fun r hr => by have := HM.out.2 r hr; omega)
        exact ⟨.tuple #[.pointer none, num 81], by simp [results, Tryd.f20, go_sem, z2, z3], .inl ⟨rfl, grown_of_below hL7, HS.out.no⟩⟩
    · obtain rfl : k = P.n := by omega
      have q1 : ¬ (P.n : Int) < (P.n : Int) := by omega
      have g2 := hI.r2.cell
      have g2f := hI.r2.frozen
      have g3 := hI.r3.cell
      have g3f := hI.r3.frozen
      have hw1 : w.heap.size + 1 < w1.heap.size := by omega
      have HI := hide hI
      have el : ∀ g, g ≠ w.heap.size → g ≠ w.heap.size + 1 → ((W.setCell ⟨w.heap.size, 0, none⟩ (ptr P.p 0)).setCell ⟨w.heap.size + 1, 0, none⟩ (num 0)).heap[g]? = W.heap[g]? := fun g e1 e2 => by
        rw [setCell_else e2, setCell_else e1]
      have y2 : Boxed ((W.setCell ⟨w.heap.size, 0, none⟩ (ptr P.p 0)).setCell ⟨w.heap.size + 1, 0, none⟩ (num 0)) w.heap.size 24 (ptr P.p 0) := (hI.r2.set _).other (by omega) _
      have y3 : Boxed ((W.setCell ⟨w.heap.size, 0, none⟩ (ptr P.p 0)).setCell ⟨w.heap.size + 1, 0, none⟩ (num 0)) (w.heap.size + 1) 25 (num 0) := (hI.r3.other (by omega) _).set _
      have hP9 : PoolM ((W.setCell ⟨w.heap.size, 0, none⟩ (ptr P.p 0)).setCell ⟨w.heap.size + 1, 0, none⟩ (num 0)) P (upTo f P.n P.m fresh) :=
        hI.pool.stp (K := fun g => g = w.heap.size ∨ g = w.heap.size + 1) (((Stp.refl (fun g => g = w.heap.size ∨ g = w.heap.size + 1) _).set (.inl (.inl rfl)) _).set (.inl (.inr rfl)) _) (by have := HHi.out.1; omega) (by have := HHi.out.2.1; omega) fun i hi => by have := HHi.out.2.2 i hi; omega
      have hM9 : Marked rs ((W.setCell ⟨w.heap.size, 0, none⟩ (ptr P.p 0)).setCell ⟨w.heap.size + 1, 0, none⟩ (num 0)) := hI.marks.kept fun g hg => by have := hI.ge g hg; exact el g (by omega) (by omega)
      have hL9 : Below w.heap.size w ((W.setCell ⟨w.heap.size, 0, none⟩ (ptr P.p 0)).setCell ⟨w.heap.size + 1, 0, none⟩ (num 0)) := (hI.low.setCell (p := ⟨w.heap.size, 0, none⟩) (Nat.le_refl _) _).setCell (p := ⟨w.heap.size + 1, 0, none⟩) (by show w.heap.size ≤ w.heap.size + 1; omega) _
      have HALL := hide (And.intro y2 (And.intro y3 (And.intro hP9 (And.intro hM9 hL9))))
      clear hI el y2 y3 hP9 hM9 hL9
      gi_wp2
      obtain ⟨y2, y3, hP9, hM9, hL9⟩ := HALL.out
      refine leaves_marks rs _ hM9 fun w7 s7 => ?_
      have z2 : w7.cell? ⟨w.heap.size, 0, none⟩ = some (ptr P.p 0) := s7.cell (fun h => by have := HI.out.ge _ h; omega) y2.cell
      have z3 : w7.cell? ⟨w.heap.size + 1, 0, none⟩ = some (num 0) := s7.cell (fun h => by have := HI.out.ge _ h; omega) y3.cell
      have hP7 := hP9.stp s7 (fun h => by have := HI.out.ge _ h; omega) (fun h => by have := HI.out.ge _ h; omega) fun i hi h => by have := HI.out.ge _ h; have := hpl2.2.2 i hi; omega
      have hL7 : Below w.heap.size w w7 := hL9.trans (s7.below (by have := hL9.size; omega) fun r hr => by have := HI.out.ge r hr; omega)
      refine ⟨.tuple #[ptr P.p 0, num 0], by simp [results, Tryd.f20, go_sem, z2, z3], .inr ⟨P, ⟨P.n, P.m, HIn.out, by have := HL.out; omega, HNM.out.1.symm, HNM.out.2.symm, by have := Nat.mul_left_comm P.n 5 P.m; have := HL.out; omega, HI.out.good⟩, HNM.out.1.symm, HNM.out.2.symm, ⟨by have := HHi.out.1; omega, by have := HHi.out.2.1; omega, fun i hi => by have := HHi.out.2.2 i hi; omega⟩, rfl, grown_of_below hL7, ?_⟩⟩
      refine hP7.congr fun i b hi hb => ?_
      rw [upTo_at P.n i b hi hb, HFf.out]
end Bk
end Go.Proofs.YtoakokpeomlkjaaDoor
