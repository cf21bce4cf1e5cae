/- The walk of NandDies. -/
import Derived.Test.YtojamicakkecbaaNx
namespace Go.Proofs.Ytojamicakkecbaa
open Go.ChangeShapes Go.WideShapes Go.ChangeAt Go.RowKit Go.Maps
namespace Nd
/-- An array one die of which dies. -/
structure DieR (A : St) (die at_ k : Nat) : Prop where
  on : A.on = true
  cuts : ∀ i, A.cuts i = none
  dead : ∀ d, A.dead d = if d = die then (at_ : Int) else never
  noP : ∀ d b, (A.blk d b).noP = never
  noE : ∀ d b, (A.blk d b).noE = never
  flips : ∀ d b, (A.blk d b).flips = []
  d : A.D = 3
  b : A.B = 2
  p : A.P = 3
  y : A.Y = 2
  num : A.num = k
  bd : Bd A (3 * k)
def dieF (die at_ : Nat) : Flt := ⟨4, at_, die, 0, 0, 0, 0, [], none, 0⟩
theorem dieF_may {die at_ : Nat} (h1 : die < 3) (h2 : at_ < 12) : FMay (St.new 3 2 3 2) (dieF die at_) :=
  ⟨by show (1 : Int) ≤ 4; omega, by show (4 : Int) ≤ 6; omega, by show (0 : Int) ≤ at_; omega, ⟨by show (-9223372036854775808 : Int) ≤ at_; omega, by show (at_ : Int) ≤ 9223372036854775807; omega⟩, by show (0 : Int) ≤ 0; omega, by show (0 : Int) ≤ 0; omega, ⟨by show (-9223372036854775808 : Int) ≤ 0; omega, by show (0 : Int) ≤ 9223372036854775807; omega⟩, by show (0 : Int) ≤ die; omega, by show (die : Int) < 3; omega, by show (0 : Int) ≤ 0; omega, by show (0 : Int) < 2; omega, by show (0 : Int) ≤ 0; omega, by show (0 : Int) < 3; omega, fun i hi => by cases hi⟩
theorem DieR.start {die at_ : Nat} (h2 : at_ < 12) : DieR (layAll (St.new 3 2 3 2) [dieF die at_]) die at_ 0 := by
  have e : layAll (St.new 3 2 3 2) [dieF die at_] = (St.new 3 2 3 2).setDead die at_ := by
    show (St.new 3 2 3 2).lay (dieF die at_) = _
    have h3 : ((at_ : Nat) : Int) < never := by unfold never; omega
    simp [St.lay, dieF, St.new, h3]
  rw [e]
  refine ⟨rfl, fun _ => rfl, fun d => rfl, fun _ _ => rfl, fun _ _ => rfl, fun _ _ => rfl, rfl, rfl, rfl, rfl, rfl, ⟨(Bd.new 3 2 3 2).cnt, (Bd.new 3 2 3 2).er, (Bd.new 3 2 3 2).nx, (Bd.new 3 2 3 2).cu⟩⟩
theorem DieR.tick {A : St} {die at_ k : Nat} (h : DieR A die at_ k) {i : Nat} (hi : i < 3) : DieR (A.tick i) die at_ (k + 1) := by
  refine ⟨h.on, h.cuts, h.dead, h.noP, h.noE, h.flips, h.d, h.b, h.p, h.y, ?_, (h.bd.tick i).mono (by omega)⟩
  rw [tick_num A i hi, h.num]
  omega
theorem DieR.up {A : St} {die at_ k : Nat} (h : DieR A die at_ k) (d b : Nat) {f : Blk → Blk} (h1 : (f (A.blk d b)).noP = (A.blk d b).noP) (h2 : (f (A.blk d b)).noE = (A.blk d b).noE) (h3 : (f (A.blk d b)).flips = (A.blk d b).flips) (hb : Bd (A.upB d b f) (3 * k)) : DieR (A.upB d b f) die at_ k := by
  refine ⟨h.on, h.cuts, h.dead, fun d' b' => ?_, fun d' b' => ?_, fun d' b' => ?_, h.d, h.b, h.p, h.y, h.num, hb⟩
  · show (if d' = d ∧ b' = b then f (A.blk d b) else A.blk d' b').noP = never
    split
    · rw [h1]; exact h.noP d b
    · exact h.noP d' b'
  · show (if d' = d ∧ b' = b then f (A.blk d b) else A.blk d' b').noE = never
    split
    · rw [h2]; exact h.noE d b
    · exact h.noE d' b'
  · show (if d' = d ∧ b' = b then f (A.blk d b) else A.blk d' b').flips = []
    split
    · rw [h3]; exact h.flips d b
    · exact h.flips d' b'
theorem DieR.loose {A : St} {die at_ k : Nat} (h : DieR A die at_ k) {N : Int} (hb : Bd A N) (hN : N ≤ 3 * k) : DieR A die at_ k := ⟨h.on, h.cuts, h.dead, h.noP, h.noE, h.flips, h.d, h.b, h.p, h.y, h.num, hb.mono hN⟩
/-- What a die answers. -/
def dieRet (die at_ d k : Nat) : Int := if d = die ∧ at_ ≤ k then 41 else 0
theorem DieR.alive {A : St} {die at_ k : Nat} (h : DieR A die at_ k) (hk : k ≤ 40) (d : Nat) : (A.num < A.dead d ↔ ¬ (d = die ∧ at_ ≤ k)) := by
  rw [h.num, h.dead]
  split
  · rename_i e; simp [e]
  · rename_i e
    simp [e]
    unfold never
    omega
theorem num_never' {A : St} {die at_ k : Nat} (h : DieR A die at_ k) (hk : k ≤ 40) : A.num < never := by rw [h.num]; unfold never; omega
theorem DieR.read {A : St} {die at_ k : Nat} (h : DieR A die at_ k) (hk : k ≤ 40) (d b p : Nat) : (A.doRead0 d b p).2.2 = dieRet die at_ d k ∧ DieR (A.doRead0 d b p).1 die at_ (k + 1) := by
  have ha := h.alive hk d
  unfold St.doRead0 dieRet
  rw [h.cuts]
  by_cases hd : d = die ∧ at_ ≤ k
  · have : ¬ A.num < A.dead d := fun e => (ha.1 e) hd
    rw [if_pos hd]
    simp only [this, if_false]
    exact ⟨trivial, h.tick (i := 0) (by decide)⟩
  · have : A.num < A.dead d := ha.2 hd
    rw [if_neg hd]
    simp only [this, if_true]
    exact ⟨trivial, h.tick (i := 0) (by decide)⟩
theorem DieR.erase {A : St} {die at_ k : Nat} (h : DieR A die at_ k) (hk : k ≤ 40) (d b : Nat) : (A.doErase d b).2 = dieRet die at_ d k ∧ DieR (A.doErase d b).1 die at_ (k + 1) := by
  have ha := h.alive hk d
  have hbd := h.bd.erase d b
  have hnv := num_never' h hk
  unfold St.doErase at *
  unfold dieRet
  rw [h.cuts] at *
  by_cases hd : d = die ∧ at_ ≤ k
  · have : ¬ A.num < A.dead d := fun e => (ha.1 e) hd
    rw [if_pos hd]
    simp only [this, if_false]
    exact ⟨trivial, h.tick (i := 2) (by decide)⟩
  · have hal : A.num < A.dead d := ha.2 hd
    rw [if_neg hd]
    simp only [hal, if_true] at hbd ⊢
    have e1 : ((A.tick 2).blk d b).noE = never := h.noE d b
    unfold St.eraseAll at hbd ⊢
    unfold eraseRet
    rw [e1, if_pos hnv] at hbd
    rw [e1, h.noE, if_pos hnv, if_pos hnv]
    refine ⟨rfl, ?_⟩
    have h1 := h.tick (i := 2) (by decide)
    have b1 := h.bd.tick 2
    have h2 : DieR ((A.tick 2).upB d b Blk.incE) die at_ (k + 1) := h1.up d b rfl rfl rfl ((b1.incE d b).mono (by omega))
    have h3 : DieR (((A.tick 2).upB d b Blk.incE).upB d b (Blk.clr A.P)) die at_ (k + 1) := h2.up d b rfl rfl rfl (((b1.incE d b).up d b rfl (by rw [upB_same]; exact h.bd.nx d b)).mono (by omega))
    exact h3.up d b rfl rfl rfl (hbd.mono (by omega))
theorem DieR.prog {A : St} {die at_ k : Nat} (h : DieR A die at_ k) (hk : k ≤ 40) (d b p : Nat) (bs : List Nat) (hn : (A.blk d b).next < 3) : (A.doProgram d b p bs).2 = dieRet die at_ d k ∧ DieR (A.doProgram d b p bs).1 die at_ (k + 1) := by
  have ha := h.alive hk d
  have hbd := h.bd.program (d := d) (b := b) (p := p) (bs := bs) (by rw [h.p]; exact hn)
  have hnv := num_never' h hk
  unfold St.doProgram at *
  unfold dieRet
  rw [h.cuts] at *
  by_cases hd : d = die ∧ at_ ≤ k
  · have : ¬ A.num < A.dead d := fun e => (ha.1 e) hd
    rw [if_pos hd]
    simp only [this, if_false]
    exact ⟨trivial, h.tick (i := 1) (by decide)⟩
  · have hal : A.num < A.dead d := ha.2 hd
    rw [if_neg hd]
    simp only [hal, if_true] at hbd ⊢
    have e1 : ((A.tick 1).blk d b).noP = never := h.noP d b
    unfold St.progAll at hbd ⊢
    unfold progRet
    rw [e1, if_pos hnv] at hbd
    rw [e1, h.noP, if_pos hnv, if_pos hnv]
    refine ⟨rfl, ?_⟩
    have h1 := h.tick (i := 1) (by decide)
    exact h1.up d b (f := fun x => x.prog p (newPage A.num ((A.tick 1).blk d b).noP (A.tick 1).Y (A.tick 1).Y bs)) rfl rfl rfl (hbd.mono (by omega))
set_option maxHeartbeats 12800000 in
set_option maxRecDepth 4000 in
theorem law_NandDies (di : Int) (hdi : I64 di) (at0 : Int) (hat : I64 at0) (ao : Option Addr) (len cap : Nat) (os : List OpE) {w : World} (hx : ArgO w ao len os) (hl : len ≤ 9223372036854775807) :
    Calls Try.prog 7 #[num di, num at0, .slice ao len cap] w fun e w' => e = .returned (.bool true) ∧ w.grownBy w' none := by
  have hnn := hnot
  obtain ⟨die, hdie⟩ : ∃ n, n = absS di % 3 := ⟨_, rfl⟩
  obtain ⟨at_, hate⟩ : ∃ n, n = absS at0 % 12 := ⟨_, rfl⟩
  have d1 : die < 3 := by omega
  have a1 : at_ < 12 := by omega
  have HA1 : Hid (∀ w, Calls Try.prog 14 #[num di] w fun e w' => e = .returned (num (absS di)) ∧ w' = w) := fun w => abs_ok di hdi w
  have HA2 : Hid (∀ w, Calls Try.prog 14 #[num at0] w fun e w' => e = .returned (num (absS at0)) ∧ w' = w) := fun w => abs_ok at0 hat w
  have ha1 := absS_le hdi
  have ha2 := absS_le hat
  have HD : Hid ((absS di : Int) % 3 = (die : Int)) := by rw [Hid, hdie]; omega
  have HT : Hid ((absS at0 : Int) % 12 = (at_ : Int)) := by rw [Hid, hate]; omega
  have ha1' : (absS di : Int) ≤ 9223372036854775807 := by omega
  have ha2' : (absS at0 : Int) ≤ 9223372036854775807 := by omega
  have hle : (len : Int) ≤ 9223372036854775807 := by omega
  have hO := DieR.start (die := die) a1
  clear hdie hate ha1 ha2 hl
  go_enter Try.func7, Try.ntmps7
  go_wp2_with fail
  refine (awake_ok w).mono ?_
  rintro e w1 ⟨rfl, hg1⟩
  go_wp2_with fail
  refine (HA1.out _).mono ?_
  rintro e w1 ⟨rfl, rfl⟩
  go_wp2_with (rw [HD.out])
  refine (HA2.out _).mono ?_
  rintro e w1 ⟨rfl, rfl⟩
  obtain ⟨W, hW⟩ : ∃ W, W = w1.alloc (.cells #[num 4, num at_, num die, num 0, num 0, num 0, num 0, .slice none 0 0] 52) := ⟨_, rfl⟩
  have hgW : w1.grownBy W none := by rw [hW]; exact World.grownBy_alloc w1 _ none
  have hbx : W.heap[w1.heap.size]? = some (.cells (fltL (dieF die at_)).toArray 52) := by rw [hW]; exact heap_alloc_new w1 _
  have Hw : Hid _ := hW
  have hM : FaultsM W (some ⟨w1.heap.size, 0, none⟩) [dieF die at_] := by
    refine ⟨.inr ⟨w1.heap.size, 0, rfl, fun k f hf j v hv => ?_⟩, fun f hf => ?_⟩
    · cases k with
      | zero =>
        simp at hf
        subst hf
        have := (At.of_row (o := j) hbx (by simpa using hv)).1
        simpa using this
      | succ k => simp at hf
    · simp at hf
      subst hf
      exact ⟨.inl rfl, by simp [dieF]⟩
  have HN : Hid (Calls Try.prog 10 #[shapeV 3 2 3 2, .slice (some ⟨w1.heap.size, 0, none⟩) 1 1] W (NewPost W (layAll (St.new 3 2 3 2) [dieF die at_]))) :=
    new_ok 3 2 3 2 (dims_new (by decide) (by decide) (by decide) (by decide) (by decide) (by decide) (by decide) (by decide)) (by decide) (fs := [dieF die at_]) (cap := 1) hM (fun f hf => by simp at hf; subst hf; exact dieF_may d1 a1) (by simp) (fun f hf => by simp at hf; subst hf; simp [dieF])
  clear hW hbx hM HA1 HA2
  go_wp2_with (first | rw [HT.out] | rw [← Hw.out])
  refine HN.out.mono ?_
  rintro e w2 ⟨M, lab, rfl, h2, st2⟩
  have st02 := Stp.from (grownBy_trans hg1 hgW) st2
  clear HD HT Hw HN st2 hgW hg1
  go_wp2_with fail
  go_loopw [10] (fun i wr => ∃ k : Nat, ∃ A lab', k ≤ 40 ∧ i = num k ∧ DieR A die at_ k ∧ Arr wr M A lab' ∧ Stp (fun _ => none) lab' w wr) (fun i _ => 40 - (intOf i).toNat)
  case atStart => exact ⟨0, _, lab, by omega, rfl, hO, h2, st02⟩
  case round =>
    clear hO h2 st02
    obtain ⟨k, A, lab', hk, rfl, hO, hA, st⟩ := hrel
    by_cases hlt : k < len ∧ k < 40
    · obtain ⟨hl1, hl2⟩ := hlt
      have q1 : (k : Int) < (len : Int) := by omega
      have q2 : (k : Int) < 40 := by omega
      have hxr := hx.more st.grownBy
      have hol : k < os.length := by rw [hxr.1]; exact hl1
      obtain ⟨g, off, rfl, hc⟩ := hxr.2.1.resolve_left (fun e => by rw [e] at hol; simp at hol)
      obtain ⟨c0, c1, c2, c3, c4⟩ := hc k hol
      obtain ⟨i0, i1, i2, i3, i4, i5, i6⟩ := hxr.2.2 k hol
      have HC : Hid (∀ w', w.grownBy w' none → w'.cell? ⟨g, off + k * 5, none⟩ = some (num (nthO os k).kind) ∧ w'.cell? ⟨g, off + k * 5 + 2, none⟩ = some (num (nthO os k).block)) := fun w' hg => by
        have hx2 := hx.more hg
        obtain ⟨g', off', e, hc2⟩ := hx2.2.1.resolve_left (fun e => by rw [e] at hol; simp at hol)
        have : g' = g ∧ off' = off := by simpa using e.symm
        obtain ⟨rfl, rfl⟩ := this
        exact ⟨(hc2 k hol).kind, (hc2 k hol).block⟩
      clear hc hxr i3 i4 i5 i6 c3 c4
      generalize (nthO os k).kind = kx at c0 i0 HC
      generalize (nthO os k).die = dx at c1 i1
      generalize (nthO os k).block = bx at c2 i2 HC
      have HK : Hid (∀ w, Calls Try.prog 14 #[num kx] w fun e w' => e = .returned (num (absS kx)) ∧ w' = w) := fun w => abs_ok kx i0 w
      have HDx : Hid (∀ w, Calls Try.prog 14 #[num dx] w fun e w' => e = .returned (num (absS dx)) ∧ w' = w) := fun w => abs_ok dx i1 w
      have HBx : Hid (∀ w, Calls Try.prog 14 #[num bx] w fun e w' => e = .returned (num (absS bx)) ∧ w' = w) := fun w => abs_ok bx i2 w
      have l0 := absS_le i0
      have l1 := absS_le i1
      have l2 := absS_le i2
      have l0' : (absS kx : Int) ≤ 9223372036854775807 := by omega
      have l1' : (absS dx : Int) ≤ 9223372036854775807 := by omega
      have l2' : (absS bx : Int) ≤ 9223372036854775807 := by omega
      obtain ⟨d, hd⟩ : ∃ d, d = absS dx % 3 := ⟨_, rfl⟩
      obtain ⟨b, hb⟩ : ∃ b, b = absS bx % 2 := ⟨_, rfl⟩
      have HdE : Hid ((absS dx : Int) % 3 = (d : Int)) := by rw [Hid, hd]; omega
      have HbE : Hid ((absS bx : Int) % 2 = (b : Int)) := by rw [Hid, hb]; omega
      have hd3 : d < 3 := by omega
      have hb2 : b < 2 := by omega
      have HOp : Hid (Calls Try.prog 20 #[ptr M.a 0] wr fun e w' => e = .returned (num k) ∧ wr.grownBy w' none) := by
        have := ops_ok hA hO.bd (by omega)
        rw [hO.num] at this
        exact this
      have hD3 : d < A.D := by rw [hO.d]; exact hd3
      have hB2 : b < A.B := by rw [hO.b]; exact hb2
      clear hd hb l0 l1 l2 i0 i1 i2
      have hcase : (d = die ∧ at_ ≤ k) ∨ d ≠ die ∨ (d = die ∧ ¬ at_ ≤ k) := by omega
      have hk3 : absS kx % 3 = 0 ∨ absS kx % 3 = 1 ∨ absS kx % 3 = 2 := by omega
      rcases hk3 with hk3 | hk3 | hk3
      · have HkE : Hid ((absS kx : Int) % 3 = 0) := by rw [Hid]; omega
        clear hk3
        go_wp2_with fail
        refine (HDx.out _).mono ?_
        rintro e wr ⟨rfl, rfl⟩
        go_wp2_with (rw [HdE.out])
        refine (HBx.out _).mono ?_
        rintro e wr ⟨rfl, rfl⟩
        go_wp2_with (rw [HbE.out])
        refine HOp.out.mono ?_
        rintro e w4 ⟨rfl, hg4⟩
        have h4 := hA.more hg4
        have st4 := st.grown hg4
        obtain ⟨c0', c2'⟩ := HC.out w4 st4.grownBy
        clear hA st hg4 HOp HC c0 c1 c2
        go_wp2_with fail
        refine (HK.out _).mono ?_
        rintro e w4 ⟨rfl, rfl⟩
        clear HDx HBx HK
        have HNx : Hid (Calls Try.prog 19 #[ptr M.a 0, num d, num b] w4 _) := next_ok h4 d b hD3 hB2
        have hnb := hO.bd.nx d b
        rw [hO.p] at hnb
        go_wp2_with (rw [HkE.out])
        refine HNx.out.mono ?_
        rintro e w4 ⟨rfl, rfl⟩
        clear HNx
        by_cases hnx : (A.blk d b).next < 0 ∨ 2 < (A.blk d b).next
        · have hb9 : (decide ((A.blk d b).next < 0) || decide (2 < (A.blk d b).next)) = true := by simp; omega
          by_cases hn0 : (A.blk d b).next < 0
          · skip
            obtain ⟨e5, hO5⟩ := hO.erase hk d b
            have hE := Erase_done h4 hO.bd (by omega) d b hO.on hD3 hB2
            have HE : Hid (Calls Try.prog 15 #[ptr M.a 0, num d, num b] w4 (OpPost w4 M lab' (A.doErase d b))) := hE
            generalize A.doErase d b = R5 at HE hO5 e5
            obtain ⟨A5, r5⟩ := R5
            simp only at e5 hO5
            subst e5
            clear hE
            go_wp2_with fail
            refine HE.out.mono ?_
            rintro e w5 ⟨lab5, rfl, h5, st5⟩
            simp only at h5 ⊢
            clear HE
            have st05 := st4.trans st5
            have HO5 : Hid (∀ w', Arr w' M A5 lab5 → Calls Try.prog 20 #[ptr M.a 0] w' fun e w'' => e = .returned (num ((k : Int) + 1)) ∧ w'.grownBy w'' none) := fun w' h' => by
              have := ops_ok h' hO5.bd (by omega)
              rw [hO5.num] at this
              exact this
            have b9 : ((k : Int) + 1 != (k : Int) + 1) = false := by simp
            rcases hcase with ⟨e1, e2⟩ | e1 | ⟨e1, e2⟩
            · have f1 : ((d : Int) == (die : Int)) = true := by simp; omega
              have f2 : (at_ : Int) ≤ (k : Int) := by omega
              have hr : dieRet die at_ d k = 41 := by unfold dieRet; rw [if_pos ⟨e1, e2⟩]
              rw [hr]
              clear hr e1 e2 st5 st4
              go_wp2_with fail
              refine (HO5.out _ h5).mono ?_
              rintro e w6 ⟨rfl, hg6⟩
              have h6 := h5.more hg6
              have st06 := st05.grown hg6
              clear hg6 h5 st05 HO5
              go_wp2_with fail
              exact ⟨⟨k + 1, _, lab5, by omega, by go_num, hO5, h6, st06⟩, by simp [intOf]; omega⟩
            · have f1 : ((d : Int) == (die : Int)) = false := by simp; omega
              have hr : dieRet die at_ d k = 0 := by unfold dieRet; rw [if_neg (fun h => e1 h.1)]
              rw [hr]
              clear hr e1 st5 st4
              go_wp2_with fail
              refine (HO5.out _ h5).mono ?_
              rintro e w6 ⟨rfl, hg6⟩
              have h6 := h5.more hg6
              have st06 := st05.grown hg6
              clear hg6 h5 st05 HO5
              go_wp2_with fail
              exact ⟨⟨k + 1, _, lab5, by omega, by go_num, hO5, h6, st06⟩, by simp [intOf]; omega⟩
            · have f1 : ((d : Int) == (die : Int)) = true := by simp; omega
              have f2 : ¬ (at_ : Int) ≤ (k : Int) := by omega
              have hr : dieRet die at_ d k = 0 := by unfold dieRet; rw [if_neg (fun h => e2 h.2)]
              rw [hr]
              clear hr e1 e2 st5 st4
              go_wp2_with fail
              refine (HO5.out _ h5).mono ?_
              rintro e w6 ⟨rfl, hg6⟩
              have h6 := h5.more hg6
              have st06 := st05.grown hg6
              clear hg6 h5 st05 HO5
              go_wp2_with fail
              exact ⟨⟨k + 1, _, lab5, by omega, by go_num, hO5, h6, st06⟩, by simp [intOf]; omega⟩
          · skip
            obtain ⟨e5, hO5⟩ := hO.erase hk d b
            have hE := Erase_done h4 hO.bd (by omega) d b hO.on hD3 hB2
            have HE : Hid (Calls Try.prog 15 #[ptr M.a 0, num d, num b] w4 (OpPost w4 M lab' (A.doErase d b))) := hE
            generalize A.doErase d b = R5 at HE hO5 e5
            obtain ⟨A5, r5⟩ := R5
            simp only at e5 hO5
            subst e5
            clear hE
            go_wp2_with fail
            refine HE.out.mono ?_
            rintro e w5 ⟨lab5, rfl, h5, st5⟩
            simp only at h5 ⊢
            clear HE
            have st05 := st4.trans st5
            have HO5 : Hid (∀ w', Arr w' M A5 lab5 → Calls Try.prog 20 #[ptr M.a 0] w' fun e w'' => e = .returned (num ((k : Int) + 1)) ∧ w'.grownBy w'' none) := fun w' h' => by
              have := ops_ok h' hO5.bd (by omega)
              rw [hO5.num] at this
              exact this
            have b9 : ((k : Int) + 1 != (k : Int) + 1) = false := by simp
            rcases hcase with ⟨e1, e2⟩ | e1 | ⟨e1, e2⟩
            · have f1 : ((d : Int) == (die : Int)) = true := by simp; omega
              have f2 : (at_ : Int) ≤ (k : Int) := by omega
              have hr : dieRet die at_ d k = 41 := by unfold dieRet; rw [if_pos ⟨e1, e2⟩]
              rw [hr]
              clear hr e1 e2 st5 st4
              go_wp2_with fail
              refine (HO5.out _ h5).mono ?_
              rintro e w6 ⟨rfl, hg6⟩
              have h6 := h5.more hg6
              have st06 := st05.grown hg6
              clear hg6 h5 st05 HO5
              go_wp2_with fail
              exact ⟨⟨k + 1, _, lab5, by omega, by go_num, hO5, h6, st06⟩, by simp [intOf]; omega⟩
            · have f1 : ((d : Int) == (die : Int)) = false := by simp; omega
              have hr : dieRet die at_ d k = 0 := by unfold dieRet; rw [if_neg (fun h => e1 h.1)]
              rw [hr]
              clear hr e1 st5 st4
              go_wp2_with fail
              refine (HO5.out _ h5).mono ?_
              rintro e w6 ⟨rfl, hg6⟩
              have h6 := h5.more hg6
              have st06 := st05.grown hg6
              clear hg6 h5 st05 HO5
              go_wp2_with fail
              exact ⟨⟨k + 1, _, lab5, by omega, by go_num, hO5, h6, st06⟩, by simp [intOf]; omega⟩
            · have f1 : ((d : Int) == (die : Int)) = true := by simp; omega
              have f2 : ¬ (at_ : Int) ≤ (k : Int) := by omega
              have hr : dieRet die at_ d k = 0 := by unfold dieRet; rw [if_neg (fun h => e2 h.2)]
              rw [hr]
              clear hr e1 e2 st5 st4
              go_wp2_with fail
              refine (HO5.out _ h5).mono ?_
              rintro e w6 ⟨rfl, hg6⟩
              have h6 := h5.more hg6
              have st06 := st05.grown hg6
              clear hg6 h5 st05 HO5
              go_wp2_with fail
              exact ⟨⟨k + 1, _, lab5, by omega, by go_num, hO5, h6, st06⟩, by simp [intOf]; omega⟩
        · skip
          obtain ⟨p, hp⟩ := Int.eq_ofNat_of_zero_le (show 0 ≤ (A.blk d b).next by omega)
          have hp3 : p < 3 := by omega
          obtain ⟨V, hV⟩ : ∃ V, V = w4.alloc (.cells #[.int .u8 1, .int .u8 2] 5) := ⟨_, rfl⟩
          have hrV : V.heap[w4.heap.size]? = some (.cells #[.int .u8 1, .int .u8 2] 5) := by rw [hV]; exact heap_alloc_new w4 _
          have hAV : Arr V M A lab' := by rw [hV]; exact h4.alloc _
          have sV : Stp (fun _ => none) lab' w V := by rw [hV]; exact st4.alloc _
          have HV : Hid _ := hV
          obtain ⟨e5, hO5⟩ := hO.prog hk d b p [1, 2] (by omega)
          have hE := Program_done hAV hO.bd (by omega) d b p w4.heap.size 0 2 hO.on hD3 hB2 (by rw [hO.p]; exact hp3) hp (bs := [1, 2]) (src_two hrV (by decide) (by decide)) hO.y.symm (by rw [hO.y]; decide) (h4.fresh (Nat.le_refl _))
          rw [hO.y] at hE
          have HE : Hid (Calls Try.prog 17 #[ptr M.a 0, num d, num b, num p, .slice (some ⟨w4.heap.size, 0, none⟩) 2 2] V (OpPost V M lab' (A.doProgram d b p [1, 2]))) := hE
          generalize A.doProgram d b p [1, 2] = R5 at HE hO5 e5
          obtain ⟨A5, r5⟩ := R5
          simp only at e5 hO5
          subst e5
          rw [hp]
          have m1 : ¬ (p : Int) < 0 := by omega
          have m2 : ¬ (2 : Int) < (p : Int) := by omega
          clear hE hp hnx hnb hrV hAV hV
          go_wp2_with (rw [← HV.out])
          refine HE.out.mono ?_
          rintro e w5 ⟨lab5, rfl, h5, st5⟩
          simp only at h5 ⊢
          clear HE HV
          have st05 := sV.trans st5
          have HO5 : Hid (∀ w', Arr w' M A5 lab5 → Calls Try.prog 20 #[ptr M.a 0] w' fun e w'' => e = .returned (num ((k : Int) + 1)) ∧ w'.grownBy w'' none) := fun w' h' => by
            have := ops_ok h' hO5.bd (by omega)
            rw [hO5.num] at this
            exact this
          have b9 : ((k : Int) + 1 != (k : Int) + 1) = false := by simp
          rcases hcase with ⟨e1, e2⟩ | e1 | ⟨e1, e2⟩
          · have f1 : ((d : Int) == (die : Int)) = true := by simp; omega
            have f2 : (at_ : Int) ≤ (k : Int) := by omega
            have hr : dieRet die at_ d k = 41 := by unfold dieRet; rw [if_pos ⟨e1, e2⟩]
            rw [hr]
            clear hr e1 e2 st5 sV
            go_wp2_with fail
            refine (HO5.out _ h5).mono ?_
            rintro e w6 ⟨rfl, hg6⟩
            have h6 := h5.more hg6
            have st06 := st05.grown hg6
            clear hg6 h5 st05 HO5
            go_wp2_with fail
            exact ⟨⟨k + 1, _, lab5, by omega, by go_num, hO5, h6, st06⟩, by simp [intOf]; omega⟩
          · have f1 : ((d : Int) == (die : Int)) = false := by simp; omega
            have hr : dieRet die at_ d k = 0 := by unfold dieRet; rw [if_neg (fun h => e1 h.1)]
            rw [hr]
            clear hr e1 st5 sV
            go_wp2_with fail
            refine (HO5.out _ h5).mono ?_
            rintro e w6 ⟨rfl, hg6⟩
            have h6 := h5.more hg6
            have st06 := st05.grown hg6
            clear hg6 h5 st05 HO5
            go_wp2_with fail
            exact ⟨⟨k + 1, _, lab5, by omega, by go_num, hO5, h6, st06⟩, by simp [intOf]; omega⟩
          · have f1 : ((d : Int) == (die : Int)) = true := by simp; omega
            have f2 : ¬ (at_ : Int) ≤ (k : Int) := by omega
            have hr : dieRet die at_ d k = 0 := by unfold dieRet; rw [if_neg (fun h => e2 h.2)]
            rw [hr]
            clear hr e1 e2 st5 sV
            go_wp2_with fail
            refine (HO5.out _ h5).mono ?_
            rintro e w6 ⟨rfl, hg6⟩
            have h6 := h5.more hg6
            have st06 := st05.grown hg6
            clear hg6 h5 st05 HO5
            go_wp2_with fail
            exact ⟨⟨k + 1, _, lab5, by omega, by go_num, hO5, h6, st06⟩, by simp [intOf]; omega⟩
      · have HkE : Hid ((absS kx : Int) % 3 = 1) := by rw [Hid]; omega
        clear hk3
        go_wp2_with fail
        refine (HDx.out _).mono ?_
        rintro e wr ⟨rfl, rfl⟩
        go_wp2_with (rw [HdE.out])
        refine (HBx.out _).mono ?_
        rintro e wr ⟨rfl, rfl⟩
        go_wp2_with (rw [HbE.out])
        refine HOp.out.mono ?_
        rintro e w4 ⟨rfl, hg4⟩
        have h4 := hA.more hg4
        have st4 := st.grown hg4
        obtain ⟨c0', c2'⟩ := HC.out w4 st4.grownBy
        clear hA st hg4 HOp HC c0 c1 c2
        go_wp2_with fail
        refine (HK.out _).mono ?_
        rintro e w4 ⟨rfl, rfl⟩
        clear HDx HBx HK
        obtain ⟨e5, hO5⟩ := hO.erase hk d b
        have hE := Erase_done h4 hO.bd (by omega) d b hO.on hD3 hB2
        have HE : Hid (Calls Try.prog 15 #[ptr M.a 0, num d, num b] w4 (OpPost w4 M lab' (A.doErase d b))) := hE
        generalize A.doErase d b = R5 at HE hO5 e5
        obtain ⟨A5, r5⟩ := R5
        simp only at e5 hO5
        subst e5
        clear hE
        go_wp2_with (rw [HkE.out])
        refine HE.out.mono ?_
        rintro e w5 ⟨lab5, rfl, h5, st5⟩
        simp only at h5 ⊢
        clear HE
        have st05 := st4.trans st5
        have HO5 : Hid (∀ w', Arr w' M A5 lab5 → Calls Try.prog 20 #[ptr M.a 0] w' fun e w'' => e = .returned (num ((k : Int) + 1)) ∧ w'.grownBy w'' none) := fun w' h' => by
          have := ops_ok h' hO5.bd (by omega)
          rw [hO5.num] at this
          exact this
        have b9 : ((k : Int) + 1 != (k : Int) + 1) = false := by simp
        rcases hcase with ⟨e1, e2⟩ | e1 | ⟨e1, e2⟩
        · have f1 : ((d : Int) == (die : Int)) = true := by simp; omega
          have f2 : (at_ : Int) ≤ (k : Int) := by omega
          have hr : dieRet die at_ d k = 41 := by unfold dieRet; rw [if_pos ⟨e1, e2⟩]
          rw [hr]
          clear hr e1 e2 st5 st4
          go_wp2_with fail
          refine (HO5.out _ h5).mono ?_
          rintro e w6 ⟨rfl, hg6⟩
          have h6 := h5.more hg6
          have st06 := st05.grown hg6
          clear hg6 h5 st05 HO5
          go_wp2_with fail
          exact ⟨⟨k + 1, _, lab5, by omega, by go_num, hO5, h6, st06⟩, by simp [intOf]; omega⟩
        · have f1 : ((d : Int) == (die : Int)) = false := by simp; omega
          have hr : dieRet die at_ d k = 0 := by unfold dieRet; rw [if_neg (fun h => e1 h.1)]
          rw [hr]
          clear hr e1 st5 st4
          go_wp2_with fail
          refine (HO5.out _ h5).mono ?_
          rintro e w6 ⟨rfl, hg6⟩
          have h6 := h5.more hg6
          have st06 := st05.grown hg6
          clear hg6 h5 st05 HO5
          go_wp2_with fail
          exact ⟨⟨k + 1, _, lab5, by omega, by go_num, hO5, h6, st06⟩, by simp [intOf]; omega⟩
        · have f1 : ((d : Int) == (die : Int)) = true := by simp; omega
          have f2 : ¬ (at_ : Int) ≤ (k : Int) := by omega
          have hr : dieRet die at_ d k = 0 := by unfold dieRet; rw [if_neg (fun h => e2 h.2)]
          rw [hr]
          clear hr e1 e2 st5 st4
          go_wp2_with fail
          refine (HO5.out _ h5).mono ?_
          rintro e w6 ⟨rfl, hg6⟩
          have h6 := h5.more hg6
          have st06 := st05.grown hg6
          clear hg6 h5 st05 HO5
          go_wp2_with fail
          exact ⟨⟨k + 1, _, lab5, by omega, by go_num, hO5, h6, st06⟩, by simp [intOf]; omega⟩
      · have HkE : Hid ((absS kx : Int) % 3 = 2) := by rw [Hid]; omega
        clear hk3
        go_wp2_with fail
        refine (HDx.out _).mono ?_
        rintro e wr ⟨rfl, rfl⟩
        go_wp2_with (rw [HdE.out])
        refine (HBx.out _).mono ?_
        rintro e wr ⟨rfl, rfl⟩
        go_wp2_with (rw [HbE.out])
        refine HOp.out.mono ?_
        rintro e w4 ⟨rfl, hg4⟩
        have h4 := hA.more hg4
        have st4 := st.grown hg4
        obtain ⟨c0', c2'⟩ := HC.out w4 st4.grownBy
        clear hA st hg4 HOp HC c0 c1 c2
        go_wp2_with fail
        refine (HK.out _).mono ?_
        rintro e w4 ⟨rfl, rfl⟩
        clear HDx HBx HK
        obtain ⟨e5, hO5⟩ := hO.read hk d b 0
        have hE := Read_done0 h4 hO.bd (by omega) d b 0 hO.on hD3 hB2 (by rw [hO.p]; decide) (hO.flips d b)
        have HE : Hid (Calls Try.prog 18 #[ptr M.a 0, num d, num b, num 0] w4 (ReadPost w4 M lab' (A.doRead0 d b 0))) := hE
        generalize A.doRead0 d b 0 = R5 at HE hO5 e5
        obtain ⟨A5, l5, r5⟩ := R5
        simp only at e5 hO5
        subst e5
        clear hE
        go_wp2_with (rw [HkE.out])
        refine HE.out.mono ?_
        rintro e w5 ⟨lab5, v5, rfl, h5, st5, _⟩
        simp only at h5 ⊢
        clear HE
        have st05 := st4.trans st5
        have HO5 : Hid (∀ w', Arr w' M A5 lab5 → Calls Try.prog 20 #[ptr M.a 0] w' fun e w'' => e = .returned (num ((k : Int) + 1)) ∧ w'.grownBy w'' none) := fun w' h' => by
          have := ops_ok h' hO5.bd (by omega)
          rw [hO5.num] at this
          exact this
        have b9 : ((k : Int) + 1 != (k : Int) + 1) = false := by simp
        rcases hcase with ⟨e1, e2⟩ | e1 | ⟨e1, e2⟩
        · have f1 : ((d : Int) == (die : Int)) = true := by simp; omega
          have f2 : (at_ : Int) ≤ (k : Int) := by omega
          have hr : dieRet die at_ d k = 41 := by unfold dieRet; rw [if_pos ⟨e1, e2⟩]
          rw [hr]
          clear hr e1 e2 st5 st4
          go_wp2_with fail
          refine (HO5.out _ h5).mono ?_
          rintro e w6 ⟨rfl, hg6⟩
          have h6 := h5.more hg6
          have st06 := st05.grown hg6
          clear hg6 h5 st05 HO5
          go_wp2_with fail
          exact ⟨⟨k + 1, _, lab5, by omega, by go_num, hO5, h6, st06⟩, by simp [intOf]; omega⟩
        · have f1 : ((d : Int) == (die : Int)) = false := by simp; omega
          have hr : dieRet die at_ d k = 0 := by unfold dieRet; rw [if_neg (fun h => e1 h.1)]
          rw [hr]
          clear hr e1 st5 st4
          go_wp2_with fail
          refine (HO5.out _ h5).mono ?_
          rintro e w6 ⟨rfl, hg6⟩
          have h6 := h5.more hg6
          have st06 := st05.grown hg6
          clear hg6 h5 st05 HO5
          go_wp2_with fail
          exact ⟨⟨k + 1, _, lab5, by omega, by go_num, hO5, h6, st06⟩, by simp [intOf]; omega⟩
        · have f1 : ((d : Int) == (die : Int)) = true := by simp; omega
          have f2 : ¬ (at_ : Int) ≤ (k : Int) := by omega
          have hr : dieRet die at_ d k = 0 := by unfold dieRet; rw [if_neg (fun h => e2 h.2)]
          rw [hr]
          clear hr e1 e2 st5 st4
          go_wp2_with fail
          refine (HO5.out _ h5).mono ?_
          rintro e w6 ⟨rfl, hg6⟩
          have h6 := h5.more hg6
          have st06 := st05.grown hg6
          clear hg6 h5 st05 HO5
          go_wp2_with fail
          exact ⟨⟨k + 1, _, lab5, by omega, by go_num, hO5, h6, st06⟩, by simp [intOf]; omega⟩
    · by_cases h1 : (k : Int) < (len : Int)
      · have h2 : ¬ (k : Int) < 40 := by omega
        go_wp2
        go_ret
        exact ⟨rfl, st.grownBy⟩
      · go_wp2
        go_ret
        exact ⟨rfl, st.grownBy⟩
end Nd
end Go.Proofs.Ytojamicakkecbaa
