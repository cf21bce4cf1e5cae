/- Layer 4 (nand): faults that may not be; New that refuses. -/
import Derived.Test.YtojamicakkecbabOu
namespace Go.Proofs.Ytojamicakkecbab
open Go.RowKit Go.Maps
namespace Nd
theorem below_no {n most : Int} (h : ¬ (0 ≤ n ∧ n < most)) (w : World) : Calls Try.prog 38 #[num n, num most] w fun e w' => e = .returned (.bool false) ∧ w' = w := by
  have := below_ok n most w
  rwa [show (decide (0 ≤ n) && decide (n < most)) = false by simpa [Classical.not_and_iff_not_or_not] using h] at this
set_option maxHeartbeats 6400000 in
set_option maxRecDepth 4000 in
theorem faultMay_no {w : World} {A : St} (hD : Dims A) {f : Flt} (hai : I64 f.at_) (hpi : I64 f.part) (hf : ¬ FMay A f) (hb : BitsR w f) (hl : f.bits.length ≤ 1000000000000000) :
    Calls Try.prog 32 #[shapeV A.D A.B A.P A.Y, fltV f] w fun e w' => e = .returned (.bool false) ∧ w.grownBy w' none := by
  obtain ⟨kind, at_, die, block, page, times, part, bits, ba, bc⟩ := f
  obtain ⟨W, hW⟩ : ∃ W, W = (w.alloc (boxO A.D A.B A.P A.Y)).alloc (.cells (fltL ⟨kind, at_, die, block, page, times, part, bits, ba, bc⟩).toArray 47) := ⟨_, rfl⟩
  have hg1 := World.grownBy_alloc w (boxO A.D A.B A.P A.Y) none
  have hg2 := World.grownBy_alloc (w.alloc (boxO A.D A.B A.P A.Y)) (.cells (fltL ⟨kind, at_, die, block, page, times, part, bits, ba, bc⟩).toArray 47) none
  have hs1 : (w.alloc (boxO A.D A.B A.P A.Y)).heap.size = w.heap.size + 1 := by simp
  have hbx : W.heap[w.heap.size]? = some (boxO A.D A.B A.P A.Y) := by rw [hW, hg2.block _ (by omega) (by simp)]; exact heap_alloc_new w _
  have hfx : W.heap[w.heap.size + 1]? = some (.cells (fltL ⟨kind, at_, die, block, page, times, part, bits, ba, bc⟩).toArray 47) := by
    rw [hW, ← hs1]; exact heap_alloc_new _ _
  have hgW : w.grownBy W none := by rw [hW]; exact grownBy_trans hg1 hg2
  have hbW := hb.more hgW
  have Hw : Hid _ := hW
  have s0 : W.cell? ⟨w.heap.size, 0, none⟩ = some (num A.D) := (At.of_row (o := 0) hbx rfl).1
  have s1 : W.cell? ⟨w.heap.size, 1, none⟩ = some (num A.B) := (At.of_row (o := 1) hbx rfl).1
  have s2 : W.cell? ⟨w.heap.size, 2, none⟩ = some (num A.P) := (At.of_row (o := 2) hbx rfl).1
  have s3 : W.cell? ⟨w.heap.size, 3, none⟩ = some (num A.Y) := (At.of_row (o := 3) hbx rfl).1
  have f0 : W.cell? ⟨w.heap.size + 1, 0, none⟩ = some (num kind) := (At.of_row (o := 0) hfx rfl).1
  have f1 : W.cell? ⟨w.heap.size + 1, 1, none⟩ = some (num at_) := (At.of_row (o := 1) hfx rfl).1
  have f2 : W.cell? ⟨w.heap.size + 1, 2, none⟩ = some (num die) := (At.of_row (o := 2) hfx rfl).1
  have f3 : W.cell? ⟨w.heap.size + 1, 3, none⟩ = some (num block) := (At.of_row (o := 3) hfx rfl).1
  have f4 : W.cell? ⟨w.heap.size + 1, 4, none⟩ = some (num page) := (At.of_row (o := 4) hfx rfl).1
  have f5 : W.cell? ⟨w.heap.size + 1, 5, none⟩ = some (num times) := (At.of_row (o := 5) hfx rfl).1
  have f6 : W.cell? ⟨w.heap.size + 1, 6, none⟩ = some (num part) := (At.of_row (o := 6) hfx rfl).1
  have f7 : W.cell? ⟨w.heap.size + 1, 7, none⟩ = some (.slice ba bits.length bc) := (At.of_row (o := 7) hfx rfl).1
  simp only at hai hpi hl hbW
  have hf' : ¬ ((1 ≤ kind ∧ kind ≤ 6 ∧ 0 ≤ at_ ∧ 0 ≤ times ∧ 0 ≤ part) ∧ (0 ≤ die ∧ die < A.D) ∧ (0 ≤ block ∧ block < A.B) ∧ (0 ≤ page ∧ page < A.P) ∧ ∀ i, i < bits.length → 0 ≤ nthI bits i ∧ nthI bits i < 8 * A.Y) := fun ⟨⟨k1, k2, a0, t0, p0⟩, ⟨d0, d1⟩, ⟨b0, b1⟩, ⟨g0, g1⟩, hb⟩ => hf ⟨k1, k2, a0, hai, t0, p0, hpi, d0, d1, b0, b1, g0, g1, hb⟩
  have HF : Hid _ := hf'
  have y2 : (A.Y : Int) ≤ 4096 := by have := hD.y2; omega
  have hnn := hnot
  have hl' : (bits.length : Int) ≤ 1000000000000000 := by omega
  clear hW hg1 hg2 hbx hfx hs1 hai hpi hb hf hf'
  go_enter Try.func32, Try.ntmps32
  go_wp2_with (rw [← Hw.out])
  go_loopw [10] (fun i wr => wr = W ∧ ∃ k : Nat, k ≤ bits.length ∧ i = num k ∧ ∀ j, j < k → 0 ≤ nthI bits j ∧ nthI bits j < 8 * A.Y) (fun i _ => bits.length - (intOf i).toNat)
  case atStart => exact ⟨rfl, 0, Nat.zero_le _, rfl, fun j hj => by omega⟩
  case round =>
    obtain ⟨rfl, k, hk, rfl, hall⟩ := hrel
    by_cases hlt : k < bits.length
    · have q1 : (k : Int) < (bits.length : Int) := by omega
      obtain ⟨g, off, hba, hc⟩ := hbW.resolve_left (fun e => by simp only at e; rw [e] at hlt; simp at hlt)
      simp only at hba
      subst hba
      have hck := hc k hlt
      simp only at hck
      by_cases hx : 0 ≤ nthI bits k ∧ nthI bits k < 8 * A.Y
      · have HAll : Hid (∀ j, j < k + 1 → 0 ≤ nthI bits j ∧ nthI bits j < 8 * A.Y) := fun j hj => by
          by_cases e : j = k
          · rw [e]; exact hx
          · exact hall j (by omega)
        obtain ⟨x1, x2⟩ := hx
        generalize nthI bits k = x at hck x1 x2
        have HBl : Hid (∀ w, Calls Try.prog 38 #[num x, num (8 * A.Y)] w fun e w' => e = .returned (.bool true) ∧ w' = w) := fun w => below_yes x1 x2 w
        clear hc hbW hall
        go_wp2_with fail
        refine (HBl.out _).mono ?_
        rintro e w1 ⟨rfl, rfl⟩
        go_wp2
        go_roundw
        case rel => exact ⟨trivial, k + 1, by omega, by go_num, HAll.out⟩
        case measure => simp [intOf]; omega
      · generalize nthI bits k = x at hck hx
        have HBl : Hid (∀ w, Calls Try.prog 38 #[num x, num (8 * A.Y)] w fun e w' => e = .returned (.bool false) ∧ w' = w) := fun w => below_no hx w
        clear hc hbW hall hx
        go_wp2_with fail
        refine (HBl.out _).mono ?_
        rintro e w1 ⟨rfl, rfl⟩
        go_wp2
        go_ret
        exact ⟨rfl, hgW⟩
    · obtain rfl : k = bits.length := by omega
      have q1 : ¬ (bits.length : Int) < (bits.length : Int) := by omega
      have HAll : Hid _ := hall
      clear hbW hall
      by_cases k1 : 1 ≤ kind
      case neg =>
        have z1 : decide (1 ≤ kind) = false := by simpa using k1
        go_wp2
        go_ret
        exact ⟨rfl, hgW⟩
      have qk1 : decide (1 ≤ kind) = true := by simpa using k1
      by_cases k2 : kind ≤ 6
      case neg =>
        have z1 : decide (kind ≤ 6) = false := by simpa using k2
        go_wp2
        go_ret
        exact ⟨rfl, hgW⟩
      have qk2 : decide (kind ≤ 6) = true := by simpa using k2
      by_cases a0 : 0 ≤ at_
      case neg =>
        have z1 : decide (0 ≤ at_) = false := by simpa using a0
        go_wp2
        go_ret
        exact ⟨rfl, hgW⟩
      have qa0 : decide (0 ≤ at_) = true := by simpa using a0
      by_cases t0 : 0 ≤ times
      case neg =>
        have z1 : decide (0 ≤ times) = false := by simpa using t0
        go_wp2
        go_ret
        exact ⟨rfl, hgW⟩
      have qt0 : decide (0 ≤ times) = true := by simpa using t0
      by_cases p0 : 0 ≤ part
      case neg =>
        have z1 : decide (0 ≤ part) = false := by simpa using p0
        go_wp2
        go_ret
        exact ⟨rfl, hgW⟩
      have qp0 : decide (0 ≤ part) = true := by simpa using p0
      by_cases hd : 0 ≤ die ∧ die < A.D
      case neg =>
        have HBd : Hid (∀ w, Calls Try.prog 38 #[num die, num A.D] w fun e w' => e = .returned (.bool false) ∧ w' = w) := fun w => below_no hd w
        clear hd
        go_wp2_with fail
        refine (HBd.out _).mono ?_
        rintro e w1 ⟨rfl, rfl⟩
        go_wp2
        go_ret
        exact ⟨rfl, hgW⟩
      have HBd : Hid (∀ w, Calls Try.prog 38 #[num die, num A.D] w fun e w' => e = .returned (.bool true) ∧ w' = w) := fun w => below_yes hd.1 hd.2 w
      by_cases hb : 0 ≤ block ∧ block < A.B
      case neg =>
        have HBb : Hid (∀ w, Calls Try.prog 38 #[num block, num A.B] w fun e w' => e = .returned (.bool false) ∧ w' = w) := fun w => below_no hb w
        clear hb
        go_wp2_with fail
        refine (HBd.out _).mono ?_
        rintro e w1 ⟨rfl, rfl⟩
        go_wp2_with fail
        refine (HBb.out _).mono ?_
        rintro e w1 ⟨rfl, rfl⟩
        go_wp2
        go_ret
        exact ⟨rfl, hgW⟩
      have HBb : Hid (∀ w, Calls Try.prog 38 #[num block, num A.B] w fun e w' => e = .returned (.bool true) ∧ w' = w) := fun w => below_yes hb.1 hb.2 w
      by_cases hg : 0 ≤ page ∧ page < A.P
      case neg =>
        have HBg : Hid (∀ w, Calls Try.prog 38 #[num page, num A.P] w fun e w' => e = .returned (.bool false) ∧ w' = w) := fun w => below_no hg w
        clear hg
        go_wp2_with fail
        refine (HBd.out _).mono ?_
        rintro e w1 ⟨rfl, rfl⟩
        go_wp2_with fail
        refine (HBb.out _).mono ?_
        rintro e w1 ⟨rfl, rfl⟩
        go_wp2_with fail
        refine (HBg.out _).mono ?_
        rintro e w1 ⟨rfl, rfl⟩
        go_wp2
        go_ret
        exact ⟨rfl, hgW⟩
      have HBg : Hid (∀ w, Calls Try.prog 38 #[num page, num A.P] w fun e w' => e = .returned (.bool true) ∧ w' = w) := fun w => below_yes hg.1 hg.2 w
      exact absurd ⟨⟨k1, k2, a0, t0, p0⟩, hd, hb, hg, HAll.out⟩ HF.out
set_option maxHeartbeats 1600000 in
set_option maxRecDepth 4000 in
theorem faultsMay_no {w : World} {A : St} (hD : Dims A) {ao : Option Addr} {cap : Nat} {fs : List Flt} (hM : FaultsM w ao fs) (hi : ∀ f ∈ fs, I64 f.at_ ∧ I64 f.part) (hf : ¬ ∀ f ∈ fs, FMay A f) (hl : fs.length ≤ 2000) :
    Calls Try.prog 16 #[shapeV A.D A.B A.P A.Y, .slice ao fs.length cap] w fun e w' => e = .returned (.bool false) ∧ w.grownBy w' none := by
  have HF : Hid _ := hf
  clear hf
  obtain ⟨W, hW⟩ : ∃ W, W = w.alloc (boxO A.D A.B A.P A.Y) := ⟨_, rfl⟩
  have hgW : w.grownBy W none := by rw [hW]; exact World.grownBy_alloc w _ none
  have hbx : W.heap[w.heap.size]? = some (boxO A.D A.B A.P A.Y) := by rw [hW]; exact heap_alloc_new w _
  have Hw : Hid _ := hW
  have hl' : (fs.length : Int) ≤ 2000 := by omega
  have hl2 : ¬ (2000 : Int) < (fs.length : Int) := by omega
  have hnn := hnot
  clear hW
  go_enter Try.func16, Try.ntmps16
  go_wp2_with (rw [← Hw.out])
  go_loopw [12] (fun i wr => w.grownBy wr none ∧ wr.heap[w.heap.size]? = some (boxO A.D A.B A.P A.Y) ∧ ∃ k : Nat, k ≤ fs.length ∧ i = num k ∧ ∀ j f, j < k → fs[j]? = some f → FMay A f) (fun i _ => fs.length - (intOf i).toNat)
  case atStart => exact ⟨hgW, hbx, 0, Nat.zero_le _, rfl, fun j f hj => by omega⟩
  case round =>
    clear hgW hbx Hw
    obtain ⟨hgr, hbr, k, hk, rfl, hall⟩ := hrel
    by_cases hlt : k < fs.length
    · have q1 : (k : Int) < (fs.length : Int) := by omega
      have hMr := hM.more hgr
      obtain ⟨g, off, rfl, hc⟩ := hMr.1.resolve_left (fun e => by rw [e] at hlt; simp at hlt)
      obtain ⟨f, hfk⟩ : ∃ f, fs[k]? = some f := ⟨_, List.getElem?_eq_getElem hlt⟩
      have hmem : f ∈ fs := List.mem_of_getElem? hfk
      have hck := hc k f hfk
      have hbits := hMr.2 f hmem
      have hii := hi f hmem
      have hff := hfk
      obtain ⟨kind, at_, die, block, page, times, part, bits, ba, bc⟩ := f
      have e0 : wr.cell? ⟨g, off + k * 8, none⟩ = some (num kind) := hck 0 _ rfl
      have e1 : wr.cell? ⟨g, off + k * 8 + 1, none⟩ = some (num at_) := hck 1 _ rfl
      have e2 : wr.cell? ⟨g, off + k * 8 + 2, none⟩ = some (num die) := hck 2 _ rfl
      have e3 : wr.cell? ⟨g, off + k * 8 + 3, none⟩ = some (num block) := hck 3 _ rfl
      have e4 : wr.cell? ⟨g, off + k * 8 + 4, none⟩ = some (num page) := hck 4 _ rfl
      have e5 : wr.cell? ⟨g, off + k * 8 + 5, none⟩ = some (num times) := hck 5 _ rfl
      have e6 : wr.cell? ⟨g, off + k * 8 + 6, none⟩ = some (num part) := hck 6 _ rfl
      have e7 : wr.cell? ⟨g, off + k * 8 + 7, none⟩ = some (.slice ba bits.length bc) := hck 7 _ rfl
      have s0 : wr.cell? ⟨w.heap.size, 0, none⟩ = some (num A.D) := (At.of_row (o := 0) hbr rfl).1
      have s1 : wr.cell? ⟨w.heap.size, 1, none⟩ = some (num A.B) := (At.of_row (o := 1) hbr rfl).1
      have s2 : wr.cell? ⟨w.heap.size, 2, none⟩ = some (num A.P) := (At.of_row (o := 2) hbr rfl).1
      have s3 : wr.cell? ⟨w.heap.size, 3, none⟩ = some (num A.Y) := (At.of_row (o := 3) hbr rfl).1
      have hlw : w.heap.size < wr.heap.size := lt_of_heap hbr
      clear hck hc hM hMr hfk hmem
      by_cases hfm : FMay A ⟨kind, at_, die, block, page, times, part, bits, ba, bc⟩
      · have HC : Hid (∀ w2 : World, wr.grownBy w2 none → Calls Try.prog 32 #[shapeV A.D A.B A.P A.Y, fltV ⟨kind, at_, die, block, page, times, part, bits, ba, bc⟩] w2 fun e w' => e = .returned (.bool true) ∧ w2.grownBy w' none) := fun w2 hg => faultMay_yes hD hfm (hbits.1.more hg) hbits.2
        have HAl : Hid (∀ j f, j < k + 1 → fs[j]? = some f → FMay A f) := fun j f hj hjf => by
          by_cases e : j = k
          · rw [e, hff] at hjf; cases hjf; exact hfm
          · exact hall j f (by omega) hjf
        clear hbits hfm hall hff hii
        go_wp2_with fail
        refine (HC.out _ (World.grownBy_alloc wr _ none)).mono ?_
        rintro e w3 ⟨rfl, hg3⟩
        have hgr3 : w.grownBy w3 none := grownBy_trans (grownBy_trans hgr (World.grownBy_alloc wr _ none)) hg3
        have hbr3 : w3.heap[w.heap.size]? = some (boxO A.D A.B A.P A.Y) := by
          rw [(grownBy_trans (World.grownBy_alloc wr _ none) hg3).block _ hlw (by simp)]; exact hbr
        clear hg3 hbr hgr e0 e1 e2 e3 e4 e5 e6 e7 s0 s1 s2 s3 HC
        go_wp2
        go_roundw
        case rel => exact ⟨hgr3, hbr3, k + 1, by omega, by go_num, HAl.out⟩
        case measure => simp [intOf]; omega

      · have HC : Hid (∀ w2 : World, wr.grownBy w2 none → Calls Try.prog 32 #[shapeV A.D A.B A.P A.Y, fltV ⟨kind, at_, die, block, page, times, part, bits, ba, bc⟩] w2 fun e w' => e = .returned (.bool false) ∧ w2.grownBy w' none) := fun w2 hg => faultMay_no hD hii.1 hii.2 hfm (hbits.1.more hg) hbits.2
        clear hbits hfm hall hff hii
        go_wp2_with fail
        refine (HC.out _ (World.grownBy_alloc wr _ none)).mono ?_
        rintro e w3 ⟨rfl, hg3⟩
        have hgr3 : w.grownBy w3 none := grownBy_trans (grownBy_trans hgr (World.grownBy_alloc wr _ none)) hg3
        have hbr3 : w3.heap[w.heap.size]? = some (boxO A.D A.B A.P A.Y) := by
          rw [(grownBy_trans (World.grownBy_alloc wr _ none) hg3).block _ hlw (by simp)]; exact hbr
        clear hg3 hbr hgr e0 e1 e2 e3 e4 e5 e6 e7 s0 s1 s2 s3 HC
        go_wp2
        go_ret
        exact ⟨rfl, hgr3⟩

    · obtain rfl : k = fs.length := by omega
      exact absurd (fun f hf => by
        obtain ⟨j, hj⟩ := List.mem_iff_getElem?.1 hf
        exact hall j f (by
          rcases Nat.lt_or_ge j fs.length with h | h
          · exact h
          · rw [List.getElem?_eq_none h] at hj; cases hj) hj) HF.out
set_option maxHeartbeats 1600000 in
set_option maxRecDepth 4000 in
theorem faultsMay_many {w : World} {A : St} {ao : Option Addr} {n cap : Nat} (hl : 2000 < n) :
    Calls Try.prog 16 #[shapeV A.D A.B A.P A.Y, .slice ao n cap] w fun e w' => e = .returned (.bool false) ∧ w.grownBy w' none := by
  obtain ⟨W, hW⟩ : ∃ W, W = w.alloc (boxO A.D A.B A.P A.Y) := ⟨_, rfl⟩
  have hgW : w.grownBy W none := by rw [hW]; exact World.grownBy_alloc w _ none
  have Hw : Hid _ := hW
  have hl2 : (2000 : Int) < (n : Int) := by omega
  clear hW
  go_enter Try.func16, Try.ntmps16
  go_wp2_with (rw [← Hw.out])
  go_ret
  exact ⟨rfl, hgW⟩
set_option maxHeartbeats 3200000 in
set_option maxRecDepth 4000 in
theorem new_no {w : World} (D B P Y : Nat) (hD : Dims (St.new D B P Y)) (hm : D * B * P * Y ≤ 4194304) {v : Value}
    (hF : ∀ w', w.grownBy w' none → Calls Try.prog 16 #[shapeV D B P Y, v] w' fun e w'' => e = .returned (.bool false) ∧ w'.grownBy w'' none) :
    Calls Try.prog 5 #[shapeV D B P Y, v] w fun e w' => e = .returned (.tuple #[.pointer none, num 1]) ∧ w.grownBy w' none := by
  obtain ⟨d1, d2, b1, b2, p1, p2, y1, y2⟩ := hD
  simp only [St.new] at d1 d2 b1 b2 p1 p2 y1 y2
  obtain ⟨W, hW⟩ : ∃ W, W = w.alloc (boxO D B P Y) := ⟨_, rfl⟩
  have hgW : w.grownBy W none := by rw [hW]; exact World.grownBy_alloc w _ none
  have hbx : W.heap[w.heap.size]? = some (boxO D B P Y) := by rw [hW]; exact heap_alloc_new w _
  have Hw : Hid _ := hW
  have s0 : W.cell? ⟨w.heap.size, 0, none⟩ = some (num D) := (At.of_row (o := 0) hbx rfl).1
  have s1 : W.cell? ⟨w.heap.size, 1, none⟩ = some (num B) := (At.of_row (o := 1) hbx rfl).1
  have s2 : W.cell? ⟨w.heap.size, 2, none⟩ = some (num P) := (At.of_row (o := 2) hbx rfl).1
  have s3 : W.cell? ⟨w.heap.size, 3, none⟩ = some (num Y) := (At.of_row (o := 3) hbx rfl).1
  have hmI : (D : Int) * B * P * Y ≤ 4194304 := by
    have h := Int.ofNat_le.2 hm
    simp only [Int.natCast_mul] at h
    exact h
  have HSh : Hid (∀ w', Calls Try.prog 15 #[shapeV D B P Y] w' fun e w'' => e = .returned (.bool true) ∧ w'.grownBy w'' none) := fun w' => shape_yes D B P Y (by omega) (by omega) (by omega) (by omega) (by omega) (by omega) (by omega) (by omega) hmI w'
  have HFa : Hid (∀ w', w.grownBy w' none → Calls Try.prog 16 #[shapeV D B P Y, v] w' fun e w'' => e = .returned (.bool false) ∧ w'.grownBy w'' none) := hF
  have hnn := hnot
  clear hW hmI hF
  go_enter Try.func5, Try.ntmps5
  go_wp2_with (rw [← Hw.out])
  refine (HSh.out _).mono ?_
  rintro e w1 ⟨rfl, hg1⟩
  have hgw1 := grownBy_trans hgW hg1
  have hbx1 : w1.heap[w.heap.size]? = some (boxO D B P Y) := by rw [hg1.block _ (lt_of_heap hbx) (by simp)]; exact hbx
  clear s0 s1 s2 s3 HSh
  have s0 : w1.cell? ⟨w.heap.size, 0, none⟩ = some (num D) := (At.of_row (o := 0) hbx1 rfl).1
  have s1 : w1.cell? ⟨w.heap.size, 1, none⟩ = some (num B) := (At.of_row (o := 1) hbx1 rfl).1
  have s2 : w1.cell? ⟨w.heap.size, 2, none⟩ = some (num P) := (At.of_row (o := 2) hbx1 rfl).1
  have s3 : w1.cell? ⟨w.heap.size, 3, none⟩ = some (num Y) := (At.of_row (o := 3) hbx1 rfl).1
  go_wp2_with fail
  refine (HFa.out _ hgw1).mono ?_
  rintro e w2 ⟨rfl, hg2⟩
  go_wp2
  go_ret2
  exact ⟨rfl, grownBy_trans hgw1 hg2⟩
end Nd
end Go.Proofs.Ytojamicakkecbab
