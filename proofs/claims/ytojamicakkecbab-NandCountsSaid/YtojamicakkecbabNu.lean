/- Layer 4 (nand): the walk of New. -/
import Derived.Test.YtojamicakkecbabNt
namespace Go.Proofs.Ytojamicakkecbab
open Go.RowKit Go.Maps
namespace Nd
def NewPost (w : World) (A' : St) (e : Ending) (w' : World) : Prop := ∃ M lab, e = .returned (.tuple #[ptr M.a 0, num 0]) ∧ Arr w' M A' lab ∧ Stp (fun _ => none) lab w w'
theorem nk_keep {w w' : World} {a bx : Nat} {v d b p y : Value} (h : w.cell? ⟨a, 5, none⟩ = some v ∧ w.cell? ⟨bx, 0, none⟩ = some d ∧ w.cell? ⟨bx, 1, none⟩ = some b ∧ w.cell? ⟨bx, 2, none⟩ = some p ∧ w.cell? ⟨bx, 3, none⟩ = some y) (hg : w.grownBy w' none) :
    w'.cell? ⟨a, 5, none⟩ = some v ∧ w'.cell? ⟨bx, 0, none⟩ = some d ∧ w'.cell? ⟨bx, 1, none⟩ = some b ∧ w'.cell? ⟨bx, 2, none⟩ = some p ∧ w'.cell? ⟨bx, 3, none⟩ = some y := by
  have e1 := hg.block a (lt_of_cell h.1) (by simp)
  have e2 := hg.block bx (lt_of_cell h.2.1) (by simp)
  exact ⟨(cell_of_block e1).trans h.1, (cell_of_block e2).trans h.2.1, (cell_of_block e2).trans h.2.2.1, (cell_of_block e2).trans h.2.2.2.1, (cell_of_block e2).trans h.2.2.2.2⟩
theorem nk_set {w : World} {a bx ds o : Nat} {u v d b p y : Value} (h1 : a ≠ ds) (h2 : bx ≠ ds) (h : w.cell? ⟨a, 5, none⟩ = some v ∧ w.cell? ⟨bx, 0, none⟩ = some d ∧ w.cell? ⟨bx, 1, none⟩ = some b ∧ w.cell? ⟨bx, 2, none⟩ = some p ∧ w.cell? ⟨bx, 3, none⟩ = some y) :
    (w.setCell ⟨ds, o, none⟩ u).cell? ⟨a, 5, none⟩ = some v ∧ (w.setCell ⟨ds, o, none⟩ u).cell? ⟨bx, 0, none⟩ = some d ∧ (w.setCell ⟨ds, o, none⟩ u).cell? ⟨bx, 1, none⟩ = some b ∧ (w.setCell ⟨ds, o, none⟩ u).cell? ⟨bx, 2, none⟩ = some p ∧ (w.setCell ⟨ds, o, none⟩ u).cell? ⟨bx, 3, none⟩ = some y := by
  have e1 : (w.setCell ⟨ds, o, none⟩ u).heap[a]? = w.heap[a]? := setCell_else h1 _
  have e2 : (w.setCell ⟨ds, o, none⟩ u).heap[bx]? = w.heap[bx]? := setCell_else h2 _
  exact ⟨(cell_of_block e1).trans h.1, (cell_of_block e2).trans h.2.1, (cell_of_block e2).trans h.2.2.1, (cell_of_block e2).trans h.2.2.2.1, (cell_of_block e2).trans h.2.2.2.2⟩
theorem alloc3 (w : World) (o1 o2 o3 : Obj) : (((w.alloc o1).alloc o2).alloc o3).heap[w.heap.size]? = some o1 ∧ (((w.alloc o1).alloc o2).alloc o3).heap[w.heap.size + 1]? = some o2 ∧ (((w.alloc o1).alloc o2).alloc o3).heap[w.heap.size + 1 + 1]? = some o3 ∧ w.grownBy (((w.alloc o1).alloc o2).alloc o3) none := by
  have g1 := World.grownBy_alloc w o1 none
  have g2 := World.grownBy_alloc (w.alloc o1) o2 none
  have g3 := World.grownBy_alloc ((w.alloc o1).alloc o2) o3 none
  have s1 : (w.alloc o1).heap.size = w.heap.size + 1 := by simp
  have s2 : ((w.alloc o1).alloc o2).heap.size = w.heap.size + 1 + 1 := by simp
  refine ⟨?_, ?_, ?_, grownBy_trans (grownBy_trans g1 g2) g3⟩
  · rw [g3.block _ (by omega) (by simp), g2.block _ (by omega) (by simp)]; exact heap_alloc_new w o1
  · rw [g3.block _ (by omega) (by simp), ← s1]; exact heap_alloc_new _ o2
  · rw [← s2]; exact heap_alloc_new _ o3
set_option maxHeartbeats 6400000 in
set_option maxRecDepth 4000 in
theorem new_ok {w : World} (D B P Y : Nat) (hD : Dims (St.new D B P Y)) (hm : D * B * P * Y ≤ 4194304) {ao : Option Addr} {cap : Nat} {fs : List Flt} (hM : FaultsM w ao fs) (hf : ∀ f ∈ fs, FMay (St.new D B P Y) f) (hl : fs.length ≤ 2000) (hk : ∀ f ∈ fs, f.kind ≠ 1) :
    Calls Try.prog 5 #[shapeV D B P Y, .slice ao fs.length cap] w (NewPost w (layAll (St.new D B P Y) fs)) := by
  obtain ⟨d1, d2, b1, b2, p1, p2, y1, y2⟩ := hD
  simp only [St.new] at d1 d2 b1 b2 p1 p2 y1 y2
  have hD : Dims (St.new D B P Y) := ⟨d1, d2, b1, b2, p1, p2, y1, y2⟩
  obtain ⟨W, hW⟩ : ∃ W, W = w.alloc (boxO D B P Y) := ⟨_, rfl⟩
  have hgW : w.grownBy W none := by rw [hW]; exact World.grownBy_alloc w _ none
  have hbx : W.heap[w.heap.size]? = some (boxO D B P Y) := by rw [hW]; exact heap_alloc_new w _
  have Hw : Hid _ := hW
  have s0 : W.cell? ⟨w.heap.size, 0, none⟩ = some (num D) := (At.of_row (o := 0) hbx rfl).1
  have s1 : W.cell? ⟨w.heap.size, 1, none⟩ = some (num B) := (At.of_row (o := 1) hbx rfl).1
  have s2 : W.cell? ⟨w.heap.size, 2, none⟩ = some (num P) := (At.of_row (o := 2) hbx rfl).1
  have s3 : W.cell? ⟨w.heap.size, 3, none⟩ = some (num Y) := (At.of_row (o := 3) hbx rfl).1
  have hmI : (D : Int) * B * P * Y ≤ 4194304 := by
    have h := Int.ofNat_le.2 hm
    simp only [Int.natCast_mul] at h
    exact h
  have HSh : Hid (∀ w', Calls Try.prog 15 #[shapeV D B P Y] w' fun e w'' => e = .returned (.bool true) ∧ w'.grownBy w'' none) := fun w' => shape_yes D B P Y (by omega) (by omega) (by omega) (by omega) (by omega) (by omega) (by omega) (by omega) hmI w'
  have HFa : Hid (∀ w', w.grownBy w' none → Calls Try.prog 16 #[shapeV D B P Y, .slice ao fs.length cap] w' fun e w'' => e = .returned (.bool true) ∧ w'.grownBy w'' none) := fun w' hg => faultsMay_yes hD (hM.more hg) hf hl
  have hnn := hnot
  have d2' : (D : Int) ≤ 8 := by omega
  clear hW hmI
  go_enter Try.func5, Try.ntmps5
  go_wp2_with (rw [← Hw.out])
  refine (HSh.out _).mono ?_
  rintro e w1 ⟨rfl, hg1⟩
  have hgw1 := grownBy_trans hgW hg1
  have hbx1 : w1.heap[w.heap.size]? = some (boxO D B P Y) := by rw [hg1.block _ (lt_of_heap hbx) (by simp)]; exact hbx
  clear s0 s1 s2 s3 HSh
  have s0 : w1.cell? ⟨w.heap.size, 0, none⟩ = some (num D) := (At.of_row (o := 0) hbx1 rfl).1
  have s1 : w1.cell? ⟨w.heap.size, 1, none⟩ = some (num B) := (At.of_row (o := 1) hbx1 rfl).1
  have s2 : w1.cell? ⟨w.heap.size, 2, none⟩ = some (num P) := (At.of_row (o := 2) hbx1 rfl).1
  have s3 : w1.cell? ⟨w.heap.size, 3, none⟩ = some (num Y) := (At.of_row (o := 3) hbx1 rfl).1
  go_wp2_with fail
  refine (HFa.out _ hgw1).mono ?_
  rintro e w2 ⟨rfl, hg2⟩
  have hgw2 := grownBy_trans hgw1 hg2
  have hbx2 : w2.heap[w.heap.size]? = some (boxO D B P Y) := by rw [hg2.block _ (lt_of_heap hbx1) (by simp)]; exact hbx1
  clear s0 s1 s2 s3 HFa hg1 hg2 hgw1 hbx1 hgW hbx
  have s0 : w2.cell? ⟨w.heap.size, 0, none⟩ = some (num D) := (At.of_row (o := 0) hbx2 rfl).1
  have s1 : w2.cell? ⟨w.heap.size, 1, none⟩ = some (num B) := (At.of_row (o := 1) hbx2 rfl).1
  have s2 : w2.cell? ⟨w.heap.size, 2, none⟩ = some (num P) := (At.of_row (o := 2) hbx2 rfl).1
  have s3 : w2.cell? ⟨w.heap.size, 3, none⟩ = some (num Y) := (At.of_row (o := 3) hbx2 rfl).1
  obtain ⟨cur, hcs, hmk⟩ := make_dies D (by omega)
  have hmm := @run_makeMap Try.prog
  have hlt2 := lt_of_heap hbx2
  go_wp2_with fail
  go_region
  · obtain ⟨r1, r2, r3, rg⟩ := alloc3 w2 (.cells cur 64) (.map #[] 0) (arrO D B P Y (w2.heap.size) (w2.heap.size + 1))
    obtain ⟨V, hV⟩ : ∃ V, V = (((w2.alloc (.cells cur 64)).alloc (.map #[] 0)).alloc (arrO D B P Y (w2.heap.size) (w2.heap.size + 1))).drew := ⟨_, rfl⟩
    have hgV : w.grownBy V none := by rw [hV]; exact grownBy_drew (grownBy_trans hgw2 rg)
    have hgV2 : w2.grownBy V none := by rw [hV]; exact grownBy_drew rg
    have hbxV : V.heap[w.heap.size]? = some (boxO D B P Y) := by rw [hgV2.block _ hlt2 (by simp)]; exact hbx2
    have q1 : V.heap[w2.heap.size]? = some (.cells cur 64) := by rw [hV]; exact r1
    have q2 : V.heap[w2.heap.size + 1]? = some (.map #[] 0) := by rw [hV]; exact r2
    have q3 : V.heap[w2.heap.size + 1 + 1]? = some (arrO D B P Y (w2.heap.size) (w2.heap.size + 1)) := by rw [hV]; exact r3
    have hsw := hgw2.size
    have hD0 := dies_start hgV hbxV hcs q1 q2 q3 (by omega) (by omega) (by omega) (by omega) (by omega) (by omega) (by omega) (by omega) (by omega)
    rw [← hV]
    obtain ⟨ds, hds⟩ : ∃ x, x = w2.heap.size := ⟨_, rfl⟩
    obtain ⟨mp, hmp⟩ : ∃ x, x = w2.heap.size + 1 := ⟨_, rfl⟩
    obtain ⟨a, ha⟩ : ∃ x, x = w2.heap.size + 1 + 1 := ⟨_, rfl⟩
    have hne1 : a ≠ ds := by omega
    have hne2 : w.heap.size ≠ ds := by omega
    rw [← ha] at hD0 q3
    rw [← hmp, ← hds] at hD0 q3
    rw [← ha]
    rw [← hmp, ← hds]
    have k5 : V.cell? ⟨a, 5, none⟩ = some (.slice (some ⟨ds, 0, none⟩) D D) := (At.of_row (o := 5) q3 rfl).1
    clear r1 r2 r3 rg hV hgV hgV2 hbxV q1 q2 q3 hds hmp ha hsw hmk hmm s0 s1 s2 s3 hcs hgw2 hbx2 hlt2
    go_wp2_with fail
    go_loopw [31] (fun i wr => ∃ k bk lab, k ≤ D ∧ i = num k ∧ DiesRel w wr lab ⟨a, ds, mp, bk⟩ D B P Y w.heap.size k) (fun i _ => D - (intOf i).toNat)
    case atStart => exact ⟨0, _, _, Nat.zero_le _, rfl, hD0⟩
    case round =>
      clear hD0 k5
      obtain ⟨k, bk, lab, hkD, rfl, hR⟩ := hrel
      have k5 : wr.cell? ⟨a, 5, none⟩ = some (.slice (some ⟨ds, 0, none⟩) D D) := (At.of_row (o := 5) hR.oa rfl).1
      by_cases hlt : k < D
      · have b1' : (k : Int) < (D : Int) := by omega
        have hbx := hR.obx
        have HS0 : Hid (wr.drew.cell? ⟨a, 5, none⟩ = some (.slice (some ⟨ds, 0, none⟩) D D) ∧ wr.drew.cell? ⟨w.heap.size, 0, none⟩ = some (num D) ∧ wr.drew.cell? ⟨w.heap.size, 1, none⟩ = some (num B) ∧ wr.drew.cell? ⟨w.heap.size, 2, none⟩ = some (num P) ∧ wr.drew.cell? ⟨w.heap.size, 3, none⟩ = some (num Y)) :=
          ⟨k5, (At.of_row (o := 0) hbx rfl).1, (At.of_row (o := 1) hbx rfl).1, (At.of_row (o := 2) hbx rfl).1, (At.of_row (o := 3) hbx rfl).1⟩
        have HTh : Hid (∀ w6 : World, wr.drew.grownBy w6 none → (∃ v, w6.cell? ⟨ds, k * 2, none⟩ = some v ∧ w6.frozen? ⟨ds, k * 2, none⟩ = false) ∧ ∃ v, w6.cell? ⟨ds, k * 2 + 1, none⟩ = some v ∧ w6.frozen? ⟨ds, k * 2 + 1, none⟩ = false) := fun w6 hg6 => by
          have hth := hR.there.of_heap (hg6.block ds (hR.lt ds (by rw [hR.lds]; simp)) (by simp))
          exact ⟨hth (k * 2) (by omega), hth (k * 2 + 1) (by omega)⟩
        have HNx : Hid (∀ w6 lab6 g, wr.drew.grownBy w6 none → Ext lab lab6 wr.drew w6 → lab6 g = some (.bk k) → (∀ b, b < B → BlkM w6 lab6 P Y k b g (b * 7) Blk.new) → DiesRel w ((w6.setCell ⟨ds, k * 2, none⟩ (num never)).setCell ⟨ds, k * 2 + 1, none⟩ (.slice (some ⟨g, 0, none⟩) B B)) lab6 ⟨a, ds, mp, fun d => if d = k then g else bk d⟩ D B P Y w.heap.size (k + 1)) := fun w6 lab6 g hg6 ext hlg hbl =>
          hR.next hlt ⟨hg6.os, hg6.tape, hg6.output, hg6.size, hg6.block⟩ ⟨ext.old, ext.new, ext.lt⟩ hlg hbl
        have HNb : Hid (Calls Try.prog 17 #[shapeV D B P Y] wr.drew (BlksPost wr.drew lab B P Y k)) := newBlocks_ok (w := wr.drew) (lab := lab) hR.lt D B P Y k b2 p2
        clear k5 hbx hR
        go_wp2_with fail
        go_region_held3 (fun w' => w'.cell? ⟨a, 5, none⟩ = some (.slice (some ⟨ds, 0, none⟩) D D) ∧ w'.cell? ⟨w.heap.size, 0, none⟩ = some (num D) ∧ w'.cell? ⟨w.heap.size, 1, none⟩ = some (num B) ∧ w'.cell? ⟨w.heap.size, 2, none⟩ = some (num P) ∧ w'.cell? ⟨w.heap.size, 3, none⟩ = some (num Y)) (first | assumption | exact HS0.out | exact nk_keep ‹_› ‹_› | exact nk_set hne1 hne2 (nk_set hne1 hne2 ‹_›))
          (first | (go_at_call 17; refine HNb.out.mono ?_; rintro e w6 ⟨g, lab6, rfl, hg6, ext, hlg, hge, hbl⟩; obtain ⟨⟨v0, t0, z0⟩, ⟨v1, t1, z1⟩⟩ := HTh.out w6 hg6))
        all_goals
          have HN2 : Hid _ := HNx.out w6 lab6 g ‹wr.drew.grownBy w6 none› ext hlg hbl
          clear HNx HNb HTh HS0 t0 z0 t1 z1 ext hlg hbl
          go_wp2
          go_roundw
          case rel => exact ⟨k + 1, _, _, by omega, by go_num, HN2.out⟩
          case measure => simp [intOf]; omega
      · obtain rfl : k = D := by omega
        have q1 : ¬ (k : Int) < (k : Int) := by omega
        have hA := hR.arr hD
        have hst := hR.stp
        have hl' : (fs.length : Int) ≤ 2000 := by omega
        clear hR k5
        go_wp2_with fail
        go_loopw [46] (fun i wq => ∃ j lab', j ≤ fs.length ∧ i = num j ∧ Arr wq ⟨a, ds, mp, bk⟩ (layAll (St.new k B P Y) (fs.take j)) lab' ∧ Stp (fun _ => none) lab' w wq) (fun i _ => fs.length - (intOf i).toNat)
        case atStart => exact ⟨0, lab, Nat.zero_le _, rfl, hA, hst⟩
        case round =>
          clear hA hst
          obtain ⟨j, lab', hj, rfl, hA, hst⟩ := hrel
          by_cases hjl : j < fs.length
          · have q2 : (j : Int) < (fs.length : Int) := by omega
            have hMr := hM.more hst.grownBy
            obtain ⟨g, off, rfl, hc⟩ := hMr.1.resolve_left (fun e => by rw [e] at hjl; simp at hjl)
            obtain ⟨f, hfk⟩ : ∃ f, fs[j]? = some f := ⟨_, List.getElem?_eq_getElem hjl⟩
            have hmem : f ∈ fs := List.mem_of_getElem? hfk
            have hck := hc j f hfk
            obtain ⟨l1, l2, l3, l4, l5⟩ := layAll_dims (St.new k B P Y) (fs.take j)
            have hfm := (hf f hmem).same l1 l2 l3 l4
            have hnc : (layAll (St.new k B P Y) (fs.take j)).nc ≤ 2000 := by
              have : (fs.take j).length ≤ 2000 := by simp; omega
              have : (St.new k B P Y).nc = 0 := rfl
              omega
            have HLy : Hid (∀ w5 lab5, Arr w5 ⟨a, ds, mp, bk⟩ (layAll (St.new k B P Y) (fs.take j)) lab5 → Calls Try.prog 18 #[ptr a 0, fltV f] w5 (LayPost w5 ⟨a, ds, mp, bk⟩ (layAll (St.new k B P Y) (fs.take (j + 1))) lab5)) := fun w5 lab5 h5 => by
              rw [layAll_next _ _ hfk]
              exact lay_ok h5 hfm (hk f hmem) hnc
            clear hfm hnc hMr hc hfk hmem l1 l2 l3 l4 l5
            obtain ⟨kind, at_, die, block, page, times, part, bits, ba, bc⟩ := f
            have e0 : wr.cell? ⟨g, off + j * 8, none⟩ = some (num kind) := hck 0 _ rfl
            have e1 : wr.cell? ⟨g, off + j * 8 + 1, none⟩ = some (num at_) := hck 1 _ rfl
            have e2 : wr.cell? ⟨g, off + j * 8 + 2, none⟩ = some (num die) := hck 2 _ rfl
            have e3 : wr.cell? ⟨g, off + j * 8 + 3, none⟩ = some (num block) := hck 3 _ rfl
            have e4 : wr.cell? ⟨g, off + j * 8 + 4, none⟩ = some (num page) := hck 4 _ rfl
            have e5 : wr.cell? ⟨g, off + j * 8 + 5, none⟩ = some (num times) := hck 5 _ rfl
            have e6 : wr.cell? ⟨g, off + j * 8 + 6, none⟩ = some (num part) := hck 6 _ rfl
            have e7 : wr.cell? ⟨g, off + j * 8 + 7, none⟩ = some (.slice ba bits.length bc) := hck 7 _ rfl
            clear hck
            go_wp2_with fail
            refine (HLy.out _ lab' (hA.alloc _)).mono ?_
            rintro e w5 ⟨lab5, rfl, h5, st5⟩
            have hst5 : Stp (fun _ => none) lab5 w w5 := (hst.alloc _).trans st5
            clear st5 hA hst e0 e1 e2 e3 e4 e5 e6 e7 HLy
            go_wp2
            go_roundw
            case rel => exact ⟨j + 1, lab5, by omega, by go_num, h5, hst5⟩
            case measure => simp [intOf]; omega
          · obtain rfl : j = fs.length := by omega
            have q2 : ¬ (fs.length : Int) < (fs.length : Int) := by omega
            rw [List.take_length] at hA
            go_wp2
            go_ret2
            exact ⟨_, lab', rfl, hA, hst⟩
  · obtain ⟨r1, r2, r3, rg⟩ := alloc3 w2 (.map #[] 0) (.cells cur 64) (arrO D B P Y (w2.heap.size + 1) (w2.heap.size))
    obtain ⟨V, hV⟩ : ∃ V, V = (((w2.alloc (.map #[] 0)).alloc (.cells cur 64)).alloc (arrO D B P Y (w2.heap.size + 1) (w2.heap.size))).drew := ⟨_, rfl⟩
    have hgV : w.grownBy V none := by rw [hV]; exact grownBy_drew (grownBy_trans hgw2 rg)
    have hgV2 : w2.grownBy V none := by rw [hV]; exact grownBy_drew rg
    have hbxV : V.heap[w.heap.size]? = some (boxO D B P Y) := by rw [hgV2.block _ hlt2 (by simp)]; exact hbx2
    have q1 : V.heap[w2.heap.size + 1]? = some (.cells cur 64) := by rw [hV]; exact r2
    have q2 : V.heap[w2.heap.size]? = some (.map #[] 0) := by rw [hV]; exact r1
    have q3 : V.heap[w2.heap.size + 1 + 1]? = some (arrO D B P Y (w2.heap.size + 1) (w2.heap.size)) := by rw [hV]; exact r3
    have hsw := hgw2.size
    have hD0 := dies_start hgV hbxV hcs q1 q2 q3 (by omega) (by omega) (by omega) (by omega) (by omega) (by omega) (by omega) (by omega) (by omega)
    rw [← hV]
    obtain ⟨ds, hds⟩ : ∃ x, x = w2.heap.size + 1 := ⟨_, rfl⟩
    obtain ⟨mp, hmp⟩ : ∃ x, x = w2.heap.size := ⟨_, rfl⟩
    obtain ⟨a, ha⟩ : ∃ x, x = w2.heap.size + 1 + 1 := ⟨_, rfl⟩
    have hne1 : a ≠ ds := by omega
    have hne2 : w.heap.size ≠ ds := by omega
    rw [← ha] at hD0 q3
    rw [← hds, ← hmp] at hD0 q3
    rw [← ha]
    rw [← hds, ← hmp]
    have k5 : V.cell? ⟨a, 5, none⟩ = some (.slice (some ⟨ds, 0, none⟩) D D) := (At.of_row (o := 5) q3 rfl).1
    clear r1 r2 r3 rg hV hgV hgV2 hbxV q1 q2 q3 hds hmp ha hsw hmk hmm s0 s1 s2 s3 hcs hgw2 hbx2 hlt2
    go_wp2_with fail
    go_loopw [31] (fun i wr => ∃ k bk lab, k ≤ D ∧ i = num k ∧ DiesRel w wr lab ⟨a, ds, mp, bk⟩ D B P Y w.heap.size k) (fun i _ => D - (intOf i).toNat)
    case atStart => exact ⟨0, _, _, Nat.zero_le _, rfl, hD0⟩
    case round =>
      clear hD0 k5
      obtain ⟨k, bk, lab, hkD, rfl, hR⟩ := hrel
      have k5 : wr.cell? ⟨a, 5, none⟩ = some (.slice (some ⟨ds, 0, none⟩) D D) := (At.of_row (o := 5) hR.oa rfl).1
      by_cases hlt : k < D
      · have b1' : (k : Int) < (D : Int) := by omega
        have hbx := hR.obx
        have HS0 : Hid (wr.drew.cell? ⟨a, 5, none⟩ = some (.slice (some ⟨ds, 0, none⟩) D D) ∧ wr.drew.cell? ⟨w.heap.size, 0, none⟩ = some (num D) ∧ wr.drew.cell? ⟨w.heap.size, 1, none⟩ = some (num B) ∧ wr.drew.cell? ⟨w.heap.size, 2, none⟩ = some (num P) ∧ wr.drew.cell? ⟨w.heap.size, 3, none⟩ = some (num Y)) :=
          ⟨k5, (At.of_row (o := 0) hbx rfl).1, (At.of_row (o := 1) hbx rfl).1, (At.of_row (o := 2) hbx rfl).1, (At.of_row (o := 3) hbx rfl).1⟩
        have HTh : Hid (∀ w6 : World, wr.drew.grownBy w6 none → (∃ v, w6.cell? ⟨ds, k * 2, none⟩ = some v ∧ w6.frozen? ⟨ds, k * 2, none⟩ = false) ∧ ∃ v, w6.cell? ⟨ds, k * 2 + 1, none⟩ = some v ∧ w6.frozen? ⟨ds, k * 2 + 1, none⟩ = false) := fun w6 hg6 => by
          have hth := hR.there.of_heap (hg6.block ds (hR.lt ds (by rw [hR.lds]; simp)) (by simp))
          exact ⟨hth (k * 2) (by omega), hth (k * 2 + 1) (by omega)⟩
        have HNx : Hid (∀ w6 lab6 g, wr.drew.grownBy w6 none → Ext lab lab6 wr.drew w6 → lab6 g = some (.bk k) → (∀ b, b < B → BlkM w6 lab6 P Y k b g (b * 7) Blk.new) → DiesRel w ((w6.setCell ⟨ds, k * 2, none⟩ (num never)).setCell ⟨ds, k * 2 + 1, none⟩ (.slice (some ⟨g, 0, none⟩) B B)) lab6 ⟨a, ds, mp, fun d => if d = k then g else bk d⟩ D B P Y w.heap.size (k + 1)) := fun w6 lab6 g hg6 ext hlg hbl =>
          hR.next hlt ⟨hg6.os, hg6.tape, hg6.output, hg6.size, hg6.block⟩ ⟨ext.old, ext.new, ext.lt⟩ hlg hbl
        have HNb : Hid (Calls Try.prog 17 #[shapeV D B P Y] wr.drew (BlksPost wr.drew lab B P Y k)) := newBlocks_ok (w := wr.drew) (lab := lab) hR.lt D B P Y k b2 p2
        clear k5 hbx hR
        go_wp2_with fail
        go_region_held3 (fun w' => w'.cell? ⟨a, 5, none⟩ = some (.slice (some ⟨ds, 0, none⟩) D D) ∧ w'.cell? ⟨w.heap.size, 0, none⟩ = some (num D) ∧ w'.cell? ⟨w.heap.size, 1, none⟩ = some (num B) ∧ w'.cell? ⟨w.heap.size, 2, none⟩ = some (num P) ∧ w'.cell? ⟨w.heap.size, 3, none⟩ = some (num Y)) (first | assumption | exact HS0.out | exact nk_keep ‹_› ‹_› | exact nk_set hne1 hne2 (nk_set hne1 hne2 ‹_›))
          (first | (go_at_call 17; refine HNb.out.mono ?_; rintro e w6 ⟨g, lab6, rfl, hg6, ext, hlg, hge, hbl⟩; obtain ⟨⟨v0, t0, z0⟩, ⟨v1, t1, z1⟩⟩ := HTh.out w6 hg6))
        all_goals
          have HN2 : Hid _ := HNx.out w6 lab6 g ‹wr.drew.grownBy w6 none› ext hlg hbl
          clear HNx HNb HTh HS0 t0 z0 t1 z1 ext hlg hbl
          go_wp2
          go_roundw
          case rel => exact ⟨k + 1, _, _, by omega, by go_num, HN2.out⟩
          case measure => simp [intOf]; omega
      · obtain rfl : k = D := by omega
        have q1 : ¬ (k : Int) < (k : Int) := by omega
        have hA := hR.arr hD
        have hst := hR.stp
        have hl' : (fs.length : Int) ≤ 2000 := by omega
        clear hR k5
        go_wp2_with fail
        go_loopw [46] (fun i wq => ∃ j lab', j ≤ fs.length ∧ i = num j ∧ Arr wq ⟨a, ds, mp, bk⟩ (layAll (St.new k B P Y) (fs.take j)) lab' ∧ Stp (fun _ => none) lab' w wq) (fun i _ => fs.length - (intOf i).toNat)
        case atStart => exact ⟨0, lab, Nat.zero_le _, rfl, hA, hst⟩
        case round =>
          clear hA hst
          obtain ⟨j, lab', hj, rfl, hA, hst⟩ := hrel
          by_cases hjl : j < fs.length
          · have q2 : (j : Int) < (fs.length : Int) := by omega
            have hMr := hM.more hst.grownBy
            obtain ⟨g, off, rfl, hc⟩ := hMr.1.resolve_left (fun e => by rw [e] at hjl; simp at hjl)
            obtain ⟨f, hfk⟩ : ∃ f, fs[j]? = some f := ⟨_, List.getElem?_eq_getElem hjl⟩
            have hmem : f ∈ fs := List.mem_of_getElem? hfk
            have hck := hc j f hfk
            obtain ⟨l1, l2, l3, l4, l5⟩ := layAll_dims (St.new k B P Y) (fs.take j)
            have hfm := (hf f hmem).same l1 l2 l3 l4
            have hnc : (layAll (St.new k B P Y) (fs.take j)).nc ≤ 2000 := by
              have : (fs.take j).length ≤ 2000 := by simp; omega
              have : (St.new k B P Y).nc = 0 := rfl
              omega
            have HLy : Hid (∀ w5 lab5, Arr w5 ⟨a, ds, mp, bk⟩ (layAll (St.new k B P Y) (fs.take j)) lab5 → Calls Try.prog 18 #[ptr a 0, fltV f] w5 (LayPost w5 ⟨a, ds, mp, bk⟩ (layAll (St.new k B P Y) (fs.take (j + 1))) lab5)) := fun w5 lab5 h5 => by
              rw [layAll_next _ _ hfk]
              exact lay_ok h5 hfm (hk f hmem) hnc
            clear hfm hnc hMr hc hfk hmem l1 l2 l3 l4 l5
            obtain ⟨kind, at_, die, block, page, times, part, bits, ba, bc⟩ := f
            have e0 : wr.cell? ⟨g, off + j * 8, none⟩ = some (num kind) := hck 0 _ rfl
            have e1 : wr.cell? ⟨g, off + j * 8 + 1, none⟩ = some (num at_) := hck 1 _ rfl
            have e2 : wr.cell? ⟨g, off + j * 8 + 2, none⟩ = some (num die) := hck 2 _ rfl
            have e3 : wr.cell? ⟨g, off + j * 8 + 3, none⟩ = some (num block) := hck 3 _ rfl
            have e4 : wr.cell? ⟨g, off + j * 8 + 4, none⟩ = some (num page) := hck 4 _ rfl
            have e5 : wr.cell? ⟨g, off + j * 8 + 5, none⟩ = some (num times) := hck 5 _ rfl
            have e6 : wr.cell? ⟨g, off + j * 8 + 6, none⟩ = some (num part) := hck 6 _ rfl
            have e7 : wr.cell? ⟨g, off + j * 8 + 7, none⟩ = some (.slice ba bits.length bc) := hck 7 _ rfl
            clear hck
            go_wp2_with fail
            refine (HLy.out _ lab' (hA.alloc _)).mono ?_
            rintro e w5 ⟨lab5, rfl, h5, st5⟩
            have hst5 : Stp (fun _ => none) lab5 w w5 := (hst.alloc _).trans st5
            clear st5 hA hst e0 e1 e2 e3 e4 e5 e6 e7 HLy
            go_wp2
            go_roundw
            case rel => exact ⟨j + 1, lab5, by omega, by go_num, h5, hst5⟩
            case measure => simp [intOf]; omega
          · obtain rfl : j = fs.length := by omega
            have q2 : ¬ (fs.length : Int) < (fs.length : Int) := by omega
            rw [List.take_length] at hA
            go_wp2
            go_ret2
            exact ⟨_, lab', rfl, hA, hst⟩
end Nd
end Go.Proofs.Ytojamicakkecbab
